/- The document's Leads: by longer and longer ways. Conditions: those that the theorem names. -/
import Derived.Test.YthmnghngcbkjpaaMem
import Derived.Test.YthmnghngcbkjpaaOMa
import Derived.Test.YthmnghngcbkjpaaRch
import Derived.Deep.LoopGhost
import Derived.Deep.OwnRows
namespace Go.Proofs.Ythmnghngcbkjpaa
open Go.RowKit
/-- It answers so, and nothing that was there has changed. -/
def BoolB (x : Bool) (w : World) (e : Ending) (w' : World) : Prop := e = .returned (.bool x) ∧ Below w.heap.size w w'
def boolV (x : Bool) : Value := .bool x
def WayR (n : Nat) (L : Nat → List Int) (src : Nat) (w : World) (s : Nat) (wr : World) : Prop :=
  ∃ p, Ways n L src s p ∧ RowAt wr w.heap.size 4 n (fun x => boolV (p x)) ∧ Below w.heap.size w wr
def WayI (n : Nat) (L : Nat → List Int) (src : Nat) (w : World) (s i k : Nat) (wr : World) : Prop :=
  ∃ a p, WaysIn n L src s a p i k ∧ RowAt wr w.heap.size 4 n (fun x => boolV (p x)) ∧ Below w.heap.size w wr
theorem made_row2 (n : Nat) (z : Value) : madeCells #[z] n = rowA n (fun _ => z) := by
  apply Array.ext
  · simp [rowA, size_madeCells]
  · intro i h1 h2
    rw [rowA_get]
    simp [madeCells, Nat.mod_one]
theorem alloc_get2 (w : World) (o : Obj) (k : Nat) : (w.alloc o).heap[k]? = if k = w.heap.size then some o else w.heap[k]? := by
  show (w.heap.push o)[k]? = _
  rw [Array.getElem?_push]
theorem rowA_set (n : Nat) (g : Nat → Value) (i : Nat) (v : Value) : (rowA n g).setIfInBounds i v = rowA n (upd g i v) := by
  apply Array.ext
  · simp [rowA]
  · intro j h1 h2
    rw [rowA_get, Array.getElem_setIfInBounds (by simpa using h1), rowA_get]
    by_cases e : i = j
    · subst e; rw [if_pos rfl, upd_same]
    · rw [if_neg e, upd_other _ (fun e' => e e'.symm)]
theorem make_boolsT (m : Nat) (hm : m ≤ 1099511627776) (T : TypeId) (hT : Try.prog.underlying T = some (.slice 4)) (W : World) : (Instr.makeSlice T (.int .i64 (m : Int)) (.int .i64 (m : Int))).run Try.prog W = .ok (.slice (some ⟨W.heap.size, 0, none⟩) m m) (W.alloc (.cells (rowA m (fun _ => boolV false)) 4)) := by
  have h := run_make_row' (P := Try.prog) T 4 (.bool false) 1 hT Try.info4 rfl .i64 .i64 m (by omega) (by omega) W
  rw [made_row2] at h
  exact h
set_option maxRecDepth 100000 in
set_option maxHeartbeats 4000000 in
theorem leads_in (n : Nat) (uv : Value) (M : List (List Int)) (src dst : Nat) (w : World) (h : MatAt (fun b => b < w.heap.size) w uv M) (hn : n ≤ 1000) (hM : ∀ i, (useL M i).length ≤ 1000) (hs : src < n) (hd : dst < n) (ld : Nat → Nat → Bool) (hld : LdIs n (useL M) ld) :
    Calls Try.prog 16 #[.int .i64 n, uv, .int .i64 src, .int .i64 dst] w (BoolB (ld src dst) w) := by
  obtain ⟨Au, cu, rfl, _, hmax⟩ := h.form
  generalize hml : M.length = ml at *
  have hmk := make_boolsT n (by omega) 41 Try.underlying41
  have hr0 : RowAt (w.alloc (.cells (rowA n fun _ => boolV false) 4)) w.heap.size 4 n (fun _ => boolV false) := by
    show _ = _
    rw [alloc_get2]; simp
  have hc0 := hr0.cell hs
  have hf0 := hr0.free src
  have hr1 : RowAt (w.alloc (.cells ((rowA n fun _ => boolV false).setIfInBounds src (.bool true)) 4)) w.heap.size 4 n (fun x => boolV (upd (fun _ => false) src true x)) := by
    show _ = _
    rw [alloc_get2, rowA_set, upd_comp]; simp [boolV]
  have HR0 : Hid (WayR n (useL M) src w 0 (w.alloc (.cells ((rowA n fun _ => boolV false).setIfInBounds src (.bool true)) 4))) := Lib.hid ⟨_, Ways.start0 hs, hr1, below_new w _⟩
  have H := Lib.hid h
  have HM := Lib.hid hM
  have HLD := Lib.hid hld
  have HML := Lib.hid hml
  have hs0 : ¬ (src : Int) < 0 := by omega
  have hd0 : ¬ (dst : Int) < 0 := by omega
  have hsg : ¬ (src : Int) ≥ (n : Int) := by omega
  have hdg : ¬ (dst : Int) ≥ (n : Int) := by omega
  have hsi : (src : Int) < (n : Int) := by omega
  have hdi : (dst : Int) < (n : Int) := by omega
  have hmli : (ml : Int) ≤ 9223372036854775807 := by unfold maxLen at hmax; omega
  have hget : (rowA n fun _ => boolV false)[src]? = some (.bool false) := by
    rw [Array.getElem?_eq_getElem (by rw [rowA_size]; exact hs), rowA_get]; rfl
  clear hc0
  clear h hM hld hml hr0 hr1 hmax
  go_enter Try.func16, Try.ntmps16
  go_wp2_with fail
  clear hmk hget hf0
  go_loopw [10] (fun v wr => ∃ s : Nat, v = .int .i64 s ∧ s ≤ n ∧ WayR n (useL M) src w s wr) (fun v _ => n - (intOf v).toNat)
  case atStart => exact ⟨0, rfl, Nat.zero_le _, HR0.out⟩
  case round =>
    obtain ⟨s, rfl, hsn, p, hw, hrow, hb⟩ := hrel
    by_cases hlt : s < n
    · have hii : (s : Int) < (n : Int) := by omega
      have HI0 : Hid (WayI n (useL M) src w s 0 0 wr) := Lib.hid ⟨p, p, hw.begin, hrow, hb⟩
      clear hw hrow hb
      go_wp2_with fail
      go_loopw [11] (fun v wr => ∃ i : Nat, v = .int .i64 i ∧ i ≤ n ∧ WayI n (useL M) src w s i 0 wr) (fun v _ => n - (intOf v).toNat)
      case atStart => exact ⟨0, rfl, Nat.zero_le _, HI0.out⟩
      case round =>
        obtain ⟨i, rfl, hin, hrel⟩ := hrel
        by_cases hik : i < n ∧ i < ml
        · obtain ⟨hik, hil⟩ := hik
          have hiki : (i : Int) < (n : Int) := by omega
          have hili : (i : Int) < (ml : Int) := by omega
          have hiM : i < M.length := by rw [HML.out]; exact hil
          obtain ⟨bg, og, Ai, ci, rfl, hbg, hcg, hig⟩ := H.out.at i hiM
          have euse : useL M i = M[i] := useL_in hiM
          obtain ⟨_, _, hx2, hx3⟩ := hig.at
          have hls := HM.out i
          rw [euse] at hls
          generalize M[i] = u at *
          have HCG := Lib.hid hcg
          have HX3 := Lib.hid hx3
          have HEU := Lib.hid euse
          have HR1 := Lib.hid hrel
          clear hcg hig hx3 hx2 euse hrel hiM
          go_wp2_with fail
          go_loopw [12] (fun v wr => ∃ k : Nat, v = .int .i64 k ∧ k ≤ u.length ∧ WayI n (useL M) src w s i k wr) (fun v _ => u.length - (intOf v).toNat)
          case atStart => exact ⟨0, rfl, Nat.zero_le _, HR1.out⟩
          case round =>
            obtain ⟨k, rfl, hk, a, p2, hw, hrow, hb⟩ := hrel
            have e1 := (hb.cell (p := ⟨bg, og + i, none⟩) hbg).trans HCG.out
            by_cases hku : k < u.length
            · have hki : (k : Int) < (u.length : Int) := by omega
              obtain ⟨bx, ox, rfl, _, hbx, hcx⟩ := HX3.out (by omega)
              have e2 := (hb.cell (p := ⟨bx, ox + k, none⟩) hbx).trans (hcx k hku)
              have hpi := hrow.cell hik
              unfold boolV at hpi
              have hkL : k < (useL M i).length := by rw [HEU.out]; exact hku
              have ezL : (useL M i)[k] = u[k] := by simp only [HEU.out]
              generalize u[k] = z at *
              have HW := Lib.hid hw
              have HB := Lib.hid hb
              have HROW := Lib.hid hrow
              have HEZ := Lib.hid ezL
              cases hpt : p2 i with
              | true =>
                rw [hpt] at hpi
                by_cases hz : 0 ≤ z ∧ z < n
                · obtain ⟨hz0, hz1⟩ := hz
                  obtain ⟨y, rfl⟩ := Int.eq_ofNat_of_zero_le hz0
                  have hyk : y < n := by omega
                  have hpy := hrow.cell hyk
                  have hpf := hrow.free y
                  unfold boolV at hpy
                  have HREL : Hid (WayI n (useL M) src w s i (k + 1) (wr.setCell ⟨w.heap.size, y, none⟩ (.bool true))) := by
                    refine Lib.hid ⟨a, upd p2 y true, ?_, ?_, hb.setCell (Nat.le_refl _) _⟩
                    · have := hw.mark hik hpt hkL ezL hz0
                      simpa using this
                    · rw [upd_comp]; exact hrow.set y (boolV true)
                  clear hw hrow hb hcx ezL hpt
                  go_wp2
                  go_roundw
                  case rel => exact ⟨k + 1, by go_num, by omega, HREL.out⟩
                  case measure => simp [intOf]; omega
                · have HREL : Hid (WayI n (useL M) src w s i (k + 1) wr) := Lib.hid ⟨a, p2, hw.pass hkL ezL hz, hrow, hb⟩
                  clear hw hrow hb hcx ezL hpt
                  by_cases hz0 : 0 ≤ z
                  · have hz1 : ¬ z < (n : Int) := fun e => hz ⟨hz0, e⟩
                    have hz2 : z ≥ 0 := hz0
                    clear hz
                    go_wp2
                    go_roundw
                    case rel => exact ⟨k + 1, by go_num, by omega, HREL.out⟩
                    case measure => simp [intOf]; omega
                  · have hz2 : ¬ z ≥ 0 := hz0
                    clear hz
                    go_wp2
                    go_roundw
                    case rel => exact ⟨k + 1, by go_num, by omega, HREL.out⟩
                    case measure => simp [intOf]; omega
              | false =>
                rw [hpt] at hpi
                have HREL : Hid (WayI n (useL M) src w s (i + 1) 0 wr) := Lib.hid ⟨a, p2, hw.next hik (.inr hpt), hrow, hb⟩
                clear hw hrow hb hcx ezL hpt
                go_wp2
                go_roundw
                case rel => exact ⟨i + 1, by go_num, by omega, HREL.out⟩
                case measure => simp [intOf]; omega
            · have hki : ¬ (k : Int) < (u.length : Int) := by omega
              have HREL : Hid (WayI n (useL M) src w s (i + 1) 0 wr) := Lib.hid ⟨a, p2, hw.next hik (.inl (by rw [HEU.out]; omega)), hrow, hb⟩
              clear hw hrow hb
              go_wp2
              go_roundw
              case rel => exact ⟨i + 1, by go_num, by omega, HREL.out⟩
              case measure => simp [intOf]; omega
        · have HREL : Hid (WayR n (useL M) src w (s + 1) wr) := by
            obtain ⟨a, p2, hw, hrow, hb⟩ := hrel
            exact Lib.hid ⟨p2, hw.done hs (fun x hx hxn => useL_out (by rw [HML.out]; omega)), hrow, hb⟩
          clear hrel
          by_cases hik2 : i < n
          · have hiki : (i : Int) < (n : Int) := by omega
            have hili : ¬ (i : Int) < (ml : Int) := fun e => hik ⟨hik2, by omega⟩
            clear hik
            go_wp2
            go_roundw
            case rel => exact ⟨s + 1, by go_num, by omega, HREL.out⟩
            case measure => simp [intOf]; omega
          · have hiki : ¬ (i : Int) < (n : Int) := by omega
            clear hik
            go_wp2
            go_roundw
            case rel => exact ⟨s + 1, by go_num, by omega, HREL.out⟩
            case measure => simp [intOf]; omega
    · have es : s = n := by omega
      subst es
      have hii : ¬ (s : Int) < (s : Int) := by omega
      have hc := hrow.cell hd
      unfold boolV at hc
      have hres : p dst = ld src dst := by
        rw [Bool.eq_iff_iff, hw.all dst hd, HLD.out src dst hs hd]
      have HRES := Lib.hid hres
      have HB := Lib.hid hb
      clear hw hrow hb hres
      go_wp2
      go_ret
      exact ⟨ret_bool HRES.out, HB.out⟩
end Go.Proofs.Ythmnghngcbkjpaa
