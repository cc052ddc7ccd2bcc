/- The document's Groups: the walk. Conditions: those that the theorem names. -/
import Derived.Test.YthmnghngcbkjpaaLdM
import Derived.Test.YthmnghngcbkjpaaGrp
import Derived.Test.YthmnghngcbkjpaaFewA
import Derived.Deep.Cut
namespace Go.Proofs.Ythmnghngcbkjpaa
open Go.RowKit
def partQ (ld : Nat → Nat → Bool) (i k : Nat) (j x : Nat) : Bool := if j < i then ld j x else if j = i then (decide (x < k) && ld j x) else false
def TabR (n : Nat) (ld : Nat → Nat → Bool) (w : World) (i m k : Nat) (wr : World) : Prop :=
  ∃ rb, LdM w.heap.size w.heap.size n m rb (partQ ld i k) wr ∧ Below w.heap.size w wr
theorem TabR.on {n : Nat} {ld : Nat → Nat → Bool} {w : World} {i m k : Nat} {wr w' : World} (h : TabR n ld w i m k wr) (hb : Below wr.heap.size wr w') : TabR n ld w i m k w' := by
  obtain ⟨rb, h1, h2⟩ := h
  exact ⟨rb, h1.on hb, h2.trans (hb.mono h2.size)⟩
def DocR (n : Nat) (ld : Nat → Nat → Bool) (wD : World) (many : Nat) (ov : Value) (wr : World) : Prop :=
  ∃ dn r vs, Told n ld dn r ∧ many = cnt n dn ∧ r.length ≤ many ∧ RowAt wr wD.heap.size 4 n (fun x => boolV (dn x)) ∧ OMat (wD.heap.size + 1) (fun b => b ≠ wD.heap.size) wr ov (toI r) vs ∧ Below wD.heap.size wD wr
/-- A group is under way: 'wE': the world at its start. -/
structure DocG (n : Nat) (ld : Nat → Nat → Bool) (dn : Nat → Bool) (i many : Nat) (wD wE : World) (k mm : Nat) (gv : Value) (wx : World) : Prop where
  mm : mm = many + (clsK ld i k).length
  own : wx.ownsRow wE.heap.size 3 1 gv (clsK ld i k).length ((clsK ld i k).map natV)
  done : RowAt wx wD.heap.size 4 n (fun x => boolV (moreK ld dn i k x))
  old : ∀ b, b ≠ wD.heap.size → b < wE.heap.size → wx.heap[b]? = wE.heap[b]?
  below : Below wD.heap.size wD wx
  size : wE.heap.size ≤ wx.heap.size
theorem own_lower {w : World} {B B' : Nat} (hB : B' ≤ B) {e : TypeId} {s : Nat} {u : Value} {n : Nat} {xs : List Value} (ho : w.ownsRow B e s u n xs) : w.ownsRow B' e s u n xs := by
  refine ⟨ho.1, ?_⟩
  rcases ho.2 with h9 | ⟨g, c, cur, a1, a2, r⟩
  · exact .inl h9
  · exact .inr ⟨g, c, cur, a1, by omega, r⟩
theorem doc_res {n : Nat} {ld : Nat → Nat → Bool} {w wD wr : World} {ov : Value} {dn : Nat → Bool} {r : List (List Nat)} {vs : List Value} (hn : n ≤ 1000) (L : Nat → List Int) (hld : LdIs n L ld) (ht : Told n ld dn r) (hx : next n ld dn = none) (ho : OMat (wD.heap.size + 1) (fun b => b ≠ wD.heap.size) wr ov (toI r) vs) (hD : Below w.heap.size w wD) (hb : Below wD.heap.size wD wr) :
    GroupsRes n ld w (.returned ov) wr := by
  refine ⟨ov, r, rfl, ((ho.mat ?_).bound).mono (fun b hb => ⟨by have := hD.size; omega, hb.2⟩), ⟨dn, ht, hx⟩, hD.trans (hb.mono hD.size)⟩
  intro g hg z hz
  obtain ⟨g', hg', rfl⟩ := List.mem_map.1 hg
  obtain ⟨x, hx', rfl⟩ := List.mem_map.1 hz
  have := (ht.ok hld).lt g' hg' x hx'
  omega
set_option maxRecDepth 100000 in
set_option maxHeartbeats 8000000 in
theorem docgroups_any (n : Nat) (uv : Value) (M : List (List Int)) (ld : Nat → Nat → Bool) (w : World) (h : MatAt (fun b => b < w.heap.size) w uv M) (hn : n ≤ 1000) (hM : ∀ i, (useL M i).length ≤ 1000) (hld : LdIs n (useL M) ld) :
    Calls Try.prog 13 #[.int .i64 n, uv] w (GroupsRes n ld w) := by
  obtain ⟨Au, cu, rfl, _, hmax⟩ := h.form
  obtain ⟨i3, hi3, hz3, hs3, hb3⟩ := info_parts Try.info3
  obtain ⟨i30, hi30, hz30, hs30, hb30⟩ := info_parts Try.info30
  generalize hml : M.length = ml at *
  have hmk := make_rowsB n (by omega)
  have hmkb := make_boolsT n (by omega) 41 Try.underlying41
  have H := Lib.hid h
  have HM := Lib.hid hM
  have HLD := Lib.hid hld
  have HML := Lib.hid hml
  have HN := Lib.hid hn
  have HR0 : Hid (TabR n ld w 0 0 0 (w.alloc (.cells (rowA n fun _ => .slice none 0 0) 41))) :=
    Lib.hid ⟨_, LdM.start _ (Nat.le_refl _) (by show _ = _; rw [alloc_get2]; simp), below_new w _⟩
  clear h hM hld hml hmax
  go_enter Try.func13, Try.ntmps13
  go_wp2_with fail
  go_loopw [6] (fun v wr => ∃ i : Nat, v = .int .i64 i ∧ i ≤ n ∧ TabR n ld w i i 0 wr) (fun v _ => n - (intOf v).toNat)
  case atStart => exact ⟨0, rfl, Nat.zero_le _, HR0.out⟩
  case round =>
    obtain ⟨i, rfl, hi, rb, htab, hb⟩ := hrel
    by_cases hlt : i < n
    · have hii : (i : Int) < (n : Int) := by omega
      have htab2 := htab.more hb.size (fun k _ => by simp [partQ])
      have hb2 : Below w.heap.size w ((wr.alloc (.cells (rowA n fun _ => boolV false) 4)).setCell ⟨w.heap.size, i, none⟩ (.slice (some ⟨wr.heap.size, 0, none⟩) n n)) := (hb.alloc hb.size _).setCell (Nat.le_refl _) _
      have HR1 : Hid (TabR n ld w i (i + 1) 0 ((wr.alloc (.cells (rowA n fun _ => boolV false) 4)).setCell ⟨w.heap.size, i, none⟩ (.slice (some ⟨wr.heap.size, 0, none⟩) n n))) := Lib.hid ⟨_, htab2, hb2⟩
      have hol := htab.out.lt
      have hoc : (wr.alloc (.cells (rowA n fun _ => boolV false) 4)).cell? ⟨w.heap.size, i, none⟩ = some (rowsV rb n i i) := ((below_new wr _).cell (p := ⟨w.heap.size, i, none⟩) hol).trans (htab.out.cell hlt)
      have hof : (wr.alloc (.cells (rowA n fun _ => boolV false) 4)).frozen? ⟨w.heap.size, i, none⟩ = false := ((below_new wr _).frozen (p := ⟨w.heap.size, i, none⟩) hol).trans (htab.out.free i)
      clear htab htab2 hb hb2
      generalize hWg : wr.alloc (.cells (rowA n fun _ => boolV false) 4) = W at *
      go_wp2_with fail
      clear hoc hof hWg
      go_loopw [7] (fun v wr => ∃ k : Nat, v = .int .i64 k ∧ k ≤ n ∧ TabR n ld w i (i + 1) k wr) (fun v _ => n - (intOf v).toNat)
      case atStart => exact ⟨0, rfl, Nat.zero_le _, HR1.out⟩
      case round =>
        obtain ⟨k, rfl, hk, rb2, htab, hb⟩ := hrel
        by_cases hkn : k < n
        · have hki : (k : Int) < (n : Int) := by omega
          have HL := Lib.hid (leads_in n (.slice Au ml cu) M i k wr.drew ((H.out.on (w' := wr.drew) hb.drew).mono (fun _ h => Nat.lt_of_lt_of_le h hb.size)) HN.out HM.out hlt hkn ld HLD.out)
          have e1 := htab.cellO hlt (Nat.lt_succ_self i)
          have HU : Hid (∀ u, Below wr.drew.heap.size wr.drew u → u.cell? ⟨w.heap.size, i, none⟩ = some (.slice (some ⟨rb2 i, 0, none⟩) n n) ∧ u.cell? ⟨rb2 i, k, none⟩ = some (.bool (partQ ld i k i k)) ∧ u.frozen? ⟨rb2 i, k, none⟩ = false ∧ TabR n ld w i (i + 1) (k + 1) (u.setCell ⟨rb2 i, k, none⟩ (.bool (ld i k)))) := by
            refine Lib.hid fun u hu => ?_
            have hu2 : Below wr.heap.size wr u := ((Below.refl wr.heap.size wr).drew).trans hu
            have htu := htab.on hu2
            refine ⟨htu.cellO hlt (Nat.lt_succ_self i), htu.cellI (Nat.lt_succ_self i) hkn, (htu.rows i (Nat.lt_succ_self i)).free k, rb2, (htu.put (i := i) (k := k) (Nat.lt_succ_self i) (ld i k)).same (fun j x hj hx => ?_), (hb.trans (hu2.mono hb.size)).setCell (htab.lo.2 i (Nat.lt_succ_self i)) _⟩
            unfold partQ
            by_cases ej : j = i
            · subst ej
              by_cases ex : x = k
              · subst ex; simp
              · have e3 : decide (x < k + 1) = decide (x < k) := by rw [decide_eq_decide]; omega
                simp [ex, e3]
            · rw [if_neg (fun e9 => ej e9.1)]; simp [ej]
          clear htab hb
          go_wp2_with fail
          go_region_law (go_simp; go_at_call 16; (with_reducible refine HL.out.mono ?_); rintro e u ⟨rfl, hbu⟩; obtain ⟨k1, k2, k3, k4⟩ := HU.out u hbu; have K4 := Lib.hid k4; clear k4 hbu)
          all_goals
            go_wp2
            go_roundw
            case rel => exact ⟨k + 1, by go_num, by omega, K4.out⟩
            case measure => simp [intOf]; omega
        · have ek : k = n := by omega
          subst ek
          have hki : ¬ (k : Int) < (k : Int) := by omega
          have HREL : Hid (TabR k ld w (i + 1) (i + 1) 0 wr) := Lib.hid ⟨rb2, htab.same (fun j x hj hx => by
            unfold partQ
            by_cases ej : j < i
            · rw [if_pos ej, if_pos (by omega)]
            · have e3 : j = i := by omega
              rw [if_neg ej, if_pos e3, if_pos (by omega)]; simp [hx]), hb⟩
          clear htab hb
          go_wp2
          go_roundw
          case rel => exact ⟨i + 1, by go_num, by omega, HREL.out⟩
          case measure => simp [intOf]; omega
    · have ei : i = n := by omega
      subst ei
      have hii : ¬ (i : Int) < (i : Int) := by omega
      have htD : LdM w.heap.size w.heap.size i i rb ld wr := htab.same (fun j x hj hx => by unfold partQ; rw [if_pos hj])
      have hba := below_new wr (.cells (rowA i fun _ => boolV false) 4)
      have hst : DocR i ld wr 0 (.slice none 0 0) (wr.alloc (.cells (rowA i fun _ => boolV false) 4)) :=
        ⟨fun _ => false, [], [], .nil, (cnt_zero i).symm, Nat.le_refl _, by show _ = _; rw [alloc_get2]; simp, omat_nil _ _ _, hba⟩
      have HTD := Lib.hid htD
      have HBD := Lib.hid hb
      have HST := Lib.hid hst
      clear htab hb htD hba hst
      generalize hnn : i = n at *
      generalize hww : wr = wD at *
      clear hnn hi hlt hww wr
      go_wp2_with fail
      clear hmk hmkb
      go_loopw [9, 10] (fun ov mv wx => ∃ many : Nat, mv = .int .i64 many ∧ many ≤ n ∧ DocR n ld wD many ov wx) (fun _ v _ => n - (intOf v).toNat)
      case atStart => exact ⟨0, rfl, Nat.zero_le _, HST.out⟩
      case round =>
        obtain ⟨many, rfl, hmn, dn, r, vs, ht, hmc, hrl, hdone, hom, hbD⟩ := hrel
        obtain ⟨Ao, co, rfl, hoc1, hoc2⟩ := own_form hom.own
        have hov : Value.slice Ao (toI r).length co = .slice Ao r.length co := by rw [toI_length]
        rw [hov] at hom ⊢
        rw [toI_length] at hoc1
        clear hov
        by_cases hlt : many < n
        · have hii : (many : Int) < (n : Int) := by omega
          have HTX := Lib.hid (HTD.out.on hbD)
          have HDN := Lib.hid hdone
          have HOM := Lib.hid hom
          have HBX := Lib.hid hbD
          have HTL := Lib.hid ht
          have HMC := Lib.hid hmc
          have HRL := Lib.hid hrl
          clear hdone hom hbD ht hmc hrl
          go_wp2_with fail
          generalize hww : wr = wx at *
          clear hww wr
          go_loopw [11] (fun v wy => ∃ i : Nat, v = .int .i64 i ∧ i ≤ n ∧ (∀ j, j < i → ready n ld dn j = false) ∧ wy = wx) (fun v _ => n - (intOf v).toNat)
          case atStart => exact ⟨0, rfl, Nat.zero_le _, fun j hj => by omega, rfl⟩
          case round =>
            obtain ⟨i, rfl, hin, hrd, rfl⟩ := hrel
            have HRD := Lib.hid hrd
            clear hrd
            by_cases hlti : i < n
            · have hiii : (i : Int) < (n : Int) := by omega
              have edi : wr.cell? ⟨wD.heap.size, i, none⟩ = some (.bool (dn i)) := HDN.out.cell hlti
              have HE0 := Lib.hid (readyK_zero (ld := ld) (dn := dn) i)
              go_wp2_with fail
              clear edi
              go_loopw [12, 13] (fun bv v wy => ∃ k : Nat, bv = .bool (readyK ld dn i k) ∧ v = .int .i64 k ∧ k ≤ n ∧ wy = wr) (fun _ v _ => n - (intOf v).toNat)
              case atStart => exact ⟨0, by rw [HE0.out], rfl, Nat.zero_le _, rfl⟩
              case round =>
                obtain ⟨k, rfl, rfl, hkn, rfl⟩ := hrel
                have HSU := Lib.hid (readyK_succ (ld := ld) (dn := dn) i k)
                by_cases hltk : k < n
                · have hki : (k : Int) < (n : Int) := by omega
                  have eo1 := HTX.out.cellO hlti hlti
                  have eo2 := HTX.out.cellO hltk hltk
                  have ei1 := HTX.out.cellI (j := i) (k := k) hlti hltk
                  have ei2 := HTX.out.cellI (j := k) (k := i) hltk hlti
                  have ed : wr.cell? ⟨wD.heap.size, k, none⟩ = some (.bool (dn k)) := HDN.out.cell hltk
                  have HBL : Hid (blocks ld dn i k = ((ld i k && !ld k i) && !dn k)) := Lib.hid rfl
                  generalize readyK ld dn i k = b at *
                  cases h1 : ld i k with
                  | false =>
                    rw [h1] at ei1
                    have HRES : Hid (readyK ld dn i (k + 1) = b) := Lib.hid (by rw [HSU.out, HBL.out, h1]; simp)
                    clear h1
                    go_wp2
                    go_roundw
                    case rel => exact ⟨k + 1, by rw [HRES.out], by go_num, by omega, by trivial⟩
                    case measure => simp [intOf]; omega
                  | true =>
                    rw [h1] at ei1
                    cases h2 : ld k i with
                    | true =>
                      rw [h2] at ei2
                      have HRES : Hid (readyK ld dn i (k + 1) = b) := Lib.hid (by rw [HSU.out, HBL.out, h1, h2]; simp)
                      clear h1 h2
                      go_wp2
                      go_roundw
                      case rel => exact ⟨k + 1, by rw [HRES.out], by go_num, by omega, by trivial⟩
                      case measure => simp [intOf]; omega
                    | false =>
                      rw [h2] at ei2
                      cases h3 : dn k with
                      | true =>
                        rw [h3] at ed
                        have HRES : Hid (readyK ld dn i (k + 1) = b) := Lib.hid (by rw [HSU.out, HBL.out, h1, h2, h3]; simp)
                        clear h1 h2 h3
                        go_wp2
                        go_roundw
                        case rel => exact ⟨k + 1, by rw [HRES.out], by go_num, by omega, by trivial⟩
                        case measure => simp [intOf]; omega
                      | false =>
                        rw [h3] at ed
                        have HRES : Hid (readyK ld dn i (k + 1) = false) := Lib.hid (by rw [HSU.out, HBL.out, h1, h2, h3]; simp)
                        clear h1 h2 h3
                        go_wp2
                        go_roundw
                        case rel => exact ⟨k + 1, by rw [HRES.out], by go_num, by omega, by trivial⟩
                        case measure => simp [intOf]; omega
                · have ek : k = n := by omega
                  subst ek
                  have hki : ¬ (k : Int) < (k : Int) := by omega
                  have HRK := Lib.hid (readyK_is (n := k) (ld := ld) (dn := dn) i)
                  clear HSU
                  cases hb : readyK ld dn i k with
                  | false =>
                    have HRD2 : Hid (∀ j, j < i + 1 → ready k ld dn j = false) := Lib.hid fun j hj => by
                      by_cases e : j = i
                      · subst e; rw [← HRK.out, hb]
                      · exact HRD.out j (by omega)
                    clear hb
                    go_wp2
                    go_roundw
                    case rel => exact ⟨i + 1, by go_num, by omega, HRD2.out, by trivial⟩
                    case measure => simp [intOf]; omega
                  | true =>
                    obtain ⟨ht2, hc2, hp2⟩ := HTL.out.more HLD.out (next_is HRD.out hlti (by rw [← HRK.out, hb]))
                    have HT2 := Lib.hid ht2
                    have HC2 := Lib.hid hc2
                    have HP2 := Lib.hid hp2
                    have hine : ((i : Int) == (k : Int)) = false := by rw [beq_eq_false_iff_ne]; omega
                    obtain ⟨wE, hwE⟩ : ∃ x, x = wr := ⟨_, rfl⟩
                    have HOE : Hid (OMat (wD.heap.size + 1) (fun b => b ≠ wD.heap.size) wE (.slice Ao r.length co) (toI r) vs) := Lib.hid (by rw [hwE]; exact HOM.out)
                    have HG0 : Hid (DocG k ld dn i many wD wr 0 many (.slice none 0 0) wr) := Lib.hid ⟨by simp [clsK], by simpa [clsK] using World.ownsRow_nil wr wr.heap.size 3 1, HDN.out.same (fun x _ => by rw [moreK_zero]), fun b _ _ => rfl, HBX.out, Nat.le_refl _⟩
                    rw [← hwE] at HG0
                    have HWE := Lib.hid hwE
                    clear hb ht2 hc2 hp2 hwE
                    go_wp2_with fail
                    go_loopw [10, 14, 15] (fun mv gv v wy => ∃ q mm : Nat, mv = .int .i64 mm ∧ v = .int .i64 q ∧ q ≤ k ∧ DocG k ld dn i many wD wE q mm gv wy) (fun _ _ v _ => k - (intOf v).toNat)
                    case atStart => exact ⟨0, many, rfl, rfl, Nat.zero_le _, by rw [← HWE.out]; exact HG0.out⟩
                    case round =>
                      obtain ⟨q, mm, rfl, rfl, hqk, hg⟩ := hrel
                      obtain ⟨Ag, cg, rfl, hgc1, hgc2⟩ := own_form hg.own
                      have hcl := clsK_le (ld := ld) i q
                      by_cases hlq : q < k
                      · have hqi : (q : Int) < (k : Int) := by omega
                        have hT := HTD.out.on hg.below
                        have eo1 := hT.cellO hlti hlti
                        have eo2 := hT.cellO hlq hlq
                        have ei1 := hT.cellI (j := i) (k := q) hlti hlq
                        have ei2 := hT.cellI (j := q) (k := i) hlq hlti
                        have HMB : Hid (mutB ld i q = (ld i q && ld q i)) := Lib.hid rfl
                        have HNO : Hid (mutB ld i q = false → DocG k ld dn i many wD wE (q + 1) mm (.slice Ag (clsK ld i q).length cg) wr) := by
                          refine Lib.hid fun e => ⟨by rw [hg.mm, clsK_succ, e]; simp, ?_, ?_, hg.old, hg.below, hg.size⟩
                          · have h9 := hg.own
                            rw [clsK_succ, e]; simpa using h9
                          · rw [moreK_no e]; exact hg.done
                        have HG := Lib.hid hg
                        clear hT hg
                        cases h1 : ld i q with
                        | false =>
                          rw [h1] at ei1
                          have HREL := Lib.hid (HNO.out (by rw [HMB.out, h1]; rfl))
                          clear h1
                          generalize (clsK ld i q).length = len at *
                          go_wp2
                          go_roundw
                          case rel => exact ⟨q + 1, mm, rfl, by go_num, by omega, HREL.out⟩
                          case measure => simp [intOf]; omega
                        | true =>
                          rw [h1] at ei1
                          cases h2 : ld q i with
                          | false =>
                            rw [h2] at ei2
                            have HREL := Lib.hid (HNO.out (by rw [HMB.out, h1, h2]; rfl))
                            clear h1 h2
                            generalize (clsK ld i q).length = len at *
                            go_wp2
                            go_roundw
                            case rel => exact ⟨q + 1, mm, rfl, by go_num, by omega, HREL.out⟩
                            case measure => simp [intOf]; omega
                          | true =>
                            rw [h2] at ei2
                            have hmb : mutB ld i q = true := by rw [HMB.out, h1, h2]; rfl
                            have hmm := HG.out.mm
                            have hEle := HG.out.size
                            have hDE : wD.heap.size < wE.heap.size := HWE.out ▸ HDN.out.lt
                            have HOWN := Lib.hid HG.out.own
                            have HMX := Lib.hid (show (clsK ld i q).length + 1 ≤ maxLen by unfold maxLen; omega)
                            have HBY := Lib.hid (show ((clsK ld i q).length + 1) * 8 ≤ 140737488355328 by omega)
                            have HTU : Hid (∀ gg cap w3, World.ownsRow w3 wE.heap.size 3 1 (.slice (some ⟨gg, 0, none⟩) ((clsK ld i q).length + 1) cap) ((clsK ld i q).length + 1) ((clsK ld i q).map natV ++ [.int .i64 (q : Int)]) → (wr.alloc (.cells #[.int .i64 (q : Int)] 3)).grownBy w3 (Value.slice Ag (clsK ld i q).length cg).ownBlock →
                                w3.cell? ⟨wD.heap.size, q, none⟩ = some (.bool (moreK ld dn i q q)) ∧ w3.frozen? ⟨wD.heap.size, q, none⟩ = false ∧ DocG k ld dn i many wD wE (q + 1) (mm + 1) (.slice (some ⟨gg, 0, none⟩) ((clsK ld i q).length + 1) cap) (w3.setCell ⟨wD.heap.size, q, none⟩ (.bool true))) := by
                              refine Lib.hid fun gg cap w3 g1 g2 => ?_
                              have hg := HG.out
                              have hba := below_new wr (.cells #[.int .i64 (q : Int)] 3)
                              have hdl := hg.done.lt
                              have hnb : some wD.heap.size ≠ (Value.slice Ag (clsK ld i q).length cg).ownBlock := fun e => by
                                have := (hg.own.lt _ e.symm).1; omega
                              have hbl : w3.heap[wD.heap.size]? = wr.heap[wD.heap.size]? := (g2.block _ (by simp; omega) hnb).trans (hba.block _ hdl)
                              have hd3 := hg.done.block hbl
                              have hgb : ∀ c, (Value.slice Ag (clsK ld i q).length cg).ownBlock = some c → wE.heap.size ≤ c := fun c e => (hg.own.lt c e).1
                              refine ⟨hd3.cell hlq, hd3.free q, ⟨by rw [hmm, clsK_succ, hmb]; simp; omega, ?_, ?_, fun b hbD hbE => ?_, ?_, ?_⟩⟩
                              · have g3 := ownsRow_setCell_other g1 (a := ⟨wD.heap.size, q, none⟩) (fun e => by have := (g1.lt _ e).1; simp at this; omega) (.bool true)
                                rw [clsK_succ, hmb]
                                simpa [natV] using g3
                              · rw [moreK_yes hmb, upd_comp]; exact hd3.set q (boolV true)
                              · rw [Below.heap_setCell _ _ _ _ hbD, g2.block b (by simp; omega) (fun e => by have := hgb b e.symm; omega), hba.block b (by omega)]
                                exact hg.old b hbD hbE
                              · exact ((hg.below.trans (hba.mono hg.below.size)).grown g2 (by have := hg.below.size; simp; omega) (fun c hc => by have := hgb c hc; omega)).setCell (Nat.le_refl _) _
                              · have := g2.size; simp at this ⊢; omega
                            have hmm2 : (mm : Int) + 1 ≤ 2001 := by have := HN.out; omega
                            clear h1 h2 hmb hmm
                            generalize (clsK ld i q).map natV = xs at *
                            generalize (clsK ld i q).length = len at *
                            go_wp2_with (at_builtin; refine wpList_append_lies _ rfl (.tmp 114) (.tmp 116) 30 rfl wE.heap.size 3 i3 (.int .i64 0) 1 8 Try.underlying30 hi3 hz3 hs3 hb3 rfl (by decide) (.slice Ag len cg) len xs rfl ((own_keep HOWN.out (fun _ _ => rfl)).alloc _) ⟨wr.heap.size, 0, none⟩ 1 1 [.int .i64 (q : Int)] rfl rfl (one_new _ _ 3) (by intro u hu; rw [List.mem_singleton.1 hu]; rfl) (by decide) HMX.out HBY.out (by simp; omega) (wr.heap.size + 1) (by simp) ?_; intro gg cap w3 g1 g2 hat _; obtain ⟨p1, p2, p3⟩ := HTU.out gg cap w3 g1 g2; have P3 := Lib.hid p3; clear p3 g1 g2 hat)
                            go_roundw
                            case rel => exact ⟨q + 1, mm + 1, by go_num, by go_num, by omega, P3.out⟩
                            case measure => simp [intOf]; omega
                      · have eq : q = k := by omega
                        subst eq
                        have hqi : ¬ (q : Int) < (q : Int) := by omega
                        have hmm := hg.mm
                        have hEle := hg.size
                        have hDE : wD.heap.size < wE.heap.size := HWE.out ▸ HDN.out.lt
                        have hrl1 := HRL.out
                        have hn1 := HN.out
                        have hmn2 : many + (clsK ld i q).length ≤ q := by
                          rw [HMC.out, ← HC2.out]; exact cnt_le q _
                        have hba := below_new wr (.cells #[.slice Ag (clsK ld i q).length cg] 30)
                        have hOx : OMat (wD.heap.size + 1) (fun b => b ≠ wD.heap.size) (wr.alloc (.cells #[.slice Ag (clsK ld i q).length cg] 30)) (.slice Ao r.length co) (toI r) vs :=
                          (HOE.out.keep (w' := wr) (fun b hb hl => hg.old b hb hl)).on hba
                        have hOwn := hOx.own
                        rw [toI_length] at hOwn
                        have HOWN := Lib.hid hOwn
                        have HMX := Lib.hid (show r.length + 1 ≤ maxLen by unfold maxLen; omega)
                        have HBY := Lib.hid (show (r.length + 1) * 24 ≤ 140737488355328 by omega)
                        have HBS := Lib.hid (show wD.heap.size + 1 ≤ wr.heap.size by omega)
                        have HTU : Hid (∀ gg cap w3, World.ownsRow w3 (wD.heap.size + 1) 30 1 (.slice (some ⟨gg, 0, none⟩) (r.length + 1) cap) (r.length + 1) (vs ++ [.slice Ag (clsK ld i q).length cg]) → (wr.alloc (.cells #[.slice Ag (clsK ld i q).length cg] 30)).grownBy w3 (Value.slice Ao r.length co).ownBlock → ((Value.slice Ao r.length co).ownBlock = some gg ∨ gg = wr.heap.size + 1) →
                            DocR q ld wD mm (.slice (some ⟨gg, 0, none⟩) (r.length + 1) cap) w3) := by
                          refine Lib.hid fun gg cap w3 g1 g2 g3 => ?_
                          have hdl := hg.done.lt
                          have hnb : some wD.heap.size ≠ (Value.slice Ao r.length co).ownBlock := fun e => by
                            have := hOx.foot _ e.symm; exact this rfl
                          have hbl : w3.heap[wD.heap.size]? = wr.heap[wD.heap.size]? := (g2.block _ (by simp; omega) hnb).trans (hba.block _ hdl)
                          refine ⟨_, r ++ [clsK ld i q], vs ++ [.slice Ag (clsK ld i q).length cg], HT2.out, by rw [HC2.out, ← HMC.out, hmm], ?_, (hg.done.block hbl).same (fun x hx => by rw [moreK_is hx]), ?_, ?_⟩
                          · have := HP2.out
                            rw [List.length_append, List.length_singleton]; omega
                          · have hu : (wr.alloc (.cells #[.slice Ag (clsK ld i q).length cg] 30)).ownsRow (wD.heap.size + 1) 3 1 (.slice Ag (clsK ld i q).length cg) ((clsK ld i q).map (fun x : Nat => (x : Int))).length (((clsK ld i q).map (fun x : Nat => (x : Int))).map intV) := by
                              have h9 := own_lower (B' := wD.heap.size + 1) (by omega) (own_on hg.own hba)
                              rw [List.length_map, List.map_map]
                              exact h9
                            rw [toI_snoc]
                            refine hOx.pushRow (w' := w3) hu (fun c hc => ⟨?_, fun x hx e => ?_⟩) (by rw [toI_length]; exact g1) g2 (g3.imp (fun e => e.symm) (fun e => ⟨gg, rfl, by simp; omega⟩)) (fun b hb => by simp at hb; omega)
                            · have := (hg.own.lt c hc).1; omega
                            · obtain ⟨j9, hj9, rfl⟩ := List.getElem_of_mem hx
                              have hl9 := HOE.out.len
                              have a1 := ((HOE.out.rows j9 hj9 (by omega)).lt c e).2
                              have a2 := (hg.own.lt c hc).1
                              omega
                          · exact (hg.below.trans (hba.mono hg.below.size)).grown g2 (by have := hg.below.size; simp; omega) (fun c hc => by have := (hOx.own.lt c hc).1; omega)
                        have hmz : many < mm ∧ mm ≤ q := by have := HP2.out; omega
                        clear hOx hOwn hba hg hmm hcl hmn2
                        generalize (clsK ld i q).length = len at *
                        go_wp2_with (at_builtin; refine wpList_append_lies _ rfl (.tmp 123) (.tmp 125) 22 rfl (wD.heap.size + 1) 30 i30 (.slice none 0 0) 1 24 Try.underlying22 hi30 hz30 hs30 hb30 rfl (by decide) (.slice Ao r.length co) r.length vs rfl HOWN.out ⟨wr.heap.size, 0, none⟩ 1 1 [.slice Ag len cg] rfl rfl (one_new _ _ 30) (by intro u hu; rw [List.mem_singleton.1 hu]; rfl) (by decide) HMX.out HBY.out (by have := HBS.out; simp; omega) (wr.heap.size + 1) (by simp) ?_; intro gg cap w3 g1 g2 hat _; have p3 := HTU.out gg cap w3 g1 g2 hat; have P3 := Lib.hid p3; clear p3 g1 g2 hat)
                        go_roundw
                        case rel => exact ⟨mm, rfl, hmz.2, P3.out⟩
                        case measure => simp [intOf]; omega
            · have ei : i = n := by omega
              subst ei
              have hiii : ¬ (i : Int) < (i : Int) := by omega
              have hine : ((i : Int) == (i : Int)) = true := by simp
              have HFIN := Lib.hid (doc_res HN.out _ HLD.out HTL.out (next_no HRD.out) HOM.out HBD.out HBX.out)
              go_wp2
              go_ret
              exact HFIN.out
        · have ek : n ≤ many := by omega
          have hii : ¬ (many : Int) < (n : Int) := by omega
          have HFIN := Lib.hid (doc_res HN.out _ HLD.out ht (next_full (by omega)) hom HBD.out hbD)
          clear ht hmc hrl hdone hom hbD
          go_wp2
          go_ret
          exact HFIN.out
end Go.Proofs.Ythmnghngcbkjpaa
