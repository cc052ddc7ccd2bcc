/- of: each thing's group, by its number. Conditions: those that the theorem names. -/
import Derived.Test.YthmnghngcbkjpaaLdsB
import Derived.Test.YthmnghngcbkjpaaOnce
import Derived.Test.YthmnghngcbkjpaaAga
import Derived.Test.YthmnghngcbkjpaaRowW
namespace Go.Proofs.Ythmnghngcbkjpaa
open Go.RowKit
def OfRes (n : Nat) (L : Nat → List Int) (w : World) (e : Ending) (w' : World) : Prop :=
  ∃ (p : Nat → Nat) (b : Nat), e = .returned (.slice (some ⟨b, 0, none⟩) n n) ∧ RowAt w' b 3 n (fun x => natV (p x)) ∧ (∀ x y, x < n → y < n → (p x = p y ↔ Mut n L x y)) ∧ Below w.heap.size w w'
def OfL (n : Nat) (r : List (List Nat)) (w : World) (i j : Nat) (wr : World) : Prop :=
  ∃ p mn, PlOk r n i j p mn ∧ RowAt wr w.heap.size 3 n (fun x => natV (p x)) ∧ Below w.heap.size w wr
set_option maxRecDepth 100000 in
set_option maxHeartbeats 4000000 in
theorem of_any (n : Nat) (gv : Value) (r : List (List Nat)) (L : Nat → List Int) (w : World) (h : MatAt (fun b => b < w.heap.size) w gv (toI r)) (hn : n ≤ 1000) (hok : RowOk n L r) :
    Calls Try.prog 17 #[gv, .int .i64 n] w (OfRes n L w) := by
  obtain ⟨Ag, cg, eg, hg1, hg2⟩ := h.form
  rw [toI_length] at eg hg1
  subst eg
  have hmk := make_ints n (by omega)
  have hrl : (r.length : Int) ≤ 9223372036854775807 := by unfold maxLen at hg2; omega
  have HR0 : Hid (OfL n r w 0 0 (w.alloc (.cells (rowA n fun _ => natV 0) 3))) := Lib.hid ⟨fun _ => 0, 0, .start r n, by show _ = _; rw [alloc_get2]; simp, below_new w _⟩
  have HGM := Lib.hid h
  have HOK := Lib.hid hok
  clear h hok hg1 hg2
  go_enter Try.func17, Try.ntmps17
  go_wp2_with fail
  clear hmk
  go_loopw [6] (fun v wr => ∃ i : Nat, v = .int .i64 i ∧ i ≤ r.length ∧ OfL n r w i 0 wr) (fun v _ => r.length - (intOf v).toNat)
  case atStart => exact ⟨0, rfl, Nat.zero_le _, HR0.out⟩
  case round =>
    obtain ⟨i, rfl, hi, hrel⟩ := hrel
    by_cases hlt : i < r.length
    · have hii : (i : Int) < (r.length : Int) := by omega
      have hiI : i < (toI r).length := by rw [toI_length]; exact hlt
      obtain ⟨bg, og, Ai, ci, rfl, hbg, hcg, hig⟩ := HGM.out.at i hiI
      have egi : (toI r)[i] = r[i].map (fun x : Nat => (x : Int)) := toI_get r i hlt
      rw [egi] at hcg hig
      rw [List.length_map] at hcg hig
      obtain ⟨hx1, _, hx2, hx3⟩ := hig.at
      have hgl : (r[i].length : Int) ≤ 9223372036854775807 := by unfold maxLen at hx2; omega
      have HCG := Lib.hid hcg
      have HX3 := Lib.hid hx3
      have HRL := Lib.hid hrel
      clear hcg hig hx3 hx1 egi hrel
      go_wp2_with fail
      go_loopw [7] (fun v wr => ∃ j : Nat, v = .int .i64 j ∧ j ≤ r[i].length ∧ OfL n r w i j wr) (fun v _ => r[i].length - (intOf v).toNat)
      case atStart => exact ⟨0, rfl, Nat.zero_le _, HRL.out⟩
      case round =>
        obtain ⟨j, rfl, hj, p, mn, hpl, hrow, hb⟩ := hrel
        have e1 := (hb.cell (p := ⟨bg, og + i, none⟩) hbg).trans HCG.out
        by_cases hjl : j < r[i].length
        · have hji : (j : Int) < (r[i].length : Int) := by omega
          obtain ⟨bx, ox, rfl, _, hbx, hcx⟩ := HX3.out (by omega)
          have hcx2 := hcx j (by rw [List.length_map]; exact hjl)
          rw [List.getElem_map] at hcx2
          have e2 := (hb.cell (p := ⟨bx, ox + j, none⟩) hbx).trans hcx2
          obtain ⟨hp0, hxk, hpl2⟩ := hpl.step HOK.out hlt hjl
          have hpc := hrow.cell hxk
          have hpf := hrow.free r[i][j]
          have hst := hrow.set r[i][j] (natV (i + 1))
          generalize r[i][j] = x at *
          have hxi : (x : Int) < (n : Int) := by omega
          unfold natV at hpc
          have HREL : Hid (OfL n r w i (j + 1) (wr.setCell ⟨w.heap.size, x, none⟩ (.int .i64 ((i : Int) + 1)))) := by
            refine Lib.hid ⟨upd p x (i + 1), mn + 1, hpl2, ?_, hb.setCell (Nat.le_refl _) _⟩
            rw [upd_comp]
            exact hst
          clear hpl hrow hb hcx hcx2 hp0 hpl2 hst
          go_wp2
          go_roundw
          case rel => exact ⟨j + 1, by go_num, by omega, HREL.out⟩
          case measure => simp [intOf]; omega
        · have hji : ¬ (j : Int) < (r[i].length : Int) := by omega
          have HREL : Hid (OfL n r w (i + 1) 0 wr) := Lib.hid ⟨p, mn, hpl.next hlt (by omega), hrow, hb⟩
          clear hpl hrow hb
          go_wp2
          go_roundw
          case rel => exact ⟨i + 1, by go_num, by omega, HREL.out⟩
          case measure => simp [intOf]; omega
    · have ei : i = r.length := by omega
      subst ei
      have hii : ¬ (r.length : Int) < (r.length : Int) := by omega
      have HFIN : Hid (OfRes n L w (.returned (.slice (some ⟨w.heap.size, 0, none⟩) n n)) wr) := by
        obtain ⟨p, mn, hpl, hrow, hb⟩ := hrel
        refine Lib.hid ⟨p, w.heap.size, rfl, hrow, fun x y hx hy => HOK.out.numbers (fun a ha x hxa => ?_) hx hy, hb⟩
        refine hpl.at' a ha x hxa ?_
        have e : (r.take r.length).flatten ++ (r.getD r.length []).take 0 = r.flatten := by simp
        rw [e]
        exact List.mem_flatten.2 ⟨r[a], List.getElem_mem ha, hxa⟩
      clear hrel
      go_wp2
      go_ret
      exact HFIN.out
end Go.Proofs.Ythmnghngcbkjpaa
