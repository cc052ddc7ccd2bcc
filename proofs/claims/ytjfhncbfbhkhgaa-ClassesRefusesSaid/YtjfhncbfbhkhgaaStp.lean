/- steps: each step up from a class is told; waysFrom: ways begin. Conditions: those that each theorem names. -/
import Derived.Test.YtjfhncbfbhkhgaaWys
namespace Go.Proofs.Ytjfhncbfbhkhgaa
open Go.RowKit
/-- An Env lies below a block. -/
def EnvLo (Q : Nat → Prop) (eb cb mb pb B : Nat) : Prop := eb < B ∧ cb < B ∧ mb < B ∧ pb < B ∧ ∀ b, Q b → b < B
theorem EnvAt.lo {Q : Nat → Prop} {C : List Cls} {M : ByteArray → Option (ByteArray × Nat)} {I : List Ins} {H : HKey → Option Nat} {eb cb mb pb B : Nat} {iv : Value} {w w' : World} (h : EnvAt Q C M I H eb cb mb pb iv w) (hl : EnvLo Q eb cb mb pb B) (hb : Below B w w') : EnvAt Q C M I H eb cb mb pb iv w' := by
  obtain ⟨l1, l2, l3, l4, l5⟩ := hl
  refine h.keep hb.size (fun b _ hq => hb.block b ?_)
  rcases hq with rfl | rfl | rfl | rfl | hq
  · exact l1
  · exact l2
  · exact l3
  · exact l4
  · exact l5 b hq
def BfsU (C : List Cls) (a : ByteArray) (D : List (ByteArray × List Nat)) : Prop := ∀ x ∈ D.map Prod.fst, x ∈ a :: univ C
theorem bfs_len {C : List Cls} {a : ByteArray} {D : List (ByteArray × List Nat)} {v : List Nat} {j : Nat} (h : BfsI (supF C) a D v j) (hu : BfsU C a D) : D.length ≤ (univ C).length + 1 := by
  have := nodup_leS h.names hu
  simpa using this
def StepsRes (B : Nat) (C : List Cls) (a : ByteArray) (D : List (ByteArray × List Nat)) (v : List Nat) (y : ByteArray) (k ob lb : Nat) (w : World) (e : Ending) (w' : World) : Prop :=
  e = .returned (.tuple #[]) ∧ ∃ t, BfsI (supF C) a (D ++ t) v (supF C y).length ∧ BfsU C a (D ++ t) ∧ WaysAt B a (D ++ t) k ob lb w' ∧ Below B w w'
set_option maxRecDepth 100000 in
set_option maxHeartbeats 2000000 in
theorem steps_any {Q : Nat → Prop} {C : List Cls} {M : ByteArray → Option (ByteArray × Nat)} {I : List Ins} {H : HKey → Option Nat} {eb cb mb pb : Nat} {iv : Value} {w : World} (h : EnvAt Q C M I H eb cb mb pb iv w) {B : Nat} (hB : EnvLo Q eb cb mb pb B) (hC : OkC C)
    {a : ByteArray} {D : List (ByteArray × List Nat)} {v : List Nat} {y : ByteArray} {k ob lb : Nat} (hw : WaysAt B a D k ob lb w) (hk : k ≤ D.length) (hb : BfsI (supF C) a D v 0) (hu : BfsU C a D) (hy : (y, v) ∈ D) (hys : y.size ≤ maxLen) :
    Calls Try.prog 44 #[.pointer (some ⟨eb, 0, none⟩), .string y, .func (.func 45) #[.pointer (some ⟨ob, 0, none⟩)] #[]] w (StepsRes B C a D v y k ob lb w) := by
  have HSU := Lib.hid (supers_any h y hys)
  have HB := Lib.hid hB
  have HC := Lib.hid hC
  have HW := Lib.hid hw
  have HBF := Lib.hid hb
  have HU := Lib.hid hu
  have HY := Lib.hid hy
  have HK := Lib.hid hk
  clear h hB hC hw hb hu hy hk
  go_enter Try.func44, Try.ntmps44
  go_wp2_with fail
  with_reducible refine HSU.out.mono ?_
  rintro e w2 ⟨⟨sv, rfl, hsv⟩, hb2⟩
  obtain ⟨As, cs, rfl, hcs1, hcs2⟩ := hsv.form
  unfold maxLen at hcs2
  have HW2 := Lib.hid (HW.out.on hb2)
  have HB2 := Lib.hid (hb2.mono HW.out.lo.2.2.2)
  have HSV := Lib.hid hsv
  clear hsv hb2 HSU
  generalize hsl : (supF C y).length = sl at *
  have HSL := Lib.hid hsl
  clear hsl
  go_wp2_with fail
  go_loopw [12] (fun i wr => ∃ j : Nat, j ≤ sl ∧ i = .int .i64 j ∧ ∃ t, BfsI (supF C) a (D ++ t) v j ∧ BfsU C a (D ++ t) ∧ WaysAt B a (D ++ t) k ob lb wr ∧ Below B w2 wr) (fun i _ => sl - (intOf i).toNat)
  case atStart => exact ⟨0, Nat.zero_le _, rfl, [], by rw [List.append_nil]; exact ⟨HBF.out, HU.out, HW2.out, Below.refl _ _⟩⟩
  case round =>
    obtain ⟨j, hj, rfl, t, hbf, hu, hwr, hbl⟩ := hrel
    by_cases hlt : j < sl
    · obtain ⟨x, hx⟩ : ∃ x, (supF C y)[j]? = some x := ⟨_, List.getElem?_eq_getElem (by rw [HSL.out]; exact hlt)⟩
      have hsw : StrsAt Q wr (.slice As sl cs) (supF C y) := HSV.out.keepB hbl.size (fun b hq _ => hbl.block b (HB.out.2.2.2.2 b hq))
      obtain ⟨b1, o1, e1, l1, q1⟩ := hsw.at j (by rw [HSL.out]; exact hlt)
      subst e1
      have q2 : wr.cell? ⟨b1, o1 + j, none⟩ = some (.string x) := by
        have := List.getElem?_eq_getElem (l := supF C y) (i := j) (by rw [HSL.out]; exact hlt)
        rw [hx] at this; injection this with this; rw [this]; exact q1
      have hji : (j : Int) < (sl : Int) := by omega
      have hj0 : (0 : Int) ≤ (j : Int) := by omega
      have hxm : x ∈ univ C := (supF_mem (List.mem_of_getElem? hx)).1
      have hlen := bfs_len hbf hu
      have hCl := HC.out.len
      have HCM := Lib.hid (come_any hwr (by rw [List.length_append]; have := HK.out; omega) (by omega) (x := x) (y := y) (u := v ++ [j]) (i := j) (HC.out.size x hxm) (.inr ⟨v, rfl, List.mem_append_left _ HY.out⟩))
      have HREL : Hid (∀ e w', ComeRes B a (if x ∈ (D ++ t).map Prod.fst then D ++ t else (D ++ t) ++ [(x, v ++ [j])]) k ob lb wr e w' → e = .returned (.tuple #[]) ∧ ∃ t, BfsI (supF C) a (D ++ t) v (j + 1) ∧ BfsU C a (D ++ t) ∧ WaysAt B a (D ++ t) k ob lb w' ∧ Below B w2 w') := Lib.hid fun e w' ⟨he, r1, r2⟩ => by
        refine ⟨he, ?_⟩
        by_cases hm : x ∈ (D ++ t).map Prod.fst
        · rw [if_pos hm] at r1
          exact ⟨t, hbf.skip (List.mem_append_left _ HY.out) hx hm, hu, r1, hbl.trans r2⟩
        · rw [if_neg hm] at r1
          refine ⟨t ++ [(x, v ++ [j])], ?_⟩
          rw [← List.append_assoc]
          refine ⟨hbf.add (List.mem_append_left _ HY.out) hx hm, fun z hz => ?_, r1, hbl.trans r2⟩
          rw [List.map_append, List.mem_append] at hz
          rcases hz with hz | hz
          · exact hu z hz
          · simp at hz; subst hz; exact List.mem_cons_of_mem _ hxm
      clear hbf hu hwr hbl hsw q1 hx hxm hlen hCl
      go_wp2_with fail
      with_reducible refine HCM.out.mono ?_
      rintro e w' hcome
      obtain ⟨rfl, hr⟩ := HREL.out e w' hcome
      have HR := Lib.hid hr
      clear hr hcome
      go_wp2
      go_roundw
      case rel => exact ⟨j + 1, by omega, by go_num, HR.out⟩
      case measure => simp [intOf]; omega
    · have hje : j = sl := by omega
      subst hje
      have HRES : Hid (StepsRes B C a D v y k ob lb w (.returned (.tuple #[])) wr) := Lib.hid ⟨rfl, t, by rw [HSL.out]; exact hbf, hu, hwr, HB2.out.trans hbl⟩
      have hd : decide (j < j) = false := by simp
      clear hbf hu hwr hbl
      go_wp2
      go_end0
      exact HRES.out
def FromW (B : Nat) (a : ByteArray) (w : World) (e : Ending) (w' : World) : Prop := ∃ ob lb, e = .returned (.pointer (some ⟨ob, 0, none⟩)) ∧ WaysAt B a [(a, [])] 0 ob lb w' ∧ Below B w w'
set_option maxRecDepth 100000 in
set_option maxHeartbeats 2000000 in
theorem waysFrom_any {a : ByteArray} (ha : a.size ≤ maxLen) (w : World) : Calls Try.prog 42 #[.string a] w (FromW w.heap.size a w) := by
  obtain ⟨V, eV⟩ : ∃ V, V = (w.alloc (.map #[] 0)).alloc (.cells #[.slice none 0 0, .string a, .map (some w.heap.size)] 105) := ⟨_, rfl⟩
  have hBV : Below w.heap.size w V := by rw [eV]; exact (below_new _ _).alloc (by simp) _
  have v1 : V.heap[w.heap.size + 1]? = some (.cells #[.slice none 0 0, .string a, .map (some w.heap.size)] 105) := by rw [eV, alloc_get, if_pos (by simp)]
  have v0 : MapS Try.prog 9 V w.heap.size 0 (fun _ => none) := by
    rw [eV]; exact (MapS.made Try.prog 9 w).on (below_new _ _)
  have hW : WaysAt w.heap.size a [] 0 (w.heap.size + 1) w.heap.size V := ⟨⟨_, v1, .inl ⟨rfl, rfl⟩⟩, ⟨0, _, v0, fun _ _ => rfl, fun x u h => by cases h⟩, by omega, Nat.le_refl _, by omega, hBV.size⟩
  have hcm := come_any hW (Nat.le_refl _) (by simp) (x := a) (y := ⟨#[]⟩) (u := []) (i := 0) ha (.inl ⟨rfl, rfl, rfl⟩)
  change Calls Try.prog 45 #[.pointer (some ⟨w.heap.size + 1, 0, none⟩), .string a, .agg #[.string ⟨#[]⟩, .int .i64 0]] V _ at hcm
  have HCM := Lib.hid hcm
  have HREL : Hid (∀ e w', ComeRes w.heap.size a (if a ∈ ([] : List (ByteArray × List Nat)).map Prod.fst then [] else [] ++ [(a, [])]) 0 (w.heap.size + 1) w.heap.size V e w' → e = .returned (.tuple #[]) ∧ FromW w.heap.size a w (.returned (.pointer (some ⟨w.heap.size + 1, 0, none⟩))) w') := Lib.hid fun e w' ⟨he, r1, r2⟩ => by
    rw [if_neg (by simp)] at r1
    exact ⟨he, _, _, rfl, r1, hBV.trans r2⟩
  have HEV := Lib.hid eV
  have m1 : ∀ y : World, (Instr.makeMap 103 none).run Try.prog y = .ok (.map (some y.heap.size)) (y.alloc (.map #[] 0)) := fun y => rfl
  clear eV hBV v1 v0 hW hcm
  go_enter Try.func42, Try.ntmps42
  go_upto_region 2 with (fail)
  rw [← HEV.out]
  go_wp2_with fail
  with_reducible refine HCM.out.mono ?_
  rintro e w' hcome
  obtain ⟨rfl, hr⟩ := HREL.out e w' hcome
  have HR := Lib.hid hr
  clear hr hcome
  go_wp2
  go_ret
  exact HR.out
end Go.Proofs.Ytjfhncbfbhkhgaa
