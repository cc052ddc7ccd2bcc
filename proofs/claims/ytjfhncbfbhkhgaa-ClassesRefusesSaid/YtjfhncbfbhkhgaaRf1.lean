/- The document's In, Class, Inst. Conditions: those that each theorem names. -/
import Derived.Test.YtjfhncbfbhkhgaaLiv
namespace Go.Proofs.Ytjfhncbfbhkhgaa
open Go.RowKit
set_option maxRecDepth 100000 in
set_option maxHeartbeats 1000000 in
theorem in29_any {P : Nat → Prop} {w : World} {v : Value} {l : List ByteArray} (h : StrsAt P w v l) (x : ByteArray) :
    Calls Try.prog 29 #[v, .string x] w fun e w' => e = .returned (.bool (decide (x ∈ l))) ∧ Below w.heap.size w w' := by
  obtain ⟨A, c, rfl, hc, hm⟩ := h.form
  unfold maxLen at hm
  have H := Lib.hid h
  clear h
  go_enter Try.func29, Try.ntmps29
  go_wp2
  go_loopw [5] (fun i wr => ∃ k : Nat, k ≤ l.length ∧ i = .int .i64 k ∧ x ∉ l.take k ∧ Below w.heap.size w wr) (fun i _ => l.length - (intOf i).toNat)
  case atStart => exact ⟨0, Nat.zero_le _, rfl, by simp, Below.refl _ _⟩
  case round =>
    obtain ⟨k, hk, rfl, hno, hb⟩ := hrel
    have HB := Lib.hid hb
    have HNO := Lib.hid hno
    by_cases hlt : k < l.length
    · obtain ⟨b1, o1, e1, l1, k1⟩ := (H.out.on hb).at k hlt
      subst e1
      have hki : (k : Int) < (l.length : Int) := by omega
      have hk0 : (0 : Int) ≤ (k : Int) := by omega
      obtain ⟨y, hy⟩ : ∃ y, l[k]? = some y := ⟨_, List.getElem?_eq_getElem hlt⟩
      have k2 : wr.cell? ⟨b1, o1 + k, none⟩ = some (.string y) := by
        have := List.getElem?_eq_getElem hlt
        rw [hy] at this; injection this with this; rw [this]; exact k1
      have HT : Hid (l.take (k + 1) = l.take k ++ [y]) := Lib.hid (by rw [List.take_add_one, hy]; rfl)
      have HMEM := Lib.hid (List.mem_of_getElem? hy)
      clear k1 hb hno hy
      by_cases he : y = x
      · have HX : Hid (decide (x ∈ l) = true) := Lib.hid (decide_eq_true (by rw [← he]; exact HMEM.out))
        subst he
        go_wp2
        go_ret
        exact ⟨by rw [HX.out]; rfl, HB.out⟩
      · have hne : (y.toList == x.toList) = false := by rw [← beq_toListBytes, beq_eq_false_iff_ne]; exact he
        have HA : Hid (x ∉ l.take (k + 1)) := Lib.hid (by rw [HT.out, List.mem_append, List.mem_singleton]; exact fun h => h.elim HNO.out (fun e => he e.symm))
        go_wp2
        go_roundw
        case rel => exact ⟨k + 1, by omega, by go_num, HA.out, HB.out⟩
        case measure => simp [intOf]; omega
    · have hke : k = l.length := by omega
      subst hke
      have hd : decide (l.length < l.length) = false := by simp
      have HX : Hid (decide (x ∈ l) = false) := Lib.hid (decide_eq_false (by rw [List.take_of_length_le (Nat.le_refl _)] at hno; exact hno))
      clear hb hno
      go_wp2
      go_ret
      exact ⟨by rw [HX.out]; rfl, HB.out⟩
theorem clsOf_take_none {C : List Cls} {x : ByteArray} : ∀ {k : Nat}, clsOf C x = clsOf (C.take k) x ∨ clsOf (C.take k) x = none := by
  intro k
  induction C generalizing k with
  | nil => simp [clsOf]
  | cons a l ih =>
    cases k with
    | zero => exact .inr rfl
    | succ k =>
      simp only [List.take_succ_cons, clsOf]
      by_cases e : a.name = x
      · rw [if_pos e, if_pos e]; exact .inl rfl
      · rw [if_neg e, if_neg e]; exact ih
theorem clsOf_at {C : List Cls} {x : ByteArray} {k : Nat} {c : Cls} (hk : C[k]? = some c) (hn : clsOf (C.take k) x = none) (he : c.name = x) : clsOf C x = some c := by
  have h1 := clsOf_snoc (C.take k) c x
  rw [hn] at h1
  have h2 : C.take (k + 1) = C.take k ++ [c] := by rw [List.take_add_one, hk]; rfl
  rcases clsOf_take_none (C := C) (x := x) (k := k + 1) with h3 | h3
  · rw [h3, h2, h1]; simp [he]
  · rw [h2, h1] at h3; simp [he] at h3
def set6 (w : World) (g : Nat) (a b c d e f : Value) : World :=
  (((((w.setCell ⟨g, 0, none⟩ a).setCell ⟨g, 1, none⟩ b).setCell ⟨g, 2, none⟩ c).setCell ⟨g, 3, none⟩ d).setCell ⟨g, 4, none⟩ e).setCell ⟨g, 5, none⟩ f
theorem set6_heap {w : World} {g : Nat} {t : TypeId} {x0 x1 x2 x3 x4 x5 : Value} (h : w.heap[g]? = some (.cells #[x0, x1, x2, x3, x4, x5] t)) (a b c d e f : Value) : (set6 w g a b c d e f).heap[g]? = some (.cells #[a, b, c, d, e, f] t) := by
  have h1 := heap_setCell_same w g 0 _ t a h
  have h2 := heap_setCell_same _ g 1 _ t b h1
  have h3 := heap_setCell_same _ g 2 _ t c h2
  have h4 := heap_setCell_same _ g 3 _ t d h3
  have h5 := heap_setCell_same _ g 4 _ t e h4
  have h6 := heap_setCell_same _ g 5 _ t f h5
  unfold set6; rw [h6]; rfl
theorem set6_fr (w : World) (g : Nat) (a b c d e f : Value) : Fr (fun k => k = g) w (set6 w g a b c d e f) :=
  ((((((Fr.refl (fun k => k = g) w).setCell (b := g) rfl _).setCell (b := g) rfl _).setCell (b := g) rfl _).setCell (b := g) rfl _).setCell (b := g) rfl _).setCell (b := g) rfl _
/-- What the document tells of a class. -/
def RClassRes (Q : Nat → Prop) (C : List Cls) (x : ByteArray) (w : World) (e : Ending) (w' : World) : Prop :=
  ((∃ c sv A n m, clsOf C x = some c ∧ e = .returned (.tuple #[clsV c sv (.slice A n m), .bool true]) ∧ StrsAt Q w' sv c.supers) ∨ (clsOf C x = none ∧ e = .returned (.tuple #[zCls, .bool false]))) ∧ Below w.heap.size w w'
set_option maxRecDepth 100000 in
set_option maxHeartbeats 2000000 in
theorem rclass_any {Q : Nat → Prop} {C : List Cls} {cv iv : Value} {w : World} (h : ClassesAt Q w cv C) (hil : ∃ A n c, iv = .slice A n c) (hQ : ∀ b, Q b → b < w.heap.size) (x : ByteArray) :
    Calls Try.prog 24 #[.agg #[.slice none 0 0, cv, iv, .slice none 0 0], .string x] w (RClassRes Q C x w) := by
  obtain ⟨Ai, ni, ci, rfl⟩ := hil
  obtain ⟨Ac, cc, rfl, hcc, hcm⟩ : ∃ A c, cv = .slice A C.length c ∧ C.length ≤ c ∧ c ≤ maxLen := by
    obtain ⟨A, c, e, h1, h2, _⟩ := h; exact ⟨A, c, e, h1, h2⟩
  unfold maxLen at hcm
  obtain ⟨V, eV⟩ : ∃ V, V = (w.alloc (.cells #[.slice none 0 0, .slice Ac C.length cc, .slice Ai ni ci, .slice none 0 0] 28)).alloc (.cells #[.string ⟨#[]⟩, .int .i64 0, .string ⟨#[]⟩, .slice none 0 0, .slice none 0 0, .slice none 0 0] 59) := ⟨_, rfl⟩
  have hBV : Below w.heap.size w V := by rw [eV]; exact (below_new _ _).alloc (by simp) _
  have v0 : V.heap[w.heap.size]? = some (.cells #[.slice none 0 0, .slice Ac C.length cc, .slice Ai ni ci, .slice none 0 0] 28) := by rw [eV, alloc_get, if_neg (by simp), alloc_get, if_pos rfl]
  have v1 : V.heap[w.heap.size + 1]? = some (.cells #[.string ⟨#[]⟩, .int .i64 0, .string ⟨#[]⟩, .slice none 0 0, .slice none 0 0, .slice none 0 0] 59) := by rw [eV, alloc_get, if_pos (by simp)]
  have HV := Lib.hid (h.keep hBV.size (fun b _ hl => hBV.block b hl))
  have HBV := Lib.hid hBV
  have HV0 := Lib.hid v0
  have HV1 := Lib.hid v1
  have HEV := Lib.hid eV
  have HQ := Lib.hid hQ
  clear h hBV v0 v1 eV hQ
  go_enter Try.func24, Try.ntmps24
  go_upto_region 1 with (fail)
  rw [← HEV.out]
  clear HEV
  go_wp2_with fail
  go_loopw [6] (fun i wr => ∃ k : Nat, k ≤ C.length ∧ i = .int .i64 k ∧ clsOf (C.take k) x = none ∧ Below V.heap.size V wr) (fun i _ => C.length - (intOf i).toNat)
  case atStart => exact ⟨0, Nat.zero_le _, rfl, rfl, Below.refl _ _⟩
  case round =>
    obtain ⟨k, hk, rfl, hno, hb⟩ := hrel
    have b0 := (hb.block _ (lt_of_block HV0.out)).trans HV0.out
    have b1 := (hb.block _ (lt_of_block HV1.out)).trans HV1.out
    have c0 : wr.cell? ⟨w.heap.size, 1, none⟩ = some (.slice Ac C.length cc) := by simp [World.cell?, b0]
    have c1 : ∀ j, wr.frozen? ⟨w.heap.size + 1, j, none⟩ = false := fun j => by simp [World.frozen?, b1]
    have c2 : wr.cell? ⟨w.heap.size + 1, 0, none⟩ = some (.string ⟨#[]⟩) ∧ wr.cell? ⟨w.heap.size + 1, 1, none⟩ = some (.int .i64 0) ∧ wr.cell? ⟨w.heap.size + 1, 2, none⟩ = some (.string ⟨#[]⟩) ∧ wr.cell? ⟨w.heap.size + 1, 3, none⟩ = some (.slice none 0 0) ∧ wr.cell? ⟨w.heap.size + 1, 4, none⟩ = some (.slice none 0 0) ∧ wr.cell? ⟨w.heap.size + 1, 5, none⟩ = some (.slice none 0 0) := by simp [World.cell?, b1]
    obtain ⟨z0, z1, z2, z3, z4, z5⟩ := c2
    have HB := Lib.hid (HBV.out.trans (hb.mono HBV.out.size))
    have HBB := Lib.hid hb
    have HNO := Lib.hid hno
    by_cases hlt : k < C.length
    · obtain ⟨c, hc⟩ : ∃ c, C[k]? = some c := ⟨_, List.getElem?_eq_getElem hlt⟩
      obtain ⟨b, sv, mv, e0, hbl, q0, q1, q2, q3, q4, q5, hsv, hmv⟩ := (HV.out.keep hb.size (fun b _ hl => hb.block b hl)).at hc
      subst e0
      obtain ⟨As, cs, rfl, _⟩ := hsv.form
      obtain ⟨Am, cm, rfl⟩ : ∃ A e, mv = .slice A c.meths.length e := by
        obtain ⟨A, e, h1, _⟩ := hmv; exact ⟨A, e, h1⟩
      have hki : (k : Int) < (C.length : Int) := by omega
      have hk0 : (0 : Int) ≤ (k : Int) := by omega
      have HC9 := Lib.hid hc
      have HSV := Lib.hid hsv
      have HBX := Lib.hid b1
      clear hc hno hsv hmv hb b0 b1
      by_cases he : c.name = x
      · have HCL := Lib.hid (clsOf_at HC9.out HNO.out he)
        generalize c.supers.length = sl at *
        generalize c.meths.length = ml at *
        subst he
        go_wp2_with fail
        have hf := set6_fr wr (w.heap.size + 1) (.string c.name) (.int .i64 c.atp) (.string c.var) (.slice none 0 0) (.slice As sl cs) (.slice Am ml cm)
        refine ⟨rfl, _, results_row_tmp rfl _ _ (w.heap.size + 1) 59 #[.string c.name, .int .i64 c.atp, .string c.var, .slice none 0 0, .slice As sl cs, .slice Am ml cm] (0, 0) _ rfl (set6_heap HBX.out _ _ _ _ _ _) Try.underlying59 Try.size59, ?_⟩
        exact ⟨.inl ⟨c, _, Am, ml, cm, HCL.out, rfl, HSV.out.keepB hf.size (fun b hq hl => hf.block b hl (fun e => by have := HQ.out b hq; omega))⟩, HB.out.trans (hf.below HB.out.size (fun k e => by omega))⟩
      · have hne : (c.name.toList == x.toList) = false := by rw [← beq_toListBytes, beq_eq_false_iff_ne]; exact he
        have HT : Hid (clsOf (C.take (k + 1)) x = none) := Lib.hid (by
          rw [List.take_add_one, HC9.out, Option.toList_some, clsOf_snoc, HNO.out]; simp [he])
        go_wp2
        go_roundw
        case rel => exact ⟨k + 1, by omega, by go_num, HT.out, HBB.out⟩
        case measure => simp [intOf]; omega
    · have hke : k = C.length := by omega
      subst hke
      have hd : decide (C.length < C.length) = false := by simp
      have HX : Hid (clsOf C x = none) := Lib.hid (by rw [List.take_of_length_le (Nat.le_refl _)] at hno; exact hno)
      have HBX := Lib.hid b1
      clear hb hno b0 b1
      go_wp2_with fail
      have hf := set6_fr wr (w.heap.size + 1) (.string ⟨#[]⟩) (.int .i64 0) (.string ⟨#[]⟩) (.slice none 0 0) (.slice none 0 0) (.slice none 0 0)
      refine ⟨rfl, _, results_row_tmp rfl _ _ (w.heap.size + 1) 59 #[.string ⟨#[]⟩, .int .i64 0, .string ⟨#[]⟩, .slice none 0 0, .slice none 0 0, .slice none 0 0] (0, 0) _ rfl (set6_heap HBX.out _ _ _ _ _ _) Try.underlying59 Try.size59, ?_⟩
      exact ⟨.inr ⟨HX.out, rfl⟩, HB.out.trans (hf.below HB.out.size (fun k e => by omega))⟩
end Go.Proofs.Ytjfhncbfbhkhgaa
