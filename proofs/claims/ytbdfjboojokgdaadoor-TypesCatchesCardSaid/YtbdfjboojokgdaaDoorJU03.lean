/- The contracts of types.Meta, Var, Con, give, App, All, and of the document's app and Fun (chapter 4). No conditions but those that each theorem names. The contracts of types.give, App and All. Condition: the rows are of at most 2^40 types. -/
import Derived.Test.YtbdfjboojokgdaaDoorJU02
namespace Go.Proofs.YtbdfjboojokgdaaDoor
open Go.RowKit

theorem var_any (s : ByteArray) (w : World) : Calls Tryd.prog 61 #[.string s] w (TyMade w (.var s)) := by
  go_enter Tryd.func61, Tryd.ntmps61
  go_wp2
  exact bodyPost_ret (v := .agg #[.int .i64 2, .int .i64 0, .string s, .slice none 0 0]) (by simp [results, Tryd.results61, go_sem]) rfl ⟨_, rfl, ty_leaf _ _ (.var s) rfl none 0 (Nat.zero_le _), below_new w _⟩
theorem con_any (s : ByteArray) (w : World) : Calls Tryd.prog 63 #[.string s] w (TyMade w (.con s)) := by
  go_enter Tryd.func63, Tryd.ntmps63
  go_wp2
  exact bodyPost_ret (v := .agg #[.int .i64 3, .int .i64 0, .string s, .slice none 0 0]) (by simp [results, Tryd.results63, go_sem]) rfl ⟨_, rfl, ty_leaf _ _ (.con s) rfl none 0 (Nat.zero_le _), below_new w _⟩
theorem below2 (w : World) (o1 o2 : Obj) : Below w.heap.size w ((w.alloc o1).alloc o2) := (below_new w o1).trans ((below_new _ o2).mono (by simp))
theorem below3 (w : World) (o1 o2 o3 : Obj) : Below w.heap.size w (((w.alloc o1).alloc o2).alloc o3) := (below2 w o1 o2).trans ((below_new _ o3).mono (by simp; omega))
theorem cell_box (y : World) (b b' j : Nat) (v0 v1 v2 v3 : Value) (h : b' ≠ b) : ((((y.setCell ⟨b, 0, none⟩ v0).setCell ⟨b, 1, none⟩ v1).setCell ⟨b, 2, none⟩ v2).setCell ⟨b, 3, none⟩ v3).cell? ⟨b', j, none⟩ = y.cell? ⟨b', j, none⟩ := by
  refine World.cell?_of_block (a := ⟨b', j, none⟩) ?_
  show (World.heap _)[b']? = _
  rw [Below.heap_setCell _ _ _ _ h, Below.heap_setCell _ _ _ _ h, Below.heap_setCell _ _ _ _ h, Below.heap_setCell _ _ _ _ h]
/-- What a maker that shares memory made. -/
def TyShares (P : Nat → Prop) (w : World) (t : Ty) (e : Ending) (w' : World) : Prop := ∃ v, e = .returned v ∧ TyAt (fun x => P x ∨ w.heap.size ≤ x) w' t v ∧ Below w.heap.size w w'
set_option maxRecDepth 100000 in
set_option maxHeartbeats 1000000 in
theorem refapp_any (P : Nat → Prop) (a b : Ty) (va vb : Value) (w : World) (ha : TyAt P w a va) (hb : TyAt P w b vb) : Calls Tryd.prog 66 #[va, vb] w (TyShares P w (.app a b)) := by
  obtain ⟨f1, n1, s1, A1, l1, c1, rfl⟩ := ha.flat
  obtain ⟨f2, n2, s2, A2, l2, c2, rfl⟩ := hb.flat
  have HA := Lib.hid ha.bound
  have HB := Lib.hid hb.bound
  clear ha hb
  go_enter Tryd.func66, Tryd.ntmps66
  go_wp2
  have b3 := below3 w (.cells #[.int .i64 f1, .int .i64 n1, .string s1, .slice A1 l1 c1] 25) (.cells #[.int .i64 f2, .int .i64 n2, .string s2, .slice A2 l2 c2] 25) (.cells #[.int .i64 4, .int .i64 0, .string ⟨#[]⟩, .slice (some ⟨w.heap.size + 1 + 1 + 1, 0, none⟩) 2 2] 25)
  have h9 := app_new (HA.out.on b3) (HB.out.on b3) 25
  simp only [World.size_alloc] at h9
  refine bodyPost_ret (v := .agg #[.int .i64 4, .int .i64 0, .string ⟨#[]⟩, .slice (some ⟨w.heap.size + 1 + 1 + 1, 0, none⟩) 2 2]) (by simp [results, Tryd.results66, go_sem]) rfl ⟨_, rfl, h9.mono (fun x hx => ?_), b3.trans ((below_new _ _).mono (by simp; omega))⟩
  rcases hx with hx | hx
  · exact .inl hx.1
  · exact .inr (by rw [hx]; omega)
set_option maxRecDepth 100000 in
set_option maxHeartbeats 1000000 in
theorem reffun_any (P : Nat → Prop) (a b : Ty) (va vb : Value) (w : World) (ha : TyAt P w a va) (hb : TyAt P w b vb) : Calls Tryd.prog 88 #[va, vb] w (TyShares P w (.app (.app (.con ⟨#[45, 62]⟩) a) b)) := by
  obtain ⟨f1, n1, s1, A1, l1, c1, rfl⟩ := ha.flat
  obtain ⟨f2, n2, s2, A2, l2, c2, rfl⟩ := hb.flat
  have HA := Lib.hid ha.bound
  have HB := Lib.hid hb.bound
  clear ha hb
  go_enter Tryd.func88, Tryd.ntmps88
  go_wp2_with fail
  have q1 := Box4.new w (.int .i64 f1) (.int .i64 n1) (.string s1) (.slice A1 l1 c1) 25
  have q2 := Box4.new (w.alloc (.cells #[.int .i64 f1, .int .i64 n1, .string s1, .slice A1 l1 c1] 25)) (.int .i64 f2) (.int .i64 n2) (.string s2) (.slice A2 l2 c2) 25
  have q3 := Box4.new ((w.alloc (.cells #[.int .i64 f1, .int .i64 n1, .string s1, .slice A1 l1 c1] 25)).alloc (.cells #[.int .i64 f2, .int .i64 n2, .string s2, .slice A2 l2 c2] 25)) (.int .i64 0) (.int .i64 0) (.string ⟨#[]⟩) (.slice none 0 0) 25
  have q1' := (q1.on (below_new _ (.cells #[.int .i64 f2, .int .i64 n2, .string s2, .slice A2 l2 c2] 25))).on (below_new _ (.cells #[.int .i64 0, .int .i64 0, .string ⟨#[]⟩, .slice none 0 0] 25))
  have q2' := q2.on (below_new _ (.cells #[.int .i64 0, .int .i64 0, .string ⟨#[]⟩, .slice none 0 0] 25))
  have b3 := below3 w (.cells #[.int .i64 f1, .int .i64 n1, .string s1, .slice A1 l1 c1] 25) (.cells #[.int .i64 f2, .int .i64 n2, .string s2, .slice A2 l2 c2] 25) (.cells #[.int .i64 0, .int .i64 0, .string ⟨#[]⟩, .slice none 0 0] 25)
  have hz3 : (((w.alloc (.cells #[.int .i64 f1, .int .i64 n1, .string s1, .slice A1 l1 c1] 25)).alloc (.cells #[.int .i64 f2, .int .i64 n2, .string s2, .slice A2 l2 c2] 25)).alloc (.cells #[.int .i64 0, .int .i64 0, .string ⟨#[]⟩, .slice none 0 0] 25)).heap.size = w.heap.size + 3 := by simp
  simp only [World.size_alloc] at q1' q2' q3
  generalize ((w.alloc (.cells #[.int .i64 f1, .int .i64 n1, .string s1, .slice A1 l1 c1] 25)).alloc (.cells #[.int .i64 f2, .int .i64 n2, .string s2, .slice A2 l2 c2] 25)).alloc (.cells #[.int .i64 0, .int .i64 0, .string ⟨#[]⟩, .slice none 0 0] 25) = w3 at *
  clear q1 q2
  have HQ1 := Lib.hid q1'
  have HQ2 := Lib.hid q2'
  have HQ3 := Lib.hid q3
  have HA3 := Lib.hid ((HA.out.on b3).mono (Q := fun x => (P x ∨ w.heap.size + 3 ≤ x) ∧ (x < w.heap.size ∨ w.heap.size + 3 ≤ x)) (fun x hx => ⟨.inl hx.1, .inl hx.2⟩))
  have HB3 := Lib.hid ((HB.out.on b3).mono (Q := fun x => (P x ∨ w.heap.size + 3 ≤ x) ∧ (x < w.heap.size ∨ w.heap.size + 3 ≤ x)) (fun x hx => ⟨.inl hx.1, .inl hx.2⟩))
  have HW3 := Lib.hid b3
  clear q1' q2' q3 b3 HA HB
  have keep : Hid (∀ y, Below w3.heap.size w3 y → ((y.cell? ⟨w.heap.size, 0, none⟩ = some (.int .i64 f1) ∧ y.cell? ⟨w.heap.size, 1, none⟩ = some (.int .i64 n1) ∧ y.cell? ⟨w.heap.size, 2, none⟩ = some (.string s1) ∧ y.cell? ⟨w.heap.size, 3, none⟩ = some (.slice A1 l1 c1)) ∧
      (y.cell? ⟨w.heap.size + 1, 0, none⟩ = some (.int .i64 f2) ∧ y.cell? ⟨w.heap.size + 1, 1, none⟩ = some (.int .i64 n2) ∧ y.cell? ⟨w.heap.size + 1, 2, none⟩ = some (.string s2) ∧ y.cell? ⟨w.heap.size + 1, 3, none⟩ = some (.slice A2 l2 c2)))) := fun y hb => by
    obtain ⟨_, h0, h1, h2, h3, _⟩ := HQ2.out.on hb
    obtain ⟨_, k0, k1, k2, k3, _⟩ := HQ1.out.on hb
    exact ⟨⟨k0, k1, k2, k3⟩, h0, h1, h2, h3⟩
  have hS0 := keep.out _ (Below.refl _ w3).drew
  have HC1 : Hid (Calls Tryd.prog 66 #[.agg #[.int .i64 3, .int .i64 0, .string ⟨#[45, 62]⟩, .slice none 0 0], .agg #[.int .i64 f1, .int .i64 n1, .string s1, .slice A1 l1 c1]] w3.drew fun e y => ∃ f n s A l c, e = .returned (.agg #[.int .i64 f, .int .i64 n, .string s, .slice A l c]) ∧
      TyAt (fun x => (P x ∨ w.heap.size + 3 ≤ x) ∧ (x < w.heap.size ∨ w.heap.size + 3 ≤ x)) y (.app (.con ⟨#[45, 62]⟩) a) (.agg #[.int .i64 f, .int .i64 n, .string s, .slice A l c]) ∧ Below w3.heap.size w3 y) := by
    refine (refapp_any _ (.con ⟨#[45, 62]⟩) a _ _ _ (ty_leaf _ _ (.con ⟨#[45, 62]⟩) rfl none 0 (Nat.zero_le _)) (HA3.out.on (Below.refl _ w3).drew)).mono ?_
    rintro e y ⟨v, rfl, hv, hb⟩
    obtain ⟨f, n, s, A, l, c, rfl⟩ := hv.flat
    refine ⟨f, n, s, A, l, c, rfl, hv.mono (fun x hx => ?_), (Below.refl _ w3).drew.trans hb⟩
    rcases hx with hx | hx
    · exact hx
    · have : w.heap.size + 3 ≤ x := by rw [← hz3]; exact hx
      exact ⟨.inr this, .inr this⟩
  have HC2 : Hid (∀ y f n s A l c, TyAt (fun x => (P x ∨ w.heap.size + 3 ≤ x) ∧ (x < w.heap.size ∨ w.heap.size + 3 ≤ x)) y (.app (.con ⟨#[45, 62]⟩) a) (.agg #[.int .i64 f, .int .i64 n, .string s, .slice A l c]) → Below w3.heap.size w3 y →
      Calls Tryd.prog 66 #[.agg #[.int .i64 f, .int .i64 n, .string s, .slice A l c], .agg #[.int .i64 f2, .int .i64 n2, .string s2, .slice A2 l2 c2]] y fun e y => ∃ f n s A l c, e = .returned (.agg #[.int .i64 f, .int .i64 n, .string s, .slice A l c]) ∧
      TyAt (fun x => (P x ∨ w.heap.size + 3 ≤ x) ∧ (x < w.heap.size ∨ w.heap.size + 3 ≤ x)) y (.app (.app (.con ⟨#[45, 62]⟩) a) b) (.agg #[.int .i64 f, .int .i64 n, .string s, .slice A l c]) ∧ Below w3.heap.size w3 y ∧ Box4 y (w.heap.size + 1 + 1) (.int .i64 0) (.int .i64 0) (.string ⟨#[]⟩) (.slice none 0 0)) := fun y f n s A l c ht hb => by
    refine (refapp_any _ _ b _ _ _ ht (HB3.out.on hb)).mono ?_
    rintro e y2 ⟨v, rfl, hv, hb2⟩
    obtain ⟨f, n, s, A, l, c, rfl⟩ := hv.flat
    have hb3 := hb.trans (hb2.mono hb.size)
    refine ⟨f, n, s, A, l, c, rfl, hv.mono (fun x hx => ?_), hb3, HQ3.out.on hb3⟩
    rcases hx with hx | hx
    · exact hx
    · have : w.heap.size + 3 ≤ x := by have := hb.size; omega
      exact ⟨.inr this, .inr this⟩
  have keepV : Hid (∀ (y : World) (v0 v1 v2 v3 : Value), ((y.cell? ⟨w.heap.size, 0, none⟩ = some (.int .i64 f1) ∧ y.cell? ⟨w.heap.size, 1, none⟩ = some (.int .i64 n1) ∧ y.cell? ⟨w.heap.size, 2, none⟩ = some (.string s1) ∧ y.cell? ⟨w.heap.size, 3, none⟩ = some (.slice A1 l1 c1)) ∧
      (y.cell? ⟨w.heap.size + 1, 0, none⟩ = some (.int .i64 f2) ∧ y.cell? ⟨w.heap.size + 1, 1, none⟩ = some (.int .i64 n2) ∧ y.cell? ⟨w.heap.size + 1, 2, none⟩ = some (.string s2) ∧ y.cell? ⟨w.heap.size + 1, 3, none⟩ = some (.slice A2 l2 c2))) →
      (fun y : World => (y.cell? ⟨w.heap.size, 0, none⟩ = some (.int .i64 f1) ∧ y.cell? ⟨w.heap.size, 1, none⟩ = some (.int .i64 n1) ∧ y.cell? ⟨w.heap.size, 2, none⟩ = some (.string s1) ∧ y.cell? ⟨w.heap.size, 3, none⟩ = some (.slice A1 l1 c1)) ∧
      (y.cell? ⟨w.heap.size + 1, 0, none⟩ = some (.int .i64 f2) ∧ y.cell? ⟨w.heap.size + 1, 1, none⟩ = some (.int .i64 n2) ∧ y.cell? ⟨w.heap.size + 1, 2, none⟩ = some (.string s2) ∧ y.cell? ⟨w.heap.size + 1, 3, none⟩ = some (.slice A2 l2 c2))) ((((y.setCell ⟨w.heap.size + 1 + 1, 0, none⟩ v0).setCell ⟨w.heap.size + 1 + 1, 1, none⟩ v1).setCell ⟨w.heap.size + 1 + 1, 2, none⟩ v2).setCell ⟨w.heap.size + 1 + 1, 3, none⟩ v3)) := fun y v0 v1 v2 v3 h => by
    simp only [cell_box _ _ _ _ _ _ _ _ (show w.heap.size ≠ w.heap.size + 1 + 1 by omega), cell_box _ _ _ _ _ _ _ _ (show w.heap.size + 1 ≠ w.heap.size + 1 + 1 by omega)]
    exact h
  go_region_held3 (fun y => (y.cell? ⟨w.heap.size, 0, none⟩ = some (.int .i64 f1) ∧ y.cell? ⟨w.heap.size, 1, none⟩ = some (.int .i64 n1) ∧ y.cell? ⟨w.heap.size, 2, none⟩ = some (.string s1) ∧ y.cell? ⟨w.heap.size, 3, none⟩ = some (.slice A1 l1 c1)) ∧
      (y.cell? ⟨w.heap.size + 1, 0, none⟩ = some (.int .i64 f2) ∧ y.cell? ⟨w.heap.size + 1, 1, none⟩ = some (.int .i64 n2) ∧ y.cell? ⟨w.heap.size + 1, 2, none⟩ = some (.string s2) ∧ y.cell? ⟨w.heap.size + 1, 3, none⟩ = some (.slice A2 l2 c2))) (first | exact hS0 | exact hS1 | exact hS2 | exact keepV.out _ _ _ _ _ hS2)
    (first | (go_at_call 66; (with_reducible refine HC1.out.mono ?_); rintro e y1 ⟨g1, m1, r1, B1, j1, k1, rfl, ht1, hb1⟩; have hS1 := keep.out y1 hb1) | (go_at_call 66; (with_reducible refine (HC2.out _ _ _ _ _ _ _ ht1 hb1).mono ?_); rintro e y2 ⟨g2, m2, r2, B2, j2, k2, rfl, ht2, hb2, hx2⟩; have hS2 := keep.out y2 hb2; obtain ⟨z0, z1, z2, z3, z4, z5, z6, z7, z8⟩ := hx2))
  have HT := Lib.hid ht2
  have HBF := Lib.hid hb2
  clear hS0 hS1 hS2 ht1 hb1 ht2 hb2
  go_wp2
  refine bodyPost_ret (v := .agg #[.int .i64 g2, .int .i64 m2, .string r2, .slice B2 j2 k2]) (by simp [results, Tryd.results88, go_sem, z1, z2, z3, z4]) rfl ⟨_, rfl, (HT.out.keep (.box (fun hx => by have := hx.2; omega) _ _ _ _)).mono (fun x hx => ?_), below_box (HW3.out.trans (HBF.out.mono (by omega))) (by omega) _ _ _ _⟩
  rcases hx.1 with hx | hx
  · exact .inl hx
  · exact .inr (by omega)
end Go.Proofs.YtbdfjboojokgdaaDoor
namespace Go.Proofs.YtbdfjboojokgdaaDoor
open Go.RowKit

theorem Box4.put {w : World} {b : Nat} {a0 a1 a2 a3 : Value} (h : Box4 w b a0 a1 a2 a3) (x0 x1 x2 x3 : Value) : Box4 ((((w.setCell ⟨b, 0, none⟩ x0).setCell ⟨b, 1, none⟩ x1).setCell ⟨b, 2, none⟩ x2).setCell ⟨b, 3, none⟩ x3) b x0 x1 x2 x3 := by
  obtain ⟨h0, h1, h2, h3, h4, f1, f2, f3, f4⟩ := h
  refine ⟨by simpa using h0, ?_, ?_, ?_, ?_, ?_, ?_, ?_, ?_⟩ <;> simp [go_sem, h1, h2, h3, h4, f1, f2, f3, f4]
theorem Box4.other {w : World} {b b' : Nat} {a0 a1 a2 a3 : Value} (h : Box4 w b' a0 a1 a2 a3) (hne : b' ≠ b) (x0 x1 x2 x3 : Value) : Box4 ((((w.setCell ⟨b, 0, none⟩ x0).setCell ⟨b, 1, none⟩ x1).setCell ⟨b, 2, none⟩ x2).setCell ⟨b, 3, none⟩ x3) b' a0 a1 a2 a3 := by
  obtain ⟨h0, h1, h2, h3, h4, f1, f2, f3, f4⟩ := h
  refine ⟨by simpa using h0, ?_, ?_, ?_, ?_, ?_, ?_, ?_, ?_⟩
  · rw [cell_box _ _ _ _ _ _ _ _ hne]; exact h1
  · rw [cell_box _ _ _ _ _ _ _ _ hne]; exact h2
  · rw [cell_box _ _ _ _ _ _ _ _ hne]; exact h3
  · rw [cell_box _ _ _ _ _ _ _ _ hne]; exact h4
  all_goals simpa [World.frozen?_setCell] using (by assumption)
/-- A type that is given others, one behind the other. -/
def Ty.give (f : Ty) (l : List Ty) : Ty := l.foldl .app f
theorem Ty.give_snoc (f : Ty) (l : List Ty) (a : Ty) : Ty.give f (l ++ [a]) = .app (Ty.give f l) a := by simp [Ty.give]
set_option maxRecDepth 100000 in
set_option maxHeartbeats 1000000 in
theorem give_any (P : Nat → Prop) (f : Ty) (ts : List Ty) (vf vl : Value) (w : World) (hf : TyAt P w f vf) (hl : TysAt P w ts vl) : Calls Tryd.prog 103 #[vf, vl] w (TyShares P w (f.give ts)) := by
  obtain ⟨f1, n1, s1, A1, l1, c1, rfl⟩ := hf.flat
  obtain ⟨A, c, rfl, hc, hm⟩ := hl.form
  unfold maxLen at hm
  have HF := Lib.hid hf.bound
  have HL := Lib.hid hl.bound
  clear hf hl
  go_enter Tryd.func103, Tryd.ntmps103
  go_wp2_with fail
  have q1 := Box4.new w (.int .i64 f1) (.int .i64 n1) (.string s1) (.slice A1 l1 c1) 25
  have q2 := Box4.new (w.alloc (.cells #[.int .i64 f1, .int .i64 n1, .string s1, .slice A1 l1 c1] 25)) (.int .i64 0) (.int .i64 0) (.string ⟨#[]⟩) (.slice none 0 0) 25
  have q1' := q1.on (below_new _ (.cells #[.int .i64 0, .int .i64 0, .string ⟨#[]⟩, .slice none 0 0] 25))
  have b2 := below2 w (.cells #[.int .i64 f1, .int .i64 n1, .string s1, .slice A1 l1 c1] 25) (.cells #[.int .i64 0, .int .i64 0, .string ⟨#[]⟩, .slice none 0 0] 25)
  simp only [World.size_alloc] at q2
  generalize (w.alloc (.cells #[.int .i64 f1, .int .i64 n1, .string s1, .slice A1 l1 c1] 25)).alloc (.cells #[.int .i64 0, .int .i64 0, .string ⟨#[]⟩, .slice none 0 0] 25) = w2 at *
  have HQ1 := Lib.hid q1'
  have HQ2 := Lib.hid q2
  have HB2 := Lib.hid b2
  clear q1 q1' q2 b2
  go_loopw [9, 6] (fun i _ wr => ∃ k : Nat, k ≤ ts.length ∧ i = .int .i64 k ∧ Below w.heap.size w wr ∧ Box4 wr (w.heap.size + 1) (.int .i64 0) (.int .i64 0) (.string ⟨#[]⟩) (.slice none 0 0) ∧
      ∃ (f9 n9 : Int) (s9 : ByteArray) (A9 : Option Addr) (l9 c9 : Nat), Box4 wr w.heap.size (.int .i64 f9) (.int .i64 n9) (.string s9) (.slice A9 l9 c9) ∧
        TyAt (fun x => (P x ∧ x < w.heap.size) ∨ w.heap.size + 2 ≤ x) wr (f.give (ts.take k)) (.agg #[.int .i64 f9, .int .i64 n9, .string s9, .slice A9 l9 c9])) (fun i _ _ => ts.length - (intOf i).toNat)
  case atStart => exact ⟨0, Nat.zero_le _, rfl, HB2.out, HQ2.out, f1, n1, s1, A1, l1, c1, HQ1.out, (HF.out.on HB2.out).mono (fun x hx => .inl hx)⟩
  case round =>
    obtain ⟨k, hk, rfl, hb, hq2, f9, n9, s9, A9, l9, c9, hq1, ht⟩ := hrel
    have HW := Lib.hid hb
    have HR := Lib.hid hq2
    have HR1 := Lib.hid hq1
    have HT := Lib.hid ht
    obtain ⟨z0, z1, z2, z3, z4, z5, z6, z7, z8⟩ := hq1
    obtain ⟨y0, y1, y2, y3, y4, y5, y6, y7, y8⟩ := hq2
    clear hb ht
    by_cases hlt : k < ts.length
    · obtain ⟨b, off, A2, c2, rfl, hpb, hbl, d0, d1, d2, d3, hx⟩ := (HL.out.keep (.of_belowB (fun x h => h.2) HW.out)).at k hlt
      have hki : (k : Int) < (ts.length : Int) := by omega
      have hk0 : (0 : Int) ≤ (k : Int) := by omega
      have HX := Lib.hid hx
      have HTK : Hid (f.give (ts.take (k + 1)) = .app (f.give (ts.take k)) ts[k]) := by show _ = _; rw [List.take_succ_eq_append_getElem hlt, Ty.give_snoc]
      clear hx
      generalize ts[k].form = tf, ts[k].num = tn, ts[k].name = tm, ts[k].args.length = tl at *
      go_wp2
      go_roundw
      case rel =>
        have hnb : ¬ ((fun x => (P x ∧ x < w.heap.size) ∨ w.heap.size + 2 ≤ x) w.heap.size) := fun hx => by rcases hx with hx | hx <;> omega
        have t1 := HT.out.keep (.box hnb (.int .i64 4) (.int .i64 0) (.string ⟨#[]⟩) (.slice (some ⟨wr.heap.size + 1, 0, none⟩) 2 2))
        have x1 := (HX.out.mono (Q := fun x => (P x ∧ x < w.heap.size) ∨ w.heap.size + 2 ≤ x) (fun x hx => .inl hx)).keep (.box hnb (.int .i64 4) (.int .i64 0) (.string ⟨#[]⟩) (.slice (some ⟨wr.heap.size + 1, 0, none⟩) 2 2))
        have p1 := HR1.out.put (.int .i64 4) (.int .i64 0) (.string ⟨#[]⟩) (.slice (some ⟨wr.heap.size + 1, 0, none⟩) 2 2)
        have p2 := HR.out.other (b := w.heap.size) (by omega) (.int .i64 4) (.int .i64 0) (.string ⟨#[]⟩) (.slice (some ⟨wr.heap.size + 1, 0, none⟩) 2 2)
        have b1 := below_box HW.out (Nat.le_refl _) (.int .i64 4) (.int .i64 0) (.string ⟨#[]⟩) (.slice (some ⟨wr.heap.size + 1, 0, none⟩) 2 2)
        have z1 : ((((wr.setCell ⟨w.heap.size, 0, none⟩ (.int .i64 4)).setCell ⟨w.heap.size, 1, none⟩ (.int .i64 0)).setCell ⟨w.heap.size, 2, none⟩ (.string ⟨#[]⟩)).setCell ⟨w.heap.size, 3, none⟩ (.slice (some ⟨wr.heap.size + 1, 0, none⟩) 2 2)).heap.size = wr.heap.size := by simp
        generalize (((wr.setCell ⟨w.heap.size, 0, none⟩ (.int .i64 4)).setCell ⟨w.heap.size, 1, none⟩ (.int .i64 0)).setCell ⟨w.heap.size, 2, none⟩ (.string ⟨#[]⟩)).setCell ⟨w.heap.size, 3, none⟩ (.slice (some ⟨wr.heap.size + 1, 0, none⟩) 2 2) = v1 at *
        have n1 := below_new v1 (.cells #[.int .i64 tf, .int .i64 tn, .string tm, .slice A2 tl c2] 25)
        have t2 := t1.on n1
        have x2 := x1.on n1
        have p1' := p1.on n1
        have p2' := p2.on n1
        have b2 := b1.alloc b1.size (.cells #[.int .i64 tf, .int .i64 tn, .string tm, .slice A2 tl c2] 25)
        have z2 : (v1.alloc (.cells #[.int .i64 tf, .int .i64 tn, .string tm, .slice A2 tl c2] 25)).heap.size = wr.heap.size + 1 := by simp [z1]
        generalize v1.alloc (.cells #[.int .i64 tf, .int .i64 tn, .string tm, .slice A2 tl c2] 25) = v2 at *
        have n2 := below_new v2 (.cells #[.int .i64 f9, .int .i64 n9, .string s9, .slice A9 l9 c9, .int .i64 tf, .int .i64 tn, .string tm, .slice A2 tl c2] 25)
        have t3 := app_new t2 x2 25
        rw [z2] at t3
        refine ⟨k + 1, by omega, by go_num, b2.alloc b2.size _, p2'.on n2, _, _, _, _, _, _, p1'.on n2, ?_⟩
        rw [HTK.out]
        refine t3.mono (fun x hx => ?_)
        rcases hx with hx | hx
        · exact hx
        · exact .inr (by rw [hx]; omega)
      case measure => simp [intOf]; omega
    · obtain rfl : k = ts.length := by omega
      have hd : decide (ts.length < ts.length) = false := by simp
      have htk : ts.take ts.length = ts := List.take_length
      rw [htk] at HT
      clear htk
      go_wp2
      refine bodyPost_ret (v := .agg #[.int .i64 f9, .int .i64 n9, .string s9, .slice A9 l9 c9]) (by simp [results, Tryd.results103, go_sem, y1, y2, y3, y4]) rfl ⟨_, rfl, (HT.out.keep (.box (fun hx => by rcases hx with hx | hx <;> omega) _ _ _ _)).mono (fun x hx => ?_), below_box HW.out (by omega) _ _ _ _⟩
      rcases hx with hx | hx
      · exact .inl hx.1
      · exact .inr (by omega)
end Go.Proofs.YtbdfjboojokgdaaDoor
