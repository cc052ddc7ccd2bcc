/- The contract of the document's Function (chapter 4): is a type a function's? No conditions but those that each theorem names. -/
import Derived.Test.YtbdfjboojokgdaaDoorLook
namespace Go.Proofs.YtbdfjboojokgdaaDoor
open Go.RowKit

theorem isArrow_con {f : Ty} (h : f.isArrow = true) : f = .con ⟨#[45, 62]⟩ := by
  cases f with
  | con s => rw [(arrow_eq s).1 h]
  | _ => cases h
theorem sides_fn {t a b : Ty} (h : t.sides = some (a, b)) : t = Ty.fn a b := by
  unfold Ty.sides at h
  split at h
  · split at h
    · rename_i hf
      simp only [Option.some.injEq, Prod.mk.injEq] at h
      obtain ⟨rfl, rfl⟩ := h
      rw [isArrow_con hf]; rfl
    · cases h
  · cases h
set_option maxRecDepth 100000 in
set_option maxHeartbeats 1000000 in
theorem function_any (P : Nat → Prop) (t : Ty) (v : Value) (w : World) (h : TyAt P w t v) : Calls Tryd.prog 75 #[v] w fun e w' => e = .returned (.bool t.sides.isSome) ∧ Below w.heap.size w w' := by
  by_cases hap : t.isApp = true
  · obtain ⟨x, b, rfl⟩ : ∃ x b, t = .app x b := by cases t <;> first | exact ⟨_, _, rfl⟩ | cases hap
    obtain ⟨sv, rfl, hs⟩ := h.tys
    simp only [Ty.form, Ty.num, Ty.name, Ty.args] at hs ⊢
    obtain ⟨A, c, rfl, _, _⟩ := hs.form
    obtain ⟨g, off, A3, c3, rfl, hPg, hgl, k0, k1, k2, k3, hx⟩ := hs.at 0 (by simp)
    simp only [List.getElem_cons_zero, Nat.zero_mul, Nat.add_zero, List.length_cons, List.length_nil, Nat.zero_add, Nat.reduceAdd] at k0 k1 k2 k3 hx ⊢
    clear h hs hap
    by_cases hax : x.isApp = true
    · obtain ⟨f, a, rfl⟩ : ∃ f a, x = .app f a := by cases x <;> first | exact ⟨_, _, rfl⟩ | cases hax
      obtain ⟨sv, esv, hs⟩ := hx.tys
      simp only [Ty.form, Ty.num, Ty.name, Ty.args, Value.agg.injEq, Array.mk.injEq, List.cons.injEq, true_and, and_true, List.length_cons, List.length_nil, Nat.zero_add, Nat.reduceAdd] at esv hs k0 k1 k2 k3
      subst esv
      obtain ⟨g3, off3, A5, c5, e5, hP3, hg3, m0, m1, m2, m3, hf⟩ := hs.at 0 (by simp)
      subst e5
      simp only [List.getElem_cons_zero, Nat.zero_mul, Nat.add_zero] at m0 m1 m2 m3 hf
      clear hs hx hf hax
      have hcase : (f.form == 3) = false ∨ ∃ s, f = .con s := by cases f <;> first | exact .inl rfl | exact .inr ⟨_, rfl⟩
      rcases hcase with h3 | ⟨s, rfl⟩
      · have HE : Hid ((Ty.app (.app f a) b).sides.isSome = false) := by
          show (if f.isArrow then some (a, b) else none).isSome = false
          rw [if_neg (fun h => by rw [isArrow_con h] at h3; cases h3)]; rfl
        generalize f.form = ff, f.num = fn', f.name = fs, f.args.length = fl at *
        go_enter Tryd.func75, Tryd.ntmps75
        go_wp2
        go_ret
        exact ⟨ret_bool HE.out.symm, below2 w _ _⟩
      · have HE : Hid ((Ty.app (.app (.con s) a) b).sides.isSome = (s.toList == [45, 62])) := by
          show (if (Ty.con s).isArrow then some (a, b) else none).isSome = _
          rw [← list_arrow]
          cases hq : (s == (⟨#[45, 62]⟩ : ByteArray)) with
          | true => rw [if_pos (show (Ty.con s).isArrow = true from hq)]; rfl
          | false => rw [if_neg (show ¬ (Ty.con s).isArrow = true from fun h => by have h' : (s == (⟨#[45, 62]⟩ : ByteArray)) = true := h; rw [hq] at h'; cases h')]; rfl
        simp only [Ty.form, Ty.num, Ty.name, Ty.args, List.length_nil] at m0 m1 m2 m3
        go_enter Tryd.func75, Tryd.ntmps75
        go_wp2
        go_ret
        exact ⟨ret_bool HE.out.symm, below2 w _ _⟩
    · have HE : Hid ((Ty.app x b).sides.isSome = false) := by show _ = _; cases x <;> first | rfl | exact absurd rfl hax
      have h4 : (x.form != 4) = true := by cases x <;> first | rfl | exact absurd rfl hax
      clear hx hax
      generalize x.form = xf, x.num = xn, x.name = xs, x.args.length = xl at *
      go_enter Tryd.func75, Tryd.ntmps75
      go_wp2
      go_ret
      exact ⟨ret_bool HE.out.symm, below_new w _⟩
  · have hap' : t.isApp = false := by simpa using hap
    have HE : Hid (t.sides.isSome = false) := by show _ = _; rw [sides_leaf hap']; rfl
    obtain ⟨A, c, rfl, _, _⟩ := h.form
    have h4 : (t.form != 4) = true := by cases t <;> first | rfl | cases hap'
    clear h hap hap'
    generalize t.form = xf, t.num = xn, t.name = xs, t.args.length = xl at *
    go_enter Tryd.func75, Tryd.ntmps75
    go_wp2
    go_ret
    exact ⟨ret_bool HE.out.symm, below_new w _⟩
end Go.Proofs.YtbdfjboojokgdaaDoor
