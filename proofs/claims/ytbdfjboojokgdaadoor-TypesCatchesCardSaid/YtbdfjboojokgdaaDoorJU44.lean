/- The contract of the document's Subst (chapter 4): any type. Conditions: at most 2^20 names and nodes, types of at most 2^20 nodes each. -/
import Derived.Test.YtbdfjboojokgdaaDoorJU43
namespace Go.Proofs.YtbdfjboojokgdaaDoor
open Go.RowKit

theorem subIs : ∀ n, SubIs n
  | 0 => fun P Q t σ v nv bv w hn => by cases t <;> simp [Ty.sz] at hn
  | n + 1 => fun P Q t σ v nv bv w hn hP h hs hb hσ hz => by
    have ih := subIs n
    cases t with
    | hole m => exact sub_leaf P Q _ σ v nv bv w rfl (by simp [Ty.form]) hP h hs hb
    | con s => exact sub_leaf P Q _ σ v nv bv w rfl (by simp [Ty.form]) hP h hs hb
    | var s => exact sub_var P Q s σ v nv bv w hP h hs hb
    | app a b => exact sub_app n ih P Q a b σ v nv bv w hn hP h hs hb hσ hz
    | all s a => exact sub_all n ih P Q s a σ v nv bv w hn hP h hs hb hσ hz
/-- The document's Subst: any type, any names, any types for them. -/
theorem refsub_any (Q : Nat → Prop) (t : Ty) (σ : List (ByteArray × Ty)) (v nv bv : Value) (w : World) (h : TyAt (fun b => b < w.heap.size) w t v) (hn : StrsAt Q w nv (σ.map (·.1))) (hb : TysAt (fun b => b < w.heap.size) w (σ.map (·.2)) bv) (hσ : ∀ p ∈ σ, p.2.sz ≤ 1048576) (hz : σ.length + t.sz ≤ 1048576) :
    Calls Tryd.prog 24 #[v, nv, bv] w fun e w' => ∃ u, e = .returned u ∧ TyAt (fun b => b < w'.heap.size) w' (t.sub σ) u ∧ Below w.heap.size w w' := by
  refine (subIs t.sz _ Q t σ v nv bv w (Nat.le_refl _) (fun _ h => h) h hn hb hσ hz).mono ?_
  rintro e w' ⟨u, h1, h2, h3⟩
  exact ⟨u, h1, h2.bound', h3⟩
end Go.Proofs.YtbdfjboojokgdaaDoor
