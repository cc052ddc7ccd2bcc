/- TypesComposes (chapter 4): how great and how long of name a type is into which others were put; types of the small world are of 97 nodes at most. No program, but for what is handed to types.Subst. Conditions: those that each theorem names. -/
import Derived.Test.YtbdfjboojokgdaaDoorJC37
import Derived.Test.YtbdfjboojokgdaaDoorJC46
namespace Go.Proofs.YtbdfjboojokgdaaDoor
open Go.RowKit

theorem built_szN : ∀ (f : Nat) (l : List Int), (builtZ f l).1.sz + 4 * (builtZ f l).2.length ≤ 4 * l.length + 1
  | f, [] => by
    have : builtZ f [] = (.con ⟨#[73, 110, 116]⟩, []) := by cases f <;> rfl
    rw [this]; simp [Ty.sz]
  | 0, z :: l => by show (leafZ _ _).sz + 4 * l.length ≤ _; rw [leaf_szB, List.length_cons]; omega
  | f + 1, z :: l => by
    have h1 := built_szN f l
    have h2 := built_szN f (builtZ f l).2
    rw [builtZ, List.length_cons]
    split
    · show (leafZ _ _).sz + 4 * l.length ≤ _; rw [leaf_szB]; omega
    · split
      · show (builtZ f l).1.sz + 1 + 4 * (builtZ f l).2.length ≤ _; omega
      · show (ite _ _ _ : Ty).sz + 4 * (builtZ f (builtZ f l).2).2.length ≤ _
        split
        · show (1 + (builtZ f l).1.sz + 1) + (builtZ f (builtZ f l).2).1.sz + 1 + _ ≤ _; omega
        · show (builtZ f l).1.sz + (builtZ f (builtZ f l).2).1.sz + 1 + _ ≤ _; omega
theorem madeZ_szN (zs : List Int) : (madeZ zs).sz ≤ 97 := by
  have h := built_szN 5 (zs.take 24)
  have h2 : (zs.take 24).length ≤ 24 := by rw [List.length_take]; omega
  unfold madeZ; omega
theorem sz_subM : ∀ (t : Ty) (m : Nat) (σ : List (ByteArray × Ty)), 1 ≤ m → (∀ p ∈ σ, p.2.sz ≤ m) → (t.sub σ).sz ≤ t.sz * m
  | .hole _, m, _, hm, _ => by show 1 ≤ 1 * m; omega
  | .var s, m, σ, hm, hs => lookS_P (P := fun u => u.sz ≤ 1 * m) (fun p hp => by rw [Nat.one_mul]; exact hs p hp) (by show 1 ≤ 1 * m; omega)
  | .con _, m, _, hm, _ => by show 1 ≤ 1 * m; omega
  | .app a b, m, σ, hm, hs => by
    have h1 := sz_subM a m σ hm hs
    have h2 := sz_subM b m σ hm hs
    simp only [Ty.sub, Ty.sz]
    rw [Nat.add_mul, Nat.add_mul]; omega
  | .all s a, m, σ, hm, hs => by
    have hil : ∀ p ∈ intoB s a σ, p.2.sz ≤ m := fun p hp => hs p (mem_intoB hp)
    simp only [Ty.sub]
    split
    · simp only [Ty.sz]
      have h1 := sz_subM a m (intoB s a σ ++ [(s, .var (freshB a (intoB s a σ)))]) hm (fun p hp => by
        rw [List.mem_append, List.mem_singleton] at hp
        rcases hp with hp | rfl
        · exact hil p hp
        · exact hm)
      rw [Nat.add_mul]; omega
    · simp only [Ty.sz]
      have h1 := sz_subM a m _ hm hil
      rw [Nat.add_mul]; omega
theorem taken_into_len (s : ByteArray) (b : Ty) (σ : List (ByteArray × Ty)) : (takenB (intoB s b σ)).length ≤ (takenB σ).length := by
  unfold takenB intoB
  induction σ with
  | nil => simp
  | cons p r ih =>
    rw [List.filter_cons]
    split
    · rw [List.flatMap_cons, List.flatMap_cons, List.length_append, List.length_append]; omega
    · rw [List.flatMap_cons, List.length_append]; omega
theorem freshB_size (b : Ty) (τ : List (ByteArray × Ty)) : (freshB b τ).size ≤ (takenB τ).length + b.sz + 2 := by
  unfold freshB
  have h1 := letN_le (fun x => hasB (takenB τ ++ b.free) x) (takenB τ ++ b.free).length 0
  have h2 := letB_size (letN (fun x => hasB (takenB τ ++ b.free) x) (takenB τ ++ b.free).length 0)
  have h4 := freeT_len b
  rw [List.length_append] at h1 h2
  rw [List.length_append]
  omega
theorem short_sub : ∀ (t : Ty) (σ : List (ByteArray × Ty)), t.short → (∀ p ∈ σ, p.2.short) → (takenB σ).length + 2 * t.sz + 4 ≤ 1099511627776 → (t.sub σ).short
  | .hole _, _, _, _, _ => trivial
  | .var s, σ, h, hs, _ => lookS_P (P := fun u => u.short) (fun p hp => hs p hp) h
  | .con _, _, h, _, _ => h
  | .app a b, σ, h, hs, hz => by
    simp only [Ty.sz] at hz
    exact ⟨short_sub a σ h.1 hs (by omega), short_sub b σ h.2 hs (by omega)⟩
  | .all s a, σ, h, hs, hz => by
    simp only [Ty.sz] at hz
    have hi := taken_into_len s a σ
    have hil : ∀ p ∈ intoB s a σ, p.2.short := fun p hp => hs p (mem_intoB hp)
    have hf := freshB_size a (intoB s a σ)
    simp only [Ty.sub]
    split
    · have hsh : (freshB a (intoB s a σ)).size ≤ 1099511627776 := by omega
      have ht : (takenB (intoB s a σ ++ [(s, .var (freshB a (intoB s a σ)))])).length ≤ (takenB σ).length + 1 := by
        have h1 := freeT_len (.var (freshB a (intoB s a σ)))
        have h2 : (Ty.var (freshB a (intoB s a σ))).sz = 1 := rfl
        generalize (Ty.var (freshB a (intoB s a σ))) = vv at *
        unfold takenB at hi ⊢
        simp only [List.flatMap_append, List.length_append, List.flatMap_singleton]
        omega
      exact ⟨hsh, short_sub a _ h.2 (fun p hp => by
        rw [List.mem_append, List.mem_singleton] at hp
        rcases hp with hp | rfl
        · exact hil p hp
        · exact hsh) (by omega)⟩
    · exact ⟨h.1, short_sub a _ h.2 hil (by omega)⟩
/-- Put one type, of bounds. -/
structure Fit (m : Nat) (t : Ty) : Prop where
  sh : t.short
  sz : t.sz ≤ m
theorem fit_made (zs : List Int) : Fit 97 (madeZ zs) := ⟨short_lt _ (world_lt _ (madeZ_world zs)), madeZ_szN zs⟩
theorem taken_one (s : ByteArray) (x : Ty) : (takenB [(s, x)]).length ≤ x.sz := by
  unfold takenB
  rw [List.flatMap_singleton]
  exact freeT_len x
theorem Fit.sub {m n : Nat} {t x : Ty} (s : ByteArray) (h : Fit m t) (hx : Fit n x) (hn : 1 ≤ n) (hm : m ≤ 1048576) (hn2 : n ≤ 1048576) : Fit (m * n) (t.sub [(s, x)]) := by
  have h1 := taken_one s x
  have h2 := hx.sz
  have h3 := h.sz
  refine ⟨short_sub t _ h.sh (fun p hp => ?_) (by omega), Nat.le_trans (sz_subM t n _ hn (fun p hp => ?_)) (Nat.mul_le_mul_right _ h.sz)⟩
  · rw [List.mem_singleton] at hp; subst hp; exact hx.sh
  · rw [List.mem_singleton] at hp; subst hp; exact hx.sz
/-- types.Subst where one name is put. -/
theorem subst_one {P Q R : Nat → Prop} {m n : Nat} {t x : Ty} {s : ByteArray} {v nv bv : Value} {w : World} (h : TyAt P w t v) (hn : StrsAt Q w nv [s]) (hb : TysAt R w [x] bv) (ft : Fit m t) (fx : Fit n x) (hs : s.size ≤ 1048576) (hm : m ≤ 16384) (hn2 : n ≤ 16384) (htab : TabW w) :
    Calls Tryd.prog 29 #[v, nv, bv] w fun e w' => ∃ u, e = .returned u ∧ TyAt (fun b => w.heap.size ≤ b) w' (t.sub [(s, x)]) u ∧ Below w.heap.size w w' := by
  have h1 := taken_one s x
  have h2 := fx.sz
  have h3 := ft.sz
  refine subst_any Q t [(s, x)] v nv bv w (h.bound.mono (fun b hb => hb.2)) hn (show TysAt (fun b => b < w.heap.size) w [x] bv from hb.bound') ft.sh (fun p hp => ?_) (by simp) (by rw [List.length_singleton]; omega) (by omega) htab
  rw [List.mem_singleton] at hp; subst hp
  exact ⟨by show s.size ≤ _; omega, fx.sh, by show x.sz ≤ _; omega⟩
end Go.Proofs.YtbdfjboojokgdaaDoor
