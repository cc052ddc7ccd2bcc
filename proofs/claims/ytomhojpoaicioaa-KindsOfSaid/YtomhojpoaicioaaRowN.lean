/- KindsRow (chapter 3): how deep what is known may be; two solvers beside each other; the document's terms in boxes. Conditions: those that each theorem names. -/
import Derived.Test.YtomhojpoaicioaaRowM
import Derived.Test.YtomhojpoaicioaaMat
namespace Go.Proofs.Ytomhojpoaicioaa
open Go.RowKit Tm

theorem depth_arrN : ∀ t : Tm, t.depth ≤ arrN t
  | .var _ => Nat.zero_le _
  | .star => Nat.zero_le _
  | .arr a b => by have := depth_arrN a; have := depth_arrN b; simp only [Tm.depth, arrN]; omega
theorem left_le (σ : Sb) : leftN 5 σ ≤ 6 := by
  unfold leftN
  exact Nat.le_trans (List.length_filter_le _ _) (by simp)
/-- Behind k equations of terms of at most 7 arrows. -/
def DepB (k : Nat) (σ : Sb) : Prop := ∀ n, (σ n).depth * 2 ^ leftN 5 σ ≤ 448 * k
theorem dep_var : DepB 0 var := fun n => by show (Tm.var n).depth * _ ≤ _; simp [Tm.depth]
theorem dep_more {k k' : Nat} {σ : Sb} (h : DepB k σ) (hk : k ≤ k') : DepB k' σ := fun n => Nat.le_trans (h n) (Nat.mul_le_mul_left _ hk)
theorem dep_le {k : Nat} {σ : Sb} (h : DepB k σ) (n : Nat) : (σ n).depth ≤ 448 * k := by
  have h1 := h n
  have h2 : 1 ≤ 2 ^ leftN 5 σ := Nat.one_le_two_pow
  have := Nat.mul_le_mul_left (σ n).depth h2
  omega
theorem dep_step {k : Nat} {σ σ' : Sb} {a b : Tm} (h : DepB k σ) (hi : Idem σ) (hv : InV 5 σ) (ha : Little 7 a) (hb : Little 7 b) (hr : Ans σ a b (.ok σ')) : DepB (k + 1) σ' := by
  obtain ⟨f, hf, _⟩ := hr
  have hp : 0 < 2 ^ leftN 5 σ := Nat.two_pow_pos _
  have hD : ∀ n, (σ n).depth ≤ 448 * k / 2 ^ leftN 5 σ := fun n => (Nat.le_div_iff_mul_le hp).2 (h n)
  have hs : ∀ t : Tm, t.depth ≤ 7 → (t.sub σ).depth ≤ 448 * k / 2 ^ leftN 5 σ + 7 := fun t ht => by
    have := depth_sub_le (σ := σ) (d := 448 * k / 2 ^ leftN 5 σ) (t := t) (fun n _ => hD n)
    omega
  have da := Nat.le_trans (depth_arrN a) ha.arr
  have db := Nat.le_trans (depth_arrN b) hb.arr
  obtain ⟨hl, hdeep⟩ := unif_deep 5 f σ σ' a b _ hi hv ha.vars hb.vars hf (hs a da) (hs b db)
  intro n
  have h1 : (σ' n).depth ≤ 2 ^ (leftN 5 σ - leftN 5 σ') * (448 * k / 2 ^ leftN 5 σ + 7) := hdeep (.var n) (by have := hD n; show (σ n).depth ≤ _; omega)
  have h2 := Nat.mul_le_mul_right (2 ^ leftN 5 σ') h1
  have e : 2 ^ (leftN 5 σ - leftN 5 σ') * (448 * k / 2 ^ leftN 5 σ + 7) * 2 ^ leftN 5 σ' = 2 ^ leftN 5 σ * (448 * k / 2 ^ leftN 5 σ + 7) := by
    rw [Nat.mul_right_comm, ← Nat.pow_add, show leftN 5 σ - leftN 5 σ' + leftN 5 σ' = leftN 5 σ by omega]
  rw [e, Nat.mul_add] at h2
  have h3 := Nat.mul_div_le (448 * k) (2 ^ leftN 5 σ)
  have h4 : 2 ^ leftN 5 σ ≤ 2 ^ 6 := Nat.pow_le_pow_right (by omega) (left_le σ)
  have h5 : (2 : Nat) ^ 6 = 64 := by decide
  rw [Nat.mul_add]
  omega
/-- A solver stands, whatever becomes of another one. -/
theorem Top.beside {X : Nat → Prop} {N : Nat} {w w' : World} {sb mb sb1 mb1 : Nat} {made : Int} {s : KS} {σ : Sb} (h : Top X N w sb mb made s σ) (hk : Kept sb1 mb1 w w') (e1 : sb ≠ sb1) (e2 : sb ≠ mb1) (e3 : mb ≠ sb1) (e4 : mb ≠ mb1) (h1 : X sb1) (h2 : X mb1) : Top X N w' sb mb made s σ := by
  have hs := hk.block sb h.sol.lt ⟨e1, e2⟩
  have hkp : Keeps (PT X sb mb) w w' := ⟨hk.size, fun b o hp hlt => World.cell?_of_block (hk.block b hlt ⟨fun e => hp.2.2 (e ▸ h1), fun e => hp.2.2 (e ▸ h2)⟩)⟩
  refine ⟨⟨(World.cell?_of_block hs).trans h.sol.c0, (World.cell?_of_block hs).trans h.sol.c1, (World.frozen?_of_block hs).trans h.sol.f0, Nat.lt_of_lt_of_le h.sol.lt hk.size, ?_⟩, h.inv, h.ne, h.log⟩
  have hm := h.sol.known.lt
  obtain ⟨f, hmap, hf⟩ := h.sol.known
  refine ⟨f, hmap.block (hk.block mb hm ⟨e3, e4⟩), fun x => ?_⟩
  have h9 := hf x
  cases e : s.kn x with
  | none => rw [e] at h9; exact h9
  | some t => rw [e] at h9; obtain ⟨v, q1, q2⟩ := h9; exact ⟨v, q1, q2.keep hkp⟩
/-- A box of one of the document's terms. -/
structure TT (P : Nat → Prop) (q : World) (g : Nat) (t : Tm) (A : Option Addr) (c : Nat) : Prop where
  c0 : q.cell? ⟨g, 0, none⟩ = some (.int .i64 (formT t))
  c1 : q.cell? ⟨g, 1, none⟩ = some (.int .i64 (numT t))
  c2 : q.cell? ⟨g, 2, none⟩ = some (.slice A (argsT t) c)
  tt : TAt P q t (.agg #[.int .i64 (formT t), .int .i64 (numT t), .slice A (argsT t) c])
theorem TT.lt {P : Nat → Prop} {q : World} {g : Nat} {t : Tm} {A : Option Addr} {c : Nat} (h : TT P q g t A c) : g < q.heap.size := World.block_lt_of_cell? q _ h.c0
theorem TT.keep {P : Nat → Prop} {q q1 : World} {g : Nat} {t : Tm} {A : Option Addr} {c : Nat} (h : TT P q g t A c) (hb : q1.heap[g]? = q.heap[g]?) (hk : Keeps P q q1) : TT P q1 g t A c :=
  ⟨(World.cell?_of_block hb).trans h.c0, (World.cell?_of_block hb).trans h.c1, (World.cell?_of_block hb).trans h.c2, h.tt.keep hk⟩
theorem TT.on {P : Nat → Prop} {q q1 : World} {g : Nat} {t : Tm} {A : Option Addr} {c : Nat} (h : TT P q g t A c) (hb : Below q.heap.size q q1) : TT P q1 g t A c := h.keep (hb.block g h.lt) (.of_below hb)
theorem TT.kept {P : Nat → Prop} {q q1 : World} {g sb mb : Nat} {t : Tm} {A : Option Addr} {c : Nat} (h : TT P q g t A c) (hk : Kept sb mb q q1) (hg : g ≠ sb ∧ g ≠ mb) (hP : ∀ b, P b → b ≠ sb ∧ b ≠ mb) : TT P q1 g t A c := h.keep (hk.block g h.lt hg) ⟨hk.size, fun b _ hp hlt => World.cell?_of_block (hk.block b hlt (hP b hp))⟩
theorem TT.of {P : Nat → Prop} {q : World} {g : Nat} {t : Tm} {A : Option Addr} {c : Nat} {ty : TypeId} (hb : q.heap[g]? = some (.cells #[.int .i64 (formT t), .int .i64 (numT t), .slice A (argsT t) c] ty)) (hz : TAt P q t (.agg #[.int .i64 (formT t), .int .i64 (numT t), .slice A (argsT t) c])) : TT P q g t A c :=
  ⟨by simp [World.cell?, hb], by simp [World.cell?, hb], by simp [World.cell?, hb], hz⟩
theorem top_new {X : Nat → Prop} {w : World} {sb mb : Nat} (h : ∀ P, SolAt P w sb mb 0 0 (fun _ => none)) (hne : sb ≠ mb) : Top X 5 w sb mb 0 ⟨fun _ => none, 0, []⟩ var :=
  ⟨h _, ⟨st_empty, fun k _ h => absurd rfl h, inV_var, fun _ _ _ h => by cases h⟩, hne, rfl⟩
end Go.Proofs.Ytomhojpoaicioaa
