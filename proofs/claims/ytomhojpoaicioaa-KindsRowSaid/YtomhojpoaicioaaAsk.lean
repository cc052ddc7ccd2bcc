/- An equation is asked of a solver, in a row of them. Conditions: those that each theorem names. -/
import Derived.Test.YtomhojpoaicioaaRowN
namespace Go.Proofs.Ytomhojpoaicioaa
open Go.RowKit Tm

structure AskSt (X : Nat → Prop) (W wx : World) (sb mb k : Nat) (es : List (Tm × Tm)) (b : Bool) (s : KS) (σ : Sb) : Prop where
  t : Top X 5 wx sb mb 0 s σ
  c : SB es b σ
  r : s.sz + leftN 5 σ ≤ 6 + 14 * (k + 1)
  d : DepB (k + 1) σ
  kp : Kept sb mb W wx
def AskRes (X : Nat → Prop) (W : World) (sb mb k : Nat) (es : List (Tm × Tm)) (e : Ending) (w' : World) : Prop := ∃ (q : Int) (b : Bool) (s : KS) (σ : Sb), e = .returned (.int .i64 q) ∧ (q != 0) = b ∧ AskSt X W w' sb mb k es b s σ
theorem ask_any (X : Nat → Prop) (W y : World) (sb mb k : Nat) (es : List (Tm × Tm)) (s : KS) (σ : Sb) (a b : Tm) (u v : Value) (hT : Top X 5 y sb mb 0 s σ) (hc : SB es false σ) (hr : s.sz + leftN 5 σ ≤ 6 + 14 * k) (hd : DepB k σ) (ha : Little 7 a) (hb : Little 7 b) (hk : k ≤ 10)
    (h1 : ZAt (PT X sb mb) y (emb a) u) (h2 : ZAt (PT X sb mb) y (emb b) v) (hX : ∀ b, X b → b < y.heap.size) (hW : Below W.heap.size W y) :
    Calls Try.prog 27 #[.pointer (some ⟨sb, 0, none⟩), u, v] y (AskRes X W sb mb k (es ++ [(a, b)])) := by
  have hid := hT.inv.st.idem
  obtain ⟨r, hans⟩ := ans_is (N := 5) hid hT.inv.inv ha.vars hb.vars
  have l1 := ha.arr
  have l2 := hb.arr
  refine (equal_any X 5 1000 y sb mb 0 s σ a b r u v hT h1 h2 hans ha.zero hb.zero ha.vars hb.vars (by omega) (by omega) (by omega) hX).mono ?_
  cases r with
  | ok σ' =>
    rintro e w' ⟨hkp, rfl, s', hT', hsz⟩
    exact ⟨0, false, s', σ', rfl, rfl, hT', sb_ok hc ha.vars hb.vars hans, by omega, dep_step hd hid hT.inv.inv ha hb hans, (Kept.of_below hW).trans hkp⟩
  | error c =>
    rintro e w' ⟨hkp, rfl, hT'⟩
    refine ⟨c, true, s, σ, rfl, ?_, hT', sb_err hc hans, by omega, dep_more hd (Nat.le_succ _), (Kept.of_below hW).trans hkp⟩
    have := ans_err hid hans
    rw [bne_iff_ne]; omega
/-- Skipped, as one was refused. -/
theorem ask_skip {X : Nat → Prop} {W y : World} {sb mb k : Nat} {es : List (Tm × Tm)} {s : KS} {σ : Sb} {a b : Tm} (hT : Top X 5 y sb mb 0 s σ) (hc : SB es true σ) (hr : s.sz + leftN 5 σ ≤ 6 + 14 * k) (hd : DepB k σ) (ha : Little 7 a) (hb : Little 7 b) (hW : Below W.heap.size W y) :
    AskSt X W y sb mb k (es ++ [(a, b)]) true s σ := ⟨hT, sb_skip hc ha.vars hb.vars, by omega, dep_more hd (Nat.le_succ _), .of_below hW⟩
theorem pt_new {X : Nat → Prop} {sb mb B : Nat} (h1 : sb < B) (h2 : mb < B) (h3 : ∀ b, X b → b < B) : ∀ b, B ≤ b → PT X sb mb b := fun b hb => ⟨by omega, by omega, fun h => by have := h3 b h; omega⟩
end Go.Proofs.Ytomhojpoaicioaa
