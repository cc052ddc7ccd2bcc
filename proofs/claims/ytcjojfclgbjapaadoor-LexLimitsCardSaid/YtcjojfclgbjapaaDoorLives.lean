/- Chapter 2's two Lex, read; the walk of its example ('lives'). Condition: the list of symbols stands in memory as the program's text lays it. -/
import Derived.Test.YtcjojfclgbjapaaDoorCodeF
namespace Go.Proofs.YtcjojfclgbjapaaDoor
open Go.RowKit

/-- What Lex answered, read: the tokens; or none, and the error and its place. -/
def LexedR (w : World) (r : Except (Nat × Nat) (List Tok)) (e : Ending) (w' : World) : Prop :=
  match r with
  | .error (c, p) => e = .returned (.tuple #[.slice none 0 0, .agg #[.int .i64 c, .int .i64 p]]) ∧ Below w.heap.size w w'
  | .ok l => ∃ v, e = .returned (.tuple #[v, .agg #[.int .i64 0, .int .i64 0]]) ∧ TokRow w' v l ∧ Below w.heap.size w w'
/-- The program's list of symbols stands in memory as its text lays it. -/
def SymsIn (w : World) : Prop := Texts 0 symsL w ∧ 0 < w.heap.size
theorem SymsIn.on {w w' : World} (h : SymsIn w) (hb : Below w.heap.size w w') : SymsIn w' := ⟨h.1.below hb h.2, Nat.lt_of_lt_of_le h.2 hb.size⟩
theorem lexR_any (s : ByteArray) (w : World) (hm : s.size ≤ 1099511627776) (hS : SymsIn w) : Calls Tryd.prog 12 #[.string s] w (LexedR w (lexL s.data.toList)) := by
  refine (lex_any s w hm hS.1 hS.2).mono ?_
  intro e w' h
  unfold LexedC at h
  unfold LexedR
  revert h
  cases lexL s.data.toList with
  | error c => exact id
  | ok l => rintro ⟨v, he, ho, hb⟩; exact ⟨v, he, tokRow_of_own ho, hb⟩
theorem reflexR_any (s : ByteArray) (w : World) (hm : s.size ≤ 1099511627776) : Calls Tryd.prog 13 #[.string s] w (LexedR w (lexL s.data.toList)) := by
  refine (reflex_any s w hm).mono ?_
  intro e w' h
  unfold Lexed at h
  unfold LexedR
  revert h
  cases lexL s.data.toList with
  | error c => exact id
  | ok l => rintro ⟨v, he, ho, hb⟩; exact ⟨v, he, tokRow_of_own ho, hb⟩

theorem tokRow_new (w : World) (l : List Tok) (t : TypeId) (cap : Nat) : TokRow (w.alloc (.cells (tokCells l).toArray t)) (.slice (some ⟨w.heap.size, 0, none⟩) l.length cap) l := by
  refine .inr ⟨w.heap.size, cap, rfl, by simp, fun j hj => ?_⟩
  have hc : ∀ i, i < 4 → (w.alloc (.cells (tokCells l).toArray t)).cell? ⟨w.heap.size, j * 4 + i, none⟩ = (tokC l[j])[i]? := fun i hi => by
    rw [World.cell?_alloc_at _ _ _ _ rfl]
    simpa using tokCells_at l j hj i hi
  exact ⟨(hc 0 (by omega)).trans rfl, (hc 1 (by omega)).trans rfl, (hc 2 (by omega)).trans rfl, (hc 3 (by omega)).trans rfl⟩
def exToks : List Tok := [⟨1, [102], 0, 0⟩, ⟨1, [120], 0, 2⟩, ⟨4, [61], 0, 3⟩, ⟨3, [49], 1, 4⟩, ⟨6, [], 0, 12⟩]
theorem lex_ex : lexL [102, 32, 120, 61, 49, 32, 45, 45, 32, 111, 110, 101] = .ok exToks := by rfl

set_option maxRecDepth 100000 in
set_option maxHeartbeats 1000000 in
theorem lives_any (w : World) (hS : SymsIn w) : Calls Tryd.prog 15 #[] w fun e w' => e = .returned (.bool true) ∧ Below w.heap.size w w' := by
  have HS := Lib.hid hS
  clear hS
  have heq := eq_at
  have hgd := guard_at
  go_enter Tryd.func15, Tryd.ntmps15
  go_wp2_with fail
  refine (lexR_any ⟨#[102, 32, 120, 61, 49, 32, 45, 45, 32, 111, 110, 101]⟩ _ (by decide) HS.out).mono ?_
  rw [show lexL (⟨#[102, 32, 120, 61, 49, 32, 45, 45, 32, 111, 110, 101]⟩ : ByteArray).data.toList = .ok exToks from lex_ex]
  rintro e w1 ⟨v, rfl, hr, hb⟩
  have HR := Lib.hid hr
  have HB := Lib.hid hb
  clear hr hb
  go_wp2_with fail
  have hT1 := (HR.out.below ((Below.refl _ _).alloc (Nat.le_refl _) (.cells #[.int .i64 0, .int .i64 0] 30))).below ((Below.refl _ _).alloc (Nat.le_refl _) (.cells (tokCells exToks).toArray 59))
  have hT2 : TokRow ((w1.alloc (.cells #[.int .i64 0, .int .i64 0] 30)).alloc (.cells (tokCells exToks).toArray 59)) (.slice (some ⟨w1.heap.size + 1, 0, none⟩) 5 5) exToks := by
    have h9 := tokRow_new (w1.alloc (.cells #[.int .i64 0, .int .i64 0] 30)) exToks 59 5
    rw [show (w1.alloc (.cells #[.int .i64 0, .int .i64 0] 30)).heap.size = w1.heap.size + 1 by simp] at h9
    exact h9
  have HBB : Hid (Below w.heap.size w ((w1.alloc (.cells #[.int .i64 0, .int .i64 0] 30)).alloc (.cells (tokCells exToks).toArray 59))) := (HB.out.alloc HB.out.size _).alloc (by have := HB.out.size; simp; omega) _
  refine (same_same exToks _ _ _ hT1 hT2 (by decide)).mono ?_
  rintro e w2 ⟨rfl, m, rfl⟩
  clear hT1 hT2
  go_wp2
  go_ret
  exact ⟨rfl, below_drewN HBB.out m⟩
end Go.Proofs.YtcjojfclgbjapaaDoor
