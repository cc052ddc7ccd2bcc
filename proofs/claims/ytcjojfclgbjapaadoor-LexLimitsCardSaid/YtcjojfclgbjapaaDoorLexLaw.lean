/- The contracts of the helpers of chapter 2's laws: same, source, words, and of the document's Print, Texts, Gap. No conditions but those that each theorem names. -/
import Derived.Test.YtcjojfclgbjapaaDoorLexLex
namespace Go.Proofs.YtcjojfclgbjapaaDoor
open Go.RowKit

/-- A slice value that reads as these tokens. -/
def TokRow (w : World) (v : Value) (l : List Tok) : Prop :=
  (v = .slice none 0 0 ∧ l = []) ∨ ∃ g cap, v = .slice (some ⟨g, 0, none⟩) l.length cap ∧ g < w.heap.size ∧ ∀ j (h : j < l.length),
    w.cell? ⟨g, j * 4, none⟩ = some (.int .i64 l[j].kind) ∧ w.cell? ⟨g, j * 4 + 1, none⟩ = some (.string ⟨l[j].text.toArray⟩) ∧ w.cell? ⟨g, j * 4 + 2, none⟩ = some (.int .i64 l[j].num) ∧ w.cell? ⟨g, j * 4 + 3, none⟩ = some (.int .i64 l[j].place)

theorem tokCells_at (l : List Tok) : ∀ (j : Nat) (h : j < l.length) (i : Nat) (_ : i < 4), (tokCells l)[j * 4 + i]? = (tokC l[j])[i]? := by
  induction l with
  | nil => intro j h; exact absurd h (Nat.not_lt_zero _)
  | cons t r ih =>
    intro j h i hi
    have e : tokCells (t :: r) = tokC t ++ tokCells r := by simp [tokCells]
    rw [e]
    cases j with
    | zero => rw [List.getElem?_append_left (by simp [tokC]; omega)]; simp
    | succ j =>
      rw [List.getElem?_append_right (by simp [tokC]; omega)]
      rw [show (j + 1) * 4 + i - (tokC t).length = j * 4 + i by simp [tokC]; omega]
      have := ih j (by simpa using h) i hi
      rw [this]; simp
theorem tokRow_of_own {w : World} {base e : Nat} {v : Value} {l : List Tok} (h : w.ownsRow base e 4 v l.length (tokCells l)) : TokRow w v l := by
  rcases h.2 with ⟨hv, h0⟩ | ⟨g, cap, cur, hv, hg, hh, _, _, _, _⟩
  · exact .inl ⟨hv, List.eq_nil_of_length_eq_zero h0⟩
  · subst hv
    refine .inr ⟨g, cap, rfl, ?_, fun j hj => ?_⟩
    · rcases Nat.lt_or_ge g w.heap.size with h9 | h9
      · exact h9
      · rw [Array.getElem?_eq_none h9] at hh; cases hh
    · have hc : ∀ i, i < 4 → w.cell? ⟨g, j * 4 + i, none⟩ = (tokC l[j])[i]? := fun i hi => by
        rw [h.cellAt (j * 4 + i) (by omega)]; exact tokCells_at l j hj i hi
      exact ⟨(hc 0 (by omega)).trans rfl, (hc 1 (by omega)).trans rfl, (hc 2 (by omega)).trans rfl, (hc 3 (by omega)).trans rfl⟩
theorem TokRow.below {w w' : World} {v : Value} {l : List Tok} (h : TokRow w v l) (hb : Below w.heap.size w w') : TokRow w' v l := by
  rcases h with h | ⟨g, cap, hv, hg, hc⟩
  · exact .inl h
  · refine .inr ⟨g, cap, hv, Nat.lt_of_lt_of_le hg hb.size, fun j hj => ?_⟩
    obtain ⟨a, b, c, d⟩ := hc j hj
    exact ⟨(hb.cell hg).trans a, (hb.cell hg).trans b, (hb.cell hg).trans c, (hb.cell hg).trans d⟩

/-! ### Equality of structs -/
theorem eq_tok (a a' c c' d d' : Int) (b b' : ByteArray) (w : World) : (Op.equalIn 10000 59 (.agg #[.int .i64 a, .string b, .int .i64 c, .int .i64 d]) (.agg #[.int .i64 a', .string b', .int .i64 c', .int .i64 d'])).run Tryd.prog w = .ok (a == a' && b.toList == b'.toList && c == c' && d == d') w := by
  have u3 := Tryd.underlying3
  have a3 := Tryd.isAgg3
  have z3 := Tryd.sizeOf3
  have u9 := Tryd.underlying9
  have a9 := Tryd.isAgg9
  have z9 := Tryd.sizeOf9
  have hS : Tryd.prog.underlying 59 = some (.struct (Tryd.prog.fieldsOf 59)) := by kernel_rfl
  have hp : Tryd.prog.stoodInHeld 59 = false := by kernel_rfl
  rw [show (10000 : Nat) = 9999 + 1 from rfl, run_equalIn_agg w 9999 59 _ _ hS hp]
  simp only [Program.fieldsOf, Tryd.underlying59]
  go_simp
  by_cases h1 : a = a' <;> by_cases h2 : b.toList = b'.toList <;> by_cases h3 : c = c' <;> by_cases h4 : d = d' <;> simp [h1, h2, h3, h4]
theorem guard_tok : Tryd.prog.eqGuardType Tryd.prog.depth 59 = false := by kernel_rfl
theorem eq_at (a a' c c' : Int) (w : World) : (Op.equalIn 10000 30 (.agg #[.int .i64 a, .int .i64 c]) (.agg #[.int .i64 a', .int .i64 c'])).run Tryd.prog w = .ok (a == a' && c == c') w := by
  have u3 := Tryd.underlying3
  have a3 := Tryd.isAgg3
  have z3 := Tryd.sizeOf3
  have u28 := Tryd.underlying28
  have a28 := Tryd.isAgg28
  have z28 := Tryd.sizeOf28
  have hS : Tryd.prog.underlying 30 = some (.struct (Tryd.prog.fieldsOf 30)) := by kernel_rfl
  have hp : Tryd.prog.stoodInHeld 30 = false := by kernel_rfl
  rw [show (10000 : Nat) = 9999 + 1 from rfl, run_equalIn_agg w 9999 30 _ _ hS hp]
  simp only [Program.fieldsOf, Tryd.underlying30]
  go_simp
  by_cases h1 : a = a' <;> by_cases h3 : c = c' <;> simp [h1, h3]
theorem guard_at : Tryd.prog.eqGuardType Tryd.prog.depth 30 = false := by kernel_rfl

set_option maxRecDepth 100000 in
set_option maxHeartbeats 1000000 in
/-- same, of rows that read as the same tokens. -/
theorem same_same (a : List Tok) (v1 v2 : Value) (w : World) (h1 : TokRow w v1 a) (h2 : TokRow w v2 a) (hn : a.length ≤ 1000000) :
    Calls Tryd.prog 14 #[v1, v2] w fun e w' => e = .returned (.bool true) ∧ ∃ m, w' = w.drewN m := by
  have heq := eq_tok
  have hgd := guard_tok
  have HEQ := Lib.hid heq
  have HGD := Lib.hid hgd
  clear heq hgd
  have hrows : (v1 = .slice none 0 0 ∧ v2 = .slice none 0 0 ∧ a = []) ∨ (∃ A1 A2 c1 c2, v1 = .slice A1 a.length c1 ∧ v2 = .slice A2 a.length c2 ∧ (0 < a.length → ∃ g1 g2, A1 = some ⟨g1, 0, none⟩ ∧ A2 = some ⟨g2, 0, none⟩ ∧ TokRow w v1 a ∧ TokRow w v2 a)) := by
    rcases h1 with ⟨e1, rfl⟩ | ⟨g1, c1, e1, r1⟩
    · rcases h2 with ⟨e2, _⟩ | ⟨g2, c2, e2, _⟩
      · exact .inl ⟨e1, e2, rfl⟩
      · exact .inr ⟨none, _, 0, c2, e1, e2, fun h => absurd h (by simp)⟩
    · rcases h2 with ⟨e2, rfl⟩ | ⟨g2, c2, e2, r2⟩
      · exact .inr ⟨_, none, c1, 0, e1, e2, fun h => absurd h (by simp)⟩
      · exact .inr ⟨_, _, c1, c2, e1, e2, fun _ => ⟨g1, g2, rfl, rfl, .inr ⟨g1, c1, e1, r1⟩, .inr ⟨g2, c2, e2, r2⟩⟩⟩
  have hform : ∃ A1 A2 c1 c2, v1 = .slice A1 a.length c1 ∧ v2 = .slice A2 a.length c2 := by
    rcases hrows with ⟨rfl, rfl, rfl⟩ | ⟨A1, A2, c1, c2, e1, e2, _⟩
    · exact ⟨none, none, 0, 0, rfl, rfl⟩
    · exact ⟨A1, A2, c1, c2, e1, e2⟩
  clear hrows
  obtain ⟨A1, A2, c1, c2, rfl, rfl⟩ := hform
  have H1 := Lib.hid h1
  have H2 := Lib.hid h2
  clear h1 h2
  go_enter Tryd.func14, Tryd.ntmps14
  go_wp2
  go_loopw [5] (fun i wr => ∃ k m : Nat, k ≤ a.length ∧ i = .int .i64 k ∧ wr = w.drewN m) (fun i _ => a.length - (intOf i).toNat)
  case atStart => exact ⟨0, 0, Nat.zero_le _, rfl, rfl⟩
  case round =>
    obtain ⟨k, m, hk, rfl, rfl⟩ := hrel
    by_cases hlt : k < a.length
    · obtain ⟨g1, d1, e1, _, r1⟩ : ∃ g1 cap, Value.slice A1 a.length c1 = .slice (some ⟨g1, 0, none⟩) a.length cap ∧ _ := by
        rcases H1.out with ⟨_, h9⟩ | h9
        · rw [h9] at hlt; simp at hlt
        · exact h9
      obtain ⟨g2, d2, e2, _, r2⟩ : ∃ g2 cap, Value.slice A2 a.length c2 = .slice (some ⟨g2, 0, none⟩) a.length cap ∧ _ := by
        rcases H2.out with ⟨_, h9⟩ | h9
        · rw [h9] at hlt; simp at hlt
        · exact h9
      have e1' : A1 = some ⟨g1, 0, none⟩ := by injection e1
      have e2' : A2 = some ⟨g2, 0, none⟩ := by injection e2
      clear e1 e2
      subst e1' e2'
      obtain ⟨p0, p1, p2, p3⟩ := r1 k hlt
      obtain ⟨q0, q1, q2, q3⟩ := r2 k hlt
      have HR1 := Lib.hid r1
      have HR2 := Lib.hid r2
      clear r1 r2
      generalize a[k] = x at *
      have hk' : (k : Int) < (a.length : Int) := by omega
      have hk0 : (0 : Int) ≤ (k : Int) := by omega
      have heq := HEQ.out
      have hgd := HGD.out
      go_wp2_with fail
      go_quiet (fail)
      go_wp2
      go_roundw
      case rel => exact ⟨k + 1, _, by omega, by go_num, rfl⟩
      case measure => simp [intOf]; omega
    · have hd : decide (k < a.length) = false := by simpa using hlt
      go_wp2
      go_ret
      exact ⟨rfl, m, rfl⟩
end Go.Proofs.YtcjojfclgbjapaaDoor
