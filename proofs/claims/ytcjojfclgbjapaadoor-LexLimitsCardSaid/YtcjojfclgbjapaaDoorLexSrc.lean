/- Plain mathematics of chapter 2: the tokens of texts of tokens with blanks between are these texts. No program, no world. -/
import Derived.Test.YtcjojfclgbjapaaDoorLexM
import Derived.KernelRfl
namespace Go.Proofs.YtcjojfclgbjapaaDoor

def textsL : List (List UInt8) := [[102], [120], [120, 115], [97], [84], [67, 111, 110, 115], [78, 105, 108], [100, 97, 116, 97], [99, 108, 97, 115, 115], [105, 110, 115, 116, 97, 110, 99, 101], [108, 101, 116], [105, 110], [99, 97, 115, 101], [111, 102], [45, 62], [61, 62], [92], [61], [124], [40], [41], [123], [125], [59], [58], [44], [95], [48], [55], [50, 49, 52, 55, 52, 56, 51, 54, 52, 55], [120, 39], [97, 95, 98], [99, 97, 115, 69], [105, 110, 49]]
def gapsL : List (List UInt8) := [[32], [10], [32, 32], [9], [32, 45, 45, 32, 97, 32, 98, 10], [45, 45, 10], [10, 10]]
def kindN (t : List UInt8) : Nat := match oneT t with | .ok (k, _, _) => k | .error _ => 0
def numN (t : List UInt8) : Nat := match oneT t with | .ok (_, _, n) => n | .error _ => 0
def srcL (ps : List (List UInt8 × List UInt8)) : List UInt8 := ps.flatMap (fun p => p.1 ++ p.2)
def toksOf : List (List UInt8 × List UInt8) → Nat → List Tok
  | [], _ => []
  | p :: r, i => ⟨kindN p.2, p.2, numN p.2, i + p.1.length⟩ :: toksOf r (i + p.1.length + p.2.length)

/-- Lexing, with as much fuel as there are bytes. -/
def lexA (l : List UInt8) (i : Nat) : Except (Nat × Nat) (List Tok) := lexF l.length l i
theorem lexA_nil (i : Nat) : lexA [] i = .ok [⟨6, [], 0, i⟩] := rfl
theorem lexA_blank {l : List UInt8} (i n : Nat) (h : blankN l = n) (hn : 0 < n) : lexA l i = lexA (l.drop n) (i + n) := by
  subst h
  have hl := blankN_le l
  have hne : l ≠ [] := by rintro rfl; exact absurd hn (by decide)
  obtain ⟨g, hg⟩ : ∃ g, l.length = g + 1 := ⟨l.length - 1, by omega⟩
  unfold lexA
  rw [hg]
  simp only [lexF, hne, if_false, hn, if_true]
  exact lexF_more _ _ _ _ (by simp; omega) (Nat.le_refl _)
theorem lexA_tok {l : List UInt8} (i k n : Nat) (x : List UInt8) (hb : blankN l = 0) (h : oneT l = .ok (k, x, n)) : lexA l i = (lexA (l.drop x.length) (i + x.length)).map (fun r => ⟨k, x, n, i⟩ :: r) := by
  have hl := oneT_len h
  have hne : l ≠ [] := by rintro rfl; have h1 := hl.1; have h2 : x.length ≤ 0 := hl.2; omega
  obtain ⟨g, hg⟩ : ∃ g, l.length = g + 1 := ⟨l.length - 1, by omega⟩
  unfold lexA
  rw [hg]
  simp only [lexF, hne, if_false, hb, Nat.lt_irrefl, h]
  rw [lexF_more g _ _ _ (by simp; omega) (Nat.le_refl _)]

/-- Blanks that may stand between tokens. -/
theorem lexA_gap (g x : List UInt8) (hg : g ∈ gapsL) (i : Nat) : lexA (g ++ x) i = lexA x (i + g.length) := by
  simp only [gapsL, List.mem_cons, List.not_mem_nil, or_false] at hg
  rcases hg with rfl | rfl | rfl | rfl | rfl | rfl | rfl
  · exact lexA_blank i 1 rfl (by decide)
  · exact lexA_blank i 1 rfl (by decide)
  · rw [lexA_blank i 1 rfl (by decide)]; exact lexA_blank (i + 1) 1 rfl (by decide)
  · exact lexA_blank i 1 rfl (by decide)
  · rw [lexA_blank i 1 rfl (by decide), lexA_blank (i + 1) 6 rfl (by decide)]; exact lexA_blank (i + 1 + 6) 1 rfl (by decide)
  · rw [lexA_blank i 2 rfl (by decide)]; exact lexA_blank (i + 2) 1 rfl (by decide)
  · rw [lexA_blank i 1 rfl (by decide)]; exact lexA_blank (i + 1) 1 rfl (by decide)

/-- What may stand behind a token: nothing, or a byte that goes on no token. -/
def Ends (x : List UInt8) : Prop := x = [] ∨ ∃ c y, x = c :: y ∧ (c = 32 ∨ c = 10 ∨ c = 9 ∨ c = 45)
theorem ends_gap (g x : List UInt8) (hg : g ∈ gapsL) : Ends (g ++ x) := by
  simp only [gapsL, List.mem_cons, List.not_mem_nil, or_false] at hg
  rcases hg with rfl | rfl | rfl | rfl | rfl | rfl | rfl
  all_goals exact .inr ⟨_, _, rfl, by decide⟩

set_option maxRecDepth 100000 in
theorem one_text (t x : List UInt8) (ht : t ∈ textsL) (hx : Ends x) : blankN (t ++ x) = 0 ∧ oneT (t ++ x) = .ok (kindN t, t, numN t) := by
  rcases hx with rfl | ⟨c, y, rfl, rfl | rfl | rfl | rfl⟩
  all_goals
    simp only [textsL, List.mem_cons, List.not_mem_nil, or_false] at ht
    rcases ht with rfl | rfl | rfl | rfl | rfl | rfl | rfl | rfl | rfl | rfl | rfl | rfl | rfl | rfl | rfl | rfl | rfl | rfl | rfl | rfl | rfl | rfl | rfl | rfl | rfl | rfl | rfl | rfl | rfl | rfl | rfl | rfl | rfl | rfl
    all_goals exact ⟨rfl, rfl⟩

/-- Texts of tokens, each with blanks ahead (the first may have none). -/
def Fine (ps : List (List UInt8 × List UInt8)) : Prop := ∀ p ∈ ps, p.1 ∈ gapsL ∧ p.2 ∈ textsL
theorem srcL_cons (p : List UInt8 × List UInt8) (r : List (List UInt8 × List UInt8)) : srcL (p :: r) = p.1 ++ (p.2 ++ srcL r) := by simp [srcL]
theorem ends_src (ps : List (List UInt8 × List UInt8)) (h : Fine ps) (tail : List UInt8) (ht : Ends tail) : Ends (srcL ps ++ tail) := by
  cases ps with
  | nil => exact ht
  | cons p r =>
    rw [srcL_cons, List.append_assoc]
    exact ends_gap _ _ (h p (List.mem_cons_self ..)).1
theorem except_map_ok {ε α β : Type} {x : Except ε α} {a : α} (f : α → β) (h : x = .ok a) : x.map f = .ok (f a) := by rw [h]; rfl
/-- A token's text, and what is behind. -/
theorem lexA_text (t x : List UInt8) (ht : t ∈ textsL) (hx : Ends x) (i : Nat) (r : List Tok) (h : lexA x (i + t.length) = .ok r) : lexA (t ++ x) i = .ok (⟨kindN t, t, numN t, i⟩ :: r) := by
  obtain ⟨h1, h2⟩ := one_text t x ht hx
  rw [lexA_tok i _ _ t h1 h2, List.drop_left]
  exact except_map_ok _ h
theorem lex_src (tail : List UInt8) (ht : Ends tail) (n : Nat) (hend : ∀ i, lexA tail i = .ok [⟨6, [], 0, i + n⟩]) :
    ∀ (ps : List (List UInt8 × List UInt8)) (_ : Fine ps) (i : Nat), lexA (srcL ps ++ tail) i = .ok (toksOf ps i ++ [⟨6, [], 0, i + (srcL ps).length + n⟩])
  | [], _, i => by simp [srcL, toksOf, hend]
  | p :: r, h, i => by
    have hp := h p (List.mem_cons_self ..)
    have hr : Fine r := fun q hq => h q (List.mem_cons_of_mem _ hq)
    have ih := lex_src tail ht n hend r hr (i + p.1.length + p.2.length)
    rw [srcL_cons, List.append_assoc, List.append_assoc, lexA_gap _ _ hp.1]
    rw [lexA_text p.2 _ hp.2 (ends_src r hr tail ht) _ _ ih]
    simp only [toksOf, List.cons_append, List.length_append]
    rw [show i + p.1.length + p.2.length + (srcL r).length + n = i + (p.1.length + (p.2.length + (srcL r).length)) + n by omega]
/-- The same where the first text has no blanks ahead. -/
theorem lex_src_bare (tail : List UInt8) (ht : Ends tail) (n : Nat) (hend : ∀ i, lexA tail i = .ok [⟨6, [], 0, i + n⟩]) (t : List UInt8) (htt : t ∈ textsL) (ps : List (List UInt8 × List UInt8)) (h : Fine ps) (i : Nat) :
    lexA (srcL (([], t) :: ps) ++ tail) i = .ok (toksOf (([], t) :: ps) i ++ [⟨6, [], 0, i + (srcL (([], t) :: ps)).length + n⟩]) := by
  have ih := lex_src tail ht n hend ps h (i + t.length)
  rw [srcL_cons, List.nil_append, List.append_assoc, lexA_text t _ htt (ends_src ps h tail ht) _ _ ih]
  simp only [toksOf, List.cons_append, List.length_append, List.length_nil, Nat.add_zero]
  rw [show i + t.length + (srcL ps).length + n = i + (t.length + (srcL ps).length) + n by omega]
theorem end_nil (i : Nat) : lexA [] i = .ok [⟨6, [], 0, i + 0⟩] := rfl
theorem end_remark (i : Nat) : lexA [10, 32, 45, 45, 32, 101, 110, 100] i = .ok [⟨6, [], 0, i + 8⟩] := by
  rw [lexA_blank i 1 rfl (by decide), lexA_blank (i + 1) 1 rfl (by decide), lexA_blank (i + 1 + 1) 6 rfl (by decide)]
  rfl
theorem toksOf_length : ∀ (ps : List (List UInt8 × List UInt8)) (i : Nat), (toksOf ps i).length = ps.length
  | [], _ => rfl
  | _ :: r, i => by simp [toksOf, toksOf_length r]
theorem toksOf_at : ∀ (ps : List (List UInt8 × List UInt8)) (i j : Nat) (h : j < ps.length), ∃ a, (toksOf ps i)[j]? = some ⟨kindN ps[j].2, ps[j].2, numN ps[j].2, a⟩
  | _ :: _, i, 0, _ => ⟨_, rfl⟩
  | p :: r, i, j + 1, h => by
    obtain ⟨a, ha⟩ := toksOf_at r (i + p.1.length + p.2.length) j (by simpa using h)
    exact ⟨a, by simpa [toksOf] using ha⟩
theorem texts_len (t : List UInt8) (h : t ∈ textsL) : 1 ≤ t.length ∧ t.length ≤ 10 := by
  have : ∀ x ∈ textsL, 1 ≤ x.length ∧ x.length ≤ 10 := by decide
  exact this t h
theorem gaps_len (t : List UInt8) (h : t ∈ gapsL) : 1 ≤ t.length ∧ t.length ≤ 8 := by
  have : ∀ x ∈ gapsL, 1 ≤ x.length ∧ x.length ≤ 8 := by decide
  exact this t h
theorem srcL_len : ∀ (ps : List (List UInt8 × List UInt8)), Fine ps → (srcL ps).length ≤ 18 * ps.length
  | [], _ => by simp [srcL]
  | p :: r, h => by
    have hp := h p (List.mem_cons_self ..)
    have h1 := texts_len _ hp.2
    have h2 := gaps_len _ hp.1
    have ih := srcL_len r (fun q hq => h q (List.mem_cons_of_mem _ hq))
    rw [srcL_cons]; simp; omega
/-- The lexer's answer to a source of texts and blanks. -/
theorem lexL_src (ps : List (List UInt8 × List UInt8)) (h : Fine ps) (hn : ps.length ≤ 200) : lexL (srcL ps) = .ok (toksOf ps 0 ++ [⟨6, [], 0, (srcL ps).length⟩]) := by
  have hl := srcL_len ps h
  unfold lexL
  rw [if_neg (by omega)]
  have := lex_src [] (.inl rfl) 0 end_nil ps h 0
  simp only [List.append_nil, Nat.zero_add, Nat.add_zero] at this
  exact this
end Go.Proofs.YtcjojfclgbjapaaDoor
