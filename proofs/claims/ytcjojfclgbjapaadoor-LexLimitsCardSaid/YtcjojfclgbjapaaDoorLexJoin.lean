/- Plain mathematics of chapter 2: what tokens print, and that it has the same tokens. No program, no world. -/
import Derived.Test.YtcjojfclgbjapaaDoorLexSrc
namespace Go.Proofs.YtcjojfclgbjapaaDoor

/-- The texts of tokens but those of the end, a blank between. -/
def printStep (out : List UInt8) (t : Tok) : List UInt8 := if t.kind = 6 then out else (if out = [] then out else out ++ [32]) ++ t.text
def printT (l : List Tok) : List UInt8 := l.foldl printStep []
def joinL : List (List UInt8) → List UInt8
  | [] => []
  | t :: r => t ++ r.flatMap (fun x => 32 :: x)
def bare (strs : List (List UInt8)) : List (List UInt8 × List UInt8) := match strs with
  | [] => []
  | t :: r => ([], t) :: r.map (fun x => ([32], x))

theorem print_more : ∀ (l : List Tok) (out : List UInt8), out ≠ [] → (∀ t ∈ l, t.kind ≠ 6) → l.foldl printStep out = out ++ (l.map (·.text)).flatMap (fun x => 32 :: x)
  | [], out, _, _ => by simp
  | t :: r, out, ho, h => by
    have h6 := h t (List.mem_cons_self ..)
    have e : printStep out t = out ++ [32] ++ t.text := by unfold printStep; rw [if_neg h6, if_neg ho]
    rw [List.foldl_cons, e, print_more r _ (by simp [ho]) (fun q hq => h q (List.mem_cons_of_mem _ hq))]
    simp
theorem printT_join (l : List Tok) (h6 : ∀ t ∈ l, t.kind ≠ 6) (hne : ∀ t ∈ l, t.text ≠ []) : printT l = joinL (l.map (·.text)) := by
  cases l with
  | nil => rfl
  | cons t r =>
    unfold printT
    have e : printStep [] t = t.text := by unfold printStep; rw [if_neg (h6 t (List.mem_cons_self ..))]; simp
    rw [List.foldl_cons, e, print_more r _ (hne t (List.mem_cons_self ..)) (fun q hq => h6 q (List.mem_cons_of_mem _ hq))]
    rfl
theorem printT_end (l : List Tok) (x : List UInt8) (n i : Nat) : printT (l ++ [⟨6, x, n, i⟩]) = printT l := by
  unfold printT; rw [List.foldl_append]; rfl
theorem srcL_bare (strs : List (List UInt8)) : srcL (bare strs) = joinL strs := by
  cases strs with
  | nil => rfl
  | cons t r => simp [bare, srcL, joinL, List.flatMap_map]
theorem fine_blank (r : List (List UInt8)) (h : ∀ x ∈ r, x ∈ textsL) : Fine (r.map (fun x => (([32] : List UInt8), x))) := by
  intro p hp
  obtain ⟨x, hx, rfl⟩ := List.mem_map.1 hp
  exact ⟨(show ([32] : List UInt8) ∈ gapsL by decide), h x hx⟩
theorem kindN_ne (t : List UInt8) (h : t ∈ textsL) : kindN t ≠ 6 ∧ kindN t ≠ 0 := by
  have : ∀ x ∈ textsL, kindN x ≠ 6 ∧ kindN x ≠ 0 := by decide +kernel
  exact this t h
theorem toksOf_texts : ∀ (ps : List (List UInt8 × List UInt8)) (i : Nat), (toksOf ps i).map (·.text) = ps.map (·.2)
  | [], _ => rfl
  | p :: r, i => by simp [toksOf, toksOf_texts r]
theorem toksOf_kind : ∀ (ps : List (List UInt8 × List UInt8)) (i : Nat) (t : Tok), t ∈ toksOf ps i → ∃ p ∈ ps, t.text = p.2 ∧ t.kind = kindN p.2 ∧ t.num = numN p.2
  | [], _, _, h => absurd h (by simp [toksOf])
  | p :: r, i, t, h => by
    simp only [toksOf, List.mem_cons] at h
    rcases h with rfl | h
    · exact ⟨p, List.mem_cons_self .., rfl, rfl, rfl⟩
    · obtain ⟨q, hq, e⟩ := toksOf_kind r _ t h
      exact ⟨q, List.mem_cons_of_mem _ hq, e⟩
/-- What is printed of a source of texts and blanks: the texts, a blank between. -/
theorem print_toks (ps : List (List UInt8 × List UInt8)) (h : ∀ p ∈ ps, p.2 ∈ textsL) (i n : Nat) : printT (toksOf ps i ++ [⟨6, [], 0, n⟩]) = joinL (ps.map (·.2)) := by
  rw [printT_end, printT_join, toksOf_texts]
  · intro t ht
    obtain ⟨p, hp, _, hk, _⟩ := toksOf_kind ps i t ht
    rw [hk]; exact (kindN_ne _ (h p hp)).1
  · intro t ht e
    obtain ⟨p, hp, hx, _, _⟩ := toksOf_kind ps i t ht
    have := (texts_len _ (h p hp)).1
    rw [← hx, e] at this; simp at this
theorem joinL_len : ∀ (strs : List (List UInt8)), (∀ x ∈ strs, x ∈ textsL) → (joinL strs).length ≤ 11 * strs.length := by
  have aux : ∀ r : List (List UInt8), (∀ x ∈ r, x ∈ textsL) → (r.flatMap (fun x => (32 : UInt8) :: x)).length ≤ 11 * r.length := by
    intro r
    induction r with
    | nil => intro _; simp
    | cons x r ih =>
      intro h
      have h1 := (texts_len x (h x (List.mem_cons_self ..))).2
      have := ih (fun y hy => h y (List.mem_cons_of_mem _ hy))
      simp only [List.flatMap_cons, List.length_append, List.length_cons] at *
      omega
  intro strs h
  cases strs with
  | nil => simp [joinL]
  | cons t r =>
    have h1 := (texts_len t (h t (List.mem_cons_self ..))).2
    have := aux r (fun y hy => h y (List.mem_cons_of_mem _ hy))
    simp only [joinL, List.length_append, List.length_cons] at *
    omega
theorem lexL_join (strs : List (List UInt8)) (h : ∀ x ∈ strs, x ∈ textsL) (hn : strs.length ≤ 200) : lexL (joinL strs) = .ok (toksOf (bare strs) 0 ++ [⟨6, [], 0, (joinL strs).length⟩]) := by
  have hl := joinL_len strs h
  unfold lexL
  rw [if_neg (by omega)]
  cases strs with
  | nil => rfl
  | cons t r =>
    have := lex_src_bare [] (.inl rfl) 0 end_nil t (h t (List.mem_cons_self ..)) (r.map (fun x => ([32], x))) (fine_blank r (fun x hx => h x (List.mem_cons_of_mem _ hx))) 0
    simp only [List.append_nil, Nat.zero_add, Nat.add_zero] at this
    rw [← srcL_bare]
    exact this
theorem bare_texts (strs : List (List UInt8)) : (bare strs).map (·.2) = strs := by
  cases strs with
  | nil => rfl
  | cons t r => simp [bare, Function.comp_def]
theorem lexL_tail (ps : List (List UInt8 × List UInt8)) (h : Fine ps) (hn : ps.length ≤ 200) : lexL (srcL ps ++ [10, 32, 45, 45, 32, 101, 110, 100]) = .ok (toksOf ps 0 ++ [⟨6, [], 0, (srcL ps).length + 8⟩]) := by
  have hl := srcL_len ps h
  unfold lexL
  rw [if_neg (by simp; omega)]
  have := lex_src [10, 32, 45, 45, 32, 101, 110, 100] (.inr ⟨10, _, rfl, by decide⟩) 8 end_remark ps h 0
  simp only [Nat.zero_add] at this
  exact this
end Go.Proofs.YtcjojfclgbjapaaDoor
