/- Plain mathematics of chapter 3: what flat does to what is known: new inner variables alone; and that it can be undone. -/
import Derived.Test.YtomhojpoaicioaaFlat
namespace Go.Proofs.Ytomhojpoaicioaa

/-- What was known before, put back, the youngest first. -/
def undoL : List (Int × Option Tz) → Kn → Kn
  | [], kn => kn
  | (n, o) :: r, kn => setK (undoL r kn) n o
theorem undoL_app : ∀ (a b : List (Int × Option Tz)) (kn : Kn), undoL (a ++ b) kn = undoL a (undoL b kn)
  | [], _, _ => rfl
  | (n, o) :: r, b, kn => by
    show setK (undoL (r ++ b) kn) n o = setK (undoL r (undoL b kn)) n o
    rw [undoL_app r b kn]
theorem setK_back (kn : Kn) (n : Int) (x : Option Tz) : setK (setK kn n x) n (kn n) = kn := by
  funext y
  unfold setK
  by_cases e : y = n
  · subst e; rw [if_pos rfl]
  · rw [if_neg e, if_neg e]
/-- Inner variables are no more than there are entries. -/
def Inn (s : KS) : Prop := ∀ k : Int, k < 0 → s.kn k ≠ none → -k ≤ (s.sz : Int)
/-- From one to the other by new inner variables alone. -/
structure Grow (s s' : KS) : Prop where
  inn : Inn s'
  den : ∀ {t : Tz} {T : Tm}, Den s.kn t T → Den s'.kn t T
  old : ∀ y : Int, 0 ≤ y → s'.kn y = s.kn y
  tot : ∀ y : Int, s'.kn y ≠ none → s.kn y ≠ none ∨ y < 0
  log : ∃ l, s'.log = s.log ++ l ∧ undoL l s'.kn = s.kn
theorem Grow.refl {s : KS} (h : Inn s) : Grow s s := ⟨h, fun h => h, fun _ _ => rfl, fun _ h => .inl h, [], by simp, rfl⟩
theorem Grow.trans {a b c : KS} (h : Grow a b) (h' : Grow b c) : Grow a c := by
  refine ⟨h'.inn, fun x => h'.den (h.den x), fun y hy => (h'.old y hy).trans (h.old y hy), fun y hy => ?_, ?_⟩
  · rcases h'.tot y hy with h9 | h9
    · exact h.tot y h9
    · exact .inr h9
  · obtain ⟨l, e, u⟩ := h.log
    obtain ⟨l', e', u'⟩ := h'.log
    exact ⟨l ++ l', by rw [e', e, List.append_assoc], by rw [undoL_app, u', u]⟩
theorem inn_new {s : KS} (h : Inn s) : s.kn (-1 - (s.sz : Int)) = none := by
  cases e : s.kn (-1 - (s.sz : Int)) with
  | none => rfl
  | some t => have := h (-1 - (s.sz : Int)) (by omega) (by rw [e]; simp); omega
theorem grow_name {s : KS} (h : Inn s) (x : Tz) : Grow s (s.learn (-1 - (s.sz : Int)) x) := by
  have hn := inn_new h
  refine ⟨fun k hk hne => ?_, fun hd => hd.inner (by omega) hn _, fun y hy => setK_ne _ _ (by omega), fun y hy => ?_, [(-1 - (s.sz : Int), s.kn (-1 - (s.sz : Int)))], rfl, setK_back _ _ _⟩
  · have hs : (s.learn (-1 - (s.sz : Int)) x).sz = s.sz + 1 := by show (if (s.kn _).isSome then _ else _) = _; rw [hn]; rfl
    rw [hs]
    by_cases e : k = -1 - (s.sz : Int)
    · omega
    · have h9 : s.kn k ≠ none := by
        intro e9
        exact hne ((setK_ne _ _ e).trans e9)
      have := h k hk h9
      omega
  · by_cases e : y = -1 - (s.sz : Int)
    · right; omega
    · left
      intro e9
      exact hy ((setK_ne _ _ e).trans e9)
theorem nameF_ok {s : KS} {r : Tz × KS} (hg : Grow s r.2) : Grow s (nameF r).2 ∧ ∀ X, Den r.2.kn r.1 X → Den (nameF r).2.kn (nameF r).1 X := by
  obtain ⟨t, s'⟩ := r
  cases t with
  | var n => exact ⟨hg, fun _ h => h⟩
  | star => exact ⟨hg, fun _ h => h⟩
  | arr a b =>
    have h1 := grow_name hg.inn (.arr a b)
    exact ⟨hg.trans h1, fun X h => .bound _ (.arr a b) X (setK_self _ _ _) (h1.den h)⟩
theorem flatF_ok : ∀ (x : Tz) (s : KS), Inn s → Grow s (flatF x s).2 ∧ ∀ X, Den s.kn x X → Den (flatF x s).2.kn (flatF x s).1 X
  | .var n, s, h => ⟨.refl h, fun _ h => h⟩
  | .star, s, h => ⟨.refl h, fun _ h => h⟩
  | .arr a b, s, h => by
    obtain ⟨ga, da⟩ := flatF_ok a s h
    obtain ⟨ga', da'⟩ := nameF_ok ga
    obtain ⟨gb, db⟩ := flatF_ok b (nameF (flatF a s)).2 ga'.inn
    obtain ⟨gb', db'⟩ := nameF_ok gb
    refine ⟨ga'.trans gb', fun X hX => ?_⟩
    cases hX with
    | arr _ _ A B hA hB => exact .arr _ _ A B (gb'.den (da' A (da A hA))) (db' B (db B (ga'.den hB)))
/-- What flat answers is no arrow of arrows, and a variable stays itself. -/
theorem Grow.st {s s' : KS} {σ : Sb} (h : Grow s s') (hs : St s.kn σ) (ht : ∀ y : Int, y < 0 → s'.kn y ≠ none → ∃ T, Den s'.kn (.var y) T) : St s'.kn σ :=
  hs.same h.den (fun y hy => by
    rcases h.tot y hy with h9 | h9
    · exact .inl h9
    · exact .inr (ht y h9 hy))
end Go.Proofs.Ytomhojpoaicioaa
