/- Plain mathematics of chapter 2: the tokens of texts of tokens with blanks between are these texts. No program, no world. Plain mathematics of chapter 5 (P5.3): a type without what is not known, TAlls, and bare arrows is read of its print. No program, no world. -/
import Derived.Test.YtbdfjboojokgdaaDoorJV01
import Derived.KernelRfl
import Derived.Test.YtbdfjboojokgdaaDoorJV31
import Derived.Test.YtbdfjboojokgdaaDoorJV38
namespace Go.Proofs.YtbdfjboojokgdaaDoor.Lx

def textsL : List (List UInt8) := [[102], [120], [120, 115], [97], [84], [67, 111, 110, 115], [78, 105, 108], [100, 97, 116, 97], [99, 108, 97, 115, 115], [105, 110, 115, 116, 97, 110, 99, 101], [108, 101, 116], [105, 110], [99, 97, 115, 101], [111, 102], [45, 62], [61, 62], [92], [61], [124], [40], [41], [123], [125], [59], [58], [44], [95], [48], [55], [50, 49, 52, 55, 52, 56, 51, 54, 52, 55], [120, 39], [97, 95, 98], [99, 97, 115, 69], [105, 110, 49]]
def gapsL : List (List UInt8) := [[32], [10], [32, 32], [9], [32, 45, 45, 32, 97, 32, 98, 10], [45, 45, 10], [10, 10]]
def kindN (t : List UInt8) : Nat := match oneT t with | .ok (k, _, _) => k | .error _ => 0
def numN (t : List UInt8) : Nat := match oneT t with | .ok (_, _, n) => n | .error _ => 0
def srcL (ps : List (List UInt8 × List UInt8)) : List UInt8 := ps.flatMap (fun p => p.1 ++ p.2)
def toksOf : List (List UInt8 × List UInt8) → Nat → List Tok
  | [], _ => []
  | p :: r, i => ⟨kindN p.2, p.2, numN p.2, i + p.1.length⟩ :: toksOf r (i + p.1.length + p.2.length)

/-- Lexing, with as much fuel as there are bytes. -/
def lexA (l : List UInt8) (i : Nat) : Except (Nat × Nat) (List Tok) := lexF l.length l i
theorem lexA_nil (i : Nat) : lexA [] i = .ok [⟨6, [], 0, i⟩] := rfl
theorem lexA_blank {l : List UInt8} (i n : Nat) (h : blankN l = n) (hn : 0 < n) : lexA l i = lexA (l.drop n) (i + n) := by
  subst h
  have hl := blankN_le l
  have hne : l ≠ [] := by rintro rfl; exact absurd hn (by decide)
  obtain ⟨g, hg⟩ : ∃ g, l.length = g + 1 := ⟨l.length - 1, by omega⟩
  unfold lexA
  rw [hg]
  simp only [lexF, hne, if_false, hn, if_true]
  exact lexF_more _ _ _ _ (by simp; omega) (Nat.le_refl _)
theorem lexA_tok {l : List UInt8} (i k n : Nat) (x : List UInt8) (hb : blankN l = 0) (h : oneT l = .ok (k, x, n)) : lexA l i = (lexA (l.drop x.length) (i + x.length)).map (fun r => ⟨k, x, n, i⟩ :: r) := by
  have hl := oneT_len h
  have hne : l ≠ [] := by rintro rfl; have h1 := hl.1; have h2 : x.length ≤ 0 := hl.2; omega
  obtain ⟨g, hg⟩ : ∃ g, l.length = g + 1 := ⟨l.length - 1, by omega⟩
  unfold lexA
  rw [hg]
  simp only [lexF, hne, if_false, hb, Nat.lt_irrefl, h]
  rw [lexF_more g _ _ _ (by simp; omega) (Nat.le_refl _)]

/-- Blanks that may stand between tokens. -/
theorem lexA_gap (g x : List UInt8) (hg : g ∈ gapsL) (i : Nat) : lexA (g ++ x) i = lexA x (i + g.length) := by
  simp only [gapsL, List.mem_cons, List.not_mem_nil, or_false] at hg
  rcases hg with rfl | rfl | rfl | rfl | rfl | rfl | rfl
  · exact lexA_blank i 1 rfl (by decide)
  · exact lexA_blank i 1 rfl (by decide)
  · rw [lexA_blank i 1 rfl (by decide)]; exact lexA_blank (i + 1) 1 rfl (by decide)
  · exact lexA_blank i 1 rfl (by decide)
  · rw [lexA_blank i 1 rfl (by decide), lexA_blank (i + 1) 6 rfl (by decide)]; exact lexA_blank (i + 1 + 6) 1 rfl (by decide)
  · rw [lexA_blank i 2 rfl (by decide)]; exact lexA_blank (i + 2) 1 rfl (by decide)
  · rw [lexA_blank i 1 rfl (by decide)]; exact lexA_blank (i + 1) 1 rfl (by decide)

/-- What may stand behind a token: nothing, or a byte that goes on no token. -/
def Ends (x : List UInt8) : Prop := x = [] ∨ ∃ c y, x = c :: y ∧ (c = 32 ∨ c = 10 ∨ c = 9 ∨ c = 45)
theorem ends_gap (g x : List UInt8) (hg : g ∈ gapsL) : Ends (g ++ x) := by
  simp only [gapsL, List.mem_cons, List.not_mem_nil, or_false] at hg
  rcases hg with rfl | rfl | rfl | rfl | rfl | rfl | rfl
  all_goals exact .inr ⟨_, _, rfl, by decide⟩

set_option maxRecDepth 100000 in
theorem one_text (t x : List UInt8) (ht : t ∈ textsL) (hx : Ends x) : blankN (t ++ x) = 0 ∧ oneT (t ++ x) = .ok (kindN t, t, numN t) := by
  rcases hx with rfl | ⟨c, y, rfl, rfl | rfl | rfl | rfl⟩
  all_goals
    simp only [textsL, List.mem_cons, List.not_mem_nil, or_false] at ht
    rcases ht with rfl | rfl | rfl | rfl | rfl | rfl | rfl | rfl | rfl | rfl | rfl | rfl | rfl | rfl | rfl | rfl | rfl | rfl | rfl | rfl | rfl | rfl | rfl | rfl | rfl | rfl | rfl | rfl | rfl | rfl | rfl | rfl | rfl | rfl
    all_goals exact ⟨rfl, rfl⟩

/-- Texts of tokens, each with blanks ahead (the first may have none). -/
def Fine (ps : List (List UInt8 × List UInt8)) : Prop := ∀ p ∈ ps, p.1 ∈ gapsL ∧ p.2 ∈ textsL
theorem srcL_cons (p : List UInt8 × List UInt8) (r : List (List UInt8 × List UInt8)) : srcL (p :: r) = p.1 ++ (p.2 ++ srcL r) := by simp [srcL]
theorem ends_src (ps : List (List UInt8 × List UInt8)) (h : Fine ps) (tail : List UInt8) (ht : Ends tail) : Ends (srcL ps ++ tail) := by
  cases ps with
  | nil => exact ht
  | cons p r =>
    rw [srcL_cons, List.append_assoc]
    exact ends_gap _ _ (h p (List.mem_cons_self ..)).1
theorem except_map_ok {ε α β : Type} {x : Except ε α} {a : α} (f : α → β) (h : x = .ok a) : x.map f = .ok (f a) := by rw [h]; rfl
/-- A token's text, and what is behind. -/
theorem lexA_text (t x : List UInt8) (ht : t ∈ textsL) (hx : Ends x) (i : Nat) (r : List Tok) (h : lexA x (i + t.length) = .ok r) : lexA (t ++ x) i = .ok (⟨kindN t, t, numN t, i⟩ :: r) := by
  obtain ⟨h1, h2⟩ := one_text t x ht hx
  rw [lexA_tok i _ _ t h1 h2, List.drop_left]
  exact except_map_ok _ h
theorem lex_src (tail : List UInt8) (ht : Ends tail) (n : Nat) (hend : ∀ i, lexA tail i = .ok [⟨6, [], 0, i + n⟩]) :
    ∀ (ps : List (List UInt8 × List UInt8)) (_ : Fine ps) (i : Nat), lexA (srcL ps ++ tail) i = .ok (toksOf ps i ++ [⟨6, [], 0, i + (srcL ps).length + n⟩])
  | [], _, i => by simp [srcL, toksOf, hend]
  | p :: r, h, i => by
    have hp := h p (List.mem_cons_self ..)
    have hr : Fine r := fun q hq => h q (List.mem_cons_of_mem _ hq)
    have ih := lex_src tail ht n hend r hr (i + p.1.length + p.2.length)
    rw [srcL_cons, List.append_assoc, List.append_assoc, lexA_gap _ _ hp.1]
    rw [lexA_text p.2 _ hp.2 (ends_src r hr tail ht) _ _ ih]
    simp only [toksOf, List.cons_append, List.length_append]
    rw [show i + p.1.length + p.2.length + (srcL r).length + n = i + (p.1.length + (p.2.length + (srcL r).length)) + n by omega]
/-- The same where the first text has no blanks ahead. -/
theorem lex_src_bare (tail : List UInt8) (ht : Ends tail) (n : Nat) (hend : ∀ i, lexA tail i = .ok [⟨6, [], 0, i + n⟩]) (t : List UInt8) (htt : t ∈ textsL) (ps : List (List UInt8 × List UInt8)) (h : Fine ps) (i : Nat) :
    lexA (srcL (([], t) :: ps) ++ tail) i = .ok (toksOf (([], t) :: ps) i ++ [⟨6, [], 0, i + (srcL (([], t) :: ps)).length + n⟩]) := by
  have ih := lex_src tail ht n hend ps h (i + t.length)
  rw [srcL_cons, List.nil_append, List.append_assoc, lexA_text t _ htt (ends_src ps h tail ht) _ _ ih]
  simp only [toksOf, List.cons_append, List.length_append, List.length_nil, Nat.add_zero]
  rw [show i + t.length + (srcL ps).length + n = i + (t.length + (srcL ps).length) + n by omega]
theorem end_nil (i : Nat) : lexA [] i = .ok [⟨6, [], 0, i + 0⟩] := rfl
theorem end_remark (i : Nat) : lexA [10, 32, 45, 45, 32, 101, 110, 100] i = .ok [⟨6, [], 0, i + 8⟩] := by
  rw [lexA_blank i 1 rfl (by decide), lexA_blank (i + 1) 1 rfl (by decide), lexA_blank (i + 1 + 1) 6 rfl (by decide)]
  rfl
theorem toksOf_length : ∀ (ps : List (List UInt8 × List UInt8)) (i : Nat), (toksOf ps i).length = ps.length
  | [], _ => rfl
  | _ :: r, i => by simp [toksOf, toksOf_length r]
theorem toksOf_at : ∀ (ps : List (List UInt8 × List UInt8)) (i j : Nat) (h : j < ps.length), ∃ a, (toksOf ps i)[j]? = some ⟨kindN ps[j].2, ps[j].2, numN ps[j].2, a⟩
  | _ :: _, i, 0, _ => ⟨_, rfl⟩
  | p :: r, i, j + 1, h => by
    obtain ⟨a, ha⟩ := toksOf_at r (i + p.1.length + p.2.length) j (by simpa using h)
    exact ⟨a, by simpa [toksOf] using ha⟩
theorem texts_len (t : List UInt8) (h : t ∈ textsL) : 1 ≤ t.length ∧ t.length ≤ 10 := by
  have : ∀ x ∈ textsL, 1 ≤ x.length ∧ x.length ≤ 10 := by decide
  exact this t h
theorem gaps_len (t : List UInt8) (h : t ∈ gapsL) : 1 ≤ t.length ∧ t.length ≤ 8 := by
  have : ∀ x ∈ gapsL, 1 ≤ x.length ∧ x.length ≤ 8 := by decide
  exact this t h
theorem srcL_len : ∀ (ps : List (List UInt8 × List UInt8)), Fine ps → (srcL ps).length ≤ 18 * ps.length
  | [], _ => by simp [srcL]
  | p :: r, h => by
    have hp := h p (List.mem_cons_self ..)
    have h1 := texts_len _ hp.2
    have h2 := gaps_len _ hp.1
    have ih := srcL_len r (fun q hq => h q (List.mem_cons_of_mem _ hq))
    rw [srcL_cons]; simp; omega
/-- The lexer's answer to a source of texts and blanks. -/
theorem lexL_src (ps : List (List UInt8 × List UInt8)) (h : Fine ps) (hn : ps.length ≤ 200) : lexL (srcL ps) = .ok (toksOf ps 0 ++ [⟨6, [], 0, (srcL ps).length⟩]) := by
  have hl := srcL_len ps h
  unfold lexL
  rw [if_neg (by omega)]
  have := lex_src [] (.inl rfl) 0 end_nil ps h 0
  simp only [List.append_nil, Nat.zero_add, Nat.add_zero] at this
  exact this
end Go.Proofs.YtbdfjboojokgdaaDoor.Lx
namespace Go.Proofs.YtbdfjboojokgdaaDoor
open Go.RowKit Lx

def kt (t : Tok) : Nat × List UInt8 := (t.kind, t.text)
/-- A text ahead of another one has these tokens. -/
def LT (l x : List UInt8) (ks : List (Nat × List UInt8)) : Prop := ∀ i r, lexA x (i + l.length) = .ok r → ∃ ts, lexA (l ++ x) i = .ok (ts ++ r) ∧ ts.map kt = ks
theorem LT.trans {a b x : List UInt8} {ks ks' : List (Nat × List UInt8)} (h : LT a (b ++ x) ks) (h' : LT b x ks') : LT (a ++ b) x (ks ++ ks') := by
  intro i r hr
  rw [List.length_append, ← Nat.add_assoc] at hr
  obtain ⟨t2, e2, m2⟩ := h' _ r hr
  obtain ⟨t1, e1, m1⟩ := h i _ e2
  exact ⟨t1 ++ t2, by rw [List.append_assoc, e1, List.append_assoc], by rw [List.map_append, m1, m2]⟩
theorem LT.blank (x : List UInt8) : LT [32] x [] := by
  intro i r hr
  refine ⟨[], ?_, rfl⟩
  have h9 : lexA ([32] ++ x) i = lexA (([32] ++ x).drop 1) (i + 1) := lexA_blank i 1 rfl (by decide)
  rw [h9]; exact hr
theorem LT.tok {t x : List UInt8} {k n : Nat} (hb : blankN (t ++ x) = 0) (h : oneT (t ++ x) = .ok (k, t, n)) : LT t x [(k, t)] := by
  intro i r hr
  refine ⟨[⟨k, t, n, i⟩], ?_, rfl⟩
  rw [lexA_tok i k n t hb h, List.drop_left]
  exact except_map_ok _ hr
theorem LT.open (x : List UInt8) : LT [40] x [(4, [40])] := LT.tok (n := 0) (by cases x <;> rfl) (by cases x <;> rfl)
theorem LT.close (x : List UInt8) : LT [41] x [(4, [41])] := LT.tok (n := 0) (by cases x <;> rfl) (by cases x <;> rfl)
theorem LT.comma (x : List UInt8) : LT [44] x [(4, [44])] := LT.tok (n := 0) (by cases x <;> rfl) (by cases x <;> rfl)
theorem LT.arrow (x : List UInt8) : LT [45, 62] x [(4, [45, 62])] := LT.tok (n := 0) (by cases x <;> rfl) (by cases x <;> rfl)
theorem LT.imp (x : List UInt8) : LT [61, 62] x [(4, [61, 62])] := LT.tok (n := 0) (by cases x <;> rfl) (by cases x <;> rfl)
/-- What may stand behind a name. -/
def End2 (x : List UInt8) : Prop := x = [] ∨ ∃ c y, x = c :: y ∧ (c = 32 ∨ c = 41 ∨ c = 44)
def lowsL : List (List UInt8) := [[97], [98], [99], [120], [109]]
def upsL : List (List UInt8) := [[73, 110, 116], [66, 111, 111, 108], [76], [80], [70], [70, 117, 110], [69], [79], [83]]
set_option maxRecDepth 100000 in
theorem LT.low {t x : List UInt8} (ht : t ∈ lowsL) (hx : End2 x) : LT t x [(1, t)] := by
  refine LT.tok (n := 0) ?_ ?_
  all_goals
    rcases hx with rfl | ⟨c, y, rfl, rfl | rfl | rfl⟩
    all_goals
      simp only [lowsL, List.mem_cons, List.not_mem_nil, or_false] at ht
      rcases ht with rfl | rfl | rfl | rfl | rfl <;> rfl
set_option maxRecDepth 100000 in
theorem LT.up {t x : List UInt8} (ht : t ∈ upsL) (hx : End2 x) : LT t x [(2, t)] := by
  refine LT.tok (n := 0) ?_ ?_
  all_goals
    rcases hx with rfl | ⟨c, y, rfl, rfl | rfl | rfl⟩
    all_goals
      simp only [upsL, List.mem_cons, List.not_mem_nil, or_false] at ht
      rcases ht with rfl | rfl | rfl | rfl | rfl | rfl | rfl | rfl | rfl <;> rfl
/-- A type that is read of its print. -/
inductive GoodT : Ty → Prop
  | var (s : ByteArray) (h : s.data.toList ∈ lowsL) : GoodT (.var s)
  | con (s : ByteArray) (h : s.data.toList ∈ upsL) : GoodT (.con s)
  | fn (a b : Ty) (ha : GoodT a) (hb : GoodT b) : GoodT (Ty.fn a b)
  | app (a b : Ty) (ha : GoodT a) (hb : GoodT b) : GoodT (.app a b)
theorem up_not_arrow {s : ByteArray} (h : s.data.toList ∈ upsL) : (Ty.con s).isArrow = false := by
  cases hq : (Ty.con s).isArrow with
  | false => rfl
  | true =>
    have h2 := (arrow_eq s).1 hq
    subst h2
    exact absurd h (by decide)
theorem GoodT.not_arrow {t : Ty} (h : GoodT t) : t.isArrow = false := by
  cases h with
  | con s h => exact up_not_arrow h
  | _ => rfl
theorem GoodT.no_half {t f a : Ty} (h : GoodT t) (e : t = .app f a) : f.isArrow = false := by
  cases h with
  | var s h => cases e
  | con s h => cases e
  | fn a b ha hb => injection e with e1 e2; subst e1; rfl
  | app a b ha hb => injection e with e1 e2; subst e1; exact ha.not_arrow
theorem GoodT.sides_app {a b : Ty} (h : GoodT a) : (Ty.app a b).sides = none := by
  cases a with
  | app f x =>
    have := h.no_half rfl
    simp [Ty.sides, this]
  | _ => rfl
/-- How deep brackets may be. -/
def Ty.dep : Ty → Nat
  | .app a b => max a.dep b.dep + 1
  | .all _ a => a.dep + 1
  | _ => 0
def PA (t : Ty) (ks : List (Nat × List UInt8)) (d : Nat) : Prop := ∀ ts r o, ts.map kt = ks → o + d ≤ 40 → Ev (fun n => atomN n (ts ++ r) o) (Got.ok t r)
def PB (t : Ty) (ks : List (Nat × List UInt8)) (d : Nat) : Prop := ∀ ts r o X, ts.map kt = ks → o + d ≤ 40 → Ev (fun n => appsN n t r o) X → Ev (fun n => appL n (ts ++ r) o) X
def StopT (r : List Tok) : Prop := ∃ c q, r = c :: q ∧ begT c = false ∧ isSym c [45, 62] = false
def PC (t : Ty) (ks : List (Nat × List UInt8)) (d : Nat) : Prop := ∀ ts r o, ts.map kt = ks → o + d ≤ 40 → StopT r → Ev (fun n => typeN n (ts ++ r) o) (Got.ok t r)
theorem kt_sym {c : Tok} {x : List UInt8} (h : kt c = (4, x)) (y : List UInt8) : isSym c y = (x == y) := by
  unfold kt at h
  injection h with h1 h2
  unfold isSym; rw [h1, h2]; rfl
theorem kt_beg {c : Tok} {x : List UInt8} (h : kt c = (4, x)) : begT c = (x == [40]) := by
  have h2 := kt_sym h [40]
  unfold kt at h
  injection h with h1 _
  unfold begT; rw [h1, h2]; rfl
theorem apps_stop (t : Ty) {c : Tok} {q : List Tok} (o : Nat) (h : begT c = false) : Ev (fun n => appsN n t (c :: q) o) (Got.ok t (c :: q)) := by
  refine ⟨1, fun f hf => ?_⟩
  obtain ⟨f, rfl⟩ : ∃ g, f = g + 1 := ⟨f - 1, by omega⟩
  simp [appsN, h]
theorem atom_beg {n : Nat} {l q : List Tok} {o : Nat} {t : Ty} (h : atomN n l o = some (.ok t q)) : ∃ c r, l = c :: r ∧ begT c = true := by
  cases n with
  | zero => simp [atomN] at h
  | succ n =>
    cases l with
    | nil => simp [atomN] at h
    | cons c r =>
      refine ⟨c, r, rfl, ?_⟩
      simp only [atomN] at h
      by_cases h2 : c.kind = 2
      · simp [begT, h2]
      · rw [if_neg h2] at h
        by_cases h1 : c.kind = 1
        · simp [begT, h1]
        · rw [if_neg h1] at h
          cases hs : isSym c [40] with
          | true => simp [begT, hs]
          | false => rw [if_pos hs] at h; simp at h
theorem PA.pb {t : Ty} {ks : List (Nat × List UInt8)} {d : Nat} (h : PA t ks d) : PB t ks d := by
  intro ts r o X hk ho hx
  obtain ⟨N, hN⟩ := h ts r o hk ho
  obtain ⟨M, hM⟩ := hx
  refine ⟨N + M, fun f hf => ?_⟩
  have h1 := hN f (by omega)
  have h2 := hM f (by omega)
  simp only at h1 h2
  simp only [appL, h1, h2]
theorem PB.pc {t : Ty} {ks : List (Nat × List UInt8)} {d : Nat} (h : PB t ks d) : PC t ks d := by
  intro ts r o hk ho hs
  obtain ⟨c, q, rfl, hb, ha⟩ := hs
  obtain ⟨N, hN⟩ := h ts (c :: q) o _ hk ho (apps_stop t o hb)
  refine ⟨N + 1, fun f hf => ?_⟩
  obtain ⟨f, rfl⟩ : ∃ g, f = g + 1 := ⟨f - 1, by omega⟩
  have h1 := hN f (by omega)
  simp only at h1
  simp [typeN_succ, h1, ha]
theorem PC.brk {t : Ty} {ks : List (Nat × List UInt8)} {d : Nat} (h : PC t ks d) : PA t ((4, [40]) :: ks ++ [(4, [41])]) (d + 1) := by
  intro ts r o hk ho
  cases ts with
  | nil => cases hk
  | cons c1 ts =>
  simp only [List.map_cons, List.cons_append, List.cons.injEq] at hk
  obtain ⟨hk1, hk⟩ := hk
  obtain ⟨ts', c2, rfl⟩ : ∃ ts' c2, ts = ts' ++ [c2] := by
    rcases List.eq_nil_or_concat ts with h9 | ⟨a, b, h9⟩
    · subst h9; simp at hk
    · exact ⟨a, b, by simpa using h9⟩
  rw [List.map_append, List.map_cons, List.map_nil] at hk
  obtain ⟨hk2, hk3⟩ := List.append_inj' hk rfl
  simp only [List.cons.injEq, and_true] at hk3
  have hb2 : begT c2 = false := by rw [kt_beg hk3]; decide
  obtain ⟨N, hN⟩ := h ts' (c2 :: r) (o + 1) hk2 (by omega) ⟨c2, r, rfl, hb2, by rw [kt_sym hk3]; decide⟩
  refine ⟨N + 1, fun f hf => ?_⟩
  obtain ⟨f, rfl⟩ : ∃ g, f = g + 1 := ⟨f - 1, by omega⟩
  have h1 := hN f (by omega)
  simp only at h1
  have hc : c1.kind = 4 := by unfold kt at hk1; injection hk1
  have hs1 : isSym c1 [40] = true := by rw [kt_sym hk1]; decide
  have hs2 : isSym c2 [41] = true := by rw [kt_sym hk3]; decide
  have e : (c1 :: (ts' ++ [c2])) ++ r = c1 :: (ts' ++ c2 :: r) := by simp
  show atomN (f + 1) ((c1 :: (ts' ++ [c2])) ++ r) o = _
  rw [e]
  simp only [atomN]
  rw [if_neg (by omega), if_neg (by omega), if_neg (by rw [hs1]; simp), if_neg (by omega), h1]
  simp only
  rw [if_pos hs2]
theorem PB.app {x b : Ty} {ks ks' : List (Nat × List UInt8)} {d : Nat} (hx : PB x ks d) (hb : PA b ks' d) : PB (.app x b) (ks ++ ks') d := by
  intro ts r o X hk ho hX
  obtain ⟨t1, t2, rfl, h1, h2⟩ := List.map_eq_append_iff.1 hk
  obtain ⟨N, hN⟩ := hb t2 r o h2 ho
  obtain ⟨M, hM⟩ := hX
  rw [List.append_assoc]
  refine hx t1 (t2 ++ r) o X h1 ho ⟨N + M + 1, fun f hf => ?_⟩
  obtain ⟨f, rfl⟩ : ∃ g, f = g + 1 := ⟨f - 1, by omega⟩
  have h3 := hN f (by omega)
  have h4 := hM f (by omega)
  simp only at h3 h4
  obtain ⟨c, q, e, hbg⟩ := atom_beg h3
  rw [e] at h3 ⊢
  simp only [appsN, hbg, if_true, h3, h4]
theorem PC.fn {a b : Ty} {ks ks' : List (Nat × List UInt8)} {d : Nat} (ha : PB a ks d) (hb : PC b ks' d) : PC (Ty.fn a b) (ks ++ ((4, [45, 62]) :: ks')) d := by
  intro ts r o hk ho hs
  obtain ⟨t1, t2, rfl, h1, h2⟩ := List.map_eq_append_iff.1 hk
  cases t2 with
  | nil => cases h2
  | cons c t2 =>
  simp only [List.map_cons, List.cons.injEq] at h2
  obtain ⟨hc, h2⟩ := h2
  have hcb : begT c = false := by rw [kt_beg hc]; decide
  have hca : isSym c [45, 62] = true := by rw [kt_sym hc]; decide
  obtain ⟨N, hN⟩ := ha t1 (c :: (t2 ++ r)) o _ h1 ho (apps_stop a o hcb)
  obtain ⟨M, hM⟩ := hb t2 r o h2 ho hs
  refine ⟨N + M + 1, fun f hf => ?_⟩
  obtain ⟨f, rfl⟩ : ∃ g, f = g + 1 := ⟨f - 1, by omega⟩
  have h3 := hN f (by omega)
  have h4 := hM f (by omega)
  simp only at h3 h4
  have e : t1 ++ c :: t2 ++ r = t1 ++ c :: (t2 ++ r) := by simp
  show typeN (f + 1) (t1 ++ c :: t2 ++ r) o = _
  rw [e, typeN_succ, h3]
  simp [hca, h4, wrapF, funs]
/-- How a type's print is read. -/
structure RT (t : Ty) : Prop where
  a : ∃ ks, (∀ x, End2 x → LT (t.prAt 3) x ks) ∧ PA t ks (t.dep + 1)
  b : ∃ ks, (∀ x, End2 x → LT (t.prAt 2) x ks) ∧ PB t ks (t.dep + 1)
  c : ∃ ks, (∀ x, End2 x → LT t.pr x ks) ∧ PC t ks t.dep
theorem PC.mono {t : Ty} {ks : List (Nat × List UInt8)} {d e : Nat} (h : PC t ks d) (hd : d ≤ e) : PC t ks e := fun ts r o hk ho hs => h ts r o hk (by omega) hs
theorem PB.mono {t : Ty} {ks : List (Nat × List UInt8)} {d e : Nat} (h : PB t ks d) (hd : d ≤ e) : PB t ks e := fun ts r o X hk ho hx => h ts r o X hk (by omega) hx
theorem PA.mono {t : Ty} {ks : List (Nat × List UInt8)} {d e : Nat} (h : PA t ks d) (hd : d ≤ e) : PA t ks e := fun ts r o hk ho => h ts r o hk (by omega)
theorem end2_close (x : List UInt8) : End2 ([41] ++ x) := .inr ⟨41, x, rfl, .inr (.inl rfl)⟩
theorem end2_blank (x : List UInt8) : End2 (32 :: x) := .inr ⟨32, x, rfl, .inl rfl⟩
theorem brk_lt {t : Ty} {ks : List (Nat × List UInt8)} (h : ∀ x, End2 x → LT t.pr x ks) (x : List UInt8) : LT (40 :: (t.pr ++ [41])) x ((4, [40]) :: ks ++ [(4, [41])]) := by
  have h1 := LT.trans (LT.open ((t.pr ++ [41]) ++ x)) (LT.trans (h ([41] ++ x) (end2_close x)) (LT.close x))
  exact h1
theorem rt_leaf {t : Ty} {k : Nat} (hb : t.bare = 3) (hk : k = 1 ∨ k = 2) (hl : ∀ x, End2 x → LT t.pr x [(k, t.pr)]) (ht : t = if k = 1 then .var (mkB t.pr) else .con (mkB t.pr)) : RT t := by
  have hpa : PA t [(k, t.pr)] t.dep := by
    intro ts r o hm ho
    match ts, hm with
    | [c], hm =>
      simp only [List.map_cons, List.map_nil, List.cons.injEq, and_true] at hm
      unfold kt at hm
      injection hm with h1 h2
      refine ⟨1, fun f hf => ?_⟩
      obtain ⟨f, rfl⟩ : ∃ g, f = g + 1 := ⟨f - 1, by omega⟩
      show atomN (f + 1) (c :: r) o = _
      simp only [atomN]
      rcases hk with rfl | rfl
      · rw [if_neg (by omega), if_pos h1, h2]
        rw [if_pos rfl] at ht
        rw [← ht]
      · rw [if_pos h1, h2]
        rw [if_neg (by decide)] at ht
        rw [← ht]
    | [], hm => cases hm
    | _ :: _ :: _, hm => simp at hm
  have e3 : t.prAt 3 = t.pr := prAt_neg (by omega)
  have e2 : t.prAt 2 = t.pr := prAt_neg (by omega)
  exact ⟨⟨_, by rw [e3]; exact hl, hpa.mono (Nat.le_succ _)⟩, ⟨_, by rw [e2]; exact hl, hpa.pb.mono (Nat.le_succ _)⟩, ⟨_, hl, hpa.pb.pc⟩⟩
theorem mkB_pr (s : ByteArray) : mkB s.data.toList = s := by cases s; rfl
theorem GoodT.rt {t : Ty} (h : GoodT t) : RT t := by
  induction h with
  | var s h => exact rt_leaf (k := 1) rfl (.inl rfl) (fun x hx => LT.low h hx) (by rw [if_pos rfl]; show _ = Ty.var (mkB s.data.toList); rw [mkB_pr])
  | con s h =>
    have hp : (Ty.con s).pr = s.data.toList := by rw [Ty.pr, up_not_arrow h]; rfl
    refine rt_leaf (k := 2) rfl (.inr rfl) (fun x hx => by rw [hp]; exact LT.up h hx) (by rw [if_neg (by decide), hp, mkB_pr])
  | fn a b ha hb iha ihb =>
    have hsd : (Ty.fn a b).sides = some (a, b) := by
      show (if Ty.isArrow (.con ⟨#[45, 62]⟩) = true then some (a, b) else none) = some (a, b)
      rw [if_pos (by decide)]
    have hp := Ty.pr_fun hsd
    obtain ⟨k1, l1, p1⟩ := iha.b
    obtain ⟨k2, l2, p2⟩ := ihb.c
    have hbare : (Ty.fn a b).bare = 1 := by
      show (if (Ty.fn a b).sides.isSome then 1 else 2) = 1
      rw [hsd]; rfl
    have hb1 : b.prAt 1 = b.pr := by
      refine prAt_neg ?_
      cases hb with
      | var s h => simp [Ty.bare]
      | con s h => simp [Ty.bare]
      | fn a b ha hb => simp only [Ty.fn, Ty.bare]; split <;> omega
      | app a b ha hb => simp only [Ty.bare]; split <;> omega
    rw [hb1] at hp
    have hd : (Ty.fn a b).dep = max (max 0 a.dep + 1) b.dep + 1 := rfl
    have hlt : ∀ x, End2 x → LT (Ty.fn a b).pr x (k1 ++ ((4, [45, 62]) :: k2)) := fun x hx => by
      rw [hp]
      have h1 := LT.trans (LT.blank (([45, 62] ++ ([32] ++ b.pr)) ++ x)) (LT.trans (LT.arrow (([32] ++ b.pr) ++ x)) (LT.trans (LT.blank (b.pr ++ x)) (l2 x hx)))
      have h2 := LT.trans (l1 _ (end2_blank _)) h1
      simpa using h2
    have hpc : PC (Ty.fn a b) (k1 ++ ((4, [45, 62]) :: k2)) (Ty.fn a b).dep := PC.fn (p1.mono (by omega)) (p2.mono (by omega))
    have e3 : (Ty.fn a b).prAt 3 = 40 :: ((Ty.fn a b).pr ++ [41]) := prAt_pos (by omega)
    have e2 : (Ty.fn a b).prAt 2 = 40 :: ((Ty.fn a b).pr ++ [41]) := prAt_pos (by omega)
    exact ⟨⟨_, by rw [e3]; exact fun x _ => brk_lt hlt x, hpc.brk⟩, ⟨_, by rw [e2]; exact fun x _ => brk_lt hlt x, hpc.brk.pb⟩, ⟨_, hlt, hpc⟩⟩
  | app a b ha hb iha ihb =>
    have hsd : (Ty.app a b).sides = none := ha.sides_app
    have hp := Ty.pr_app hsd
    obtain ⟨k1, l1, p1⟩ := iha.b
    obtain ⟨k2, l2, p2⟩ := ihb.a
    have hbare : (Ty.app a b).bare = 2 := by
      show (if (Ty.app a b).sides.isSome then 1 else 2) = 2
      rw [hsd]; rfl
    have hd : (Ty.app a b).dep = max a.dep b.dep + 1 := rfl
    have hlt : ∀ x, End2 x → LT (Ty.app a b).pr x (k1 ++ k2) := fun x hx => by
      rw [hp]
      have h2 := LT.trans (l1 _ (end2_blank _)) (LT.trans (LT.blank (b.prAt 3 ++ x)) (l2 x hx))
      simpa using h2
    have hpb : PB (Ty.app a b) (k1 ++ k2) (Ty.app a b).dep := PB.app (p1.mono (by omega)) (p2.mono (by omega))
    have e3 : (Ty.app a b).prAt 3 = 40 :: ((Ty.app a b).pr ++ [41]) := prAt_pos (by omega)
    have e2 : (Ty.app a b).prAt 2 = (Ty.app a b).pr := prAt_neg (by omega)
    exact ⟨⟨_, by rw [e3]; exact fun x _ => brk_lt hlt x, hpb.pc.brk⟩, ⟨_, by rw [e2]; exact hlt, hpb.mono (Nat.le_succ _)⟩, ⟨_, hlt, hpb.pc⟩⟩
end Go.Proofs.YtbdfjboojokgdaaDoor
