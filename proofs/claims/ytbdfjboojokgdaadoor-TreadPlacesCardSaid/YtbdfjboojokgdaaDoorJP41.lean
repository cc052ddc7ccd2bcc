/- Plain mathematics of chapter 2: the tokens of texts of tokens with blanks between are these texts. No program, no world. The contracts of the document's Gap and Texts and of the laws' source (chapter 2). Condition: the slices of numbers read as numbers. -/
import Derived.Test.YtbdfjboojokgdaaDoorJP01
import Derived.KernelRfl
import Derived.Test.YtbdfjboojokgdaaDoorJP13
namespace Go.Proofs.YtbdfjboojokgdaaDoor.Lx

def textsL : List (List UInt8) := [[102], [120], [120, 115], [97], [84], [67, 111, 110, 115], [78, 105, 108], [100, 97, 116, 97], [99, 108, 97, 115, 115], [105, 110, 115, 116, 97, 110, 99, 101], [108, 101, 116], [105, 110], [99, 97, 115, 101], [111, 102], [45, 62], [61, 62], [92], [61], [124], [40], [41], [123], [125], [59], [58], [44], [95], [48], [55], [50, 49, 52, 55, 52, 56, 51, 54, 52, 55], [120, 39], [97, 95, 98], [99, 97, 115, 69], [105, 110, 49]]
def gapsL : List (List UInt8) := [[32], [10], [32, 32], [9], [32, 45, 45, 32, 97, 32, 98, 10], [45, 45, 10], [10, 10]]
def kindN (t : List UInt8) : Nat := match oneT t with | .ok (k, _, _) => k | .error _ => 0
def numN (t : List UInt8) : Nat := match oneT t with | .ok (_, _, n) => n | .error _ => 0
def srcL (ps : List (List UInt8 × List UInt8)) : List UInt8 := ps.flatMap (fun p => p.1 ++ p.2)
def toksOf : List (List UInt8 × List UInt8) → Nat → List Tok
  | [], _ => []
  | p :: r, i => ⟨kindN p.2, p.2, numN p.2, i + p.1.length⟩ :: toksOf r (i + p.1.length + p.2.length)

/-- Lexing, with as much fuel as there are bytes. -/
def lexA (l : List UInt8) (i : Nat) : Except (Nat × Nat) (List Tok) := lexF l.length l i
theorem lexA_nil (i : Nat) : lexA [] i = .ok [⟨6, [], 0, i⟩] := rfl
theorem lexA_blank {l : List UInt8} (i n : Nat) (h : blankN l = n) (hn : 0 < n) : lexA l i = lexA (l.drop n) (i + n) := by
  subst h
  have hl := blankN_le l
  have hne : l ≠ [] := by rintro rfl; exact absurd hn (by decide)
  obtain ⟨g, hg⟩ : ∃ g, l.length = g + 1 := ⟨l.length - 1, by omega⟩
  unfold lexA
  rw [hg]
  simp only [lexF, hne, if_false, hn, if_true]
  exact lexF_more _ _ _ _ (by simp; omega) (Nat.le_refl _)
theorem lexA_tok {l : List UInt8} (i k n : Nat) (x : List UInt8) (hb : blankN l = 0) (h : oneT l = .ok (k, x, n)) : lexA l i = (lexA (l.drop x.length) (i + x.length)).map (fun r => ⟨k, x, n, i⟩ :: r) := by
  have hl := oneT_len h
  have hne : l ≠ [] := by rintro rfl; have h1 := hl.1; have h2 : x.length ≤ 0 := hl.2; omega
  obtain ⟨g, hg⟩ : ∃ g, l.length = g + 1 := ⟨l.length - 1, by omega⟩
  unfold lexA
  rw [hg]
  simp only [lexF, hne, if_false, hb, Nat.lt_irrefl, h]
  rw [lexF_more g _ _ _ (by simp; omega) (Nat.le_refl _)]

/-- Blanks that may stand between tokens. -/
theorem lexA_gap (g x : List UInt8) (hg : g ∈ gapsL) (i : Nat) : lexA (g ++ x) i = lexA x (i + g.length) := by
  simp only [gapsL, List.mem_cons, List.not_mem_nil, or_false] at hg
  rcases hg with rfl | rfl | rfl | rfl | rfl | rfl | rfl
  · exact lexA_blank i 1 rfl (by decide)
  · exact lexA_blank i 1 rfl (by decide)
  · rw [lexA_blank i 1 rfl (by decide)]; exact lexA_blank (i + 1) 1 rfl (by decide)
  · exact lexA_blank i 1 rfl (by decide)
  · rw [lexA_blank i 1 rfl (by decide), lexA_blank (i + 1) 6 rfl (by decide)]; exact lexA_blank (i + 1 + 6) 1 rfl (by decide)
  · rw [lexA_blank i 2 rfl (by decide)]; exact lexA_blank (i + 2) 1 rfl (by decide)
  · rw [lexA_blank i 1 rfl (by decide)]; exact lexA_blank (i + 1) 1 rfl (by decide)

/-- What may stand behind a token: nothing, or a byte that goes on no token. -/
def Ends (x : List UInt8) : Prop := x = [] ∨ ∃ c y, x = c :: y ∧ (c = 32 ∨ c = 10 ∨ c = 9 ∨ c = 45)
theorem ends_gap (g x : List UInt8) (hg : g ∈ gapsL) : Ends (g ++ x) := by
  simp only [gapsL, List.mem_cons, List.not_mem_nil, or_false] at hg
  rcases hg with rfl | rfl | rfl | rfl | rfl | rfl | rfl
  all_goals exact .inr ⟨_, _, rfl, by decide⟩

set_option maxRecDepth 100000 in
theorem one_text (t x : List UInt8) (ht : t ∈ textsL) (hx : Ends x) : blankN (t ++ x) = 0 ∧ oneT (t ++ x) = .ok (kindN t, t, numN t) := by
  rcases hx with rfl | ⟨c, y, rfl, rfl | rfl | rfl | rfl⟩
  all_goals
    simp only [textsL, List.mem_cons, List.not_mem_nil, or_false] at ht
    rcases ht with rfl | rfl | rfl | rfl | rfl | rfl | rfl | rfl | rfl | rfl | rfl | rfl | rfl | rfl | rfl | rfl | rfl | rfl | rfl | rfl | rfl | rfl | rfl | rfl | rfl | rfl | rfl | rfl | rfl | rfl | rfl | rfl | rfl | rfl
    all_goals exact ⟨rfl, rfl⟩

/-- Texts of tokens, each with blanks ahead (the first may have none). -/
def Fine (ps : List (List UInt8 × List UInt8)) : Prop := ∀ p ∈ ps, p.1 ∈ gapsL ∧ p.2 ∈ textsL
theorem srcL_cons (p : List UInt8 × List UInt8) (r : List (List UInt8 × List UInt8)) : srcL (p :: r) = p.1 ++ (p.2 ++ srcL r) := by simp [srcL]
theorem ends_src (ps : List (List UInt8 × List UInt8)) (h : Fine ps) (tail : List UInt8) (ht : Ends tail) : Ends (srcL ps ++ tail) := by
  cases ps with
  | nil => exact ht
  | cons p r =>
    rw [srcL_cons, List.append_assoc]
    exact ends_gap _ _ (h p (List.mem_cons_self ..)).1
theorem except_map_ok {ε α β : Type} {x : Except ε α} {a : α} (f : α → β) (h : x = .ok a) : x.map f = .ok (f a) := by rw [h]; rfl
/-- A token's text, and what is behind. -/
theorem lexA_text (t x : List UInt8) (ht : t ∈ textsL) (hx : Ends x) (i : Nat) (r : List Tok) (h : lexA x (i + t.length) = .ok r) : lexA (t ++ x) i = .ok (⟨kindN t, t, numN t, i⟩ :: r) := by
  obtain ⟨h1, h2⟩ := one_text t x ht hx
  rw [lexA_tok i _ _ t h1 h2, List.drop_left]
  exact except_map_ok _ h
theorem lex_src (tail : List UInt8) (ht : Ends tail) (n : Nat) (hend : ∀ i, lexA tail i = .ok [⟨6, [], 0, i + n⟩]) :
    ∀ (ps : List (List UInt8 × List UInt8)) (_ : Fine ps) (i : Nat), lexA (srcL ps ++ tail) i = .ok (toksOf ps i ++ [⟨6, [], 0, i + (srcL ps).length + n⟩])
  | [], _, i => by simp [srcL, toksOf, hend]
  | p :: r, h, i => by
    have hp := h p (List.mem_cons_self ..)
    have hr : Fine r := fun q hq => h q (List.mem_cons_of_mem _ hq)
    have ih := lex_src tail ht n hend r hr (i + p.1.length + p.2.length)
    rw [srcL_cons, List.append_assoc, List.append_assoc, lexA_gap _ _ hp.1]
    rw [lexA_text p.2 _ hp.2 (ends_src r hr tail ht) _ _ ih]
    simp only [toksOf, List.cons_append, List.length_append]
    rw [show i + p.1.length + p.2.length + (srcL r).length + n = i + (p.1.length + (p.2.length + (srcL r).length)) + n by omega]
/-- The same where the first text has no blanks ahead. -/
theorem lex_src_bare (tail : List UInt8) (ht : Ends tail) (n : Nat) (hend : ∀ i, lexA tail i = .ok [⟨6, [], 0, i + n⟩]) (t : List UInt8) (htt : t ∈ textsL) (ps : List (List UInt8 × List UInt8)) (h : Fine ps) (i : Nat) :
    lexA (srcL (([], t) :: ps) ++ tail) i = .ok (toksOf (([], t) :: ps) i ++ [⟨6, [], 0, i + (srcL (([], t) :: ps)).length + n⟩]) := by
  have ih := lex_src tail ht n hend ps h (i + t.length)
  rw [srcL_cons, List.nil_append, List.append_assoc, lexA_text t _ htt (ends_src ps h tail ht) _ _ ih]
  simp only [toksOf, List.cons_append, List.length_append, List.length_nil, Nat.add_zero]
  rw [show i + t.length + (srcL ps).length + n = i + (t.length + (srcL ps).length) + n by omega]
theorem end_nil (i : Nat) : lexA [] i = .ok [⟨6, [], 0, i + 0⟩] := rfl
theorem end_remark (i : Nat) : lexA [10, 32, 45, 45, 32, 101, 110, 100] i = .ok [⟨6, [], 0, i + 8⟩] := by
  rw [lexA_blank i 1 rfl (by decide), lexA_blank (i + 1) 1 rfl (by decide), lexA_blank (i + 1 + 1) 6 rfl (by decide)]
  rfl
theorem toksOf_length : ∀ (ps : List (List UInt8 × List UInt8)) (i : Nat), (toksOf ps i).length = ps.length
  | [], _ => rfl
  | _ :: r, i => by simp [toksOf, toksOf_length r]
theorem toksOf_at : ∀ (ps : List (List UInt8 × List UInt8)) (i j : Nat) (h : j < ps.length), ∃ a, (toksOf ps i)[j]? = some ⟨kindN ps[j].2, ps[j].2, numN ps[j].2, a⟩
  | _ :: _, i, 0, _ => ⟨_, rfl⟩
  | p :: r, i, j + 1, h => by
    obtain ⟨a, ha⟩ := toksOf_at r (i + p.1.length + p.2.length) j (by simpa using h)
    exact ⟨a, by simpa [toksOf] using ha⟩
theorem texts_len (t : List UInt8) (h : t ∈ textsL) : 1 ≤ t.length ∧ t.length ≤ 10 := by
  have : ∀ x ∈ textsL, 1 ≤ x.length ∧ x.length ≤ 10 := by decide
  exact this t h
theorem gaps_len (t : List UInt8) (h : t ∈ gapsL) : 1 ≤ t.length ∧ t.length ≤ 8 := by
  have : ∀ x ∈ gapsL, 1 ≤ x.length ∧ x.length ≤ 8 := by decide
  exact this t h
theorem srcL_len : ∀ (ps : List (List UInt8 × List UInt8)), Fine ps → (srcL ps).length ≤ 18 * ps.length
  | [], _ => by simp [srcL]
  | p :: r, h => by
    have hp := h p (List.mem_cons_self ..)
    have h1 := texts_len _ hp.2
    have h2 := gaps_len _ hp.1
    have ih := srcL_len r (fun q hq => h q (List.mem_cons_of_mem _ hq))
    rw [srcL_cons]; simp; omega
/-- The lexer's answer to a source of texts and blanks. -/
theorem lexL_src (ps : List (List UInt8 × List UInt8)) (h : Fine ps) (hn : ps.length ≤ 200) : lexL (srcL ps) = .ok (toksOf ps 0 ++ [⟨6, [], 0, (srcL ps).length⟩]) := by
  have hl := srcL_len ps h
  unfold lexL
  rw [if_neg (by omega)]
  have := lex_src [] (.inl rfl) 0 end_nil ps h 0
  simp only [List.append_nil, Nat.zero_add, Nat.add_zero] at this
  exact this
end Go.Proofs.YtbdfjboojokgdaaDoor.Lx
namespace Go.Proofs.YtbdfjboojokgdaaDoor.Lx
open Go.RowKit

def SV (x : List UInt8) : Value := .string ⟨x.toArray⟩
/-- A slice of numbers that came in: it lies below block B. -/
def IntRow (B : Nat) (w : World) (A : Option Addr) (len : Nat) : Prop :=
  len = 0 ∨ ∃ b off, A = some ⟨b, off, none⟩ ∧ b < B ∧ ∀ i, i < len → ∃ z : Int, -9223372036854775808 ≤ z ∧ z ≤ 9223372036854775807 ∧ w.cell? ⟨b, off + i, none⟩ = some (.int .i64 z)
theorem IntRow.below {B X len : Nat} {A : Option Addr} {w w' : World} (h : IntRow B w A len) (hb : Below X w w') (hB : B ≤ X) : IntRow B w' A len := by
  rcases h with h | ⟨b, off, e, hlt, hc⟩
  · exact .inl h
  · refine .inr ⟨b, off, e, hlt, fun i hi => ?_⟩
    obtain ⟨z, z1, z2, hz⟩ := hc i hi
    exact ⟨z, z1, z2, (hb.cell (p := ⟨b, off + i, none⟩) (by show b < X; omega)).trans hz⟩
theorem Tryd.info9 : (Tryd.prog.info? 9).map (fun i => (i.zero, i.size, i.bytes)) = some (some (.string ⟨#[]⟩), 1, 16) := by kernel_rfl
theorem one_str (x : ByteArray) : ∀ u ∈ [Value.string x], u.oneCell' = true := by intro u hu; simp at hu; subst hu; rfl

/-- The call returned some blanks that may stand between tokens. -/
def SomeGap (w : World) (e : Ending) (w' : World) : Prop := ∃ g ∈ gapsL, e = .returned (.string ⟨g.toArray⟩) ∧ Below w.heap.size w w'
/-- What Texts made: texts of tokens, as many as there are numbers, thirty at most. -/
def SomeTexts (w : World) (len : Nat) (e : Ending) (w' : World) : Prop := ∃ (strs : List (List UInt8)) (v : Value), e = .returned v ∧ strs.length = min len 30 ∧ (∀ x ∈ strs, x ∈ textsL) ∧ w'.ownsRow (w.heap.size + 1) 9 1 v strs.length (strs.map SV) ∧ Below w.heap.size w w'

set_option maxRecDepth 100000 in
set_option maxHeartbeats 1000000 in
theorem texts_any (A : Option Addr) (len cap : Nat) (w : World) (hr : IntRow w.heap.size w A len) (hlen : len ≤ 9223372036854775807) :
    Calls Tryd.prog 81 #[.slice A len cap] w (SomeTexts w len) := by
  have HR := Lib.hid hr
  clear hr
  obtain ⟨j0, hj, hy0, hy1, hy2⟩ := info_parts Tryd.info9
  go_enter Tryd.func81, Tryd.ntmps81
  go_wp2
  have hN : Texts w.heap.size textsL (w.alloc (.cells (textsL.map (fun l => Value.string ⟨l.toArray⟩)).toArray 9)) := texts_new w textsL 9
  go_loopw [4, 5] (fun v i wr => ∃ (k : Nat) (strs : List (List UInt8)), k ≤ len ∧ k ≤ 30 ∧ i = .int .i64 k ∧ Hid (strs.length = k) ∧ Hid (∀ x ∈ strs, x ∈ textsL) ∧ wr.ownsRow (w.heap.size + 1) 9 1 v strs.length (strs.map SV) ∧ Below (w.heap.size + 1) (w.alloc (.cells (textsL.map (fun l => Value.string ⟨l.toArray⟩)).toArray 9)) wr) (fun _ i _ => 30 - (intOf i).toNat)
  case atStart => exact ⟨0, [], Nat.zero_le _, by omega, rfl, rfl, (fun x hx => absurd hx (by simp)), World.ownsRow_nil _ _ _ _, Below.refl _ _⟩
  case round =>
    obtain ⟨k, strs, hk, hk30, rfl, hsl, hall, hown, hb⟩ := hrel
    have hsz : w.heap.size + 1 ≤ wr.heap.size := by have := hb.size; simpa using this
    have HBW : Hid (Below w.heap.size w wr) := ((Below.refl _ _).alloc (Nat.le_refl _) _).trans (hb.mono (by omega))
    have HT := Lib.hid (hN.below (w' := wr) (X := w.heap.size + 1) hb (Nat.lt_succ_self _))
    have HB := Lib.hid hb
    have hs30 : strs.length ≤ 30 := by rw [hsl.out]; exact hk30
    clear hN hb
    by_cases hlt : k < len
    · by_cases h30 : k < 30
      · obtain ⟨b, off, rfl, hbB, hc⟩ : ∃ b off, A = some ⟨b, off, none⟩ ∧ b < w.heap.size ∧ ∀ i, i < len → ∃ z : Int, -9223372036854775808 ≤ z ∧ z ≤ 9223372036854775807 ∧ w.cell? ⟨b, off + i, none⟩ = some (.int .i64 z) := by
          rcases HR.out with h0 | h0
          · omega
          · exact h0
        obtain ⟨z, z1, z2, hz⟩ := hc k hlt
        have hzr : wr.cell? ⟨b, off + k, none⟩ = some (.int .i64 z) := (HBW.out.cell (p := ⟨b, off + k, none⟩) hbB).trans hz
        clear hc hz
        have h30' : decide ((k : Int) < 30) = true := by simp; omega
        have hki : (k : Int) < (len : Int) := by omega
        have hk0 : (0 : Int) ≤ (k : Int) := by omega
        go_wp2_with fail
        refine (around_any z 34 _ z1 z2 (by omega) (by omega)).mono ?_
        rintro e w' ⟨q, hq, rfl, rfl⟩
        have hql : q < textsL.length := by show q < 34; omega
        have hcq := HT.out q hql
        have hmem : textsL[q] ∈ textsL := List.getElem_mem hql
        generalize textsL[q] = t at *
        have hq0 : (0 : Int) ≤ (q : Int) := by omega
        go_wp2_with (at_builtin; refine wpList_append_own _ rfl (.tmp 17) (.tmp 28) 28 rfl (w.heap.size + 1) 9 j0 (.string ⟨#[]⟩) 1 16 Tryd.underlying28 hj hy0 hy1 hy2 rfl (by decide) _ _ _ rfl (hown.alloc _) ⟨wr.heap.size, 0, none⟩ 1 1 [.string ⟨t.toArray⟩] rfl rfl (cell_one_new _ _ _) (one_str _) (by unfold maxLen; omega) (by omega) (by simp; omega) ?_; intro v' w2 hown2 hg2 _)
        have HB3 : Below (w.heap.size + 1) (w.alloc (.cells (textsL.map (fun l => Value.string ⟨l.toArray⟩)).toArray 9)) w2 := (HB.out.alloc hsz _).grown (row := u4.ownBlock) hg2 (by simp; omega) (fun x hx => (hown.lt x hx).1)
        have hown3 : w2.ownsRow (w.heap.size + 1) 9 1 v' (strs ++ [t]).length ((strs ++ [t]).map SV) := by
          rw [List.map_append, List.length_append]; exact hown2
        clear hown2 hg2
        go_roundw
        case rel => exact ⟨k + 1, strs ++ [t], by omega, by omega, by go_num, by show (strs ++ [t]).length = k + 1; rw [List.length_append, hsl.out]; rfl, fun x hx => by rcases List.mem_append.1 hx with h9 | h9; exact hall.out x h9; rw [List.mem_singleton.1 h9]; exact hmem, hown3, HB3⟩
        case measure => simp [intOf]; omega
      · have h30' : decide ((k : Int) < 30) = false := by simp; omega
        go_wp2
        go_ret
        exact ⟨strs, _, rfl, by rw [hsl.out]; omega, hall.out, hown, HBW.out⟩
    · have hd : decide (k < len) = false := by simpa using hlt
      go_wp2
      go_ret
      exact ⟨strs, _, rfl, by rw [hsl.out]; omega, hall.out, hown, HBW.out⟩

/-- A slice of texts: it lies below block B. -/
def StrRow (B : Nat) (w : World) (A : Option Addr) (strs : List (List UInt8)) : Prop :=
  strs = [] ∨ ∃ g, A = some ⟨g, 0, none⟩ ∧ g < B ∧ ∀ i (h : i < strs.length), w.cell? ⟨g, i, none⟩ = some (SV strs[i])
theorem StrRow.below {B X : Nat} {A : Option Addr} {strs : List (List UInt8)} {w w' : World} (h : StrRow B w A strs) (hb : Below X w w') (hB : B ≤ X) : StrRow B w' A strs := by
  rcases h with h | ⟨g, e, hg, hc⟩
  · exact .inl h
  · exact .inr ⟨g, e, hg, fun i hi => (hb.cell (p := ⟨g, i, none⟩) (by show g < X; omega)).trans (hc i hi)⟩
theorem strRow_of_own {w : World} {base : Nat} {v : Value} {strs : List (List UInt8)} (h : w.ownsRow base 9 1 v strs.length (strs.map SV)) : ∃ A c, v = .slice A strs.length c ∧ StrRow w.heap.size w A strs := by
  rcases h.2 with ⟨hv, h0⟩ | ⟨g, cap, cur, hv, hg, hh, _⟩
  · exact ⟨none, 0, by rw [hv, h0], .inl (List.eq_nil_of_length_eq_zero h0)⟩
  · subst hv
    refine ⟨_, cap, rfl, .inr ⟨g, rfl, ?_, fun i hi => ?_⟩⟩
    · rcases Nat.lt_or_ge g w.heap.size with h9 | h9
      · exact h9
      · rw [Array.getElem?_eq_none h9] at hh; cases hh
    · rw [h.cellAt i (by omega)]; simp [hi]

/-- What source made: these texts, each with blanks ahead. -/
def SomeSource (w : World) (strs : List (List UInt8)) (e : Ending) (w' : World) : Prop := ∃ ps : List (List UInt8 × List UInt8), ps.map (·.2) = strs ∧ Fine ps ∧ e = .returned (.string ⟨(srcL ps).toArray⟩) ∧ Below w.heap.size w w'
theorem srcL_snoc (ps : List (List UInt8 × List UInt8)) (g t : List UInt8) : srcL (ps ++ [(g, t)]) = srcL ps ++ g ++ t := by simp [srcL]
theorem append_mk2 (a b : List UInt8) : (⟨a.toArray⟩ : ByteArray) ++ ⟨b.toArray⟩ = ⟨(a ++ b).toArray⟩ := by
  apply ByteArray.ext
  simp [ByteArray.data_append]

end Go.Proofs.YtbdfjboojokgdaaDoor.Lx
