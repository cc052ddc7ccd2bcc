/- fuguelaw05's lives tells true (chapter 5). Condition: the list of symbols stands in memory as the program's text lays it. What is read of the texts of TreadDeep (chapter 5): brackets one in the other, and rows of predicates. Plain mathematics of chapter 2: the tokens of texts of tokens with blanks between are these texts. No program, no world. -/
import Derived.Test.YtbdfjboojokgdaaDoorJ42
import Derived.Test.YtbdfjboojokgdaaDoorJ23
import Derived.Test.YtbdfjboojokgdaaDoorJ49
import Derived.Test.YtbdfjboojokgdaaDoorTCtx
import Derived.Test.YtbdfjboojokgdaaDoorJ02
import Derived.KernelRfl
namespace Go.Proofs.YtbdfjboojokgdaaDoor
open Go.RowKit Lx

def liveSrc : ByteArray := ⟨#[40, 69, 32, 97, 44, 32, 79, 32, 98, 41, 32, 61, 62, 32, 97, 32, 45, 62, 32, 76, 32, 98]⟩
def livePs : List (ByteArray × Ty) := [(⟨#[69]⟩, .var ⟨#[97]⟩), (⟨#[79]⟩, .var ⟨#[98]⟩)]
def liveT : Ty := .fn (.var ⟨#[97]⟩) (.app (.con ⟨#[76]⟩) (.var ⟨#[98]⟩))
theorem liveT_pr : liveT.pr = [97, 32, 45, 62, 32, 76, 32, 98] := by decide
def liveToks : List Tok := match lexL liveSrc.data.toList with | .ok l => l | .error _ => []
theorem live_lex : lexL liveSrc.data.toList = .ok liveToks := by kernel_rfl
def liveRest : List Tok := match schemeRaw liveToks with | .ok _ _ r => r | .no _ _ => []
theorem live_raw : schemeRaw liveToks = .ok livePs liveT liveRest := by kernel_rfl
theorem live_read : readS liveSrc.data.toList = .ok livePs liveT liveRest := by kernel_rfl
theorem live_free : (funs (livePs.map (·.2)) liveT).free = [⟨#[97]⟩, ⟨#[98]⟩] := by kernel_rfl
theorem live_sz : (funs (livePs.map (·.2)) liveT).sz ≤ 274877906944 := of_decide_eq_true (by kernel_rfl)
theorem live_ok (l : List Tok) (hl : lexL liveSrc.data.toList = .ok l) (ps : List (ByteArray × Ty)) (t : Ty) (r : List Tok) (h : schemeRaw l = .ok ps t r) : (∀ p ∈ ps, p.2.short) ∧ t.short ∧ (funs (ps.map (·.2)) t).sz ≤ 274877906944 := by
  rw [live_lex] at hl
  injection hl with hl
  subst hl
  rw [live_raw] at h
  injection h with h1 h2 h3
  subst h1; subst h2
  exact ⟨fun p hp => by simp [livePs] at hp; rcases hp with rfl | rfl <;> simp [Ty.short] <;> decide, by simp [liveT, Ty.fn, Ty.short]; decide, live_sz⟩
theorem live_len : livePs.length = 2 := rfl
theorem box_scheme (w : World) (x0 x1 x2 x3 x4 x5 x6 y0 y1 : Value) : ∃ W, (w.alloc (.cells #[x0, x1, x2, x3, x4, x5, x6] 70)).alloc (.cells #[y0, y1] 50) = W ∧
    W.heap[w.heap.size]? = some (.cells #[x0, x1, x2, x3, x4, x5, x6] 70) ∧ W.heap[w.heap.size + 1]? = some (.cells #[y0, y1] 50) ∧ Below w.heap.size w W ∧ W.heap.size = w.heap.size + 2 := by
  refine ⟨_, rfl, ?_, ?_, below2 w _ _, by simp⟩
  · exact ((below_new _ _).block _ (by simp)).trans (MapKept.heap_alloc w (.cells #[x0, x1, x2, x3, x4, x5, x6] 70)).1
  · simpa using (MapKept.heap_alloc (w.alloc (.cells #[x0, x1, x2, x3, x4, x5, x6] 70)) (.cells #[y0, y1] 50)).1
theorem two_strs (w : World) (s1 s2 : ByteArray) : StrsAt (fun _ => True) (w.alloc (.cells #[.string s1, .string s2] 9)) (.slice (some ⟨w.heap.size, 0, none⟩) 2 2) [s1, s2] := by
  have h := (MapKept.heap_alloc w (.cells #[.string s1, .string s2] 9)).1
  refine ⟨_, _, rfl, Nat.le_refl _, by unfold maxLen; decide, .inr ⟨_, _, rfl, trivial, by simp, fun i hi => ?_⟩⟩
  have h2 : i = 0 ∨ i = 1 := by simp at hi; omega
  rcases h2 with rfl | rfl
  · simp only [World.cell?, h]; rfl
  · simp only [World.cell?, h]; rfl
theorem live_calls (w : World) (hS : SymsIn w) : Calls Tryd.prog 49 #[.string liveSrc] w (ReadSRes (.ok livePs liveT liveRest) w) :=
  live_read ▸ readScheme_any liveSrc w hS (of_decide_eq_true (by kernel_rfl)) live_ok
set_option maxRecDepth 100000 in
set_option maxHeartbeats 1000000 in
theorem livesT_any (w : World) (hS : SymsIn w) : Calls Tryd.prog 47 #[] w (TrueB w) := by
  have HC := Lib.hid (live_calls w hS)
  have HP := Lib.hid (fun (P : Nat → Prop) (v : Value) (w : World) (h : TyAt P w liveT v) => refprint_any P liveT (by simp [liveT, Ty.fn, Ty.ten]) (by rw [liveT_pr]; decide) v w h)
  rw [liveT_pr] at HP
  have heq := eq_at
  have hgd := guard_at
  unfold liveSrc at HC
  clear hS
  go_enter Tryd.func47, Tryd.ntmps47
  go_wp2_with fail
  (with_reducible refine HC.out.mono ?_)
  rintro e1 y ⟨Av, nv, cv, Ap, cp, f, n, s, A, l9, c, rfl, hou, hpr, htt, hb⟩
  rw [live_len]
  rw [live_free] at hou
  obtain ⟨Av9, cv9, hv9, _⟩ := hou.strs.shape
  injection hv9 with e1 e2 e3
  subst e1; subst e2; subst e3
  obtain ⟨Y, eY, k0, k1, b1, z1⟩ := box_scheme y (.slice Av 2 cv) (.slice none 0 0) (.slice Ap 2 cp) (.int .i64 f) (.int .i64 n) (.string s) (.slice A l9 c) (.int .i64 0) (.int .i64 0)
  have hbY := hb.trans (b1.mono hb.size)
  obtain ⟨u0, u1, u2, u3, u4, u5, u6, u7, u8, u9, u10, u11, u12, u13, u14⟩ := seven_cells k0
  obtain ⟨v0, v1, v2, v3, v4⟩ := pair_cells k1
  have HST : Hid (StrsAt (fun b => w.heap.size ≤ b ∧ (Value.slice Av 2 cv).ownBlock = some b) Y (.slice Av 2 cv) [⟨#[97]⟩, ⟨#[98]⟩]) := hou.strs.on b1
  have HTT := Lib.hid (htt.on b1)
  have HEY := Lib.hid eY
  have HBY := Lib.hid hbY
  have HZ := Lib.hid z1
  have HK0 := Lib.hid k0
  have HK1 := Lib.hid k1
  have hyY : y.heap.size + 1 < Y.heap.size := by omega
  have hwY : w.heap.size ≤ Y.heap.size := hbY.size
  clear eY hou hpr htt hb b1 z1 hbY k0 k1
  go_upto_region 2 with (fail)
  rw [HEY.out]
  have hn := below_new Y (.cells #[.string ⟨#[97]⟩, .string ⟨#[98]⟩] 9)
  have HSM := Lib.hid (sameTexts_any _ _ _ _ _ _ (HST.out.on hn) (two_strs Y ⟨#[97]⟩ ⟨#[98]⟩))
  have HN := Lib.hid hn
  clear hn
  go_wp2_with fail
  (with_reducible refine HSM.out.mono ?_)
  rintro e2 z ⟨rfl, hbz⟩
  have hbz2 := HN.out.trans (hbz.mono HN.out.size)
  obtain ⟨p0, p1, p2, p3, p4, p5, p6, p7, p8, p9, p10, p11, p12, p13, p14⟩ := seven_cells ((hbz2.block y.heap.size (by omega)).trans HK0.out)
  have HPR := Lib.hid (HP.out _ _ z (HTT.out.on hbz2))
  have HBZ := Lib.hid (HBY.out.trans (hbz2.mono HBY.out.size))
  clear hbz hbz2
  go_wp2_with fail
  (with_reducible refine HPR.out.mono ?_)
  rintro e3 z3 ⟨rfl, hb3⟩
  have HB3 := Lib.hid (HBZ.out.trans (hb3.mono HBZ.out.size))
  clear hb3
  go_wp2
  go_ret
  exact ⟨rfl, HB3.out⟩
end Go.Proofs.YtbdfjboojokgdaaDoor
namespace Go.Proofs.YtbdfjboojokgdaaDoor
open Go.RowKit Lx

def depB : Nat → ByteArray
  | 0 => ⟨#[97]⟩
  | k + 1 => ⟨#[40]⟩ ++ depB k ++ ⟨#[41]⟩
theorem depB_size : ∀ k, (depB k).size = 2 * k + 1
  | 0 => rfl
  | k + 1 => by
    have h1 : (⟨#[40]⟩ : ByteArray).size = 1 := rfl
    have h2 : (⟨#[41]⟩ : ByteArray).size = 1 := rfl
    simp only [depB, ByteArray.size_append, depB_size k]; omega
def restT (k : Nat) : List Tok := match readT (depB k).data.toList with | .ok _ r => r | _ => []
theorem deep_ok (k : Nat) (h1 : 36 ≤ k) (h2 : k ≤ 40) : readT (depB k).data.toList = .ok (.var ⟨#[97]⟩) (restT k) := by
  have h : k = 36 ∨ k = 37 ∨ k = 38 ∨ k = 39 ∨ k = 40 := by omega
  clear h1 h2
  rcases h with rfl | rfl | rfl | rfl | rfl
  all_goals (show _ = _; kernel_rfl)
theorem deep_no (k : Nat) (h1 : 40 < k) (h2 : k ≤ 43) : readT (depB k).data.toList = .no 13 40 := by
  have h : k = 41 ∨ k = 42 ∨ k = 43 := by omega
  clear h1 h2
  rcases h with rfl | rfl | rfl
  all_goals (show _ = _; kernel_rfl)
/-- The text of so many predicates. -/
def manyB (k : Nat) : ByteArray := ctxS [0, 1, 2] k ++ ⟨#[97]⟩
def manyPs (k : Nat) : List (ByteArray × Ty) := match readS (manyB k).data.toList with | .ok ps _ _ => ps | _ => []
def manyR (k : Nat) : List Tok := match readS (manyB k).data.toList with | .ok _ _ r => r | _ => []
def Ty.shortB : Ty → Bool
  | .var s => decide (s.size ≤ 1099511627776)
  | .con s => decide (s.size ≤ 1099511627776)
  | .app a b => a.shortB && b.shortB
  | .all s a => decide (s.size ≤ 1099511627776) && a.shortB
  | .hole _ => true
theorem shortB_ok : ∀ t : Ty, t.shortB = true → t.short
  | .var s, h => of_decide_eq_true (p := s.size ≤ 1099511627776) h
  | .con s, h => of_decide_eq_true (p := s.size ≤ 1099511627776) h
  | .app a b, h => by simp only [Ty.shortB, Bool.and_eq_true] at h; exact ⟨shortB_ok a h.1, shortB_ok b h.2⟩
  | .all s a, h => by simp only [Ty.shortB, Bool.and_eq_true] at h; exact ⟨of_decide_eq_true h.1, shortB_ok a h.2⟩
  | .hole _, _ => trivial
/-- Is what is read small? -/
def smallB (s : List UInt8) : Bool := match lexL s with
  | .error _ => true
  | .ok l => match schemeRaw l with
    | .ok ps t _ => ps.all (fun p => p.2.shortB) && t.shortB && decide ((funs (ps.map (·.2)) t).sz ≤ 274877906944)
    | .no _ _ => true
theorem smallB_ok {s : List UInt8} (h : smallB s = true) (l : List Tok) (hl : lexL s = .ok l) (ps : List (ByteArray × Ty)) (t : Ty) (r : List Tok) (hr : schemeRaw l = .ok ps t r) : (∀ p ∈ ps, p.2.short) ∧ t.short ∧ (funs (ps.map (·.2)) t).sz ≤ 274877906944 := by
  unfold smallB at h
  rw [hl] at h
  simp only at h
  rw [hr] at h
  simp only [Bool.and_eq_true, List.all_eq_true] at h
  exact ⟨fun p hp => shortB_ok _ (h.1.1 p hp), shortB_ok _ h.1.2, of_decide_eq_true h.2⟩
theorem many_small (k : Nat) (h1 : 12 ≤ k) (h2 : k ≤ 19) : smallB (manyB k).data.toList = true := by
  have h : k = 12 ∨ k = 13 ∨ k = 14 ∨ k = 15 ∨ k = 16 ∨ k = 17 ∨ k = 18 ∨ k = 19 := by omega
  clear h1 h2
  rcases h with rfl | rfl | rfl | rfl | rfl | rfl | rfl | rfl
  all_goals (show _ = _; kernel_rfl)
theorem many_ok (k : Nat) (h1 : 12 ≤ k) (h2 : k ≤ 16) : readS (manyB k).data.toList = .ok (manyPs k) (.var ⟨#[97]⟩) (manyR k) := by
  have h : k = 12 ∨ k = 13 ∨ k = 14 ∨ k = 15 ∨ k = 16 := by omega
  clear h1 h2
  rcases h with rfl | rfl | rfl | rfl | rfl
  all_goals (show _ = _; kernel_rfl)
theorem many_len (k : Nat) (h1 : 12 ≤ k) (h2 : k ≤ 16) : (manyPs k).length = k := by
  have h : k = 12 ∨ k = 13 ∨ k = 14 ∨ k = 15 ∨ k = 16 := by omega
  clear h1 h2
  rcases h with rfl | rfl | rfl | rfl | rfl
  all_goals (show _ = _; kernel_rfl)
theorem many_no (k : Nat) (h1 : 16 < k) (h2 : k ≤ 19) : readS (manyB k).data.toList = .no 2 0 := by
  have h : k = 17 ∨ k = 18 ∨ k = 19 := by omega
  clear h1 h2
  rcases h with rfl | rfl | rfl
  all_goals (show _ = _; kernel_rfl)
end Go.Proofs.YtbdfjboojokgdaaDoor
namespace Go.Proofs.YtbdfjboojokgdaaDoor.Lx

def textsL : List (List UInt8) := [[102], [120], [120, 115], [97], [84], [67, 111, 110, 115], [78, 105, 108], [100, 97, 116, 97], [99, 108, 97, 115, 115], [105, 110, 115, 116, 97, 110, 99, 101], [108, 101, 116], [105, 110], [99, 97, 115, 101], [111, 102], [45, 62], [61, 62], [92], [61], [124], [40], [41], [123], [125], [59], [58], [44], [95], [48], [55], [50, 49, 52, 55, 52, 56, 51, 54, 52, 55], [120, 39], [97, 95, 98], [99, 97, 115, 69], [105, 110, 49]]
def gapsL : List (List UInt8) := [[32], [10], [32, 32], [9], [32, 45, 45, 32, 97, 32, 98, 10], [45, 45, 10], [10, 10]]
def kindN (t : List UInt8) : Nat := match oneT t with | .ok (k, _, _) => k | .error _ => 0
def numN (t : List UInt8) : Nat := match oneT t with | .ok (_, _, n) => n | .error _ => 0
def srcL (ps : List (List UInt8 × List UInt8)) : List UInt8 := ps.flatMap (fun p => p.1 ++ p.2)
def toksOf : List (List UInt8 × List UInt8) → Nat → List Tok
  | [], _ => []
  | p :: r, i => ⟨kindN p.2, p.2, numN p.2, i + p.1.length⟩ :: toksOf r (i + p.1.length + p.2.length)

/-- Lexing, with as much fuel as there are bytes. -/
def lexA (l : List UInt8) (i : Nat) : Except (Nat × Nat) (List Tok) := lexF l.length l i
theorem lexA_nil (i : Nat) : lexA [] i = .ok [⟨6, [], 0, i⟩] := rfl
theorem lexA_blank {l : List UInt8} (i n : Nat) (h : blankN l = n) (hn : 0 < n) : lexA l i = lexA (l.drop n) (i + n) := by
  subst h
  have hl := blankN_le l
  have hne : l ≠ [] := by rintro rfl; exact absurd hn (by decide)
  obtain ⟨g, hg⟩ : ∃ g, l.length = g + 1 := ⟨l.length - 1, by omega⟩
  unfold lexA
  rw [hg]
  simp only [lexF, hne, if_false, hn, if_true]
  exact lexF_more _ _ _ _ (by simp; omega) (Nat.le_refl _)
theorem lexA_tok {l : List UInt8} (i k n : Nat) (x : List UInt8) (hb : blankN l = 0) (h : oneT l = .ok (k, x, n)) : lexA l i = (lexA (l.drop x.length) (i + x.length)).map (fun r => ⟨k, x, n, i⟩ :: r) := by
  have hl := oneT_len h
  have hne : l ≠ [] := by rintro rfl; have h1 := hl.1; have h2 : x.length ≤ 0 := hl.2; omega
  obtain ⟨g, hg⟩ : ∃ g, l.length = g + 1 := ⟨l.length - 1, by omega⟩
  unfold lexA
  rw [hg]
  simp only [lexF, hne, if_false, hb, Nat.lt_irrefl, h]
  rw [lexF_more g _ _ _ (by simp; omega) (Nat.le_refl _)]

/-- Blanks that may stand between tokens. -/
theorem lexA_gap (g x : List UInt8) (hg : g ∈ gapsL) (i : Nat) : lexA (g ++ x) i = lexA x (i + g.length) := by
  simp only [gapsL, List.mem_cons, List.not_mem_nil, or_false] at hg
  rcases hg with rfl | rfl | rfl | rfl | rfl | rfl | rfl
  · exact lexA_blank i 1 rfl (by decide)
  · exact lexA_blank i 1 rfl (by decide)
  · rw [lexA_blank i 1 rfl (by decide)]; exact lexA_blank (i + 1) 1 rfl (by decide)
  · exact lexA_blank i 1 rfl (by decide)
  · rw [lexA_blank i 1 rfl (by decide), lexA_blank (i + 1) 6 rfl (by decide)]; exact lexA_blank (i + 1 + 6) 1 rfl (by decide)
  · rw [lexA_blank i 2 rfl (by decide)]; exact lexA_blank (i + 2) 1 rfl (by decide)
  · rw [lexA_blank i 1 rfl (by decide)]; exact lexA_blank (i + 1) 1 rfl (by decide)

/-- What may stand behind a token: nothing, or a byte that goes on no token. -/
def Ends (x : List UInt8) : Prop := x = [] ∨ ∃ c y, x = c :: y ∧ (c = 32 ∨ c = 10 ∨ c = 9 ∨ c = 45)
theorem ends_gap (g x : List UInt8) (hg : g ∈ gapsL) : Ends (g ++ x) := by
  simp only [gapsL, List.mem_cons, List.not_mem_nil, or_false] at hg
  rcases hg with rfl | rfl | rfl | rfl | rfl | rfl | rfl
  all_goals exact .inr ⟨_, _, rfl, by decide⟩

set_option maxRecDepth 100000 in
theorem one_text (t x : List UInt8) (ht : t ∈ textsL) (hx : Ends x) : blankN (t ++ x) = 0 ∧ oneT (t ++ x) = .ok (kindN t, t, numN t) := by
  rcases hx with rfl | ⟨c, y, rfl, rfl | rfl | rfl | rfl⟩
  all_goals
    simp only [textsL, List.mem_cons, List.not_mem_nil, or_false] at ht
    rcases ht with rfl | rfl | rfl | rfl | rfl | rfl | rfl | rfl | rfl | rfl | rfl | rfl | rfl | rfl | rfl | rfl | rfl | rfl | rfl | rfl | rfl | rfl | rfl | rfl | rfl | rfl | rfl | rfl | rfl | rfl | rfl | rfl | rfl | rfl
    all_goals exact ⟨rfl, rfl⟩

/-- Texts of tokens, each with blanks ahead (the first may have none). -/
def Fine (ps : List (List UInt8 × List UInt8)) : Prop := ∀ p ∈ ps, p.1 ∈ gapsL ∧ p.2 ∈ textsL
theorem srcL_cons (p : List UInt8 × List UInt8) (r : List (List UInt8 × List UInt8)) : srcL (p :: r) = p.1 ++ (p.2 ++ srcL r) := by simp [srcL]
theorem ends_src (ps : List (List UInt8 × List UInt8)) (h : Fine ps) (tail : List UInt8) (ht : Ends tail) : Ends (srcL ps ++ tail) := by
  cases ps with
  | nil => exact ht
  | cons p r =>
    rw [srcL_cons, List.append_assoc]
    exact ends_gap _ _ (h p (List.mem_cons_self ..)).1
theorem except_map_ok {ε α β : Type} {x : Except ε α} {a : α} (f : α → β) (h : x = .ok a) : x.map f = .ok (f a) := by rw [h]; rfl
/-- A token's text, and what is behind. -/
theorem lexA_text (t x : List UInt8) (ht : t ∈ textsL) (hx : Ends x) (i : Nat) (r : List Tok) (h : lexA x (i + t.length) = .ok r) : lexA (t ++ x) i = .ok (⟨kindN t, t, numN t, i⟩ :: r) := by
  obtain ⟨h1, h2⟩ := one_text t x ht hx
  rw [lexA_tok i _ _ t h1 h2, List.drop_left]
  exact except_map_ok _ h
theorem lex_src (tail : List UInt8) (ht : Ends tail) (n : Nat) (hend : ∀ i, lexA tail i = .ok [⟨6, [], 0, i + n⟩]) :
    ∀ (ps : List (List UInt8 × List UInt8)) (_ : Fine ps) (i : Nat), lexA (srcL ps ++ tail) i = .ok (toksOf ps i ++ [⟨6, [], 0, i + (srcL ps).length + n⟩])
  | [], _, i => by simp [srcL, toksOf, hend]
  | p :: r, h, i => by
    have hp := h p (List.mem_cons_self ..)
    have hr : Fine r := fun q hq => h q (List.mem_cons_of_mem _ hq)
    have ih := lex_src tail ht n hend r hr (i + p.1.length + p.2.length)
    rw [srcL_cons, List.append_assoc, List.append_assoc, lexA_gap _ _ hp.1]
    rw [lexA_text p.2 _ hp.2 (ends_src r hr tail ht) _ _ ih]
    simp only [toksOf, List.cons_append, List.length_append]
    rw [show i + p.1.length + p.2.length + (srcL r).length + n = i + (p.1.length + (p.2.length + (srcL r).length)) + n by omega]
/-- The same where the first text has no blanks ahead. -/
theorem lex_src_bare (tail : List UInt8) (ht : Ends tail) (n : Nat) (hend : ∀ i, lexA tail i = .ok [⟨6, [], 0, i + n⟩]) (t : List UInt8) (htt : t ∈ textsL) (ps : List (List UInt8 × List UInt8)) (h : Fine ps) (i : Nat) :
    lexA (srcL (([], t) :: ps) ++ tail) i = .ok (toksOf (([], t) :: ps) i ++ [⟨6, [], 0, i + (srcL (([], t) :: ps)).length + n⟩]) := by
  have ih := lex_src tail ht n hend ps h (i + t.length)
  rw [srcL_cons, List.nil_append, List.append_assoc, lexA_text t _ htt (ends_src ps h tail ht) _ _ ih]
  simp only [toksOf, List.cons_append, List.length_append, List.length_nil, Nat.add_zero]
  rw [show i + t.length + (srcL ps).length + n = i + (t.length + (srcL ps).length) + n by omega]
theorem end_nil (i : Nat) : lexA [] i = .ok [⟨6, [], 0, i + 0⟩] := rfl
theorem end_remark (i : Nat) : lexA [10, 32, 45, 45, 32, 101, 110, 100] i = .ok [⟨6, [], 0, i + 8⟩] := by
  rw [lexA_blank i 1 rfl (by decide), lexA_blank (i + 1) 1 rfl (by decide), lexA_blank (i + 1 + 1) 6 rfl (by decide)]
  rfl
theorem toksOf_length : ∀ (ps : List (List UInt8 × List UInt8)) (i : Nat), (toksOf ps i).length = ps.length
  | [], _ => rfl
  | _ :: r, i => by simp [toksOf, toksOf_length r]
theorem toksOf_at : ∀ (ps : List (List UInt8 × List UInt8)) (i j : Nat) (h : j < ps.length), ∃ a, (toksOf ps i)[j]? = some ⟨kindN ps[j].2, ps[j].2, numN ps[j].2, a⟩
  | _ :: _, i, 0, _ => ⟨_, rfl⟩
  | p :: r, i, j + 1, h => by
    obtain ⟨a, ha⟩ := toksOf_at r (i + p.1.length + p.2.length) j (by simpa using h)
    exact ⟨a, by simpa [toksOf] using ha⟩
theorem texts_len (t : List UInt8) (h : t ∈ textsL) : 1 ≤ t.length ∧ t.length ≤ 10 := by
  have : ∀ x ∈ textsL, 1 ≤ x.length ∧ x.length ≤ 10 := by decide
  exact this t h
theorem gaps_len (t : List UInt8) (h : t ∈ gapsL) : 1 ≤ t.length ∧ t.length ≤ 8 := by
  have : ∀ x ∈ gapsL, 1 ≤ x.length ∧ x.length ≤ 8 := by decide
  exact this t h
theorem srcL_len : ∀ (ps : List (List UInt8 × List UInt8)), Fine ps → (srcL ps).length ≤ 18 * ps.length
  | [], _ => by simp [srcL]
  | p :: r, h => by
    have hp := h p (List.mem_cons_self ..)
    have h1 := texts_len _ hp.2
    have h2 := gaps_len _ hp.1
    have ih := srcL_len r (fun q hq => h q (List.mem_cons_of_mem _ hq))
    rw [srcL_cons]; simp; omega
/-- The lexer's answer to a source of texts and blanks. -/
theorem lexL_src (ps : List (List UInt8 × List UInt8)) (h : Fine ps) (hn : ps.length ≤ 200) : lexL (srcL ps) = .ok (toksOf ps 0 ++ [⟨6, [], 0, (srcL ps).length⟩]) := by
  have hl := srcL_len ps h
  unfold lexL
  rw [if_neg (by omega)]
  have := lex_src [] (.inl rfl) 0 end_nil ps h 0
  simp only [List.append_nil, Nat.zero_add, Nat.add_zero] at this
  exact this
end Go.Proofs.YtbdfjboojokgdaaDoor.Lx
