/- The contract of the document's Print of types (chapter 4). Conditions: the print has at most 2^40 bytes; numbers of what is not known are 0 to 9. The law's own example (chapter 4): it holds. No conditions. fuguelaw05's lives tells true (chapter 5). Condition: the list of symbols stands in memory as the program's text lays it. What is read of the texts of TreadDeep (chapter 5): brackets one in the other, and rows of predicates. What the rows' condition gives: the list of symbols stands in memory as the program's text lays it. -/
import Derived.Test.YtbdfjboojokgdaaDoorJV45
import Derived.Test.YtbdfjboojokgdaaDoorJV08
import Derived.Test.YtbdfjboojokgdaaDoorJV07
import Derived.Test.YtbdfjboojokgdaaDoorJV14
import Derived.Test.YtbdfjboojokgdaaDoorJV33
import Derived.Test.YtbdfjboojokgdaaDoorJV17
import Derived.Test.YtbdfjboojokgdaaDoorJV40
import Derived.Test.YtbdfjboojokgdaaDoorJV30
import Derived.Test.YtbdfjboojokgdaaDoorJV41
import Derived.Test.YtbdfjboojokgdaaDoorRows
import Derived.Lib.LaidTab
import Derived.MakeChecks
import Derived.OpenShut
namespace Go.Proofs.YtbdfjboojokgdaaDoor
open Go.RowKit

theorem prAt_le (p : Nat) (t : Ty) : t.pr.length ≤ (t.prAt p).length := by
  unfold Ty.prAt brk; split <;> simp; omega
theorem refprint_of (P : Nat → Prop) : ∀ (n : Nat) (t : Ty), t.sz ≤ n → t.ten → t.pr.length ≤ 1099511627776 → RefPr P t
  | 0, t, h, _, _ => by cases t <;> simp [Ty.sz] at h
  | n + 1, t, h, ht, hl => by
    cases t with
    | hole k => exact refprint_hole P k ht.1 ht.2
    | var s => exact refprint_name P _ s (.inl rfl) hl
    | con s => exact refprint_name P _ s (.inr rfl) hl
    | all s a =>
      refine refprint_all P s a (refprint_of P n a (by simp [Ty.sz] at h; omega) ht ?_) hl
      rw [Ty.pr] at hl; simp at hl; omega
    | app x b =>
      simp only [Ty.sz] at h
      cases hs : (Ty.app x b).sides with
      | none =>
        have h1 := prAt_le 2 x
        have h2 := prAt_le 3 b
        have hl' := hl
        rw [Ty.pr_app hs] at hl'
        simp only [List.length_append] at hl'
        exact refprint_app P x b hs (refprint_of P n x (by omega) ht.1 (by omega)) (refprint_of P n b (by omega) ht.2 (by omega)) hl
      | some p =>
        obtain ⟨a, b'⟩ := p
        have hl' := hl
        rw [Ty.pr_fun hs] at hl'
        have h1 := prAt_le 2 a
        have h2 := prAt_le 1 b'
        simp only [List.length_append] at hl'
        obtain ⟨f, e, hf⟩ := sides_shape hs
        injection e with e1 e2
        subst e1; subst e2
        simp only [Ty.sz] at h
        exact refprint_fun P _ a b hs (refprint_of P n a (by omega) ht.1.2 (by omega)) (refprint_of P n b (by omega) ht.2 (by omega)) hl
theorem refprint_any (P : Nat → Prop) (t : Ty) (ht : t.ten) (hl : t.pr.length ≤ 1099511627776) : RefPr P t := refprint_of P _ t (Nat.le_refl _) ht hl
theorem world_ten : ∀ (t : Ty), t.world → t.ten
  | .hole _, h => by rcases h with rfl | rfl | rfl | rfl <;> exact ⟨by omega, by omega⟩
  | .var _, _ => trivial
  | .con _, _ => trivial
  | .app a b, h => ⟨world_ten a h.1, world_ten b h.2⟩
  | .all _ a, h => world_ten a h.2
theorem world_small : ∀ (t : Ty), t.world → t.small
  | .hole _, h => by rcases h with rfl | rfl | rfl | rfl <;> exact ⟨by omega, by omega⟩
  | .var _, _ => trivial
  | .con _, _ => trivial
  | .app a b, h => ⟨world_small a h.1, world_small b h.2⟩
  | .all _ a, h => world_small a h.2
theorem world_short : ∀ (t : Ty), t.world → t.short
  | .hole _, _ => trivial
  | .var _, h => by rcases h with rfl | rfl | rfl | rfl <;> (show ByteArray.size _ ≤ _; decide)
  | .con _, h => by rcases h with rfl | rfl | rfl | rfl | rfl | rfl <;> (show ByteArray.size _ ≤ _; decide)
  | .app a b, h => ⟨world_short a h.1, world_short b h.2⟩
  | .all _ a, h => ⟨by rcases h.1 with rfl | rfl | rfl | rfl <;> decide, world_short a h.2⟩
/-- A print is not longer than this. -/
theorem world_pr : ∀ (t : Ty), t.world → t.pr.length ≤ 14 * t.sz
  | .hole n, h => by rcases h with rfl | rfl | rfl | rfl <;> (rw [Ty.pr]; simp [Ty.sz, Lib.decDigits])
  | .var s, h => by rcases h with rfl | rfl | rfl | rfl <;> simp [Ty.pr, Ty.sz]
  | .con s, h => by rcases h with rfl | rfl | rfl | rfl | rfl | rfl <;> simp [Ty.pr, Ty.sz, Ty.isArrow] <;> decide
  | .all s a, h => by
    have := world_pr a h.2
    rw [Ty.pr]
    rcases h.1 with rfl | rfl | rfl | rfl <;> simp [Ty.sz] <;> omega
  | .app x b, h => by
    have h1 := world_pr x h.1
    have h2 := world_pr b h.2
    have hb : ∀ (p : Nat) (t : Ty), (t.prAt p).length ≤ t.pr.length + 2 := fun p t => by unfold Ty.prAt brk; split <;> simp
    cases hs : (Ty.app x b).sides with
    | none =>
      have := hb 2 x
      have := hb 3 b
      rw [Ty.pr_app hs]; simp only [List.length_append, List.length_cons, List.length_nil, Ty.sz]; omega
    | some p =>
      obtain ⟨a, b'⟩ := p
      rw [Ty.pr_fun hs]
      obtain ⟨f, e, hf⟩ := sides_shape hs
      injection e with e1 e2
      subst e1; subst e2
      have := hb 2 a
      have := hb 1 b
      have h3 := world_pr a h.1.2
      simp only [List.length_append, List.length_cons, List.length_nil, Ty.sz] at h1 ⊢; omega
theorem sameT_refl : ∀ (t : Ty) (f : ByteArray → Int) (d : Int), sameT f f d t t = true
  | .hole n, _, _ => by simp [sameT]
  | .var s, f, _ => by simp [sameT]
  | .con s, _, _ => by simp [sameT]
  | .app a b, f, d => by simp [sameT, sameT_refl a f d, sameT_refl b f d]
  | .all s a, f, d => by simp [sameT, sameT_refl a]
end Go.Proofs.YtbdfjboojokgdaaDoor
namespace Go.Proofs.YtbdfjboojokgdaaDoor
open Go.RowKit

/-- True, and nothing that was there has changed. -/
def TrueB (w : World) (e : Ending) (w' : World) : Prop := e = .returned (.bool true) ∧ Below w.heap.size w w'
def exT : Ty := .fn (.fn (.var ⟨#[97]⟩) (.var ⟨#[98]⟩)) (.fn (.app (.con ⟨#[70]⟩) (.var ⟨#[97]⟩)) (.var ⟨#[98]⟩))
theorem exT_pr : exT.pr = [40, 97, 32, 45, 62, 32, 98, 41, 32, 45, 62, 32, 70, 32, 97, 32, 45, 62, 32, 98] := by decide
theorem exT_small : exT.small := by simp [exT, Ty.fn, Ty.small]
set_option maxRecDepth 100000 in
set_option maxHeartbeats 1000000 in
theorem lives_any (w : World) : Calls Tryd.prog 21 #[] w (TrueB w) := by
  have HP := Lib.hid (fun (P : Nat → Prop) (v : Value) (w : World) (h : TyAt P w exT v) => print_any P exT v w h exT_small (by rw [exT_pr]; decide))
  rw [exT_pr] at HP
  go_enter Tryd.func21, Tryd.ntmps21
  go_wp2_with fail
  refine (var_any _ _).mono ?_
  rintro e y1 ⟨v1, rfl, hv1, hb1⟩
  obtain ⟨f1, n1, s1, A1, l1, c1, rfl⟩ := hv1.flat
  have HV1 := Lib.hid hv1.all
  have HB1 := Lib.hid hb1
  clear hv1 hb1
  go_wp2_with fail
  refine (var_any _ _).mono ?_
  rintro e y2 ⟨v2, rfl, hv2, hb2⟩
  obtain ⟨f2, n2, s2, A2, l2, c2, rfl⟩ := hv2.flat
  have HV1 := Lib.hid (HV1.out.on hb2)
  have HV2 := Lib.hid hv2.all
  have HB2 := Lib.hid (HB1.out.trans (hb2.mono HB1.out.size))
  clear hv2 hb2
  go_wp2_with fail
  refine (var_any _ _).mono ?_
  rintro e y3 ⟨v3, rfl, hv3, hb3⟩
  obtain ⟨f3, n3, s3, A3, l3, c3, rfl⟩ := hv3.flat
  have HV1 := Lib.hid (HV1.out.on hb3)
  have HV2 := Lib.hid (HV2.out.on hb3)
  have HV3 := Lib.hid hv3.all
  have HB3 := Lib.hid (HB2.out.trans (hb3.mono HB2.out.size))
  clear hv3 hb3
  have hn := below_new y3 (.cells #[.int .i64 f3, .int .i64 n3, .string s3, .slice A3 l3 c3] 25)
  have hrow := (one_new HV3.out 25 1 (Nat.le_refl _) (by unfold maxLen; omega)).all
  have HR := Lib.hid hrow
  have HN := Lib.hid hn
  clear hrow hn
  go_wp2_with fail
  refine (fun_any _ _ _ _ _ _ (HV2.out.on HN.out) HR.out (by simp)).mono ?_
  rintro e y5 ⟨v5, rfl, hv5, hb5⟩
  obtain ⟨f5, n5, s5, A5, l5, c5, rfl⟩ := hv5.flat
  have HN5 := Lib.hid (HN.out.trans (hb5.mono HN.out.size))
  have HV1 := Lib.hid (HV1.out.on HN5.out)
  have HV5 := Lib.hid hv5.all
  have HB5 := Lib.hid (HB3.out.trans (HN5.out.mono HB3.out.size))
  clear hv5 hb5
  go_wp2_with fail
  refine (con_any _ _).mono ?_
  rintro e y6 ⟨v6, rfl, hv6, hb6⟩
  obtain ⟨f6, n6, s6, A6, l6, c6, rfl⟩ := hv6.flat
  have HV1 := Lib.hid (HV1.out.on hb6)
  have HV5 := Lib.hid (HV5.out.on hb6)
  have HV6 := Lib.hid hv6.all
  have HB6 := Lib.hid (HB5.out.trans (hb6.mono HB5.out.size))
  clear hv6 hb6
  go_wp2_with fail
  refine (var_any _ _).mono ?_
  rintro e y7 ⟨v7, rfl, hv7, hb7⟩
  obtain ⟨f7, n7, s7, A7, l7, c7, rfl⟩ := hv7.flat
  have HV1 := Lib.hid (HV1.out.on hb7)
  have HV5 := Lib.hid (HV5.out.on hb7)
  have HV6 := Lib.hid (HV6.out.on hb7)
  have HV7 := Lib.hid hv7.all
  have HB7 := Lib.hid (HB6.out.trans (hb7.mono HB6.out.size))
  clear hv7 hb7
  have HN7 := Lib.hid (below_new y7 (.cells #[.int .i64 f7, .int .i64 n7, .string s7, .slice A7 l7 c7] 25))
  have HR7 := Lib.hid (one_new HV7.out 25 1 (Nat.le_refl _) (by unfold maxLen; omega)).all
  go_wp2_with fail
  refine (app_any _ _ _ _ _ _ (HV6.out.on HN7.out) HR7.out (by simp)).mono ?_
  rintro e y9 ⟨v9, rfl, hv9, hb9⟩
  obtain ⟨f9, n9, s9, A9, l9, c9, rfl⟩ := hv9.flat
  have HN9 := Lib.hid (HN7.out.trans (hb9.mono HN7.out.size))
  have HV1 := Lib.hid (HV1.out.on HN9.out)
  have HV5 := Lib.hid (HV5.out.on HN9.out)
  have HV9 := Lib.hid hv9.all
  have HB9 := Lib.hid (HB7.out.trans (HN9.out.mono HB7.out.size))
  clear hv9 hb9
  have HN10 := Lib.hid (below_new y9 (.cells #[.int .i64 f5, .int .i64 n5, .string s5, .slice A5 l5 c5, .int .i64 f9, .int .i64 n9, .string s9, .slice A9 l9 c9] 25))
  have HR10 := Lib.hid (two_new HV5.out HV9.out 25 2 (Nat.le_refl _) (by unfold maxLen; omega)).all
  go_wp2_with fail
  refine (fun_any _ _ _ _ _ _ (HV1.out.on HN10.out) HR10.out (by simp)).mono ?_
  rintro e y11 ⟨v11, rfl, hv11, hb11⟩
  obtain ⟨f11, n11, s11, A11, l11, c11, rfl⟩ := hv11.flat
  have HV11 : Hid (TyAt (fun _ => True) y11 exT (.agg #[.int .i64 f11, .int .i64 n11, .string s11, .slice A11 l11 c11])) := hv11.all
  have HN11 := Lib.hid (HN10.out.trans (hb11.mono HN10.out.size))
  have HB11 := Lib.hid (HB9.out.trans (HN11.out.mono HB9.out.size))
  clear hv11 hb11
  go_wp2_with fail
  refine (HP.out _ _ _ HV11.out).mono ?_
  rintro e y12 ⟨rfl, hb12⟩
  have HB12 := Lib.hid (HB11.out.trans (hb12.mono HB11.out.size))
  clear hb12
  go_wp2
  go_ret
  exact ⟨rfl, HB12.out⟩
end Go.Proofs.YtbdfjboojokgdaaDoor
namespace Go.Proofs.YtbdfjboojokgdaaDoor
open Go.RowKit Lx

def liveSrc : ByteArray := ⟨#[40, 69, 32, 97, 44, 32, 79, 32, 98, 41, 32, 61, 62, 32, 97, 32, 45, 62, 32, 76, 32, 98]⟩
def livePs : List (ByteArray × Ty) := [(⟨#[69]⟩, .var ⟨#[97]⟩), (⟨#[79]⟩, .var ⟨#[98]⟩)]
def liveT : Ty := .fn (.var ⟨#[97]⟩) (.app (.con ⟨#[76]⟩) (.var ⟨#[98]⟩))
theorem liveT_pr : liveT.pr = [97, 32, 45, 62, 32, 76, 32, 98] := by decide
def liveToks : List Tok := match lexL liveSrc.data.toList with | .ok l => l | .error _ => []
theorem live_lex : lexL liveSrc.data.toList = .ok liveToks := by kernel_rfl
def liveRest : List Tok := match schemeRaw liveToks with | .ok _ _ r => r | .no _ _ => []
theorem live_raw : schemeRaw liveToks = .ok livePs liveT liveRest := by kernel_rfl
theorem live_read : readS liveSrc.data.toList = .ok livePs liveT liveRest := by kernel_rfl
theorem live_free : (funs (livePs.map (·.2)) liveT).free = [⟨#[97]⟩, ⟨#[98]⟩] := by kernel_rfl
theorem live_sz : (funs (livePs.map (·.2)) liveT).sz ≤ 274877906944 := of_decide_eq_true (by kernel_rfl)
theorem live_ok (l : List Tok) (hl : lexL liveSrc.data.toList = .ok l) (ps : List (ByteArray × Ty)) (t : Ty) (r : List Tok) (h : schemeRaw l = .ok ps t r) : (∀ p ∈ ps, p.2.short) ∧ t.short ∧ (funs (ps.map (·.2)) t).sz ≤ 274877906944 := by
  rw [live_lex] at hl
  injection hl with hl
  subst hl
  rw [live_raw] at h
  injection h with h1 h2 h3
  subst h1; subst h2
  exact ⟨fun p hp => by simp [livePs] at hp; rcases hp with rfl | rfl <;> simp [Ty.short] <;> decide, by simp [liveT, Ty.fn, Ty.short]; decide, live_sz⟩
theorem live_len : livePs.length = 2 := rfl
theorem box_scheme (w : World) (x0 x1 x2 x3 x4 x5 x6 y0 y1 : Value) : ∃ W, (w.alloc (.cells #[x0, x1, x2, x3, x4, x5, x6] 70)).alloc (.cells #[y0, y1] 50) = W ∧
    W.heap[w.heap.size]? = some (.cells #[x0, x1, x2, x3, x4, x5, x6] 70) ∧ W.heap[w.heap.size + 1]? = some (.cells #[y0, y1] 50) ∧ Below w.heap.size w W ∧ W.heap.size = w.heap.size + 2 := by
  refine ⟨_, rfl, ?_, ?_, below2 w _ _, by simp⟩
  · exact ((below_new _ _).block _ (by simp)).trans (MapKept.heap_alloc w (.cells #[x0, x1, x2, x3, x4, x5, x6] 70)).1
  · simpa using (MapKept.heap_alloc (w.alloc (.cells #[x0, x1, x2, x3, x4, x5, x6] 70)) (.cells #[y0, y1] 50)).1
theorem two_strs (w : World) (s1 s2 : ByteArray) : StrsAt (fun _ => True) (w.alloc (.cells #[.string s1, .string s2] 9)) (.slice (some ⟨w.heap.size, 0, none⟩) 2 2) [s1, s2] := by
  have h := (MapKept.heap_alloc w (.cells #[.string s1, .string s2] 9)).1
  refine ⟨_, _, rfl, Nat.le_refl _, by unfold maxLen; decide, .inr ⟨_, _, rfl, trivial, by simp, fun i hi => ?_⟩⟩
  have h2 : i = 0 ∨ i = 1 := by simp at hi; omega
  rcases h2 with rfl | rfl
  · simp only [World.cell?, h]; rfl
  · simp only [World.cell?, h]; rfl
theorem live_calls (w : World) (hS : SymsIn w) : Calls Tryd.prog 49 #[.string liveSrc] w (ReadSRes (.ok livePs liveT liveRest) w) :=
  live_read ▸ readScheme_any liveSrc w hS (of_decide_eq_true (by kernel_rfl)) live_ok
set_option maxRecDepth 100000 in
set_option maxHeartbeats 1000000 in
theorem livesT_any (w : World) (hS : SymsIn w) : Calls Tryd.prog 47 #[] w (TrueB w) := by
  have HC := Lib.hid (live_calls w hS)
  have HP := Lib.hid (fun (P : Nat → Prop) (v : Value) (w : World) (h : TyAt P w liveT v) => refprint_any P liveT (by simp [liveT, Ty.fn, Ty.ten]) (by rw [liveT_pr]; decide) v w h)
  rw [liveT_pr] at HP
  have heq := eq_at
  have hgd := guard_at
  unfold liveSrc at HC
  clear hS
  go_enter Tryd.func47, Tryd.ntmps47
  go_wp2_with fail
  (with_reducible refine HC.out.mono ?_)
  rintro e1 y ⟨Av, nv, cv, Ap, cp, f, n, s, A, l9, c, rfl, hou, hpr, htt, hb⟩
  rw [live_len]
  rw [live_free] at hou
  obtain ⟨Av9, cv9, hv9, _⟩ := hou.strs.shape
  injection hv9 with e1 e2 e3
  subst e1; subst e2; subst e3
  obtain ⟨Y, eY, k0, k1, b1, z1⟩ := box_scheme y (.slice Av 2 cv) (.slice none 0 0) (.slice Ap 2 cp) (.int .i64 f) (.int .i64 n) (.string s) (.slice A l9 c) (.int .i64 0) (.int .i64 0)
  have hbY := hb.trans (b1.mono hb.size)
  obtain ⟨u0, u1, u2, u3, u4, u5, u6, u7, u8, u9, u10, u11, u12, u13, u14⟩ := seven_cells k0
  obtain ⟨v0, v1, v2, v3, v4⟩ := pair_cells k1
  have HST : Hid (StrsAt (fun b => w.heap.size ≤ b ∧ (Value.slice Av 2 cv).ownBlock = some b) Y (.slice Av 2 cv) [⟨#[97]⟩, ⟨#[98]⟩]) := hou.strs.on b1
  have HTT := Lib.hid (htt.on b1)
  have HEY := Lib.hid eY
  have HBY := Lib.hid hbY
  have HZ := Lib.hid z1
  have HK0 := Lib.hid k0
  have HK1 := Lib.hid k1
  have hyY : y.heap.size + 1 < Y.heap.size := by omega
  have hwY : w.heap.size ≤ Y.heap.size := hbY.size
  clear eY hou hpr htt hb b1 z1 hbY k0 k1
  go_upto_region 2 with (fail)
  rw [HEY.out]
  have hn := below_new Y (.cells #[.string ⟨#[97]⟩, .string ⟨#[98]⟩] 9)
  have HSM := Lib.hid (sameTexts_any _ _ _ _ _ _ (HST.out.on hn) (two_strs Y ⟨#[97]⟩ ⟨#[98]⟩))
  have HN := Lib.hid hn
  clear hn
  go_wp2_with fail
  (with_reducible refine HSM.out.mono ?_)
  rintro e2 z ⟨rfl, hbz⟩
  have hbz2 := HN.out.trans (hbz.mono HN.out.size)
  obtain ⟨p0, p1, p2, p3, p4, p5, p6, p7, p8, p9, p10, p11, p12, p13, p14⟩ := seven_cells ((hbz2.block y.heap.size (by omega)).trans HK0.out)
  have HPR := Lib.hid (HP.out _ _ z (HTT.out.on hbz2))
  have HBZ := Lib.hid (HBY.out.trans (hbz2.mono HBY.out.size))
  clear hbz hbz2
  go_wp2_with fail
  (with_reducible refine HPR.out.mono ?_)
  rintro e3 z3 ⟨rfl, hb3⟩
  have HB3 := Lib.hid (HBZ.out.trans (hb3.mono HBZ.out.size))
  clear hb3
  go_wp2
  go_ret
  exact ⟨rfl, HB3.out⟩
end Go.Proofs.YtbdfjboojokgdaaDoor
namespace Go.Proofs.YtbdfjboojokgdaaDoor
open Go.RowKit Lx

def depB : Nat → ByteArray
  | 0 => ⟨#[97]⟩
  | k + 1 => ⟨#[40]⟩ ++ depB k ++ ⟨#[41]⟩
theorem depB_size : ∀ k, (depB k).size = 2 * k + 1
  | 0 => rfl
  | k + 1 => by
    have h1 : (⟨#[40]⟩ : ByteArray).size = 1 := rfl
    have h2 : (⟨#[41]⟩ : ByteArray).size = 1 := rfl
    simp only [depB, ByteArray.size_append, depB_size k]; omega
def restT (k : Nat) : List Tok := match readT (depB k).data.toList with | .ok _ r => r | _ => []
theorem deep_ok (k : Nat) (h1 : 36 ≤ k) (h2 : k ≤ 40) : readT (depB k).data.toList = .ok (.var ⟨#[97]⟩) (restT k) := by
  have h : k = 36 ∨ k = 37 ∨ k = 38 ∨ k = 39 ∨ k = 40 := by omega
  clear h1 h2
  rcases h with rfl | rfl | rfl | rfl | rfl
  all_goals (show _ = _; kernel_rfl)
theorem deep_no (k : Nat) (h1 : 40 < k) (h2 : k ≤ 43) : readT (depB k).data.toList = .no 13 40 := by
  have h : k = 41 ∨ k = 42 ∨ k = 43 := by omega
  clear h1 h2
  rcases h with rfl | rfl | rfl
  all_goals (show _ = _; kernel_rfl)
/-- The text of so many predicates. -/
def manyB (k : Nat) : ByteArray := ctxS [0, 1, 2] k ++ ⟨#[97]⟩
def manyPs (k : Nat) : List (ByteArray × Ty) := match readS (manyB k).data.toList with | .ok ps _ _ => ps | _ => []
def manyR (k : Nat) : List Tok := match readS (manyB k).data.toList with | .ok _ _ r => r | _ => []
def Ty.shortB : Ty → Bool
  | .var s => decide (s.size ≤ 1099511627776)
  | .con s => decide (s.size ≤ 1099511627776)
  | .app a b => a.shortB && b.shortB
  | .all s a => decide (s.size ≤ 1099511627776) && a.shortB
  | .hole _ => true
theorem shortB_ok : ∀ t : Ty, t.shortB = true → t.short
  | .var s, h => of_decide_eq_true (p := s.size ≤ 1099511627776) h
  | .con s, h => of_decide_eq_true (p := s.size ≤ 1099511627776) h
  | .app a b, h => by simp only [Ty.shortB, Bool.and_eq_true] at h; exact ⟨shortB_ok a h.1, shortB_ok b h.2⟩
  | .all s a, h => by simp only [Ty.shortB, Bool.and_eq_true] at h; exact ⟨of_decide_eq_true h.1, shortB_ok a h.2⟩
  | .hole _, _ => trivial
/-- Is what is read small? -/
def smallB (s : List UInt8) : Bool := match lexL s with
  | .error _ => true
  | .ok l => match schemeRaw l with
    | .ok ps t _ => ps.all (fun p => p.2.shortB) && t.shortB && decide ((funs (ps.map (·.2)) t).sz ≤ 274877906944)
    | .no _ _ => true
theorem smallB_ok {s : List UInt8} (h : smallB s = true) (l : List Tok) (hl : lexL s = .ok l) (ps : List (ByteArray × Ty)) (t : Ty) (r : List Tok) (hr : schemeRaw l = .ok ps t r) : (∀ p ∈ ps, p.2.short) ∧ t.short ∧ (funs (ps.map (·.2)) t).sz ≤ 274877906944 := by
  unfold smallB at h
  rw [hl] at h
  simp only at h
  rw [hr] at h
  simp only [Bool.and_eq_true, List.all_eq_true] at h
  exact ⟨fun p hp => shortB_ok _ (h.1.1 p hp), shortB_ok _ h.1.2, of_decide_eq_true h.2⟩
theorem many_small (k : Nat) (h1 : 12 ≤ k) (h2 : k ≤ 19) : smallB (manyB k).data.toList = true := by
  have h : k = 12 ∨ k = 13 ∨ k = 14 ∨ k = 15 ∨ k = 16 ∨ k = 17 ∨ k = 18 ∨ k = 19 := by omega
  clear h1 h2
  rcases h with rfl | rfl | rfl | rfl | rfl | rfl | rfl | rfl
  all_goals (show _ = _; kernel_rfl)
theorem many_ok (k : Nat) (h1 : 12 ≤ k) (h2 : k ≤ 16) : readS (manyB k).data.toList = .ok (manyPs k) (.var ⟨#[97]⟩) (manyR k) := by
  have h : k = 12 ∨ k = 13 ∨ k = 14 ∨ k = 15 ∨ k = 16 := by omega
  clear h1 h2
  rcases h with rfl | rfl | rfl | rfl | rfl
  all_goals (show _ = _; kernel_rfl)
theorem many_len (k : Nat) (h1 : 12 ≤ k) (h2 : k ≤ 16) : (manyPs k).length = k := by
  have h : k = 12 ∨ k = 13 ∨ k = 14 ∨ k = 15 ∨ k = 16 := by omega
  clear h1 h2
  rcases h with rfl | rfl | rfl | rfl | rfl
  all_goals (show _ = _; kernel_rfl)
theorem many_no (k : Nat) (h1 : 16 < k) (h2 : k ≤ 19) : readS (manyB k).data.toList = .no 2 0 := by
  have h : k = 17 ∨ k = 18 ∨ k = 19 := by omega
  clear h1 h2
  rcases h with rfl | rfl | rfl
  all_goals (show _ = _; kernel_rfl)
end Go.Proofs.YtbdfjboojokgdaaDoor
namespace Go.Proofs.YtbdfjboojokgdaaDoor.Lx
open Go.RowKit

/-- An array of strings that reads as these texts holds them, cell for cell. -/
theorem cells_of_strs {H : Type} {enc : TypeId × Value → H} {P : Program} {w : World} {base : Nat} {sp : Nat → Bool} {held : Bool} {fuel : Nat} {t e : TypeId} {n : Nat} {cs : List Value} {zs : List (List UInt8)} {p : List MemPlace}
    (ht : P.underlying t = some (.array n e)) (he : P.underlying e = some .string) (hce : P.cellsOf e = 1) (hct : P.cellsOf t = n)
    (h : DataW.trod enc P w base sp held fuel t cs = some (.agg (zs.map fun z => .lit (.string z)), p)) : cs = zs.map fun z => Value.string ⟨z.toArray⟩ := by
  cases fuel with
  | zero => simp [DataW.trod] at h
  | succ fuel =>
    simp only [DataW.trod, ht, hce, hct, Nat.mul_one] at h
    split at h
    · rename_i hl
      obtain ⟨xs, hm, hx⟩ := Option.map_eq_some_iff.1 h
      have hxs : xs.map (·.1) = zs.map fun z => (DataW.lit (.string z) : DataW H) := by
        have := congrArg Prod.fst hx
        simpa using this
      have hxl : xs.length = n := by simpa using Lib.mapM_length hm
      have hzl : zs.length = n := by
        have := congrArg List.length hxs
        simp at this
        omega
      apply List.ext_getElem?
      intro i
      by_cases hi : i < n
      · obtain ⟨b, hb, hf⟩ := Lib.mapM_at hm i i (by simp [hi])
        obtain ⟨z, hc, rfl, _⟩ := DataW.trod_string he hf
        have h1 : cs[i]? = some (.string z) := by
          have := congrArg (·[0]?) hc
          simpa [List.getElem?_take, List.getElem?_drop] using this
        have h2 : (xs.map (·.1))[i]? = some (DataW.lit (.string z.data.toList) : DataW H) := by simp [hb]
        rw [hxs] at h2
        simp only [List.getElem?_map, Option.map_eq_some_iff, DataW.lit.injEq, Lit.string.injEq] at h2
        obtain ⟨z', hz', rfl⟩ := h2
        simp [h1, hz']
      · rw [List.getElem?_eq_none (by omega), List.getElem?_eq_none (by simp; omega)]
    · cases h

theorem syms_of_laid {W : World} (h : laidMetH Tryd.prog [("fugue/lex.symbols", Rows.laid_fugue_lex_symbols)] W) : SymsIn W := by
  rw [MakeChecks.laidMetH_plain _ _ _ (by kernel_rfl)] at h
  obtain ⟨ps, ⟨g', t', cs, fuel, p, q, hg', ht', hvar, hd, _, _⟩, _⟩ := h
  have hg : Tryd.prog.globalNamed "fugue/lex.symbols" = some 0 := by kernel_rfl
  have hty : (Tryd.prog.globals[0]?).map (·.type) = some 189 := by kernel_rfl
  obtain rfl := Option.some.inj (hg.symm.trans hg')
  obtain rfl := Option.some.inj (hty.symm.trans ht')
  have hc := cells_of_strs (zs := symsL) Tryd.underlying189 Tryd.underlying9 (by kernel_rfl) (by kernel_rfl) hd
  have hcell : Texts 0 symsL W := by
    intro i hi
    have h9 := World.var?_cell hg hvar i
    rw [← Array.getElem?_toList, hc] at h9
    simpa [hi] using h9
  refine ⟨hcell, ?_⟩
  have h9 := hcell 0 (by decide)
  rcases Nat.eq_zero_or_pos W.heap.size with h8 | h8
  · exfalso
    simp [World.cell?, Array.eq_empty_of_size_eq_zero h8] at h9
  · exact h8
/-- A slice of numbers that came in, as the walks ask for it. -/
theorem intRow_of_cells {W : World} (x : Addr) (len : Nat) (zs : List Int) (hl : len ≤ zs.length) (hcell : ∀ i, i < zs.length → W.cell? (x.add i) = some (.int .i64 (zs.getD i 0))) (hwz : ∀ n ∈ zs, (Lit.int .i64 n).wf = true) : IntRow W.heap.size W (some x) len := by
  rcases Nat.eq_zero_or_pos len with h0 | h0
  · exact .inl h0
  · obtain ⟨b, off, spot⟩ := x
    have hc := hcell 0 (by omega)
    have hspot : spot = none := by simpa [Addr.add] using World.cell?_spot hc
    subst hspot
    refine .inr ⟨b, off, rfl, ?_, fun i hi => ?_⟩
    · have := World.block_lt_of_cell? W _ hc
      simpa [Addr.add] using this
    · have h9 := hcell i (by omega)
      have hm : zs.getD i 0 ∈ zs := by
        rw [List.getD_eq_getElem?_getD, List.getElem?_eq_getElem (by omega)]
        exact List.getElem_mem _
      have hb := Go.bounds_i64 (hwz _ hm)
      exact ⟨zs.getD i 0, hb.1, hb.2, by rw [Go.WideShapes.add_plain] at h9; exact h9⟩
end Go.Proofs.YtbdfjboojokgdaaDoor.Lx
