/- The contract of the document's Print of types (chapter 4). Conditions: the print has at most 2^40 bytes; numbers of what is not known are 0 to 9. The law's own example (chapter 4): it holds. No conditions. -/
import Derived.Test.YtbdfjboojokgdaaDoorRefS
import Derived.Test.YtbdfjboojokgdaaDoorJ11
import Derived.Test.YtbdfjboojokgdaaDoorFun
import Derived.Test.YtbdfjboojokgdaaDoorJ19
namespace Go.Proofs.YtbdfjboojokgdaaDoor
open Go.RowKit

theorem prAt_le (p : Nat) (t : Ty) : t.pr.length ≤ (t.prAt p).length := by
  unfold Ty.prAt brk; split <;> simp; omega
theorem refprint_of (P : Nat → Prop) : ∀ (n : Nat) (t : Ty), t.sz ≤ n → t.ten → t.pr.length ≤ 1099511627776 → RefPr P t
  | 0, t, h, _, _ => by cases t <;> simp [Ty.sz] at h
  | n + 1, t, h, ht, hl => by
    cases t with
    | hole k => exact refprint_hole P k ht.1 ht.2
    | var s => exact refprint_name P _ s (.inl rfl) hl
    | con s => exact refprint_name P _ s (.inr rfl) hl
    | all s a =>
      refine refprint_all P s a (refprint_of P n a (by simp [Ty.sz] at h; omega) ht ?_) hl
      rw [Ty.pr] at hl; simp at hl; omega
    | app x b =>
      simp only [Ty.sz] at h
      cases hs : (Ty.app x b).sides with
      | none =>
        have h1 := prAt_le 2 x
        have h2 := prAt_le 3 b
        have hl' := hl
        rw [Ty.pr_app hs] at hl'
        simp only [List.length_append] at hl'
        exact refprint_app P x b hs (refprint_of P n x (by omega) ht.1 (by omega)) (refprint_of P n b (by omega) ht.2 (by omega)) hl
      | some p =>
        obtain ⟨a, b'⟩ := p
        have hl' := hl
        rw [Ty.pr_fun hs] at hl'
        have h1 := prAt_le 2 a
        have h2 := prAt_le 1 b'
        simp only [List.length_append] at hl'
        obtain ⟨f, e, hf⟩ := sides_shape hs
        injection e with e1 e2
        subst e1; subst e2
        simp only [Ty.sz] at h
        exact refprint_fun P _ a b hs (refprint_of P n a (by omega) ht.1.2 (by omega)) (refprint_of P n b (by omega) ht.2 (by omega)) hl
theorem refprint_any (P : Nat → Prop) (t : Ty) (ht : t.ten) (hl : t.pr.length ≤ 1099511627776) : RefPr P t := refprint_of P _ t (Nat.le_refl _) ht hl
theorem world_ten : ∀ (t : Ty), t.world → t.ten
  | .hole _, h => by rcases h with rfl | rfl | rfl | rfl <;> exact ⟨by omega, by omega⟩
  | .var _, _ => trivial
  | .con _, _ => trivial
  | .app a b, h => ⟨world_ten a h.1, world_ten b h.2⟩
  | .all _ a, h => world_ten a h.2
theorem world_small : ∀ (t : Ty), t.world → t.small
  | .hole _, h => by rcases h with rfl | rfl | rfl | rfl <;> exact ⟨by omega, by omega⟩
  | .var _, _ => trivial
  | .con _, _ => trivial
  | .app a b, h => ⟨world_small a h.1, world_small b h.2⟩
  | .all _ a, h => world_small a h.2
theorem world_short : ∀ (t : Ty), t.world → t.short
  | .hole _, _ => trivial
  | .var _, h => by rcases h with rfl | rfl | rfl | rfl <;> (show ByteArray.size _ ≤ _; decide)
  | .con _, h => by rcases h with rfl | rfl | rfl | rfl | rfl | rfl <;> (show ByteArray.size _ ≤ _; decide)
  | .app a b, h => ⟨world_short a h.1, world_short b h.2⟩
  | .all _ a, h => ⟨by rcases h.1 with rfl | rfl | rfl | rfl <;> decide, world_short a h.2⟩
/-- A print is not longer than this. -/
theorem world_pr : ∀ (t : Ty), t.world → t.pr.length ≤ 14 * t.sz
  | .hole n, h => by rcases h with rfl | rfl | rfl | rfl <;> (rw [Ty.pr]; simp [Ty.sz, Lib.decDigits])
  | .var s, h => by rcases h with rfl | rfl | rfl | rfl <;> simp [Ty.pr, Ty.sz]
  | .con s, h => by rcases h with rfl | rfl | rfl | rfl | rfl | rfl <;> simp [Ty.pr, Ty.sz, Ty.isArrow] <;> decide
  | .all s a, h => by
    have := world_pr a h.2
    rw [Ty.pr]
    rcases h.1 with rfl | rfl | rfl | rfl <;> simp [Ty.sz] <;> omega
  | .app x b, h => by
    have h1 := world_pr x h.1
    have h2 := world_pr b h.2
    have hb : ∀ (p : Nat) (t : Ty), (t.prAt p).length ≤ t.pr.length + 2 := fun p t => by unfold Ty.prAt brk; split <;> simp
    cases hs : (Ty.app x b).sides with
    | none =>
      have := hb 2 x
      have := hb 3 b
      rw [Ty.pr_app hs]; simp only [List.length_append, List.length_cons, List.length_nil, Ty.sz]; omega
    | some p =>
      obtain ⟨a, b'⟩ := p
      rw [Ty.pr_fun hs]
      obtain ⟨f, e, hf⟩ := sides_shape hs
      injection e with e1 e2
      subst e1; subst e2
      have := hb 2 a
      have := hb 1 b
      have h3 := world_pr a h.1.2
      simp only [List.length_append, List.length_cons, List.length_nil, Ty.sz] at h1 ⊢; omega
theorem sameT_refl : ∀ (t : Ty) (f : ByteArray → Int) (d : Int), sameT f f d t t = true
  | .hole n, _, _ => by simp [sameT]
  | .var s, f, _ => by simp [sameT]
  | .con s, _, _ => by simp [sameT]
  | .app a b, f, d => by simp [sameT, sameT_refl a f d, sameT_refl b f d]
  | .all s a, f, d => by simp [sameT, sameT_refl a]
end Go.Proofs.YtbdfjboojokgdaaDoor
namespace Go.Proofs.YtbdfjboojokgdaaDoor
open Go.RowKit

/-- True, and nothing that was there has changed. -/
def TrueB (w : World) (e : Ending) (w' : World) : Prop := e = .returned (.bool true) ∧ Below w.heap.size w w'
def exT : Ty := .fn (.fn (.var ⟨#[97]⟩) (.var ⟨#[98]⟩)) (.fn (.app (.con ⟨#[70]⟩) (.var ⟨#[97]⟩)) (.var ⟨#[98]⟩))
theorem exT_pr : exT.pr = [40, 97, 32, 45, 62, 32, 98, 41, 32, 45, 62, 32, 70, 32, 97, 32, 45, 62, 32, 98] := by decide
theorem exT_small : exT.small := by simp [exT, Ty.fn, Ty.small]
set_option maxRecDepth 100000 in
set_option maxHeartbeats 1000000 in
theorem lives_any (w : World) : Calls Tryd.prog 21 #[] w (TrueB w) := by
  have HP := Lib.hid (fun (P : Nat → Prop) (v : Value) (w : World) (h : TyAt P w exT v) => print_any P exT v w h exT_small (by rw [exT_pr]; decide))
  rw [exT_pr] at HP
  go_enter Tryd.func21, Tryd.ntmps21
  go_wp2_with fail
  refine (var_any _ _).mono ?_
  rintro e y1 ⟨v1, rfl, hv1, hb1⟩
  obtain ⟨f1, n1, s1, A1, l1, c1, rfl⟩ := hv1.flat
  have HV1 := Lib.hid hv1.all
  have HB1 := Lib.hid hb1
  clear hv1 hb1
  go_wp2_with fail
  refine (var_any _ _).mono ?_
  rintro e y2 ⟨v2, rfl, hv2, hb2⟩
  obtain ⟨f2, n2, s2, A2, l2, c2, rfl⟩ := hv2.flat
  have HV1 := Lib.hid (HV1.out.on hb2)
  have HV2 := Lib.hid hv2.all
  have HB2 := Lib.hid (HB1.out.trans (hb2.mono HB1.out.size))
  clear hv2 hb2
  go_wp2_with fail
  refine (var_any _ _).mono ?_
  rintro e y3 ⟨v3, rfl, hv3, hb3⟩
  obtain ⟨f3, n3, s3, A3, l3, c3, rfl⟩ := hv3.flat
  have HV1 := Lib.hid (HV1.out.on hb3)
  have HV2 := Lib.hid (HV2.out.on hb3)
  have HV3 := Lib.hid hv3.all
  have HB3 := Lib.hid (HB2.out.trans (hb3.mono HB2.out.size))
  clear hv3 hb3
  have hn := below_new y3 (.cells #[.int .i64 f3, .int .i64 n3, .string s3, .slice A3 l3 c3] 25)
  have hrow := (one_new HV3.out 25 1 (Nat.le_refl _) (by unfold maxLen; omega)).all
  have HR := Lib.hid hrow
  have HN := Lib.hid hn
  clear hrow hn
  go_wp2_with fail
  refine (fun_any _ _ _ _ _ _ (HV2.out.on HN.out) HR.out (by simp)).mono ?_
  rintro e y5 ⟨v5, rfl, hv5, hb5⟩
  obtain ⟨f5, n5, s5, A5, l5, c5, rfl⟩ := hv5.flat
  have HN5 := Lib.hid (HN.out.trans (hb5.mono HN.out.size))
  have HV1 := Lib.hid (HV1.out.on HN5.out)
  have HV5 := Lib.hid hv5.all
  have HB5 := Lib.hid (HB3.out.trans (HN5.out.mono HB3.out.size))
  clear hv5 hb5
  go_wp2_with fail
  refine (con_any _ _).mono ?_
  rintro e y6 ⟨v6, rfl, hv6, hb6⟩
  obtain ⟨f6, n6, s6, A6, l6, c6, rfl⟩ := hv6.flat
  have HV1 := Lib.hid (HV1.out.on hb6)
  have HV5 := Lib.hid (HV5.out.on hb6)
  have HV6 := Lib.hid hv6.all
  have HB6 := Lib.hid (HB5.out.trans (hb6.mono HB5.out.size))
  clear hv6 hb6
  go_wp2_with fail
  refine (var_any _ _).mono ?_
  rintro e y7 ⟨v7, rfl, hv7, hb7⟩
  obtain ⟨f7, n7, s7, A7, l7, c7, rfl⟩ := hv7.flat
  have HV1 := Lib.hid (HV1.out.on hb7)
  have HV5 := Lib.hid (HV5.out.on hb7)
  have HV6 := Lib.hid (HV6.out.on hb7)
  have HV7 := Lib.hid hv7.all
  have HB7 := Lib.hid (HB6.out.trans (hb7.mono HB6.out.size))
  clear hv7 hb7
  have HN7 := Lib.hid (below_new y7 (.cells #[.int .i64 f7, .int .i64 n7, .string s7, .slice A7 l7 c7] 25))
  have HR7 := Lib.hid (one_new HV7.out 25 1 (Nat.le_refl _) (by unfold maxLen; omega)).all
  go_wp2_with fail
  refine (app_any _ _ _ _ _ _ (HV6.out.on HN7.out) HR7.out (by simp)).mono ?_
  rintro e y9 ⟨v9, rfl, hv9, hb9⟩
  obtain ⟨f9, n9, s9, A9, l9, c9, rfl⟩ := hv9.flat
  have HN9 := Lib.hid (HN7.out.trans (hb9.mono HN7.out.size))
  have HV1 := Lib.hid (HV1.out.on HN9.out)
  have HV5 := Lib.hid (HV5.out.on HN9.out)
  have HV9 := Lib.hid hv9.all
  have HB9 := Lib.hid (HB7.out.trans (HN9.out.mono HB7.out.size))
  clear hv9 hb9
  have HN10 := Lib.hid (below_new y9 (.cells #[.int .i64 f5, .int .i64 n5, .string s5, .slice A5 l5 c5, .int .i64 f9, .int .i64 n9, .string s9, .slice A9 l9 c9] 25))
  have HR10 := Lib.hid (two_new HV5.out HV9.out 25 2 (Nat.le_refl _) (by unfold maxLen; omega)).all
  go_wp2_with fail
  refine (fun_any _ _ _ _ _ _ (HV1.out.on HN10.out) HR10.out (by simp)).mono ?_
  rintro e y11 ⟨v11, rfl, hv11, hb11⟩
  obtain ⟨f11, n11, s11, A11, l11, c11, rfl⟩ := hv11.flat
  have HV11 : Hid (TyAt (fun _ => True) y11 exT (.agg #[.int .i64 f11, .int .i64 n11, .string s11, .slice A11 l11 c11])) := hv11.all
  have HN11 := Lib.hid (HN10.out.trans (hb11.mono HN10.out.size))
  have HB11 := Lib.hid (HB9.out.trans (HN11.out.mono HB9.out.size))
  clear hv11 hb11
  go_wp2_with fail
  refine (HP.out _ _ _ HV11.out).mono ?_
  rintro e y12 ⟨rfl, hb12⟩
  have HB12 := Lib.hid (HB11.out.trans (hb12.mono HB11.out.size))
  clear hb12
  go_wp2
  go_ret
  exact ⟨rfl, HB12.out⟩
end Go.Proofs.YtbdfjboojokgdaaDoor
