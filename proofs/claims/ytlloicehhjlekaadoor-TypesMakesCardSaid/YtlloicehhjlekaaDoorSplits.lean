/- TypesSplits (chapter 4): the law's walk. Condition: the slice reads as numbers. -/
import Derived.Test.YtlloicehhjlekaaDoorSplit
import Derived.Test.YtlloicehhjlekaaDoorFunction
import Derived.Test.YtlloicehhjlekaaDoorEqual
import Derived.Test.YtlloicehhjlekaaDoorLives
import Derived.Test.YtlloicehhjlekaaDoorBuilt
import Derived.Test.YtlloicehhjlekaaDoorOpen
namespace Go.Proofs.YtlloicehhjlekaaDoor
open Go.RowKit

set_option maxRecDepth 100000 in
set_option maxHeartbeats 1000000 in
theorem typesSplits_walk (P : Nat → Prop) (v : Value) (zs : List Int) (w : World) (h : IntsAt P w v zs) : Calls Tryd.prog 4 #[v] w (TrueB w) := by
  have hc := made_any P v zs w h
  obtain ⟨A, c, rfl⟩ := h.slice
  generalize madeZ zs = t at *
  have HC := Lib.hid hc
  clear hc h
  go_enter Tryd.func4, Tryd.ntmps4
  go_wp2_with fail
  refine HC.out.mono ?_
  rintro e y1 ⟨tv, rfl, ht, hb1⟩
  obtain ⟨f1, n1, s1, A1, l1, c1, rfl⟩ := ht.flat
  obtain ⟨W, eW, q1, b1, z1⟩ := one_box y1 (.int .i64 f1) (.int .i64 n1) (.string s1) (.slice A1 l1 c1) 25
  have HT := Lib.hid (ht.all.on b1)
  have HEW := Lib.hid eW
  have HQ := Lib.hid q1
  have HB := Lib.hid (hb1.trans (b1.mono hb1.size))
  clear ht hb1 eW q1 b1
  go_wp2_with fail
  rw [HEW.out]
  refine (split_any _ t _ W HT.out).mono ?_
  rintro e y2 ⟨hb2, hr⟩
  have HQ2 := Lib.hid (HQ.out.on hb2)
  have HT2 := Lib.hid (HT.out.on hb2)
  have HB2 := Lib.hid (HB.out.trans (hb2.mono HB.out.size))
  clear hb2
  rcases hr with ⟨hn, A2, c2, A3, c3, rfl⟩ | ⟨a, b, f2, n2, s2, A2, l2, c2, f3, n3, s3, A3, l3, c3, hs, rfl, ha, hb⟩
  · obtain ⟨V, eV, k1, k2, bV, zV⟩ := two_boxes y2 (.int .i64 0) (.int .i64 0) (.string ⟨#[]⟩) (.slice A2 0 c2) (.int .i64 0) (.int .i64 0) (.string ⟨#[]⟩) (.slice A3 0 c3) 25 25
    have HEV := Lib.hid eV
    have HK1 := Lib.hid k1
    have HK2 := Lib.hid k2
    have HBV := Lib.hid (HB2.out.trans (bV.mono HB2.out.size))
    have hfu := function_any _ t _ V (HT2.out.on bV)
    rw [hn] at hfu
    have HFU := Lib.hid hfu
    obtain ⟨x0, x1, x2, x3, x4, _⟩ := HQ2.out
    clear eV k1 k2 bV hfu hn
    go_wp2_with fail
    rw [HEV.out]
    refine HFU.out.mono ?_
    rintro e y3 ⟨rfl, hb3⟩
    obtain ⟨u0, u1, _⟩ := HK1.out.on hb3
    obtain ⟨v0, v1, _⟩ := HK2.out.on hb3
    have HB3 := Lib.hid (HBV.out.trans (hb3.mono HBV.out.size))
    clear hb3 x0 x1 x2 x3 x4
    go_wp2_with fail
    refine (lives_any y3).mono ?_
    rintro e y4 ⟨rfl, hb4⟩
    have HB4 := Lib.hid (HB3.out.trans (hb4.mono HB3.out.size))
    clear hb4
    go_wp2
    go_ret
    exact ⟨rfl, HB4.out⟩
  · obtain ⟨V, eV, k1, k2, bV, zV⟩ := two_boxes y2 (.int .i64 f2) (.int .i64 n2) (.string s2) (.slice A2 l2 c2) (.int .i64 f3) (.int .i64 n3) (.string s3) (.slice A3 l3 c3) 25 25
    have HEV := Lib.hid eV
    have HK1 := Lib.hid k1
    have HK2 := Lib.hid k2
    have HBV := Lib.hid (HB2.out.trans (bV.mono HB2.out.size))
    have HQV := Lib.hid (HQ2.out.on bV)
    have HTV := Lib.hid (HT2.out.on bV)
    have HAV := Lib.hid (ha.on bV)
    have HBB := Lib.hid (hb.on bV)
    have hfu := function_any _ t _ V (HT2.out.on bV)
    rw [hs] at hfu
    have HFU := Lib.hid hfu
    have HEQ := Lib.hid (sides_fn hs)
    obtain ⟨x0, x1, x2, x3, x4, _⟩ := HQ2.out
    clear eV k1 k2 bV hfu ha hb hs
    go_wp2_with fail
    rw [HEV.out]
    refine HFU.out.mono ?_
    rintro e y3 ⟨rfl, hb3⟩
    have HB3 := Lib.hid (HBV.out.trans (hb3.mono HBV.out.size))
    have HA3 := Lib.hid (HAV.out.on hb3)
    have HBB3 := Lib.hid (HBB.out.on hb3)
    have HT3 := Lib.hid (HTV.out.on hb3)
    have HX1 := Lib.hid (HK1.out.on hb3)
    have HX2 := Lib.hid (HK2.out.on hb3)
    have HX3 := Lib.hid (HQV.out.on hb3)
    clear hb3 x0 x1 x2 x3 x4
    obtain ⟨x0, x1, x2, x3, x4, _⟩ := HX1.out
    obtain ⟨u0, u1, u2, u3, u4, _⟩ := HX2.out
    obtain ⟨v0, v1, v2, v3, v4, _⟩ := HX3.out
    have HC1 : Hid (Calls Tryd.prog 18 #[.agg #[.int .i64 f2, .int .i64 n2, .string s2, .slice A2 l2 c2], .agg #[.int .i64 f3, .int .i64 n3, .string s3, .slice A3 l3 c3]] y3.drew fun e u => ∃ f n s A l c, e = .returned (.agg #[.int .i64 f, .int .i64 n, .string s, .slice A l c]) ∧ TyAt (fun _ => True) u t (.agg #[.int .i64 f, .int .i64 n, .string s, .slice A l c]) ∧ Below y3.heap.size y3 u ∧ Box4 u y1.heap.size (.int .i64 f1) (.int .i64 n1) (.string s1) (.slice A1 l1 c1)) := by
      refine (reffun_any _ a b _ _ _ (HA3.out.on (Below.refl _ y3).drew) (HBB3.out.on (Below.refl _ y3).drew)).mono ?_
      rintro e u ⟨v, rfl, hv, hb⟩
      obtain ⟨f, n, s, A, l, c, rfl⟩ := hv.flat
      have hb' : Below y3.heap.size y3 u := (Below.refl _ y3).drew.trans hb
      exact ⟨f, n, s, A, l, c, rfl, by rw [HEQ.out]; exact hv.all, hb', HX3.out.on hb'⟩
    have HC2 : Hid (∀ u f n s A l c, TyAt (fun _ => True) u t (.agg #[.int .i64 f, .int .i64 n, .string s, .slice A l c]) → Below y3.heap.size y3 u → Calls Tryd.prog 17 #[.agg #[.int .i64 f, .int .i64 n, .string s, .slice A l c], .agg #[.int .i64 f1, .int .i64 n1, .string s1, .slice A1 l1 c1]] u fun e u' => e = .returned (.bool true) ∧ Below y3.heap.size y3 u') := by
      intro u f n s A l c hv hb
      have h9 := equal_any _ _ _ t t _ _ u (Nat.le_refl _) hv (HT3.out.on hb)
      rw [eqT_true rfl] at h9
      refine h9.mono ?_
      rintro e u' ⟨rfl, hb'⟩
      exact ⟨rfl, hb.trans (hb'.mono hb.size)⟩
    have HC3 : Hid (∀ u, Below y3.heap.size y3 u → Calls Tryd.prog 22 #[] u fun e u' => e = .returned (.bool true) ∧ Below w.heap.size w u') := by
      intro u hb
      refine (lives_any u).mono ?_
      rintro e u' ⟨rfl, hb'⟩
      have hb3 := HB3.out.trans (hb.mono HB3.out.size)
      exact ⟨rfl, hb3.trans (hb'.mono hb3.size)⟩
    go_wp2_with fail
    go_region_law (first | (go_simp; go_at_call 18; (with_reducible refine HC1.out.mono ?_); rintro e u5 ⟨f5, n5, s5, A5, l5, c5, rfl, ht5, hb5, ⟨xa0, xa1, xa2, xa3, xa4, _⟩⟩) | (go_simp; go_at_call 17; (with_reducible refine (HC2.out _ _ _ _ _ _ _ ht5 hb5).mono ?_); rintro e u6 ⟨rfl, hb6⟩) | (go_simp; go_at_call 22; (with_reducible refine (HC3.out _ hb6).mono ?_); rintro e u7 ⟨rfl, hb7⟩))
    all_goals
      go_wp2
      go_ret
      exact ⟨rfl, hb7⟩
theorem typesSplits_law (a : Option Addr) (len cap : Nat) (w : World) (h : SomeInts w (.slice a len cap)) : Calls Tryd.prog 4 #[.slice a len cap] w (TrueB w) := by
  obtain ⟨zs, h⟩ := h
  exact typesSplits_walk _ _ zs w h
end Go.Proofs.YtlloicehhjlekaaDoor
