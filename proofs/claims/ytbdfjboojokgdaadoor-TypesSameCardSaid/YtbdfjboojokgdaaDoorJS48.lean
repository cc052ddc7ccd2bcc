/- The law's own example (chapter 4): it holds. No conditions. Slices of numbers, as a call is handed them. No conditions but those that each theorem names. -/
import Derived.Test.YtbdfjboojokgdaaDoorJS11
import Derived.Test.YtbdfjboojokgdaaDoorJS28
import Derived.Test.YtbdfjboojokgdaaDoorJS19
import Derived.ProofKit
import Derived.OpenShut
namespace Go.Proofs.YtbdfjboojokgdaaDoor
open Go.RowKit

/-- True, and nothing that was there has changed. -/
def TrueB (w : World) (e : Ending) (w' : World) : Prop := e = .returned (.bool true) ∧ Below w.heap.size w w'
def exT : Ty := .fn (.fn (.var ⟨#[97]⟩) (.var ⟨#[98]⟩)) (.fn (.app (.con ⟨#[70]⟩) (.var ⟨#[97]⟩)) (.var ⟨#[98]⟩))
theorem exT_pr : exT.pr = [40, 97, 32, 45, 62, 32, 98, 41, 32, 45, 62, 32, 70, 32, 97, 32, 45, 62, 32, 98] := by decide
theorem exT_small : exT.small := by simp [exT, Ty.fn, Ty.small]
set_option maxRecDepth 100000 in
set_option maxHeartbeats 1000000 in
theorem lives_any (w : World) : Calls Tryd.prog 21 #[] w (TrueB w) := by
  have HP := Lib.hid (fun (P : Nat → Prop) (v : Value) (w : World) (h : TyAt P w exT v) => print_any P exT v w h exT_small (by rw [exT_pr]; decide))
  rw [exT_pr] at HP
  go_enter Tryd.func21, Tryd.ntmps21
  go_wp2_with fail
  refine (var_any _ _).mono ?_
  rintro e y1 ⟨v1, rfl, hv1, hb1⟩
  obtain ⟨f1, n1, s1, A1, l1, c1, rfl⟩ := hv1.flat
  have HV1 := Lib.hid hv1.all
  have HB1 := Lib.hid hb1
  clear hv1 hb1
  go_wp2_with fail
  refine (var_any _ _).mono ?_
  rintro e y2 ⟨v2, rfl, hv2, hb2⟩
  obtain ⟨f2, n2, s2, A2, l2, c2, rfl⟩ := hv2.flat
  have HV1 := Lib.hid (HV1.out.on hb2)
  have HV2 := Lib.hid hv2.all
  have HB2 := Lib.hid (HB1.out.trans (hb2.mono HB1.out.size))
  clear hv2 hb2
  go_wp2_with fail
  refine (var_any _ _).mono ?_
  rintro e y3 ⟨v3, rfl, hv3, hb3⟩
  obtain ⟨f3, n3, s3, A3, l3, c3, rfl⟩ := hv3.flat
  have HV1 := Lib.hid (HV1.out.on hb3)
  have HV2 := Lib.hid (HV2.out.on hb3)
  have HV3 := Lib.hid hv3.all
  have HB3 := Lib.hid (HB2.out.trans (hb3.mono HB2.out.size))
  clear hv3 hb3
  have hn := below_new y3 (.cells #[.int .i64 f3, .int .i64 n3, .string s3, .slice A3 l3 c3] 25)
  have hrow := (one_new HV3.out 25 1 (Nat.le_refl _) (by unfold maxLen; omega)).all
  have HR := Lib.hid hrow
  have HN := Lib.hid hn
  clear hrow hn
  go_wp2_with fail
  refine (fun_any _ _ _ _ _ _ (HV2.out.on HN.out) HR.out (by simp)).mono ?_
  rintro e y5 ⟨v5, rfl, hv5, hb5⟩
  obtain ⟨f5, n5, s5, A5, l5, c5, rfl⟩ := hv5.flat
  have HN5 := Lib.hid (HN.out.trans (hb5.mono HN.out.size))
  have HV1 := Lib.hid (HV1.out.on HN5.out)
  have HV5 := Lib.hid hv5.all
  have HB5 := Lib.hid (HB3.out.trans (HN5.out.mono HB3.out.size))
  clear hv5 hb5
  go_wp2_with fail
  refine (con_any _ _).mono ?_
  rintro e y6 ⟨v6, rfl, hv6, hb6⟩
  obtain ⟨f6, n6, s6, A6, l6, c6, rfl⟩ := hv6.flat
  have HV1 := Lib.hid (HV1.out.on hb6)
  have HV5 := Lib.hid (HV5.out.on hb6)
  have HV6 := Lib.hid hv6.all
  have HB6 := Lib.hid (HB5.out.trans (hb6.mono HB5.out.size))
  clear hv6 hb6
  go_wp2_with fail
  refine (var_any _ _).mono ?_
  rintro e y7 ⟨v7, rfl, hv7, hb7⟩
  obtain ⟨f7, n7, s7, A7, l7, c7, rfl⟩ := hv7.flat
  have HV1 := Lib.hid (HV1.out.on hb7)
  have HV5 := Lib.hid (HV5.out.on hb7)
  have HV6 := Lib.hid (HV6.out.on hb7)
  have HV7 := Lib.hid hv7.all
  have HB7 := Lib.hid (HB6.out.trans (hb7.mono HB6.out.size))
  clear hv7 hb7
  have HN7 := Lib.hid (below_new y7 (.cells #[.int .i64 f7, .int .i64 n7, .string s7, .slice A7 l7 c7] 25))
  have HR7 := Lib.hid (one_new HV7.out 25 1 (Nat.le_refl _) (by unfold maxLen; omega)).all
  go_wp2_with fail
  refine (app_any _ _ _ _ _ _ (HV6.out.on HN7.out) HR7.out (by simp)).mono ?_
  rintro e y9 ⟨v9, rfl, hv9, hb9⟩
  obtain ⟨f9, n9, s9, A9, l9, c9, rfl⟩ := hv9.flat
  have HN9 := Lib.hid (HN7.out.trans (hb9.mono HN7.out.size))
  have HV1 := Lib.hid (HV1.out.on HN9.out)
  have HV5 := Lib.hid (HV5.out.on HN9.out)
  have HV9 := Lib.hid hv9.all
  have HB9 := Lib.hid (HB7.out.trans (HN9.out.mono HB7.out.size))
  clear hv9 hb9
  have HN10 := Lib.hid (below_new y9 (.cells #[.int .i64 f5, .int .i64 n5, .string s5, .slice A5 l5 c5, .int .i64 f9, .int .i64 n9, .string s9, .slice A9 l9 c9] 25))
  have HR10 := Lib.hid (two_new HV5.out HV9.out 25 2 (Nat.le_refl _) (by unfold maxLen; omega)).all
  go_wp2_with fail
  refine (fun_any _ _ _ _ _ _ (HV1.out.on HN10.out) HR10.out (by simp)).mono ?_
  rintro e y11 ⟨v11, rfl, hv11, hb11⟩
  obtain ⟨f11, n11, s11, A11, l11, c11, rfl⟩ := hv11.flat
  have HV11 : Hid (TyAt (fun _ => True) y11 exT (.agg #[.int .i64 f11, .int .i64 n11, .string s11, .slice A11 l11 c11])) := hv11.all
  have HN11 := Lib.hid (HN10.out.trans (hb11.mono HN10.out.size))
  have HB11 := Lib.hid (HB9.out.trans (HN11.out.mono HB9.out.size))
  clear hv11 hb11
  go_wp2_with fail
  refine (HP.out _ _ _ HV11.out).mono ?_
  rintro e y12 ⟨rfl, hb12⟩
  have HB12 := Lib.hid (HB11.out.trans (hb12.mono HB11.out.size))
  clear hb12
  go_wp2
  go_ret
  exact ⟨rfl, HB12.out⟩
end Go.Proofs.YtbdfjboojokgdaaDoor
namespace Go.Proofs.YtbdfjboojokgdaaDoor
open Go.RowKit

/-- A slice that reads as some numbers. -/
def SomeInts (w : World) (v : Value) : Prop := ∃ zs, IntsAt (fun b => b < w.heap.size) w v zs
theorem ints_of_cells {W : World} (x : Addr) (len cap : Nat) (zs : List Int) (hl : len ≤ cap) (hm : cap ≤ maxLen) (hz : zs.length = cap) (hcell : ∀ i, i < zs.length → W.cell? (x.add i) = some (.int .i64 (zs.getD i 0))) (hwz : ∀ n ∈ zs, (Lit.int .i64 n).wf = true) :
    IntsAt (fun b => b < W.heap.size) W (.slice (some x) len cap) (zs.take len) := by
  have hlen : (zs.take len).length = len := by rw [List.length_take]; omega
  refine ⟨some x, cap, by rw [hlen], by omega, hm, fun z hz => ?_, ?_⟩
  · have := Go.bounds_i64 (hwz z (List.mem_of_mem_take hz)); omega
  · rcases Nat.eq_zero_or_pos len with h0 | h0
    · subst h0; exact .inl (by simp)
    · obtain ⟨b, off, spot⟩ := x
      have hc := hcell 0 (by omega)
      have hspot : spot = none := by simpa [Addr.add] using World.cell?_spot hc
      subst hspot
      have hb : b < W.heap.size := by
        have := World.block_lt_of_cell? W _ hc
        simpa [Addr.add] using this
      refine .inr ⟨b, off, rfl, hb, hb, fun i hi => ?_⟩
      have h9 := hcell i (by omega)
      rw [Go.WideShapes.add_plain] at h9
      rw [h9, List.getD_eq_getElem?_getD, List.getElem?_eq_getElem (by omega)]
      simp
theorem ints_nil (W : World) : SomeInts W (.slice none 0 0) := ⟨[], none, 0, rfl, Nat.le_refl _, Nat.zero_le _, fun z hz => absurd hz (by simp), .inl rfl⟩
end Go.Proofs.YtbdfjboojokgdaaDoor
