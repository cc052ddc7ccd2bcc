/- The law's own example (chapter 4): it holds. No conditions. Slices of numbers, as a call is handed them. No conditions but those that each theorem names. The walk of TypesComposes (chapter 4): it tells true for any three slices of numbers. Condition: the library's table of powers of ten reads as the program's text lays it. The library's table of powers of ten reads as the program's text lays it (the cards' condition). -/
import Derived.Test.YtbdfjboojokgdaaDoorJC07
import Derived.Test.YtbdfjboojokgdaaDoorJC15
import Derived.Test.YtbdfjboojokgdaaDoorJC14
import Derived.ProofKit
import Derived.OpenShut
import Derived.Test.YtbdfjboojokgdaaDoorJC48
import Derived.Test.YtbdfjboojokgdaaDoorJC30
import Derived.Test.YtbdfjboojokgdaaDoorRows
import Derived.LaidSub
import Derived.LaidMore
namespace Go.Proofs.YtbdfjboojokgdaaDoor
open Go.RowKit

/-- True, and nothing that was there has changed. -/
def TrueB (w : World) (e : Ending) (w' : World) : Prop := e = .returned (.bool true) ∧ Below w.heap.size w w'
def exT : Ty := .fn (.fn (.var ⟨#[97]⟩) (.var ⟨#[98]⟩)) (.fn (.app (.con ⟨#[70]⟩) (.var ⟨#[97]⟩)) (.var ⟨#[98]⟩))
theorem exT_pr : exT.pr = [40, 97, 32, 45, 62, 32, 98, 41, 32, 45, 62, 32, 70, 32, 97, 32, 45, 62, 32, 98] := by decide
theorem exT_small : exT.small := by simp [exT, Ty.fn, Ty.small]
set_option maxRecDepth 100000 in
set_option maxHeartbeats 1000000 in
theorem lives_any (w : World) : Calls Tryd.prog 21 #[] w (TrueB w) := by
  have HP := Lib.hid (fun (P : Nat → Prop) (v : Value) (w : World) (h : TyAt P w exT v) => print_any P exT v w h exT_small (by rw [exT_pr]; decide))
  rw [exT_pr] at HP
  go_enter Tryd.func21, Tryd.ntmps21
  go_wp2_with fail
  refine (var_any _ _).mono ?_
  rintro e y1 ⟨v1, rfl, hv1, hb1⟩
  obtain ⟨f1, n1, s1, A1, l1, c1, rfl⟩ := hv1.flat
  have HV1 := Lib.hid hv1.all
  have HB1 := Lib.hid hb1
  clear hv1 hb1
  go_wp2_with fail
  refine (var_any _ _).mono ?_
  rintro e y2 ⟨v2, rfl, hv2, hb2⟩
  obtain ⟨f2, n2, s2, A2, l2, c2, rfl⟩ := hv2.flat
  have HV1 := Lib.hid (HV1.out.on hb2)
  have HV2 := Lib.hid hv2.all
  have HB2 := Lib.hid (HB1.out.trans (hb2.mono HB1.out.size))
  clear hv2 hb2
  go_wp2_with fail
  refine (var_any _ _).mono ?_
  rintro e y3 ⟨v3, rfl, hv3, hb3⟩
  obtain ⟨f3, n3, s3, A3, l3, c3, rfl⟩ := hv3.flat
  have HV1 := Lib.hid (HV1.out.on hb3)
  have HV2 := Lib.hid (HV2.out.on hb3)
  have HV3 := Lib.hid hv3.all
  have HB3 := Lib.hid (HB2.out.trans (hb3.mono HB2.out.size))
  clear hv3 hb3
  have hn := below_new y3 (.cells #[.int .i64 f3, .int .i64 n3, .string s3, .slice A3 l3 c3] 25)
  have hrow := (one_new HV3.out 25 1 (Nat.le_refl _) (by unfold maxLen; omega)).all
  have HR := Lib.hid hrow
  have HN := Lib.hid hn
  clear hrow hn
  go_wp2_with fail
  refine (fun_any _ _ _ _ _ _ (HV2.out.on HN.out) HR.out (by simp)).mono ?_
  rintro e y5 ⟨v5, rfl, hv5, hb5⟩
  obtain ⟨f5, n5, s5, A5, l5, c5, rfl⟩ := hv5.flat
  have HN5 := Lib.hid (HN.out.trans (hb5.mono HN.out.size))
  have HV1 := Lib.hid (HV1.out.on HN5.out)
  have HV5 := Lib.hid hv5.all
  have HB5 := Lib.hid (HB3.out.trans (HN5.out.mono HB3.out.size))
  clear hv5 hb5
  go_wp2_with fail
  refine (con_any _ _).mono ?_
  rintro e y6 ⟨v6, rfl, hv6, hb6⟩
  obtain ⟨f6, n6, s6, A6, l6, c6, rfl⟩ := hv6.flat
  have HV1 := Lib.hid (HV1.out.on hb6)
  have HV5 := Lib.hid (HV5.out.on hb6)
  have HV6 := Lib.hid hv6.all
  have HB6 := Lib.hid (HB5.out.trans (hb6.mono HB5.out.size))
  clear hv6 hb6
  go_wp2_with fail
  refine (var_any _ _).mono ?_
  rintro e y7 ⟨v7, rfl, hv7, hb7⟩
  obtain ⟨f7, n7, s7, A7, l7, c7, rfl⟩ := hv7.flat
  have HV1 := Lib.hid (HV1.out.on hb7)
  have HV5 := Lib.hid (HV5.out.on hb7)
  have HV6 := Lib.hid (HV6.out.on hb7)
  have HV7 := Lib.hid hv7.all
  have HB7 := Lib.hid (HB6.out.trans (hb7.mono HB6.out.size))
  clear hv7 hb7
  have HN7 := Lib.hid (below_new y7 (.cells #[.int .i64 f7, .int .i64 n7, .string s7, .slice A7 l7 c7] 25))
  have HR7 := Lib.hid (one_new HV7.out 25 1 (Nat.le_refl _) (by unfold maxLen; omega)).all
  go_wp2_with fail
  refine (app_any _ _ _ _ _ _ (HV6.out.on HN7.out) HR7.out (by simp)).mono ?_
  rintro e y9 ⟨v9, rfl, hv9, hb9⟩
  obtain ⟨f9, n9, s9, A9, l9, c9, rfl⟩ := hv9.flat
  have HN9 := Lib.hid (HN7.out.trans (hb9.mono HN7.out.size))
  have HV1 := Lib.hid (HV1.out.on HN9.out)
  have HV5 := Lib.hid (HV5.out.on HN9.out)
  have HV9 := Lib.hid hv9.all
  have HB9 := Lib.hid (HB7.out.trans (HN9.out.mono HB7.out.size))
  clear hv9 hb9
  have HN10 := Lib.hid (below_new y9 (.cells #[.int .i64 f5, .int .i64 n5, .string s5, .slice A5 l5 c5, .int .i64 f9, .int .i64 n9, .string s9, .slice A9 l9 c9] 25))
  have HR10 := Lib.hid (two_new HV5.out HV9.out 25 2 (Nat.le_refl _) (by unfold maxLen; omega)).all
  go_wp2_with fail
  refine (fun_any _ _ _ _ _ _ (HV1.out.on HN10.out) HR10.out (by simp)).mono ?_
  rintro e y11 ⟨v11, rfl, hv11, hb11⟩
  obtain ⟨f11, n11, s11, A11, l11, c11, rfl⟩ := hv11.flat
  have HV11 : Hid (TyAt (fun _ => True) y11 exT (.agg #[.int .i64 f11, .int .i64 n11, .string s11, .slice A11 l11 c11])) := hv11.all
  have HN11 := Lib.hid (HN10.out.trans (hb11.mono HN10.out.size))
  have HB11 := Lib.hid (HB9.out.trans (HN11.out.mono HB9.out.size))
  clear hv11 hb11
  go_wp2_with fail
  refine (HP.out _ _ _ HV11.out).mono ?_
  rintro e y12 ⟨rfl, hb12⟩
  have HB12 := Lib.hid (HB11.out.trans (hb12.mono HB11.out.size))
  clear hb12
  go_wp2
  go_ret
  exact ⟨rfl, HB12.out⟩
end Go.Proofs.YtbdfjboojokgdaaDoor
namespace Go.Proofs.YtbdfjboojokgdaaDoor
open Go.RowKit

/-- A slice that reads as some numbers. -/
def SomeInts (w : World) (v : Value) : Prop := ∃ zs, IntsAt (fun b => b < w.heap.size) w v zs
theorem ints_of_cells {W : World} (x : Addr) (len cap : Nat) (zs : List Int) (hl : len ≤ cap) (hm : cap ≤ maxLen) (hz : zs.length = cap) (hcell : ∀ i, i < zs.length → W.cell? (x.add i) = some (.int .i64 (zs.getD i 0))) (hwz : ∀ n ∈ zs, (Lit.int .i64 n).wf = true) :
    IntsAt (fun b => b < W.heap.size) W (.slice (some x) len cap) (zs.take len) := by
  have hlen : (zs.take len).length = len := by rw [List.length_take]; omega
  refine ⟨some x, cap, by rw [hlen], by omega, hm, fun z hz => ?_, ?_⟩
  · have := Go.bounds_i64 (hwz z (List.mem_of_mem_take hz)); omega
  · rcases Nat.eq_zero_or_pos len with h0 | h0
    · subst h0; exact .inl (by simp)
    · obtain ⟨b, off, spot⟩ := x
      have hc := hcell 0 (by omega)
      have hspot : spot = none := by simpa [Addr.add] using World.cell?_spot hc
      subst hspot
      have hb : b < W.heap.size := by
        have := World.block_lt_of_cell? W _ hc
        simpa [Addr.add] using this
      refine .inr ⟨b, off, rfl, hb, hb, fun i hi => ?_⟩
      have h9 := hcell i (by omega)
      rw [Go.WideShapes.add_plain] at h9
      rw [h9, List.getD_eq_getElem?_getD, List.getElem?_eq_getElem (by omega)]
      simp
theorem ints_nil (W : World) : SomeInts W (.slice none 0 0) := ⟨[], none, 0, rfl, Nat.le_refl _, Nat.zero_le _, fun z hz => absurd hz (by simp), .inl rfl⟩
end Go.Proofs.YtbdfjboojokgdaaDoor
namespace Go.Proofs.YtbdfjboojokgdaaDoor
open Go.RowKit

theorem composes_true {t x y : Ty} (h : hasB y.free sA = false) : sameT noG noG 0 ((t.sub [(sA, x)]).sub [(sB, y)]) ((t.sub [(sB, y)]).sub [(sA, x.sub [(sB, y)])]) = true := by
  refine (same_nt0 _ _).2 (sub_composes t x y sA sB (by decide) (fun hf => ?_))
  exact hasB_not.1 h (free_mem.2 hf)
set_option maxRecDepth 100000 in
set_option maxHeartbeats 2000000 in
theorem typesComposes_law (P Q R : Nat → Prop) (v1 v2 v3 : Value) (zs ys xs : List Int) (w : World) (h1 : IntsAt P w v1 zs) (h2 : IntsAt Q w v2 ys) (h3 : IntsAt R w v3 xs) (htab : TabW w) : Calls Tryd.prog 8 #[v1, v2, v3] w (TrueB w) := by
  have hc1 := made_any P v1 zs w h1
  have HC2 := Lib.hid (fun w' (hb : Below w.heap.size w w') => made_any Q v2 ys w' (h2.on hb))
  have HC3 := Lib.hid (fun w' (hb : Below w.heap.size w w') => made_any R v3 xs w' (h3.on hb))
  have HTAB := Lib.hid htab
  obtain ⟨A0, c0, rfl⟩ := h1.slice
  obtain ⟨A9, c9, rfl⟩ := h2.slice
  obtain ⟨A8, c8, rfl⟩ := h3.slice
  have ft := fit_made zs
  have fx := fit_made ys
  have fy := fit_made xs
  generalize madeZ zs = t at *
  generalize madeZ ys = x at *
  generalize madeZ xs = y at *
  have HC1 := Lib.hid hc1
  clear hc1 h1 h2 h3 htab
  go_enter Tryd.func8, Tryd.ntmps8
  go_wp2_with fail
  refine HC1.out.mono ?_
  rintro e y1 ⟨tv, rfl, ht, hb1⟩
  obtain ⟨f0, n0, s0, A0, l0, c0, rfl⟩ := ht.flat
  obtain ⟨W, eW, q1, b1, z1⟩ := one_box y1 (.int .i64 f0) (.int .i64 n0) (.string s0) (.slice A0 l0 c0) 25
  have HT := Lib.hid (ht.all.on b1)
  have HEW := Lib.hid eW
  have HQ := Lib.hid q1
  have HB := Lib.hid (hb1.trans (b1.mono hb1.size))
  clear ht hb1 eW q1 b1 z1
  go_wp2_with fail
  rw [HEW.out]
  refine (HC2.out W HB.out).mono ?_
  rintro e y2 ⟨tv, rfl, ht2, hb2⟩
  obtain ⟨f1, n1, s1, A1, l1, c1, rfl⟩ := ht2.flat
  obtain ⟨V, eV, q2, b2, z2⟩ := one_box y2 (.int .i64 f1) (.int .i64 n1) (.string s1) (.slice A1 l1 c1) 25
  have hbV := hb2.trans (b2.mono hb2.size)
  have HT1 := Lib.hid (HT.out.on hbV)
  have HT2 := Lib.hid (ht2.all.on b2)
  have HEV := Lib.hid eV
  have HQ1 := Lib.hid (HQ.out.on hbV)
  have HQ2 := Lib.hid q2
  have HBV := Lib.hid (HB.out.trans (hbV.mono HB.out.size))
  clear ht2 hb2 eV q2 b2 hbV HT HQ HB z2 HEW HC1 HC2
  generalize y1.heap.size = g1 at *
  generalize hg2 : y2.heap.size = g2 at *
  go_wp2_with fail
  rw [HEV.out]
  refine (HC3.out V HBV.out).mono ?_
  rintro e y3 ⟨tv, rfl, ht3, hb3⟩
  obtain ⟨f2, n2, s2, A2, l2, c2, rfl⟩ := ht3.flat
  obtain ⟨U, eU, q3, b3, z3⟩ := one_box y3 (.int .i64 f2) (.int .i64 n2) (.string s2) (.slice A2 l2 c2) 25
  have hbU := hb3.trans (b3.mono hb3.size)
  have HU0 := Lib.hid (HT1.out.on hbU)
  have HU1 := Lib.hid (HT2.out.on hbU)
  have HU2 := Lib.hid (ht3.all.on b3)
  have HEU := Lib.hid eU
  have HP0 := Lib.hid (HQ1.out.on hbU)
  have HP1 := Lib.hid (HQ2.out.on hbU)
  have HP2 := Lib.hid q3
  have HBU := Lib.hid (HBV.out.trans (hbU.mono HBV.out.size))
  clear ht3 hb3 eU q3 b3 hbU HT1 HT2 HQ1 HQ2 HBV z3 HEV HC3
  generalize hg3 : y3.heap.size = g3 at *
  have HF := Lib.hid (reffree_any _ y _ U HU2.out (by have := fy.sz; omega))
  obtain ⟨_, k0, k1, k2, k3, _⟩ := HP2.out
  go_wp2_with fail
  rw [HEU.out]
  refine HF.out.mono ?_
  rintro e X ⟨⟨u, rfl, hou⟩, hbx⟩
  have HH := Lib.hid (has_any _ y.free sA u X hou.strs)
  have HBX := Lib.hid (HBU.out.trans (hbx.mono HBU.out.size))
  have HV0 := Lib.hid (HU0.out.on hbx)
  have HV1 := Lib.hid (HU1.out.on hbx)
  have HV2 := Lib.hid (HU2.out.on hbx)
  have HR0 := Lib.hid (HP0.out.on hbx)
  have HR1 := Lib.hid (HP1.out.on hbx)
  have HR2 := Lib.hid (HP2.out.on hbx)
  clear hou hbx HF HU0 HU1 HU2 HP0 HP1 HP2 HBU k0 k1 k2 k3 HEU
  have HTR := Lib.hid (composes_true (t := t) (x := x) (y := y))
  generalize hasB y.free sA = bq at *
  go_wp2_with fail
  refine HH.out.mono ?_
  rintro e X' ⟨rfl, rfl⟩
  cases bq with
  | true =>
    go_wp2_with (go_at_call 21; refine (lives_any _).mono ?_; rintro e q ⟨rfl, hq⟩)
    go_ret
    exact ⟨rfl, HBX.out.trans (hq.mono HBX.out.size)⟩
  | false =>
    have HSM := Lib.hid (HTR.out rfl)
    go_upto_region 6 with (fail)
    refine comp_reg6 HR0 HV0 HR1 HV1 HR2 HV2 ft fx fy (HTAB.out.on HBX.out) ?_
    rintro x60 x61 x62 x63 x64 x65 x66 x67 x68 x69 Y ⟨g6, f6, n6, s6, A6, l6, c6, rfl, hq6, hty6, hb6⟩
    have HY0 := Lib.hid (HV0.out.on hb6)
    have HY1 := Lib.hid (HV1.out.on hb6)
    have HY2 := Lib.hid (HV2.out.on hb6)
    have HZ0 := Lib.hid (HR0.out.on hb6)
    have HZ1 := Lib.hid (HR1.out.on hb6)
    have HZ2 := Lib.hid (HR2.out.on hb6)
    have HQ6 := Lib.hid hq6
    have HT6 := Lib.hid hty6
    have HBY := Lib.hid (HBX.out.trans (hb6.mono HBX.out.size))
    clear hq6 hty6 hb6 HV0 HV1 HV2 HR0 HR1 HR2 HBX
    go_upto_region 7 with (fail)
    refine comp_reg7 HZ0 HY0 HZ1 HY1 HZ2 HY2 ft fx fy (HTAB.out.on HBY.out) ?_
    rintro x70 x71 x72 x73 x74 x75 x76 x77 x78 x79 x7a x7b x7c x7d Z ⟨g7, f7, n7, s7, A7, l7, c7, rfl, hq7, hty7, hb7⟩
    have HQ6 := Lib.hid (HQ6.out.on hb7)
    have HT6 := Lib.hid (HT6.out.on hb7)
    have HQ7 := Lib.hid hq7
    have HT7 := Lib.hid hty7
    have HBZ := Lib.hid (HBY.out.trans (hb7.mono HBY.out.size))
    clear hq7 hty7 hb7 HY0 HY1 HY2 HZ0 HZ1 HZ2 HBY
    obtain ⟨_, k0, k1, k2, k3, _⟩ := HQ6.out
    obtain ⟨_, m0, m1, m2, m3, _⟩ := HQ7.out
    have f1' := (ft.sub sA fx (by omega) (by omega) (by omega)).sub sB fy (by omega) (by omega) (by omega)
    have f2' := (ft.sub sB fy (by omega) (by omega) (by omega)).sub sA (fx.sub sB fy (by omega) (by omega) (by omega)) (by omega) (by omega) (by omega)
    have HSA := Lib.hid (same_any _ _ _ _ _ _ Z HT6.out HT7.out f1'.sh f2'.sh (by have := f1'.sz; omega))
    rw [HSM.out] at HSA
    clear f1' f2' HTR HSM HQ6 HQ7 HT6 HT7 ft fx fy
    go_wp2_with fail
    (with_reducible refine HSA.out.mono ?_)
    rintro e q ⟨rfl, hq⟩
    go_wp2_with (go_at_call 21; refine (lives_any _).mono ?_; rintro e q2 ⟨rfl, hq2⟩)
    go_ret
    exact ⟨rfl, HBZ.out.trans ((hq.trans (hq2.mono hq.size)).mono HBZ.out.size)⟩
theorem typesComposes_walk (a : Option Addr) (len cap : Nat) (b : Option Addr) (len2 cap2 : Nat) (c : Option Addr) (len3 cap3 : Nat) (w : World) (h1 : SomeInts w (.slice a len cap)) (h2 : SomeInts w (.slice b len2 cap2)) (h3 : SomeInts w (.slice c len3 cap3)) (htab : TabW w) : Calls Tryd.prog 8 #[.slice a len cap, .slice b len2 cap2, .slice c len3 cap3] w (TrueB w) := by
  obtain ⟨zs, h1⟩ := h1
  obtain ⟨ys, h2⟩ := h2
  obtain ⟨xs, h3⟩ := h3
  exact typesComposes_law _ _ _ _ _ _ zs ys xs w h1 h2 h3 htab
end Go.Proofs.YtbdfjboojokgdaaDoor
namespace Go.Proofs.YtbdfjboojokgdaaDoor
open Go.RowKit

theorem tab_of_one {W : World} (h : laidMetH Tryd.prog [("internal/strconv.uint64pow10", Lib.tabData .u64 Lib.pow10Tab)] W) : TabW W := by
  rw [MakeChecks.laidMetH_plain _ _ _ (by kernel_rfl)] at h
  obtain ⟨ps, ⟨g', t', cs, fuel, p, q, hg', ht', hvar, hd, _, _⟩, _⟩ := h
  have hg : Tryd.prog.globalNamed "internal/strconv.uint64pow10" = some 2 := by kernel_rfl
  have hty : (Tryd.prog.globals[2]?).map (·.type) = some 210 := by kernel_rfl
  obtain rfl := Option.some.inj (hg.symm.trans hg')
  obtain rfl := Option.some.inj (hty.symm.trans ht')
  have hc := Lib.cells_of_tab Tryd.underlying210 Tryd.underlying203 (by kernel_rfl) (by kernel_rfl) hd
  unfold TabW Lib.TabIs
  rw [hvar, ← hc]
theorem tab_of_typesComposes {W : World} (h : laidMetH Tryd.prog Rows.typesComposesRow.laid W) : TabW W := by
  have h9 := laidMetH.filter (fun x => x.1 == "internal/strconv.uint64pow10") h
  have e : Rows.typesComposesRow.laid.filter (fun x => x.1 == "internal/strconv.uint64pow10") = [("internal/strconv.uint64pow10", Lib.tabData .u64 Lib.pow10Tab)] := by kernel_rfl
  rw [e] at h9
  exact tab_of_one h9
theorem tab_of_typesPuts {W : World} (h : laidMetH Tryd.prog Rows.typesPutsRow.laid W) : TabW W := by
  have h9 := laidMetH.filter (fun x => x.1 == "internal/strconv.uint64pow10") h
  have e : Rows.typesPutsRow.laid.filter (fun x => x.1 == "internal/strconv.uint64pow10") = [("internal/strconv.uint64pow10", Lib.tabData .u64 Lib.pow10Tab)] := by kernel_rfl
  rw [e] at h9
  exact tab_of_one h9
theorem tab_of_typesCatches {W : World} (h : laidMetH Tryd.prog Rows.typesCatchesRow.laid W) : TabW W := by
  have h9 := laidMetH.filter (fun x => x.1 == "internal/strconv.uint64pow10") h
  have e : Rows.typesCatchesRow.laid.filter (fun x => x.1 == "internal/strconv.uint64pow10") = [("internal/strconv.uint64pow10", Lib.tabData .u64 Lib.pow10Tab)] := by kernel_rfl
  rw [e] at h9
  exact tab_of_one h9
end Go.Proofs.YtbdfjboojokgdaaDoor
