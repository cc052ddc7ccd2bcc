/- The walk of TreadPlaces (chapter 5): it tells true for every slice of numbers and every number. Condition: the list of symbols stands in memory as the program's text lays it. -/
import Derived.Test.YtbdfjboojokgdaaDoorJP49
import Derived.Test.YtbdfjboojokgdaaDoorJP50
namespace Go.Proofs.YtbdfjboojokgdaaDoor
open Go.RowKit Lx

theorem intRow_of_ints {w : World} {A : Option Addr} {len cap : Nat} (h : SomeInts w (.slice A len cap)) : IntRow w.heap.size w A len ∧ len ≤ 9223372036854775807 := by
  obtain ⟨zs, A', c, e, h1, h2, h3, hr⟩ := h
  injection e with e1 e2 e3
  subst e1 e2 e3
  unfold maxLen at h2
  refine ⟨?_, by omega⟩
  rcases hr with h9 | ⟨b, off, e, hp, hlt, hc⟩
  · exact .inl (by rw [h9]; rfl)
  · exact .inr ⟨b, off, e, hlt, fun i hi => ⟨zs[i], (h3 _ (List.getElem_mem hi)).1, (h3 _ (List.getElem_mem hi)).2, hc i hi⟩⟩
theorem ret_true {w X Y : World} (h : Below w.heap.size w X) (h2 : Below X.heap.size X Y) : TrueB w (.returned (.bool true)) Y := ⟨rfl, h.trans (h2.mono h.size)⟩
set_option maxRecDepth 100000 in
set_option maxHeartbeats 4000000 in
theorem treadPlaces_law (A : Option Addr) (len cap : Nat) (at0 : Int) (w : World) (hl : SomeInts w (.slice A len cap)) (hS : SymsIn w) (ha1 : -9223372036854775808 ≤ at0) (ha2 : at0 ≤ 9223372036854775807) : Calls Tryd.prog 9 #[.slice A len cap, .int .i64 at0] w (TrueB w) := by
  obtain ⟨hrow, hlen⟩ := intRow_of_ints hl
  obtain ⟨f0, hf0⟩ := intRowF_of hrow
  have hmem := textsF_mem f0 (min len 30)
  obtain ⟨L, hL⟩ := lexL_srcT hmem (by rw [textsF_len]; omega)
  have hsz := srcT_len _ hmem
  rw [textsF_len] at hsz
  have hz : (⟨(srcT (textsF f0 (min len 30))).toArray⟩ : ByteArray).size ≤ 1099511627776 := by rw [mkS_size]; omega
  have hby : (⟨(srcT (textsF f0 (min len 30))).toArray⟩ : ByteArray).data.toList = srcT (textsF f0 (min len 30)) := by simp
  obtain ⟨hE, hSZ, hLl⟩ := lexL_good hL
  have hTx : Txt L := lexL_texts hL
  have HSRC := Lib.hid (fun (X : World) (hb : Below w.heap.size w X) => sourceT_any A len cap f0 X ((hf0.below hb (Nat.le_refl _)).mono hb.size) hlen)
  have HLC := Lib.hid (fun (X : World) (hb : Below w.heap.size w X) => lexR_any ⟨(srcT (textsF f0 (min len 30))).toArray⟩ X hz (hS.on hb))
  have HLR := Lib.hid (fun (X : World) => reflexR_any ⟨(srcT (textsF f0 (min len 30))).toArray⟩ X hz)
  rw [hby, hL] at HLC HLR
  have hLp := List.length_pos_iff.2 hE.ne
  have hbd := aroundI_bd at0 L.length (by omega)
  have HAR := Lib.hid (fun W => around_is at0 L.length W ha1 ha2 (by omega) (by omega))
  obtain ⟨i, hi⟩ : ∃ i : Nat, aroundI at0 L.length = i := ⟨(aroundI at0 L.length).toNat, by omega⟩
  rw [hi] at HAR hbd
  have hiL : i < L.length := by omega
  have hi40 : (i : Int) < (L.length : Int) := by omega
  have hi00 : (0 : Int) ≤ (i : Int) := by omega
  have hL1 : (L.length : Int) ≤ 4001 := by omega
  have hL0 : ((L.length : Int) == 0) = false := by rw [beq_eq_false_iff_ne]; omega
  have hED := hE.drop hiL
  have hTD : Txt (L.drop i) := hTx.suf (List.drop_suffix _ _)
  have hfit := fun ps t r h => (scheme_fit hED hTD (by rw [List.length_drop]; omega) ps t r h)
  have hsL : (sL (schemeRaw (L.drop i))).length ≤ 1099511627776 := by
    cases hr : schemeRaw (L.drop i) with
    | ok ps t r => have := (hfit ps t r hr).2; simp only [sL]; omega
    | no e p => simp [sL]
  have heq := eq_at
  have hgd := guard_at
  have HS := Lib.hid hS
  have HBW : Hid (Below w.heap.size w w) := Below.refl _ _
  -- what each side tells
  have HT1 : Hid (∀ (X : World) (g cap : Nat), TokC X g L → g < X.heap.size → Calls Tryd.prog 37 #[.slice (some ⟨g, 0, none⟩) L.length cap, .int .i64 i] X fun e w' => ∃ f n s A l c, e = .returned (.tuple #[.agg #[.int .i64 f, .int .i64 n, .string s, .slice A l c], .int .i64 (gI L (typeL (L.drop i) 0)), .agg #[.int .i64 (gE (typeL (L.drop i) 0)), .int .i64 (gP (typeL (L.drop i) 0))]]) ∧ ResTy w' (typeL (L.drop i) 0) f n s A l c ∧ Below X.heap.size X w') := fun X g cap hT hg => code_uni (typeC_any L g cap _ i X _ hT hg (by omega) hSZ (typeL_is hED 0))
  have HT2 : Hid (∀ (X : World) (g cap : Nat), TokC X g L → g < X.heap.size → Calls Tryd.prog 38 #[.slice (some ⟨g, 0, none⟩) L.length cap, .int .i64 i, .int .i64 0] X fun e w' => ∃ f n s A l c, e = .returned (.agg #[.int .i64 f, .int .i64 n, .string s, .slice A l c, .slice none 0 0, .slice none 0 0, .int .i64 (gI L (typeL (L.drop i) 0)), .int .i64 (gE (typeL (L.drop i) 0)), .int .i64 (gP (typeL (L.drop i) 0))]) ∧ ResTy w' (typeL (L.drop i) 0) f n s A l c ∧ Below X.heap.size X w') := fun X g cap hT hg => doc_uni (typeX_any (cap := cap) (o := 0) hT hg (by omega) (by omega) hED)
  have HA1 : Hid (∀ (X : World) (g cap : Nat), TokC X g L → g < X.heap.size → Calls Tryd.prog 39 #[.slice (some ⟨g, 0, none⟩) L.length cap, .int .i64 i] X fun e w' => ∃ f n s A l c, e = .returned (.tuple #[.agg #[.int .i64 f, .int .i64 n, .string s, .slice A l c], .int .i64 (gI L (atomL (L.drop i) 0)), .agg #[.int .i64 (gE (atomL (L.drop i) 0)), .int .i64 (gP (atomL (L.drop i) 0))]]) ∧ ResTy w' (atomL (L.drop i) 0) f n s A l c ∧ Below X.heap.size X w') := fun X g cap hT hg => code_uni (atomC_any L g cap _ i X _ hT hg (by omega) hSZ (atomL_is hED 0))
  have HA2 : Hid (∀ (X : World) (g cap : Nat), TokC X g L → g < X.heap.size → Calls Tryd.prog 40 #[.slice (some ⟨g, 0, none⟩) L.length cap, .int .i64 i, .int .i64 0] X fun e w' => ∃ f n s A l c, e = .returned (.agg #[.int .i64 f, .int .i64 n, .string s, .slice A l c, .slice none 0 0, .slice none 0 0, .int .i64 (gI L (atomL (L.drop i) 0)), .int .i64 (gE (atomL (L.drop i) 0)), .int .i64 (gP (atomL (L.drop i) 0))]) ∧ ResTy w' (atomL (L.drop i) 0) f n s A l c ∧ Below X.heap.size X w') := fun X g cap hT hg => doc_uni (atomX_any (cap := cap) (o := 0) hT hg (by omega) (by omega) hED)
  obtain ⟨pl, hpl⟩ : ∃ pl, L[i].place = pl := ⟨_, rfl⟩
  have HP1 : Hid (∀ (X : World) (g cap : Nat), TokC X g L → g < X.heap.size → Calls Tryd.prog 41 #[.slice (some ⟨g, 0, none⟩) L.length cap, .int .i64 i] X fun e w' => ∃ A c, e = .returned (.tuple #[.slice A (pL (predsRaw (L.drop i))).length c, .int .i64 (pI L i (predsRaw (L.drop i))), .agg #[.int .i64 (pE (predsRaw (L.drop i))), .int .i64 (pP pl (predsRaw (L.drop i)))]]) ∧ PsP (fun b => b < w'.heap.size) w' (pL (predsRaw (L.drop i))) (.slice A (pL (predsRaw (L.drop i))).length c) ∧ Below X.heap.size X w') := fun X g cap hT hg => by rw [← hpl]; exact preds_uni (predsC_any L g cap i X hT hg hiL (by omega) hSZ hE)
  have HP2 : Hid (∀ (X : World) (g cap : Nat), TokC X g L → g < X.heap.size → Calls Tryd.prog 42 #[.slice (some ⟨g, 0, none⟩) L.length cap, .int .i64 i] X fun e w' => ∃ A c, e = .returned (.agg #[.int .i64 0, .int .i64 0, .string ⟨#[]⟩, .slice none 0 0, .slice A (pL (predsRaw (L.drop i))).length c, .slice none 0 0, .int .i64 (pI L i (predsRaw (L.drop i))), .int .i64 (pE (predsRaw (L.drop i))), .int .i64 (pP pl (predsRaw (L.drop i)))]) ∧ PsP (fun b => b < w'.heap.size) w' (pL (predsRaw (L.drop i))) (.slice A (pL (predsRaw (L.drop i))).length c) ∧ Below X.heap.size X w') := fun X g cap hT hg => by rw [← hpl]; exact docpreds_uni (predsX_any L g cap i X hT hg hiL (by omega) hE)
  have HS1 : Hid (∀ (X : World) (g cap : Nat), TokC X g L → g < X.heap.size → Calls Tryd.prog 44 #[.slice (some ⟨g, 0, none⟩) L.length cap, .int .i64 i] X fun e w' => ∃ Av nv cv Ap np cp f n s A l c, e = .returned (.tuple #[.agg #[.slice Av nv cv, .slice none 0 0, .slice Ap np cp, .int .i64 f, .int .i64 n, .string s, .slice A l c], .int .i64 (sI L (schemeRaw (L.drop i))), .agg #[.int .i64 (sE (schemeRaw (L.drop i))), .int .i64 (sP (schemeRaw (L.drop i)))]]) ∧ ResS w' (schemeRaw (L.drop i)) Av nv cv Ap np cp f n s A l c ∧ Below X.heap.size X w') := fun X g cap hT hg => scheme_uni (schemeC_any L g cap i X hT hg hiL (by omega) hSZ hE (fun ps t r h => (hfit ps t r h).1))
  have HS2 : Hid (∀ (X : World) (g cap : Nat), TokC X g L → g < X.heap.size → Calls Tryd.prog 45 #[.slice (some ⟨g, 0, none⟩) L.length cap, .int .i64 i] X fun e w' => ∃ Av nv cv Ap np cp f n s A l c, e = .returned (.agg #[.int .i64 f, .int .i64 n, .string s, .slice A l c, .slice Ap np cp, .slice Av nv cv, .int .i64 (sI L (schemeRaw (L.drop i))), .int .i64 (sE (schemeRaw (L.drop i))), .int .i64 (sP (schemeRaw (L.drop i)))]) ∧ ResS w' (schemeRaw (L.drop i)) Av nv cv Ap np cp f n s A l c ∧ Below X.heap.size X w') := fun X g cap hT hg => docscheme_uni (schemeX_any L g cap i X hT hg hiL (by omega) hE (fun ps t r h => (hfit ps t r h).1.2.2))
  have HSL := Lib.hid hsL
  have HPLE := Lib.hid (pL_le (predsRaw (L.drop i)))
  have HNE := Lib.hid hE.ne
  clear hrow hf0 hmem hL hsz hz hby hE hSZ hTx hbd hi hED hTD hfit hsL hS hl hpl hLl
  generalize typeL (L.drop i) 0 = rT at *
  generalize atomL (L.drop i) 0 = rA at *
  generalize predsRaw (L.drop i) = rP at *
  generalize schemeRaw (L.drop i) = rS at *
  generalize gI L rT = tI at *
  generalize gE rT = tE at *
  generalize gP rT = tP at *
  generalize gI L rA = aI at *
  generalize gE rA = aE at *
  generalize gP rA = aP at *
  generalize pI L i rP = qI at *
  generalize pE rP = qE at *
  generalize pP pl rP = qP at *
  generalize sI L rS = zI at *
  generalize sE rS = zE at *
  generalize sP rS = zP at *
  go_enter Tryd.func9, Tryd.ntmps9
  go_wp2_with fail
  (with_reducible refine (HSRC.out _ HBW.out).mono ?_)
  rintro e1 x1 ⟨rfl, hb1⟩
  have HB1 := Lib.hid hb1
  clear hb1
  go_wp2_with fail
  (with_reducible refine (HLC.out _ HB1.out).mono ?_)
  rintro e2 x2 ⟨v2, rfl, hr2, hb2⟩
  obtain ⟨g1, cap1, rfl, hg1, ht1⟩ := tokRow_cells hr2 HNE.out
  have hb2' := HB1.out.trans (hb2.mono HB1.out.size)
  obtain ⟨X2, eX2, k2, bb2, z2⟩ := box2h x2 (.int .i64 0) (.int .i64 0) 50
  have HEX2 := Lib.hid eX2
  have HK2 := Lib.hid k2
  have HB2 := Lib.hid (hb2'.trans (bb2.mono hb2'.size))
  have HTC := Lib.hid (ht1.block (w' := X2) (bb2.block g1 hg1))
  have hg1X : g1 < X2.heap.size := by omega
  have hx2X : x2.heap.size < X2.heap.size := by omega
  clear hr2 hb2 hb2' eX2 k2 bb2 ht1
  go_upto_region 2 with (fail)
  rw [HEX2.out]
  go_wp2_with fail
  (with_reducible refine (HSRC.out _ HB2.out).mono ?_)
  rintro e3 x3 ⟨rfl, hb3⟩
  have HB3 := Lib.hid hb3
  clear hb3
  go_wp2_with fail
  (with_reducible refine (HLR.out _).mono ?_)
  rintro e4 x4 ⟨v4, rfl, hr4, hb4⟩
  obtain ⟨g2, cap2, rfl, hg2, ht2⟩ := tokRow_cells hr4 HNE.out
  have hb4' := HB3.out.trans (hb4.mono HB3.out.size)
  obtain ⟨X4, eX4, k4, bb4, z4⟩ := box2h x4 (.int .i64 0) (.int .i64 0) 50
  have HEX4 := Lib.hid eX4
  have hb24 := hb4'.trans (bb4.mono hb4'.size)
  obtain ⟨p0, p1, p2, p3, p4⟩ := pair_cells k4
  obtain ⟨q0, q1, q2, q3, q4⟩ := pair_cells ((hb24.block _ hx2X).trans HK2.out)
  have HB4 := Lib.hid (HB2.out.trans (hb24.mono HB2.out.size))
  have HTC1 := Lib.hid (HTC.out.block (w' := X4) (hb24.block g1 hg1X))
  have HTC2 := Lib.hid (ht2.block (w' := X4) (bb4.block g2 hg2))
  have hg1X4 : g1 < X4.heap.size := by have := hb24.size; omega
  have hg2X4 : g2 < X4.heap.size := by omega
  clear hr4 hb4 hb4' eX4 k4 bb4 ht2 hb24
  go_upto_region 3 with (fail)
  rw [HEX4.out]
  go_wp2_with fail
  (with_reducible refine (HAR.out _).mono ?_)
  rintro e5 x5 ⟨rfl, rfl⟩
  have HBc := HB4
  have hg1c := hg1X4
  have hg2c := hg2X4
  clear HB4 hg1X4 hg2X4 p0 p1 p2 p3 p4 q0 q1 q2 q3 q4 HEX2 HEX4 HK2 HB1 HB2 HB3 HTC hg1X hx2X HSRC HLC HLR HAR z2 z4 hg1 hg2
  go_wp2_with fail

  (with_reducible refine (HT1.out _ g1 cap1 HTC1.out hg1c).mono ?_)
  rintro e6 y ⟨f1, n1, s1, A1, l1, c1, rfl, ht1, hb1⟩
  obtain ⟨Y, eY, k0, k1, b2, z2⟩ := box_type y (.int .i64 f1) (.int .i64 n1) (.string s1) (.slice A1 l1 c1) (.int .i64 tE) (.int .i64 tP)
  have hbY := hb1.trans (b2.mono hb1.size)
  have HT2Y := Lib.hid (HTC2.out.block (w' := Y) (hbY.block g2 hg2c))
  have HT1Y := Lib.hid (HTC1.out.block (w' := Y) (hbY.block g1 hg1c))
  have HRY := Lib.hid (ht1.on b2)
  have HEY := Lib.hid eY
  have HBY := Lib.hid (HBc.out.trans (hbY.mono HBc.out.size))
  have HK0 := Lib.hid k0
  have HK1 := Lib.hid k1
  have hg1Y : g1 < Y.heap.size := by have := hbY.size; omega
  have hg2Y : g2 < Y.heap.size := by have := hbY.size; omega
  have hyY : y.heap.size + 1 < Y.heap.size := by omega
  clear hbY hb1 b2 eY k0 k1 ht1 HTC1 HTC2 HBc hg1c hg2c
  go_upto_region 7 with (fail)
  rw [HEY.out]
  go_wp2_with fail
  (with_reducible refine (HT2.out _ g2 cap2 HT2Y.out hg2Y).mono ?_)
  rintro e7 z ⟨f2, n2, s2, A2, l2, c2, rfl, ht2, hb3⟩
  obtain ⟨Z, eZ, k3, b3, z3⟩ := box9 z (.int .i64 f2) (.int .i64 n2) (.string s2) (.slice A2 l2 c2) (.slice none 0 0) (.slice none 0 0) (.int .i64 tI) (.int .i64 tE) (.int .i64 tP) 62
  have hbZ := hb3.trans (b3.mono hb3.size)
  have HEQ := Lib.hid (equal_uni (HRY.out.on hbZ) (ht2.on b3))
  have HT2Z := Lib.hid (HT2Y.out.block (w' := Z) (hbZ.block g2 hg2Y))
  have HT1Z := Lib.hid (HT1Y.out.block (w' := Z) (hbZ.block g1 hg1Y))
  have HBZ := Lib.hid (HBY.out.trans (hbZ.mono HBY.out.size))
  have hyZ : y.heap.size + 1 < z.heap.size := by have := hb3.size; omega
  obtain ⟨a0, a1, a2, a3, a4, a5, a6, a7, a8⟩ := four_cells ((hbZ.block y.heap.size (by omega)).trans HK0.out)
  obtain ⟨b0, b1, b2, b4, b5⟩ := pair_cells ((hbZ.block (y.heap.size + 1) (by omega)).trans HK1.out)
  obtain ⟨v0, v1, v2, v3, v4, v5, v6, v7, v8, _⟩ := nine_cells k3
  have HEZ := Lib.hid eZ
  have hg1Z : g1 < Z.heap.size := by have := hbZ.size; omega
  have hg2Z : g2 < Z.heap.size := by have := hbZ.size; omega
  clear hbZ hb3 b3 eZ k3 ht2 HT1Y HT2Y HRY HBY HK0 HK1 hg1Y hg2Y
  go_upto_region 8 with (fail)
  rw [HEZ.out]
  go_wp2_with fail
  (with_reducible refine HEQ.out.mono ?_)
  rintro e8 x ⟨rfl, hb4⟩
  have HBc := Lib.hid (HBZ.out.trans (hb4.mono HBZ.out.size))
  have HTC1 := Lib.hid (HT1Z.out.block (w' := x) (hb4.block g1 hg1Z))
  have HTC2 := Lib.hid (HT2Z.out.block (w' := x) (hb4.block g2 hg2Z))
  have hg1c : g1 < x.heap.size := by have := hb4.size; omega
  have hg2c : g2 < x.heap.size := by have := hb4.size; omega
  clear hb4 HT1Z HT2Z HBZ HEQ HEZ HEY a0 a1 a2 a3 a4 a5 a6 a7 a8 b0 b1 b2 b4 b5 v0 v1 v2 v3 v4 v5 v6 v7 v8 hg1Z hg2Z hyZ hyY z2 z3
  go_wp2_with fail

  (with_reducible refine (HA1.out _ g1 cap1 HTC1.out hg1c).mono ?_)
  rintro e6 y ⟨f1, n1, s1, A1, l1, c1, rfl, ht1, hb1⟩
  obtain ⟨Y, eY, k0, k1, b2, z2⟩ := box_type y (.int .i64 f1) (.int .i64 n1) (.string s1) (.slice A1 l1 c1) (.int .i64 aE) (.int .i64 aP)
  have hbY := hb1.trans (b2.mono hb1.size)
  have HT2Y := Lib.hid (HTC2.out.block (w' := Y) (hbY.block g2 hg2c))
  have HT1Y := Lib.hid (HTC1.out.block (w' := Y) (hbY.block g1 hg1c))
  have HRY := Lib.hid (ht1.on b2)
  have HEY := Lib.hid eY
  have HBY := Lib.hid (HBc.out.trans (hbY.mono HBc.out.size))
  have HK0 := Lib.hid k0
  have HK1 := Lib.hid k1
  have hg1Y : g1 < Y.heap.size := by have := hbY.size; omega
  have hg2Y : g2 < Y.heap.size := by have := hbY.size; omega
  have hyY : y.heap.size + 1 < Y.heap.size := by omega
  clear hbY hb1 b2 eY k0 k1 ht1 HTC1 HTC2 HBc hg1c hg2c
  go_upto_region 11 with (fail)
  rw [HEY.out]
  go_wp2_with fail
  (with_reducible refine (HA2.out _ g2 cap2 HT2Y.out hg2Y).mono ?_)
  rintro e7 z ⟨f2, n2, s2, A2, l2, c2, rfl, ht2, hb3⟩
  obtain ⟨Z, eZ, k3, b3, z3⟩ := box9 z (.int .i64 f2) (.int .i64 n2) (.string s2) (.slice A2 l2 c2) (.slice none 0 0) (.slice none 0 0) (.int .i64 aI) (.int .i64 aE) (.int .i64 aP) 62
  have hbZ := hb3.trans (b3.mono hb3.size)
  have HEQ := Lib.hid (equal_uni (HRY.out.on hbZ) (ht2.on b3))
  have HT2Z := Lib.hid (HT2Y.out.block (w' := Z) (hbZ.block g2 hg2Y))
  have HT1Z := Lib.hid (HT1Y.out.block (w' := Z) (hbZ.block g1 hg1Y))
  have HBZ := Lib.hid (HBY.out.trans (hbZ.mono HBY.out.size))
  have hyZ : y.heap.size + 1 < z.heap.size := by have := hb3.size; omega
  obtain ⟨a0, a1, a2, a3, a4, a5, a6, a7, a8⟩ := four_cells ((hbZ.block y.heap.size (by omega)).trans HK0.out)
  obtain ⟨b0, b1, b2, b4, b5⟩ := pair_cells ((hbZ.block (y.heap.size + 1) (by omega)).trans HK1.out)
  obtain ⟨v0, v1, v2, v3, v4, v5, v6, v7, v8, _⟩ := nine_cells k3
  have HEZ := Lib.hid eZ
  have hg1Z : g1 < Z.heap.size := by have := hbZ.size; omega
  have hg2Z : g2 < Z.heap.size := by have := hbZ.size; omega
  clear hbZ hb3 b3 eZ k3 ht2 HT1Y HT2Y HRY HBY HK0 HK1 hg1Y hg2Y
  go_upto_region 12 with (fail)
  rw [HEZ.out]
  go_wp2_with fail
  (with_reducible refine HEQ.out.mono ?_)
  rintro e8 x ⟨rfl, hb4⟩
  have HBc := Lib.hid (HBZ.out.trans (hb4.mono HBZ.out.size))
  have HTC1 := Lib.hid (HT1Z.out.block (w' := x) (hb4.block g1 hg1Z))
  have HTC2 := Lib.hid (HT2Z.out.block (w' := x) (hb4.block g2 hg2Z))
  have hg1c : g1 < x.heap.size := by have := hb4.size; omega
  have hg2c : g2 < x.heap.size := by have := hb4.size; omega
  clear hb4 HT1Z HT2Z HBZ HEQ HEZ HEY a0 a1 a2 a3 a4 a5 a6 a7 a8 b0 b1 b2 b4 b5 v0 v1 v2 v3 v4 v5 v6 v7 v8 hg1Z hg2Z hyZ hyY z2 z3
  go_wp2_with fail

  (with_reducible refine (HP1.out _ g1 cap1 HTC1.out hg1c).mono ?_)
  rintro e6 y ⟨A1, c1, rfl, ht1, hb1⟩
  obtain ⟨Y, eY, k1, b2, z2⟩ := box2h y (.int .i64 qE) (.int .i64 qP) 50
  have hbY := hb1.trans (b2.mono hb1.size)
  have HT2Y := Lib.hid (HTC2.out.block (w' := Y) (hbY.block g2 hg2c))
  have HT1Y := Lib.hid (HTC1.out.block (w' := Y) (hbY.block g1 hg1c))
  have HRY := Lib.hid (ht1.onB b2)
  have HEY := Lib.hid eY
  have HBY := Lib.hid (HBc.out.trans (hbY.mono HBc.out.size))
  have HK1 := Lib.hid k1
  have hg1Y : g1 < Y.heap.size := by have := hbY.size; omega
  have hg2Y : g2 < Y.heap.size := by have := hbY.size; omega
  have hyY : y.heap.size < Y.heap.size := by omega
  clear hbY hb1 b2 eY k1 ht1 HTC1 HTC2 HBc hg1c hg2c
  go_upto_region 15 with (fail)
  rw [HEY.out]
  go_wp2_with fail
  (with_reducible refine (HP2.out _ g2 cap2 HT2Y.out hg2Y).mono ?_)
  rintro e7 z ⟨A2, c2, rfl, ht2, hb3⟩
  obtain ⟨Z, eZ, k3, b3, z3⟩ := box9 z (.int .i64 0) (.int .i64 0) (.string ⟨#[]⟩) (.slice none 0 0) (.slice A2 (pL rP).length c2) (.slice none 0 0) (.int .i64 qI) (.int .i64 qE) (.int .i64 qP) 62
  have hbZ := hb3.trans (b3.mono hb3.size)
  have HEQ := Lib.hid (samePreds_any _ _ (pL rP) _ _ Z (by have := HPLE.out; omega) (HRY.out.on hbZ) (ht2.on b3))
  have HT2Z := Lib.hid (HT2Y.out.block (w' := Z) (hbZ.block g2 hg2Y))
  have HT1Z := Lib.hid (HT1Y.out.block (w' := Z) (hbZ.block g1 hg1Y))
  have HBZ := Lib.hid (HBY.out.trans (hbZ.mono HBY.out.size))
  have hyZ : y.heap.size < z.heap.size := by have := hb3.size; omega
  obtain ⟨b0, b1, b2, b4, b5⟩ := pair_cells ((hbZ.block y.heap.size (by omega)).trans HK1.out)
  obtain ⟨v0, v1, v2, v3, v4, v5, v6, v7, v8, _⟩ := nine_cells k3
  have HEZ := Lib.hid eZ
  have hg1Z : g1 < Z.heap.size := by have := hbZ.size; omega
  have hg2Z : g2 < Z.heap.size := by have := hbZ.size; omega
  clear hbZ hb3 b3 eZ k3 ht2 HT1Y HT2Y HRY HBY HK1 hg1Y hg2Y
  go_upto_region 16 with (fail)
  rw [HEZ.out]
  go_wp2_with fail
  (with_reducible refine HEQ.out.mono ?_)
  rintro e8 x ⟨rfl, hb4⟩
  have HBc := Lib.hid (HBZ.out.trans (hb4.mono HBZ.out.size))
  have HTC1 := Lib.hid (HT1Z.out.block (w' := x) (hb4.block g1 hg1Z))
  have HTC2 := Lib.hid (HT2Z.out.block (w' := x) (hb4.block g2 hg2Z))
  have hg1c : g1 < x.heap.size := by have := hb4.size; omega
  have hg2c : g2 < x.heap.size := by have := hb4.size; omega
  clear hb4 HT1Z HT2Z HBZ HEQ HEZ HEY b0 b1 b2 b4 b5 v0 v1 v2 v3 v4 v5 v6 v7 v8 hg1Z hg2Z hyZ hyY z2 z3
  go_wp2_with fail

  (with_reducible refine (HS1.out _ g1 cap1 HTC1.out hg1c).mono ?_)
  rintro e6 y ⟨Av, nv, cv, Ap, np, cp, f1, n1, s1, A1, l1, c1, rfl, ht1, hb1⟩
  obtain ⟨Y, eY, k0, k1, b2, z2⟩ := box_scheme y (.slice Av nv cv) (.slice none 0 0) (.slice Ap np cp) (.int .i64 f1) (.int .i64 n1) (.string s1) (.slice A1 l1 c1) (.int .i64 zE) (.int .i64 zP)
  have hbY := hb1.trans (b2.mono hb1.size)
  have HT2Y := Lib.hid (HTC2.out.block (w' := Y) (hbY.block g2 hg2c))
  have HRY := Lib.hid (ht1.on b2)
  have HEY := Lib.hid eY
  have HBY := Lib.hid (HBc.out.trans (hbY.mono HBc.out.size))
  have HK0 := Lib.hid k0
  have HK1 := Lib.hid k1
  have hg2Y : g2 < Y.heap.size := by have := hbY.size; omega
  have hyY : y.heap.size + 1 < Y.heap.size := by omega
  clear hbY hb1 b2 eY k0 k1 ht1 HTC1 HTC2 HBc hg1c hg2c
  go_upto_region 19 with (fail)
  rw [HEY.out]
  go_wp2_with fail
  (with_reducible refine (HS2.out _ g2 cap2 HT2Y.out hg2Y).mono ?_)
  rintro e7 z ⟨Bv, mv, dv, Bp, mp, dp, f2, n2, s2, A2, l2, c2, rfl, ht2, hb3⟩
  obtain ⟨Z, eZ, k3, b3, z3⟩ := box9 z (.int .i64 f2) (.int .i64 n2) (.string s2) (.slice A2 l2 c2) (.slice Bp mp dp) (.slice Bv mv dv) (.int .i64 zI) (.int .i64 zE) (.int .i64 zP) 62
  have hbZ := hb3.trans (b3.mono hb3.size)
  have HEQ := Lib.hid (sameS_uni (A2 := none) (n2 := 0) (c2 := 0) (B2 := none) (l2 := 0) (d2 := 0) HSL.out (HRY.out.on hbZ) (ht2.on b3))
  have HBZ := Lib.hid (HBY.out.trans (hbZ.mono HBY.out.size))
  have hyZ : y.heap.size + 1 < z.heap.size := by have := hb3.size; omega
  obtain ⟨a0, a1, a2, a3, a4, a5, a6, a7, a8, a9, a10, a11, a12, a13, a14⟩ := seven_cells ((hbZ.block y.heap.size (by omega)).trans HK0.out)
  obtain ⟨b0, b1, b2, b4, b5⟩ := pair_cells ((hbZ.block (y.heap.size + 1) (by omega)).trans HK1.out)
  obtain ⟨v0, v1, v2, v3, v4, v5, v6, v7, v8, _⟩ := nine_cells k3
  have HEZ := Lib.hid eZ
  clear hbZ hb3 b3 eZ k3 ht2 HT2Y HRY HBY HK0 HK1 hg2Y
  go_upto_region 20 with (fail)
  rw [HEZ.out]
  go_wp2_with fail
  (with_reducible refine HEQ.out.mono ?_)
  rintro e8 x ⟨rfl, hb4⟩
  have HBc := Lib.hid (HBZ.out.trans (hb4.mono HBZ.out.size))
  have HLV := Lib.hid (livesT_any x (HS.out.on HBc.out))
  clear hb4 HBZ HEQ HEZ HEY a0 a1 a2 a3 a4 a5 a6 a7 a8 a9 a10 a11 a12 a13 a14 b0 b1 b2 b4 b5 v0 v1 v2 v3 v4 v5 v6 v7 v8 hyZ hyY z2 z3
  go_wp2_with fail
  (with_reducible refine HLV.out.mono ?_)
  rintro e9 x9 ⟨rfl, hb9⟩
  have HE := Lib.hid (ret_true HBc.out hb9)
  clear hb9
  go_wp2
  go_ret
  exact HE.out
theorem treadPlaces_walk (A : Option Addr) (len cap : Nat) (at0 : Int) (w : World) (hl : SomeInts w (.slice A len cap)) (ha1 : -9223372036854775808 ≤ at0) (ha2 : at0 ≤ 9223372036854775807) (hS : SymsIn w) : Calls Tryd.prog 9 #[.slice A len cap, .int .i64 at0] w (TrueB w) := treadPlaces_law A len cap at0 w hl hS ha1 ha2
end Go.Proofs.YtbdfjboojokgdaaDoor
