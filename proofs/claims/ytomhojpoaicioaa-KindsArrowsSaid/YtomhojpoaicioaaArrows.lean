/- KindsArrows (chapter 3): the law's walk. Condition: the slices read as numbers. -/
import Derived.Test.YtomhojpoaicioaaPrints
import Derived.Test.YtomhojpoaicioaaArrow
import Derived.Test.YtomhojpoaicioaaSame
import Derived.Test.YtomhojpoaicioaaRead
namespace Go.Proofs.Ytomhojpoaicioaa
open Go.RowKit

theorem beq_no {a b : ByteArray} (h : a ≠ b) : (a == b) = false := by
  show (a.data == b.data) = false
  rw [beq_eq_false_iff_ne]
  intro e
  exact h (ByteArray.ext e)
theorem beq_lists {a b : ByteArray} {q : Bool} (h : (a == b) = q) : (a.toList == b.toList) = q := by
  have h' : (a.data == b.data) = q := h
  rw [Lib.toList_data, Lib.toList_data]
  cases q with
  | true => rw [beq_iff_eq] at h' ⊢; rw [h']
  | false => rw [beq_eq_false_iff_ne] at h' ⊢; exact fun e => h' (Array.toList_inj.1 e)
theorem mk_inj {x y : List UInt8} (h : (⟨x.toArray⟩ : ByteArray) = ⟨y.toArray⟩) : x = y := by
  injection h with h
  have := congrArg Array.toList h
  simpa using this
set_option maxRecDepth 100000 in
set_option maxHeartbeats 2000000 in
theorem kindsArrows_walk (P Q : Nat → Prop) (v1 v2 : Value) (zs ys : List Int) (w : World) (h1 : IntsAt P w v1 zs) (h2 : IntsAt Q w v2 ys) : Calls Try.prog 5 #[v1, v2] w (TrueB w) := by
  have hc1 := kind_any P v1 zs w h1
  have hc2 : ∀ y, Below w.heap.size w y → Calls Try.prog 10 #[v2] y (KindMade y (kindZ ys)) := fun y hy => kind_any Q v2 ys y (h2.on hy)
  have HS1 := Lib.hid (kindZ_sz zs)
  have HS2 := Lib.hid (kindZ_sz ys)
  have HP1 := Lib.hid (kindZ_print zs)
  have HP2 := Lib.hid (kindZ_print ys)
  obtain ⟨A1, c1, rfl, _⟩ := h1
  obtain ⟨A2, c2, rfl, _⟩ := h2
  generalize kindZ zs = a at *
  generalize kindZ ys = b at *
  have HC1 := Lib.hid hc1
  have HC2 := Lib.hid hc2
  clear hc1 hc2
  go_enter Try.func5, Try.ntmps5
  go_wp2_with fail
  refine HC1.out.mono ?_
  rintro e w1 ⟨kv1, rfl, hk1, hb1⟩
  obtain ⟨Aa, na, ca, rfl⟩ := kform hk1
  have hz1 := hb1.size
  have hba : Below w.heap.size w (w1.alloc (.cells #[.slice Aa na ca] 25)) := hb1.trans ((below_new w1 _).mono hz1)
  have HK1 := Lib.hid (hk1.on (below_new w1 (.cells #[.slice Aa na ca] 25)))
  have HBA := Lib.hid hba
  clear hk1 hb1 hba
  go_wp2_with fail
  have hx5 : (w1.alloc (.cells #[.slice Aa na ca] 25)).cell? ⟨w1.heap.size, 0, none⟩ = some (.slice Aa na ca) := by simp [go_sem]
  have hz2 : (w1.alloc (.cells #[.slice Aa na ca] 25)).heap.size = w1.heap.size + 1 := by simp
  generalize w1.alloc (.cells #[.slice Aa na ca] 25) = w2 at *
  refine (HC2.out w2 HBA.out).mono ?_
  rintro e w3 ⟨kv2, rfl, hk2, hb3⟩
  obtain ⟨Ab, nb, cb, rfl⟩ := kform hk2
  have hz3 := hb3.size
  have y5 := (hb3.cell (p := ⟨w1.heap.size, 0, none⟩) (show w1.heap.size < w2.heap.size by omega)).trans hx5
  have hz13 : w1.heap.size < w3.heap.size := by omega
  have hbn := below_new w3 (.cells #[.slice Ab nb cb] 25)
  have HK3 := Lib.hid ((HK1.out.on hb3).on hbn)
  have HKB := Lib.hid (hk2.on hbn)
  have HB3 := Lib.hid ((HBA.out.trans (hb3.mono (by omega))).trans (hbn.mono (by omega)))
  clear hk2 hb3 hx5 hbn
  go_wp2_with fail
  have hx6 : (w3.alloc (.cells #[.slice Ab nb cb] 25)).cell? ⟨w3.heap.size, 0, none⟩ = some (.slice Ab nb cb) := by simp [go_sem]
  have y5' : (w3.alloc (.cells #[.slice Ab nb cb] 25)).cell? ⟨w1.heap.size, 0, none⟩ = some (.slice Aa na ca) := keep_alloc _ y5
  have hz4 : (w3.alloc (.cells #[.slice Ab nb cb] 25)).heap.size = w3.heap.size + 1 := by simp
  generalize w3.alloc (.cells #[.slice Ab nb cb] 25) = w4 at *
  clear y5
  obtain ⟨lb, rfl⟩ : ∃ lb, b = .mk lb := by cases b with | mk lb => exact ⟨lb, rfl⟩
  have hszab : K.sz (.mk (a :: lb)) ≤ 1000 := by
    have h1 := HS1.out
    have h2 := HS2.out
    rw [K.sz_mk] at h2 ⊢
    simp at h2 ⊢; omega
  have HSAB := Lib.hid hszab
  have harr : ∀ y, Below w4.heap.size w4 y → Calls Try.prog 19 #[.agg #[.slice Aa na ca], .agg #[.slice Ab nb cb]] y (KindMade y (.mk (a :: lb))) := fun y hy => arrow_any _ _ a lb _ _ y (HK3.out.on hy) (HKB.out.on hy) (by have := HSAB.out; omega)
  have HARR := Lib.hid harr
  clear harr hszab
  refine (HARR.out w4 (Below.refl _ _)).mono ?_
  rintro e w5 ⟨kv, rfl, hk5, hb5⟩
  obtain ⟨Ac, nc, cc, rfl⟩ := kform hk5
  have HK5 := Lib.hid hk5
  have HB5 := Lib.hid hb5
  clear hk5 hb5
  go_wp2_with fail
  refine (split_some _ a lb _ w5 HK5.out (by have := HSAB.out; omega)).mono ?_
  rintro e w6 ⟨vx, vy, rfl, hkx, hky, hb6⟩
  obtain ⟨Ax, nx, cx, rfl⟩ := kform hkx
  obtain ⟨Ay, ny, cy, rfl⟩ := kform hky
  have HB6 := Lib.hid (HB5.out.trans (hb6.mono HB5.out.size))
  have HKX := Lib.hid hkx
  have HKY := Lib.hid hky
  clear hkx hky hb6
  go_wp2_with fail
  have hbn : Below w6.heap.size w6 ((w6.alloc (.cells #[.slice Ax nx cx] 25)).alloc (.cells #[.slice Ay ny cy] 25)) := (below_new w6 _).trans ((below_new _ _).mono (by simp))
  have hx7 : ((w6.alloc (.cells #[.slice Ax nx cx] 25)).alloc (.cells #[.slice Ay ny cy] 25)).cell? ⟨w6.heap.size, 0, none⟩ = some (.slice Ax nx cx) := by simp [go_sem]
  have hx8 : ((w6.alloc (.cells #[.slice Ax nx cx] 25)).alloc (.cells #[.slice Ay ny cy] 25)).cell? ⟨w6.heap.size + 1, 0, none⟩ = some (.slice Ay ny cy) := by simp [go_sem]
  have hz7 : ((w6.alloc (.cells #[.slice Ax nx cx] 25)).alloc (.cells #[.slice Ay ny cy] 25)).heap.size = w6.heap.size + 2 := by simp
  generalize (w6.alloc (.cells #[.slice Ax nx cx] 25)).alloc (.cells #[.slice Ay ny cy] 25) = w7 at *
  have HKX7 := Lib.hid (HKX.out.on hbn)
  have HKY7 := Lib.hid (HKY.out.on hbn)
  have HB7 := Lib.hid (HB6.out.trans (hbn.mono HB6.out.size))
  clear hbn
  refine (star_new _).mono ?_
  rintro e w8 ⟨rfl, hb8⟩
  have HB8 := Lib.hid hb8
  clear hb8
  go_wp2_with fail
  refine (split_none (fun _ => True) (.slice none 0 0) w8 (kat_nil _ _ _ _ (Nat.zero_le _))).mono ?_
  rintro e w9 ⟨vp, vq, rfl, hkp, hkq, hb9⟩
  obtain ⟨Ap, np, cp, rfl⟩ := kform hkp
  obtain ⟨Aq, nq, cq, rfl⟩ := kform hkq
  have hbn : Below w9.heap.size w9 ((w9.alloc (.cells #[.slice Ap np cp] 25)).alloc (.cells #[.slice Aq nq cq] 25)) := (below_new w9 _).trans ((below_new _ _).mono (by simp))
  have hB97 : Below w7.heap.size w7 ((w9.alloc (.cells #[.slice Ap np cp] 25)).alloc (.cells #[.slice Aq nq cq] 25)) := (HB8.out.trans (hb9.mono HB8.out.size)).trans (hbn.mono (by have := HB8.out.size; have := hb9.size; omega))
  have HB97 := Lib.hid hB97
  have hB94 : Below w4.heap.size w4 ((w9.alloc (.cells #[.slice Ap np cp] 25)).alloc (.cells #[.slice Aq nq cq] 25)) := HB7.out.trans (hB97.mono HB7.out.size)
  have HB94 := Lib.hid hB94
  have hzz7 := HB7.out.size
  have y9 : w9.cell? ⟨w1.heap.size, 0, none⟩ = some (.slice Aa na ca) := ((HB7.out.trans (HB8.out.mono HB7.out.size)).trans (hb9.mono (by have := HB8.out.size; omega))).cell (p := ⟨w1.heap.size, 0, none⟩) (show w1.heap.size < w4.heap.size by omega) |>.trans y5'
  have z9 : w1.heap.size < w9.heap.size := by have := hb9.size; have := HB8.out.size; omega
  have hna : (a.from = [] ↔ na = 0) ∧ na ≤ 9223372036854775807 := by
    cases a with
    | mk q =>
      obtain ⟨A9, c9, e9, hm9⟩ := HK3.out.form
      injection e9 with _ e9 _
      subst e9
      exact ⟨⟨fun h => by rw [show q = [] from h]; rfl, fun h => List.eq_nil_of_length_eq_zero h⟩, by unfold maxLen at hm9; omega⟩
  clear hkp hkq hb9 hbn hB97 hB94
  by_cases hf : a.from = []
  · obtain rfl : 0 = na := (hna.1.1 hf).symm
    have HPE : Hid ((⟨(printK (.mk (a :: lb))).toArray⟩ : ByteArray) = (⟨(printK a).toArray⟩ : ByteArray) ++ ⟨#[32, 45, 62, 32]⟩ ++ ⟨(printK (.mk lb)).toArray⟩) := by
      show _ = _
      rw [printK_cons]
      unfold itemK wrapK
      rw [if_pos hf, ← append_mk2, ← append_mk2]
    clear hna hf
    go_wp2_with fail
    generalize (w9.alloc (.cells #[.slice Ap np cp] 25)).alloc (.cells #[.slice Aq nq cq] 25) = w10 at *
    refine (refprint_any _ _ a _ w10 (Nat.le_refl _) (HK3.out.on HB94.out) (by have := HP1.out; omega)).mono ?_
    rintro e w11 ⟨rfl, hb11⟩
    have hB11 : Below w4.heap.size w4 w11 := HB94.out.trans (hb11.mono HB94.out.size)
    have hB117 : Below w7.heap.size w7 w11 := HB97.out.trans (hb11.mono HB97.out.size)
    have hx5 := (hB11.cell (p := ⟨w1.heap.size, 0, none⟩) (show w1.heap.size < w4.heap.size by omega)).trans y5'
    have hx6' := (hB11.cell (p := ⟨w3.heap.size, 0, none⟩) (show w3.heap.size < w4.heap.size by omega)).trans hx6
    have hx7' := (hB117.cell (p := ⟨w6.heap.size, 0, none⟩) (show w6.heap.size < w7.heap.size by omega)).trans hx7
    have hx8' := (hB117.cell (p := ⟨w6.heap.size + 1, 0, none⟩) (show w6.heap.size + 1 < w7.heap.size by omega)).trans hx8
    have hz11 := hB117.size
    have hs1 := mk_size (printK a)
    have hs2 := mk_size (printK (.mk lb))
    have hp1 := HP1.out
    have hp2 := HP2.out
    have HA : Hid (∀ y, Below w11.heap.size w11 y → KAt (fun b => w.heap.size ≤ b) y a (.slice Aa 0 ca)) := fun y hy => ((HK3.out.on hB11).on hy)
    have HBK : Hid (∀ y, Below w11.heap.size w11 y → KAt (fun b => w2.heap.size ≤ b) y (.mk lb) (.slice Ab nb cb)) := fun y hy => ((HKB.out.on hB11).on hy)
    have HXK : Hid (∀ y, Below w11.heap.size w11 y → KAt (fun b => w5.heap.size ≤ b) y a (.slice Ax nx cx)) := fun y hy => ((HKX7.out.on hB117).on hy)
    have HYK : Hid (∀ y, Below w11.heap.size w11 y → KAt (fun b => w5.heap.size ≤ b) y (.mk lb) (.slice Ay ny cy)) := fun y hy => ((HKY7.out.on hB117).on hy)
    have HAR : Hid (∀ y, Below w11.heap.size w11 y → Calls Try.prog 19 #[.agg #[.slice Aa 0 ca], .agg #[.slice Ab nb cb]] y (KindMade y (.mk (a :: lb)))) := fun y hy => HARR.out y (hB11.trans (hy.mono hB11.size))
    have HC14a : Hid (∀ y, Below w11.heap.size w11 y → Calls Try.prog 14 #[.agg #[.slice Ax nx cx], .agg #[.slice Aa 0 ca]] y fun e y' => e = .returned (.bool true) ∧ Below y.heap.size y y') := fun y hy => (refsame_any _ _ _ a a _ _ y (Nat.le_refl _) (HXK.out y hy) (HA.out y hy)).mono fun e y' h => ⟨by rw [h.1, eqK_true rfl], h.2⟩
    have HC14b : Hid (∀ y, Below w11.heap.size w11 y → Calls Try.prog 14 #[.agg #[.slice Ay ny cy], .agg #[.slice Ab nb cb]] y fun e y' => e = .returned (.bool true) ∧ Below y.heap.size y y') := fun y hy => (refsame_any _ _ _ (.mk lb) (.mk lb) _ _ y (Nat.le_refl _) (HYK.out y hy) (HBK.out y hy)).mono fun e y' h => ⟨by rw [h.1, eqK_true rfl], h.2⟩
    have HC13a : Hid (∀ y, Below w11.heap.size w11 y → Calls Try.prog 13 #[.agg #[.slice Aa 0 ca]] y fun e y' => e = .returned (.string ⟨(printK a).toArray⟩) ∧ Below y.heap.size y y') := fun y hy => refprint_any _ _ a _ y (Nat.le_refl _) (HA.out y hy) (by omega)
    have HC13b : Hid (∀ y, Below w11.heap.size w11 y → Calls Try.prog 13 #[.agg #[.slice Ab nb cb]] y fun e y' => e = .returned (.string ⟨(printK (.mk lb)).toArray⟩) ∧ Below y.heap.size y y') := fun y hy => refprint_any _ _ (.mk lb) _ y (Nat.le_refl _) (HBK.out y hy) (by omega)
    have HC21 : Hid (∀ y, Below w11.heap.size w11 y → Calls Try.prog 21 #[.agg #[.slice Aa 0 ca], .agg #[.slice Ab nb cb]] y fun e y' => e = .returned (.bool (eqK a (.mk lb))) ∧ Below y.heap.size y y') := fun y hy => same_any _ _ _ a (.mk lb) _ _ y (Nat.le_refl _) (HA.out y hy) (HBK.out y hy)
    have hpl : (printK (.mk (a :: lb))).length ≤ 1099511627776 := by have := print_le (.mk (a :: lb)); have := HSAB.out; omega
    have HC11 : Hid (∀ (y : World) (v : Value) (R : Nat → Prop), KAt R y (.mk (a :: lb)) v → Calls Try.prog 11 #[.agg #[v]] y fun e y' => e = .returned (.string ((⟨(printK a).toArray⟩ : ByteArray) ++ ⟨#[32, 45, 62, 32]⟩ ++ ⟨(printK (.mk lb)).toArray⟩)) ∧ Below y.heap.size y y') := fun y v R hk => (print_any R _ v y hk hpl).mono fun e y' h => ⟨by rw [h.1, HPE.out], h.2⟩
    have keepS : Hid (∀ y, Below w11.heap.size w11 y → y.cell? ⟨w1.heap.size, 0, none⟩ = some (.slice Aa 0 ca) ∧ y.cell? ⟨w3.heap.size, 0, none⟩ = some (.slice Ab nb cb) ∧ y.cell? ⟨w6.heap.size, 0, none⟩ = some (.slice Ax nx cx) ∧ y.cell? ⟨w6.heap.size + 1, 0, none⟩ = some (.slice Ay ny cy)) := by
      have z1 : w1.heap.size < w11.heap.size := by omega
      have z3 : w3.heap.size < w11.heap.size := by omega
      have z6 : w6.heap.size < w11.heap.size := by omega
      have z7 : w6.heap.size + 1 < w11.heap.size := by omega
      exact fun y hy => ⟨(hy.cell (p := ⟨w1.heap.size, 0, none⟩) z1).trans hx5, (hy.cell (p := ⟨w3.heap.size, 0, none⟩) z3).trans hx6', (hy.cell (p := ⟨w6.heap.size, 0, none⟩) z6).trans hx7', (hy.cell (p := ⟨w6.heap.size + 1, 0, none⟩) z7).trans hx8'⟩
    have HBF := Lib.hid (HB3.out.trans (hB11.mono HB3.out.size))
    have htest : (((⟨(printK a).toArray⟩ : ByteArray) == ⟨(printK (.mk lb)).toArray⟩) = eqK a (.mk lb)) := by
      by_cases hab : a = .mk lb
      · rw [eqK_true hab, hab]; exact beq_self_eq_true (⟨(printK (.mk lb)).toArray⟩ : ByteArray).data
      · rw [eqK_false hab]; exact beq_no (fun e => hab (printK_inj (mk_inj e)))
    have HTEST := Lib.hid htest
    clear hb11 hB11 hB117 hx5 hx6 hx7 hx8 hx6' hx7' hx8' y5' y9 htest HPE
    generalize (⟨(printK a).toArray⟩ : ByteArray) = PA at *
    generalize (⟨(printK (.mk lb)).toArray⟩ : ByteArray) = PB at *
    generalize hqq : eqK a (.mk lb) = q at *
    have hsp : PA.size ≤ 561 := by omega
    have hsq : PB.size ≤ 561 := by omega
    have z4 : (⟨#[32, 45, 62, 32]⟩ : ByteArray).size = 4 := rfl
    have z1 : (⟨#[40]⟩ : ByteArray).size = 1 := rfl
    have z2 : (⟨#[41]⟩ : ByteArray).size = 1 := rfl
    have hadd1 := fun (y : World) => run_string_add_sum (P := Try.prog) (w := y) PA ⟨#[32, 45, 62, 32]⟩ (by rw [z4]; omega)
    have hadd2 := fun (y : World) => run_string_add_sum (P := Try.prog) (w := y) (PA ++ ⟨#[32, 45, 62, 32]⟩) PB (by rw [ByteArray.size_append, z4]; omega)
    clear z4 z1 z2
    have hS0 := keepS.out w11 (Below.refl _ _)
    have b0 : Below w11.heap.size w11 w11.drew := (Below.refl _ _).drew
    go_wp2_with fail
    cases q
    all_goals
      have htest := HTEST.out
      have htest2 := beq_lists htest
      go_region_held3 (fun y => y.cell? ⟨w1.heap.size, 0, none⟩ = some (.slice Aa 0 ca) ∧ y.cell? ⟨w3.heap.size, 0, none⟩ = some (.slice Ab nb cb) ∧ y.cell? ⟨w6.heap.size, 0, none⟩ = some (.slice Ax nx cx) ∧ y.cell? ⟨w6.heap.size + 1, 0, none⟩ = some (.slice Ay ny cy)) (first | exact hS0 | exact hS1 | exact hS2 | exact hS3 | exact hS4 | exact hS5 | exact hS6 | exact hS7 | exact hS8 | exact hS9) (first | (go_at_call 14; (with_reducible refine (HC14a.out _ b0).mono ?_); rintro e y1 ⟨rfl, d1⟩; have b1 := b0.trans (d1.mono b0.size); have hS1 := keepS.out y1 b1) | (go_at_call 14; (with_reducible refine (HC14b.out _ b1).mono ?_); rintro e y2 ⟨rfl, d2⟩; have b2 := b1.trans (d2.mono b1.size); have hS2 := keepS.out y2 b2) | (go_at_call 19; (with_reducible refine (HAR.out _ b2).mono ?_); rintro e y3 ⟨kv3, rfl, hk3, d3⟩; have b3 := b2.trans (d3.mono b2.size); have hS3 := keepS.out y3 b3; obtain ⟨A3, n3, c3, rfl⟩ := kform hk3) | (go_at_call 11; (with_reducible refine (HC11.out _ _ _ hk3).mono ?_); rintro e y4 ⟨rfl, d4⟩; have b4 := b3.trans (d4.mono b3.size); have hS4 := keepS.out y4 b4) | (go_at_call 13; (with_reducible refine (HC13b.out _ b4).mono ?_); rintro e y5 ⟨rfl, d5⟩; have b5 := b4.trans (d5.mono b4.size); have hS5 := keepS.out y5 b5) | (go_at_call 21; (with_reducible refine (HC21.out _ b5).mono ?_); rintro e y6 ⟨rfl, d6⟩; have b6 := b5.trans (d6.mono b5.size); have hS6 := keepS.out y6 b6) | (go_at_call 13; (with_reducible refine (HC13a.out _ b6).mono ?_); rintro e y7 ⟨rfl, d7⟩; have b7 := b6.trans (d7.mono b6.size); have hS7 := keepS.out y7 b7) | (go_at_call 13; (with_reducible refine (HC13b.out _ b7).mono ?_); rintro e y8 ⟨rfl, d8⟩; have b8 := b7.trans (d8.mono b7.size); have hS8 := keepS.out y8 b8) | (go_at_call 15; (with_reducible refine (lives_any _).mono ?_); rintro e y9 ⟨rfl, d9⟩; have b9 := b8.trans (d9.mono b8.size); have hS9 := keepS.out y9 b9))
      all_goals
        have HBZ := Lib.hid (HBF.out.trans (b9.mono HBF.out.size))
        clear b0 b1 b2 b3 b4 b5 b6 b7 b8 b9 hS0 hS1 hS2 hS3 hS4 hS5 hS6 hS7 hS8 hS9 d1 d2 d3 d4 d5 d6 d7 d8 d9 hk3
        go_wp2
        go_ret
        exact ⟨rfl, HBZ.out⟩
  · have hna0 : (0 : Int) < (na : Int) := by have : na ≠ 0 := fun e => hf (hna.1.2 e); omega
    have hna1 : 0 < na := by omega
    have hna2 := hna.2
    have HPE : Hid ((⟨(printK (.mk (a :: lb))).toArray⟩ : ByteArray) = (⟨#[40]⟩ : ByteArray) ++ ⟨(printK a).toArray⟩ ++ ⟨#[41]⟩ ++ ⟨#[32, 45, 62, 32]⟩ ++ ⟨(printK (.mk lb)).toArray⟩) := by
      show _ = _
      rw [printK_cons]
      unfold itemK wrapK
      rw [if_neg hf, ← append_mk2, ← append_mk2, ← append_mk2, ← append_mk2]
    clear hna hf
    go_wp2_with fail
    generalize (w9.alloc (.cells #[.slice Ap np cp] 25)).alloc (.cells #[.slice Aq nq cq] 25) = w10 at *
    refine (refprint_any _ _ a _ w10 (Nat.le_refl _) (HK3.out.on HB94.out) (by have := HP1.out; omega)).mono ?_
    rintro e w11 ⟨rfl, hb11⟩
    have hB11 : Below w4.heap.size w4 w11 := HB94.out.trans (hb11.mono HB94.out.size)
    have hB117 : Below w7.heap.size w7 w11 := HB97.out.trans (hb11.mono HB97.out.size)
    have hx5 := (hB11.cell (p := ⟨w1.heap.size, 0, none⟩) (show w1.heap.size < w4.heap.size by omega)).trans y5'
    have hx6' := (hB11.cell (p := ⟨w3.heap.size, 0, none⟩) (show w3.heap.size < w4.heap.size by omega)).trans hx6
    have hx7' := (hB117.cell (p := ⟨w6.heap.size, 0, none⟩) (show w6.heap.size < w7.heap.size by omega)).trans hx7
    have hx8' := (hB117.cell (p := ⟨w6.heap.size + 1, 0, none⟩) (show w6.heap.size + 1 < w7.heap.size by omega)).trans hx8
    have hz11 := hB117.size
    have hs1 := mk_size (printK a)
    have hs2 := mk_size (printK (.mk lb))
    have hp1 := HP1.out
    have hp2 := HP2.out
    have HA : Hid (∀ y, Below w11.heap.size w11 y → KAt (fun b => w.heap.size ≤ b) y a (.slice Aa na ca)) := fun y hy => ((HK3.out.on hB11).on hy)
    have HBK : Hid (∀ y, Below w11.heap.size w11 y → KAt (fun b => w2.heap.size ≤ b) y (.mk lb) (.slice Ab nb cb)) := fun y hy => ((HKB.out.on hB11).on hy)
    have HXK : Hid (∀ y, Below w11.heap.size w11 y → KAt (fun b => w5.heap.size ≤ b) y a (.slice Ax nx cx)) := fun y hy => ((HKX7.out.on hB117).on hy)
    have HYK : Hid (∀ y, Below w11.heap.size w11 y → KAt (fun b => w5.heap.size ≤ b) y (.mk lb) (.slice Ay ny cy)) := fun y hy => ((HKY7.out.on hB117).on hy)
    have HAR : Hid (∀ y, Below w11.heap.size w11 y → Calls Try.prog 19 #[.agg #[.slice Aa na ca], .agg #[.slice Ab nb cb]] y (KindMade y (.mk (a :: lb)))) := fun y hy => HARR.out y (hB11.trans (hy.mono hB11.size))
    have HC14a : Hid (∀ y, Below w11.heap.size w11 y → Calls Try.prog 14 #[.agg #[.slice Ax nx cx], .agg #[.slice Aa na ca]] y fun e y' => e = .returned (.bool true) ∧ Below y.heap.size y y') := fun y hy => (refsame_any _ _ _ a a _ _ y (Nat.le_refl _) (HXK.out y hy) (HA.out y hy)).mono fun e y' h => ⟨by rw [h.1, eqK_true rfl], h.2⟩
    have HC14b : Hid (∀ y, Below w11.heap.size w11 y → Calls Try.prog 14 #[.agg #[.slice Ay ny cy], .agg #[.slice Ab nb cb]] y fun e y' => e = .returned (.bool true) ∧ Below y.heap.size y y') := fun y hy => (refsame_any _ _ _ (.mk lb) (.mk lb) _ _ y (Nat.le_refl _) (HYK.out y hy) (HBK.out y hy)).mono fun e y' h => ⟨by rw [h.1, eqK_true rfl], h.2⟩
    have HC13a : Hid (∀ y, Below w11.heap.size w11 y → Calls Try.prog 13 #[.agg #[.slice Aa na ca]] y fun e y' => e = .returned (.string ⟨(printK a).toArray⟩) ∧ Below y.heap.size y y') := fun y hy => refprint_any _ _ a _ y (Nat.le_refl _) (HA.out y hy) (by omega)
    have HC13b : Hid (∀ y, Below w11.heap.size w11 y → Calls Try.prog 13 #[.agg #[.slice Ab nb cb]] y fun e y' => e = .returned (.string ⟨(printK (.mk lb)).toArray⟩) ∧ Below y.heap.size y y') := fun y hy => refprint_any _ _ (.mk lb) _ y (Nat.le_refl _) (HBK.out y hy) (by omega)
    have HC21 : Hid (∀ y, Below w11.heap.size w11 y → Calls Try.prog 21 #[.agg #[.slice Aa na ca], .agg #[.slice Ab nb cb]] y fun e y' => e = .returned (.bool (eqK a (.mk lb))) ∧ Below y.heap.size y y') := fun y hy => same_any _ _ _ a (.mk lb) _ _ y (Nat.le_refl _) (HA.out y hy) (HBK.out y hy)
    have hpl : (printK (.mk (a :: lb))).length ≤ 1099511627776 := by have := print_le (.mk (a :: lb)); have := HSAB.out; omega
    have HC11 : Hid (∀ (y : World) (v : Value) (R : Nat → Prop), KAt R y (.mk (a :: lb)) v → Calls Try.prog 11 #[.agg #[v]] y fun e y' => e = .returned (.string ((⟨#[40]⟩ : ByteArray) ++ ⟨(printK a).toArray⟩ ++ ⟨#[41]⟩ ++ ⟨#[32, 45, 62, 32]⟩ ++ ⟨(printK (.mk lb)).toArray⟩)) ∧ Below y.heap.size y y') := fun y v R hk => (print_any R _ v y hk hpl).mono fun e y' h => ⟨by rw [h.1, HPE.out], h.2⟩
    have keepS : Hid (∀ y, Below w11.heap.size w11 y → y.cell? ⟨w1.heap.size, 0, none⟩ = some (.slice Aa na ca) ∧ y.cell? ⟨w3.heap.size, 0, none⟩ = some (.slice Ab nb cb) ∧ y.cell? ⟨w6.heap.size, 0, none⟩ = some (.slice Ax nx cx) ∧ y.cell? ⟨w6.heap.size + 1, 0, none⟩ = some (.slice Ay ny cy)) := by
      have z1 : w1.heap.size < w11.heap.size := by omega
      have z3 : w3.heap.size < w11.heap.size := by omega
      have z6 : w6.heap.size < w11.heap.size := by omega
      have z7 : w6.heap.size + 1 < w11.heap.size := by omega
      exact fun y hy => ⟨(hy.cell (p := ⟨w1.heap.size, 0, none⟩) z1).trans hx5, (hy.cell (p := ⟨w3.heap.size, 0, none⟩) z3).trans hx6', (hy.cell (p := ⟨w6.heap.size, 0, none⟩) z6).trans hx7', (hy.cell (p := ⟨w6.heap.size + 1, 0, none⟩) z7).trans hx8'⟩
    have HBF := Lib.hid (HB3.out.trans (hB11.mono HB3.out.size))
    have htest : (((⟨(printK a).toArray⟩ : ByteArray) == ⟨(printK (.mk lb)).toArray⟩) = eqK a (.mk lb)) := by
      by_cases hab : a = .mk lb
      · rw [eqK_true hab, hab]; exact beq_self_eq_true (⟨(printK (.mk lb)).toArray⟩ : ByteArray).data
      · rw [eqK_false hab]; exact beq_no (fun e => hab (printK_inj (mk_inj e)))
    have HTEST := Lib.hid htest
    clear hb11 hB11 hB117 hx5 hx6 hx7 hx8 hx6' hx7' hx8' y5' y9 htest HPE
    generalize (⟨(printK a).toArray⟩ : ByteArray) = PA at *
    generalize (⟨(printK (.mk lb)).toArray⟩ : ByteArray) = PB at *
    generalize hqq : eqK a (.mk lb) = q at *
    have hsp : PA.size ≤ 561 := by omega
    have hsq : PB.size ≤ 561 := by omega
    have z4 : (⟨#[32, 45, 62, 32]⟩ : ByteArray).size = 4 := rfl
    have z1 : (⟨#[40]⟩ : ByteArray).size = 1 := rfl
    have z2 : (⟨#[41]⟩ : ByteArray).size = 1 := rfl
    have hadd1 := fun (y : World) => run_string_add_sum (P := Try.prog) (w := y) (⟨#[40]⟩ ++ PA ++ ⟨#[41]⟩) ⟨#[32, 45, 62, 32]⟩ (by rw [ByteArray.size_append, ByteArray.size_append, z4, z1, z2]; omega)
    have hadd2 := fun (y : World) => run_string_add_sum (P := Try.prog) (w := y) (⟨#[40]⟩ ++ PA ++ ⟨#[41]⟩ ++ ⟨#[32, 45, 62, 32]⟩) PB (by rw [ByteArray.size_append, ByteArray.size_append, ByteArray.size_append, z4, z1, z2]; omega)
    clear z4 z1 z2
    have hS0 := keepS.out w11 (Below.refl _ _)
    have b0 : Below w11.heap.size w11 w11.drew := (Below.refl _ _).drew
    go_wp2_with fail
    cases q
    all_goals
      have htest := HTEST.out
      have htest2 := beq_lists htest
      go_region_held3 (fun y => y.cell? ⟨w1.heap.size, 0, none⟩ = some (.slice Aa na ca) ∧ y.cell? ⟨w3.heap.size, 0, none⟩ = some (.slice Ab nb cb) ∧ y.cell? ⟨w6.heap.size, 0, none⟩ = some (.slice Ax nx cx) ∧ y.cell? ⟨w6.heap.size + 1, 0, none⟩ = some (.slice Ay ny cy)) (first | exact hS0 | exact hS1 | exact hS2 | exact hS3 | exact hS4 | exact hS5 | exact hS6 | exact hS7 | exact hS8 | exact hS9) (first | (go_at_call 14; (with_reducible refine (HC14a.out _ b0).mono ?_); rintro e y1 ⟨rfl, d1⟩; have b1 := b0.trans (d1.mono b0.size); have hS1 := keepS.out y1 b1) | (go_at_call 14; (with_reducible refine (HC14b.out _ b1).mono ?_); rintro e y2 ⟨rfl, d2⟩; have b2 := b1.trans (d2.mono b1.size); have hS2 := keepS.out y2 b2) | (go_at_call 19; (with_reducible refine (HAR.out _ b2).mono ?_); rintro e y3 ⟨kv3, rfl, hk3, d3⟩; have b3 := b2.trans (d3.mono b2.size); have hS3 := keepS.out y3 b3; obtain ⟨A3, n3, c3, rfl⟩ := kform hk3) | (go_at_call 11; (with_reducible refine (HC11.out _ _ _ hk3).mono ?_); rintro e y4 ⟨rfl, d4⟩; have b4 := b3.trans (d4.mono b3.size); have hS4 := keepS.out y4 b4) | (go_at_call 13; (with_reducible refine (HC13b.out _ b4).mono ?_); rintro e y5 ⟨rfl, d5⟩; have b5 := b4.trans (d5.mono b4.size); have hS5 := keepS.out y5 b5) | (go_at_call 21; (with_reducible refine (HC21.out _ b5).mono ?_); rintro e y6 ⟨rfl, d6⟩; have b6 := b5.trans (d6.mono b5.size); have hS6 := keepS.out y6 b6) | (go_at_call 13; (with_reducible refine (HC13a.out _ b6).mono ?_); rintro e y7 ⟨rfl, d7⟩; have b7 := b6.trans (d7.mono b6.size); have hS7 := keepS.out y7 b7) | (go_at_call 13; (with_reducible refine (HC13b.out _ b7).mono ?_); rintro e y8 ⟨rfl, d8⟩; have b8 := b7.trans (d8.mono b7.size); have hS8 := keepS.out y8 b8) | (go_at_call 15; (with_reducible refine (lives_any _).mono ?_); rintro e y9 ⟨rfl, d9⟩; have b9 := b8.trans (d9.mono b8.size); have hS9 := keepS.out y9 b9))
      all_goals
        have HBZ := Lib.hid (HBF.out.trans (b9.mono HBF.out.size))
        clear b0 b1 b2 b3 b4 b5 b6 b7 b8 b9 hS0 hS1 hS2 hS3 hS4 hS5 hS6 hS7 hS8 hS9 d1 d2 d3 d4 d5 d6 d7 d8 d9 hk3
        go_wp2
        go_ret
        exact ⟨rfl, HBZ.out⟩
theorem kindsArrows_law (a : Option Addr) (len cap : Nat) (b : Option Addr) (len2 cap2 : Nat) (w : World) (h1 : SomeInts w (.slice a len cap)) (h2 : SomeInts w (.slice b len2 cap2)) : Calls Try.prog 5 #[.slice a len cap, .slice b len2 cap2] w (TrueB w) := by
  obtain ⟨zs, h1⟩ := h1
  obtain ⟨ys, h2⟩ := h2
  exact kindsArrows_walk _ _ _ _ zs ys w h1 h2
end Go.Proofs.Ytomhojpoaicioaa
