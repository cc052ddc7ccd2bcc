/- TypesMakes (chapter 4): the law's walk. Condition: the slices read as numbers. -/
import Derived.Test.YtlloicehhjlekaaDoorSpine
import Derived.Test.YtlloicehhjlekaaDoorSplits
namespace Go.Proofs.YtlloicehhjlekaaDoor
open Go.RowKit

theorem leaf_sz (n k : Int) : (leafZ n k).sz = 1 := by
  unfold leafZ
  split
  · rfl
  · split <;> rfl
theorem built_sz : ∀ (f : Nat) (l : List Int), (builtZ f l).1.sz ≤ 4 ^ (f + 1)
  | f, [] => by
    have : builtZ f [] = (.con ⟨#[73, 110, 116]⟩, []) := by cases f <;> rfl
    rw [this]; exact Nat.one_le_pow _ _ (by omega)
  | 0, z :: l => by show (leafZ _ _).sz ≤ 4; rw [leaf_sz]; omega
  | f + 1, z :: l => by
    have h1 := built_sz f l
    have h2 := built_sz f (builtZ f l).2
    have h3 : 4 ≤ 4 ^ (f + 1) := by have := Nat.one_le_pow f 4 (by omega); rw [Nat.pow_succ]; omega
    rw [builtZ]
    split
    · show (leafZ _ _).sz ≤ _; rw [leaf_sz]; exact Nat.one_le_pow _ _ (by omega)
    · split
      · show (builtZ f l).1.sz + 1 ≤ _; rw [Nat.pow_succ]; omega
      · show (ite _ _ _ : Ty).sz ≤ _
        split
        · show 1 + (builtZ f l).1.sz + 1 + (builtZ f (builtZ f l).2).1.sz + 1 ≤ _; rw [Nat.pow_succ]; omega
        · show (builtZ f l).1.sz + (builtZ f (builtZ f l).2).1.sz + 1 ≤ _; rw [Nat.pow_succ]; omega
theorem madeZ_sz (zs : List Int) : (madeZ zs).sz ≤ 4096 := built_sz 5 _
theorem give_sz (f : Ty) : ∀ l : List Ty, (f.give l).sz = f.sz + (l.map (fun t => t.sz + 1)).sum := by
  intro l
  induction l generalizing f with
  | nil => simp [Ty.give]
  | cons a r ih =>
    have : f.give (a :: r) = (Ty.app f a).give r := rfl
    rw [this, ih]; simp [Ty.sz]; omega
set_option maxRecDepth 100000 in
set_option maxHeartbeats 4000000 in
theorem typesMakes_walk (P Q : Nat → Prop) (v1 v2 : Value) (zs ys : List Int) (n : Int) (w : World) (h1 : IntsAt P w v1 zs) (h2 : IntsAt Q w v2 ys) (hn1 : -9223372036854775808 ≤ n) (hn2 : n ≤ 9223372036854775807) : Calls Tryd.prog 3 #[v1, v2, .int .i64 n] w (TrueB w) := by
  have hc1 := made_any P v1 zs w h1
  have hc2 := fun w' (hb : Below w.heap.size w w') => made_any Q v2 ys w' (h2.on hb)
  have hsa := madeZ_sz zs
  have hsb := madeZ_sz ys
  obtain ⟨Az, cz, rfl⟩ := h1.slice
  obtain ⟨Ay, cy, rfl⟩ := h2.slice
  generalize madeZ zs = a at *
  generalize madeZ ys = b at *
  have HC1 := Lib.hid hc1
  have HC2 := Lib.hid hc2
  have HNM := Lib.hid (fun w' => name_any n w' hn1 hn2)
  generalize nameS n = nm at *
  clear hc1 hc2 h1 h2
  go_enter Tryd.func3, Tryd.ntmps3
  go_wp2_with fail
  refine HC1.out.mono ?_
  rintro e y7 ⟨t7, rfl, ht7, hb7⟩
  obtain ⟨f7, n7, s7, A7, l7, c7, rfl⟩ := ht7.flat
  have HT7 := Lib.hid ht7.all
  have HB := Lib.hid hb7
  clear ht7 hb7
  obtain ⟨W7, eW7, q7, b7, z7⟩ := one_box y7 (.int .i64 f7) (.int .i64 n7) (.string s7) (.slice A7 l7 c7) 25
  have HE7 := Lib.hid eW7
  have HT7 := Lib.hid (HT7.out.on b7)
  have HQ7 := Lib.hid q7
  have HB := Lib.hid (HB.out.trans (b7.mono HB.out.size))
  clear eW7 q7 b7
  go_wp2_with fail
  rw [HE7.out]
  refine (HC2.out _ HB.out).mono ?_
  rintro e y8 ⟨t8, rfl, ht8, hb8⟩
  obtain ⟨f8, n8, s8, A8, l8, c8, rfl⟩ := ht8.flat
  have HT7 := Lib.hid (HT7.out.on hb8)
  have HQ7 := Lib.hid (HQ7.out.on hb8)
  have HB := Lib.hid (HB.out.trans (hb8.mono HB.out.size))
  have HT8 := Lib.hid ht8.all
  clear ht8 hb8
  obtain ⟨W8, eW8, q8, b8, z8⟩ := one_box y8 (.int .i64 f8) (.int .i64 n8) (.string s8) (.slice A8 l8 c8) 25
  have HE8 := Lib.hid eW8
  have HT7 := Lib.hid (HT7.out.on b8)
  have HQ7 := Lib.hid (HQ7.out.on b8)
  have HT8 := Lib.hid (HT8.out.on b8)
  have HQ8 := Lib.hid q8
  have HB := Lib.hid (HB.out.trans (b8.mono HB.out.size))
  clear eW8 q8 b8
  go_wp2_with fail
  rw [HE8.out]
  refine (HNM.out _).mono ?_
  rintro e y9 ⟨rfl, hb9⟩
  have HT7 := Lib.hid (HT7.out.on hb9)
  have HQ7 := Lib.hid (HQ7.out.on hb9)
  have HT8 := Lib.hid (HT8.out.on hb9)
  have HQ8 := Lib.hid (HQ8.out.on hb9)
  have HB := Lib.hid (HB.out.trans (hb9.mono HB.out.size))
  clear hb9
  obtain ⟨x70, x71, x72, x73, x74, _⟩ := HQ7.out
  obtain ⟨x80, x81, x82, x83, x84, _⟩ := HQ8.out
  have hrow := (one_new HT7.out 25 1 (Nat.le_refl _) (by unfold maxLen; omega)).all
  have hn9 := below_new y9 (.cells #[.int .i64 f7, .int .i64 n7, .string s7, .slice A7 l7 c7] 25)
  obtain ⟨R9, eR9⟩ : ∃ R, y9.alloc (.cells #[.int .i64 f7, .int .i64 n7, .string s7, .slice A7 l7 c7] 25) = R := ⟨_, rfl⟩
  rw [eR9] at hrow hn9
  have HER := Lib.hid eR9
  have HROW := Lib.hid hrow
  have HT7 := Lib.hid (HT7.out.on hn9)
  have HQ7 := Lib.hid (HQ7.out.on hn9)
  have HT8 := Lib.hid (HT8.out.on hn9)
  have HQ8 := Lib.hid (HQ8.out.on hn9)
  have HB := Lib.hid (HB.out.trans (hn9.mono HB.out.size))
  clear eR9 hrow hn9
  go_wp2_with fail
  rw [HER.out]
  refine (fun_any _ b [a] _ _ _ HT8.out HROW.out (by simp)).mono ?_
  rintro e y10 ⟨t10, rfl, ht10, hb10⟩
  obtain ⟨f10, n10, s10, A10, l10, c10, rfl⟩ := ht10.flat
  clear x70 x71 x72 x73 x74
  clear x80 x81 x82 x83 x84
  have HT7 := Lib.hid (HT7.out.on hb10)
  have HQ7 := Lib.hid (HQ7.out.on hb10)
  have HT8 := Lib.hid (HT8.out.on hb10)
  have HQ8 := Lib.hid (HQ8.out.on hb10)
  have HB := Lib.hid (HB.out.trans (hb10.mono HB.out.size))
  have HT10 : Hid (TyAt (fun _ => True) y10 (Ty.fn a b) (.agg #[.int .i64 f10, .int .i64 n10, .string s10, .slice A10 l10 c10])) := ht10.all
  clear ht10 hb10
  obtain ⟨W10, eW10, q10, b10, z10⟩ := one_box y10 (.int .i64 f10) (.int .i64 n10) (.string s10) (.slice A10 l10 c10) 25
  have HE10 := Lib.hid eW10
  have HT7 := Lib.hid (HT7.out.on b10)
  have HQ7 := Lib.hid (HQ7.out.on b10)
  have HT8 := Lib.hid (HT8.out.on b10)
  have HQ8 := Lib.hid (HQ8.out.on b10)
  have HT10 := Lib.hid (HT10.out.on b10)
  have HQ10 := Lib.hid q10
  have HB := Lib.hid (HB.out.trans (b10.mono HB.out.size))
  clear eW10 q10 b10
  go_wp2_with fail
  rw [HE10.out]
  refine (split_any _ _ _ _ HT10.out).mono ?_
  rintro e y11 ⟨hb11, hr⟩
  obtain ⟨f11, n11, s11, A11, l11, c11, f12, n12, s12, A12, l12, c12, rfl, ht11, ht12⟩ : ∃ (f11 n11 : Int) (s11 : ByteArray) (A11 : Option Addr) (l11 c11 : Nat) (f12 n12 : Int) (s12 : ByteArray) (A12 : Option Addr) (l12 c12 : Nat), e = .returned (.tuple #[.agg #[.int .i64 f11, .int .i64 n11, .string s11, .slice A11 l11 c11], .agg #[.int .i64 f12, .int .i64 n12, .string s12, .slice A12 l12 c12], .bool true]) ∧ TyAt (fun _ => True) y11 a (.agg #[.int .i64 f11, .int .i64 n11, .string s11, .slice A11 l11 c11]) ∧ TyAt (fun _ => True) y11 b (.agg #[.int .i64 f12, .int .i64 n12, .string s12, .slice A12 l12 c12]) := by
    have hsd : (Ty.fn a b).sides = some (a, b) := rfl
    rw [hsd] at hr
    rcases hr with ⟨h9, _⟩ | ⟨a', b', f1, n1, s1, A1, l1, c1, f2, n2, s2, A2, l2, c2, h9, he, ha, hb⟩
    · cases h9
    · simp only [Option.some.injEq, Prod.mk.injEq] at h9
      obtain ⟨rfl, rfl⟩ := h9
      exact ⟨f1, n1, s1, A1, l1, c1, f2, n2, s2, A2, l2, c2, he, ha, hb⟩
  have HT7 := Lib.hid (HT7.out.on hb11)
  have HQ7 := Lib.hid (HQ7.out.on hb11)
  have HT8 := Lib.hid (HT8.out.on hb11)
  have HQ8 := Lib.hid (HQ8.out.on hb11)
  have HT10 := Lib.hid (HT10.out.on hb11)
  have HQ10 := Lib.hid (HQ10.out.on hb11)
  have HB := Lib.hid (HB.out.trans (hb11.mono HB.out.size))
  have HT11 := Lib.hid ht11
  have HT12 := Lib.hid ht12
  clear hr ht11 ht12 hb11
  obtain ⟨x70, x71, x72, x73, x74, _⟩ := HQ7.out
  obtain ⟨x80, x81, x82, x83, x84, _⟩ := HQ8.out
  obtain ⟨W12, eW12, q11, q12, b12, z12⟩ := two_boxes y11 (.int .i64 f11) (.int .i64 n11) (.string s11) (.slice A11 l11 c11) (.int .i64 f12) (.int .i64 n12) (.string s12) (.slice A12 l12 c12) 25 25
  have HE12 := Lib.hid eW12
  have HT7 := Lib.hid (HT7.out.on b12)
  have HQ7 := Lib.hid (HQ7.out.on b12)
  have HT8 := Lib.hid (HT8.out.on b12)
  have HQ8 := Lib.hid (HQ8.out.on b12)
  have HT10 := Lib.hid (HT10.out.on b12)
  have HQ10 := Lib.hid (HQ10.out.on b12)
  have HT11 := Lib.hid (HT11.out.on b12)
  have HT12 := Lib.hid (HT12.out.on b12)
  have HB := Lib.hid (HB.out.trans (b12.mono HB.out.size))
  have HQ11 := Lib.hid q11
  have HQ12 := Lib.hid q12
  clear eW12 q11 q12 b12
  have hrow := (two_new HT8.out HT7.out 25 2 (Nat.le_refl _) (by unfold maxLen; omega)).all
  have hn9 := below_new W12 (.cells #[.int .i64 f8, .int .i64 n8, .string s8, .slice A8 l8 c8, .int .i64 f7, .int .i64 n7, .string s7, .slice A7 l7 c7] 25)
  obtain ⟨R13, eR13⟩ : ∃ R, W12.alloc (.cells #[.int .i64 f8, .int .i64 n8, .string s8, .slice A8 l8 c8, .int .i64 f7, .int .i64 n7, .string s7, .slice A7 l7 c7] 25) = R := ⟨_, rfl⟩
  rw [eR13] at hrow hn9
  rw [show W12.heap.size = y11.heap.size + 1 + 1 by omega] at hrow
  have HER2 := Lib.hid eR13
  have HROW2 := Lib.hid hrow
  have HT7 := Lib.hid (HT7.out.on hn9)
  have HQ7 := Lib.hid (HQ7.out.on hn9)
  have HT8 := Lib.hid (HT8.out.on hn9)
  have HQ8 := Lib.hid (HQ8.out.on hn9)
  have HT10 := Lib.hid (HT10.out.on hn9)
  have HQ10 := Lib.hid (HQ10.out.on hn9)
  have HT11 := Lib.hid (HT11.out.on hn9)
  have HT12 := Lib.hid (HT12.out.on hn9)
  have HQ11 := Lib.hid (HQ11.out.on hn9)
  have HQ12 := Lib.hid (HQ12.out.on hn9)
  have HB := Lib.hid (HB.out.trans (hn9.mono HB.out.size))
  clear eR13 hrow hn9
  go_wp2_with fail
  rw [HE12.out, HER2.out]
  clear x70 x71 x72 x73 x74
  clear x80 x81 x82 x83 x84
  refine (app_any _ a [b, a] _ _ _ HT7.out HROW2.out (by simp)).mono ?_
  rintro e y14 ⟨t14, rfl, ht14, hb14⟩
  obtain ⟨f14, n14, s14, A14, l14, c14, rfl⟩ := ht14.flat
  have HT7 := Lib.hid (HT7.out.on hb14)
  have HQ7 := Lib.hid (HQ7.out.on hb14)
  have HT8 := Lib.hid (HT8.out.on hb14)
  have HQ8 := Lib.hid (HQ8.out.on hb14)
  have HT10 := Lib.hid (HT10.out.on hb14)
  have HQ10 := Lib.hid (HQ10.out.on hb14)
  have HT11 := Lib.hid (HT11.out.on hb14)
  have HT12 := Lib.hid (HT12.out.on hb14)
  have HQ11 := Lib.hid (HQ11.out.on hb14)
  have HQ12 := Lib.hid (HQ12.out.on hb14)
  have HB := Lib.hid (HB.out.trans (hb14.mono HB.out.size))
  have HT14 := Lib.hid ht14.all
  clear ht14 hb14
  obtain ⟨W14, eW14, q14, b14, z14⟩ := one_box y14 (.int .i64 f14) (.int .i64 n14) (.string s14) (.slice A14 l14 c14) 25
  have HE14 := Lib.hid eW14
  have HT7 := Lib.hid (HT7.out.on b14)
  have HQ7 := Lib.hid (HQ7.out.on b14)
  have HT8 := Lib.hid (HT8.out.on b14)
  have HQ8 := Lib.hid (HQ8.out.on b14)
  have HT10 := Lib.hid (HT10.out.on b14)
  have HQ10 := Lib.hid (HQ10.out.on b14)
  have HT11 := Lib.hid (HT11.out.on b14)
  have HT12 := Lib.hid (HT12.out.on b14)
  have HQ11 := Lib.hid (HQ11.out.on b14)
  have HQ12 := Lib.hid (HQ12.out.on b14)
  have HT14 := Lib.hid (HT14.out.on b14)
  have HQ14 := Lib.hid q14
  have HB := Lib.hid (HB.out.trans (b14.mono HB.out.size))
  clear eW14 q14 b14
  have hsg : (a.give [b, a]).sz ≤ 1099511627776 := by rw [give_sz]; simp; omega
  go_wp2_with fail
  rw [HE14.out]
  refine (spine_any _ _ _ _ HT14.out rfl hsg).mono ?_
  rintro e y15 ⟨hd, al, t15, t16, rfl, ht15, ht16, hhd, hgive, hall, hb15⟩
  obtain ⟨f15, n15, s15, A15, l15, c15, e15, _, _⟩ : ∃ (f15 n15 : Int) (s15 : ByteArray) (A15 : Option Addr) (l15 c15 : Nat), t15 = .agg #[.int .i64 f15, .int .i64 n15, .string s15, .slice A15 l15 c15] ∧ (f15 == 4) = false ∧ True := by
    obtain ⟨A9, c9, e9, _, _⟩ := ht15.form
    exact ⟨_, _, _, _, _, _, e9, (by cases hd <;> first | rfl | (cases hhd)), trivial⟩
  subst e15
  rename_i hf15 _
  obtain ⟨A16, c16, rfl, _, _⟩ := ht16.form
  have HT7 := Lib.hid (HT7.out.on hb15)
  have HQ7 := Lib.hid (HQ7.out.on hb15)
  have HT8 := Lib.hid (HT8.out.on hb15)
  have HQ8 := Lib.hid (HQ8.out.on hb15)
  have HT10 := Lib.hid (HT10.out.on hb15)
  have HQ10 := Lib.hid (HQ10.out.on hb15)
  have HT11 := Lib.hid (HT11.out.on hb15)
  have HT12 := Lib.hid (HT12.out.on hb15)
  have HQ11 := Lib.hid (HQ11.out.on hb15)
  have HQ12 := Lib.hid (HQ12.out.on hb15)
  have HT14 := Lib.hid (HT14.out.on hb15)
  have HQ14 := Lib.hid (HQ14.out.on hb15)
  have HB := Lib.hid (HB.out.trans (hb15.mono HB.out.size))
  have HT15 := Lib.hid ht15
  have HT16 := Lib.hid ht16
  have HGIVE := Lib.hid hgive
  have hal9 : al.length ≤ 1099511627776 := by omega
  clear ht15 ht16 hb15 hgive hall hhd
  obtain ⟨W15, eW15, q15, b15, z15⟩ := one_box y15 (.int .i64 f15) (.int .i64 n15) (.string s15) (.slice A15 l15 c15) 25
  have HE15 := Lib.hid eW15
  have HT7 := Lib.hid (HT7.out.on b15)
  have HQ7 := Lib.hid (HQ7.out.on b15)
  have HT8 := Lib.hid (HT8.out.on b15)
  have HQ8 := Lib.hid (HQ8.out.on b15)
  have HT10 := Lib.hid (HT10.out.on b15)
  have HQ10 := Lib.hid (HQ10.out.on b15)
  have HT11 := Lib.hid (HT11.out.on b15)
  have HT12 := Lib.hid (HT12.out.on b15)
  have HQ11 := Lib.hid (HQ11.out.on b15)
  have HQ12 := Lib.hid (HQ12.out.on b15)
  have HT14 := Lib.hid (HT14.out.on b15)
  have HQ14 := Lib.hid (HQ14.out.on b15)
  have HT15 := Lib.hid (HT15.out.on b15)
  have HT16 := Lib.hid (HT16.out.on b15)
  have HQ15 := Lib.hid q15
  have HB := Lib.hid (HB.out.trans (b15.mono HB.out.size))
  clear eW15 q15 b15
  go_wp2_with fail
  rw [HE15.out]
  refine (app_any _ hd al _ _ _ HT15.out HT16.out hal9).mono ?_
  rintro e y17 ⟨t17, rfl, ht17, hb17⟩
  obtain ⟨f17, n17, s17, A17, l17, c17, rfl⟩ := ht17.flat
  have HT7 := Lib.hid (HT7.out.on hb17)
  have HQ7 := Lib.hid (HQ7.out.on hb17)
  have HT8 := Lib.hid (HT8.out.on hb17)
  have HQ8 := Lib.hid (HQ8.out.on hb17)
  have HT10 := Lib.hid (HT10.out.on hb17)
  have HQ10 := Lib.hid (HQ10.out.on hb17)
  have HT11 := Lib.hid (HT11.out.on hb17)
  have HT12 := Lib.hid (HT12.out.on hb17)
  have HQ11 := Lib.hid (HQ11.out.on hb17)
  have HQ12 := Lib.hid (HQ12.out.on hb17)
  have HT14 := Lib.hid (HT14.out.on hb17)
  have HQ14 := Lib.hid (HQ14.out.on hb17)
  have HT15 := Lib.hid (HT15.out.on hb17)
  have HT16 := Lib.hid (HT16.out.on hb17)
  have HQ15 := Lib.hid (HQ15.out.on hb17)
  have HB := Lib.hid (HB.out.trans (hb17.mono HB.out.size))
  rw [HGIVE.out] at ht17
  have HT17 := Lib.hid ht17.all
  clear ht17 hb17
  obtain ⟨W17, eW17, q17, b17, z17⟩ := one_box y17 (.int .i64 f17) (.int .i64 n17) (.string s17) (.slice A17 l17 c17) 25
  have HE17 := Lib.hid eW17
  have HT7 := Lib.hid (HT7.out.on b17)
  have HQ7 := Lib.hid (HQ7.out.on b17)
  have HT8 := Lib.hid (HT8.out.on b17)
  have HQ8 := Lib.hid (HQ8.out.on b17)
  have HT10 := Lib.hid (HT10.out.on b17)
  have HQ10 := Lib.hid (HQ10.out.on b17)
  have HT11 := Lib.hid (HT11.out.on b17)
  have HT12 := Lib.hid (HT12.out.on b17)
  have HQ11 := Lib.hid (HQ11.out.on b17)
  have HQ12 := Lib.hid (HQ12.out.on b17)
  have HT14 := Lib.hid (HT14.out.on b17)
  have HQ14 := Lib.hid (HQ14.out.on b17)
  have HT15 := Lib.hid (HT15.out.on b17)
  have HT16 := Lib.hid (HT16.out.on b17)
  have HQ15 := Lib.hid (HQ15.out.on b17)
  have HT17 := Lib.hid (HT17.out.on b17)
  have HQ17 := Lib.hid q17
  have HB := Lib.hid (HB.out.trans (b17.mono HB.out.size))
  clear eW17 q17 b17
  go_wp2_with fail
  rw [HE17.out]
  have HS : Hid (∀ q, Below W17.heap.size W17 q → ((q.cell? ⟨y7.heap.size, 0, none⟩ = some (.int .i64 f7) ∧ q.cell? ⟨y7.heap.size, 1, none⟩ = some (.int .i64 n7) ∧ q.cell? ⟨y7.heap.size, 2, none⟩ = some (.string s7) ∧ q.cell? ⟨y7.heap.size, 3, none⟩ = some (.slice A7 l7 c7)) ∧ (q.cell? ⟨y8.heap.size, 0, none⟩ = some (.int .i64 f8) ∧ q.cell? ⟨y8.heap.size, 1, none⟩ = some (.int .i64 n8) ∧ q.cell? ⟨y8.heap.size, 2, none⟩ = some (.string s8) ∧ q.cell? ⟨y8.heap.size, 3, none⟩ = some (.slice A8 l8 c8)) ∧ (q.cell? ⟨y10.heap.size, 0, none⟩ = some (.int .i64 f10) ∧ q.cell? ⟨y10.heap.size, 1, none⟩ = some (.int .i64 n10) ∧ q.cell? ⟨y10.heap.size, 2, none⟩ = some (.string s10) ∧ q.cell? ⟨y10.heap.size, 3, none⟩ = some (.slice A10 l10 c10)) ∧ (q.cell? ⟨y11.heap.size, 0, none⟩ = some (.int .i64 f11) ∧ q.cell? ⟨y11.heap.size, 1, none⟩ = some (.int .i64 n11) ∧ q.cell? ⟨y11.heap.size, 2, none⟩ = some (.string s11) ∧ q.cell? ⟨y11.heap.size, 3, none⟩ = some (.slice A11 l11 c11)) ∧ (q.cell? ⟨y11.heap.size + 1, 0, none⟩ = some (.int .i64 f12) ∧ q.cell? ⟨y11.heap.size + 1, 1, none⟩ = some (.int .i64 n12) ∧ q.cell? ⟨y11.heap.size + 1, 2, none⟩ = some (.string s12) ∧ q.cell? ⟨y11.heap.size + 1, 3, none⟩ = some (.slice A12 l12 c12)) ∧ (q.cell? ⟨y14.heap.size, 0, none⟩ = some (.int .i64 f14) ∧ q.cell? ⟨y14.heap.size, 1, none⟩ = some (.int .i64 n14) ∧ q.cell? ⟨y14.heap.size, 2, none⟩ = some (.string s14) ∧ q.cell? ⟨y14.heap.size, 3, none⟩ = some (.slice A14 l14 c14)) ∧ (q.cell? ⟨y17.heap.size, 0, none⟩ = some (.int .i64 f17) ∧ q.cell? ⟨y17.heap.size, 1, none⟩ = some (.int .i64 n17) ∧ q.cell? ⟨y17.heap.size, 2, none⟩ = some (.string s17) ∧ q.cell? ⟨y17.heap.size, 3, none⟩ = some (.slice A17 l17 c17)) ∧ q.cell? ⟨y15.heap.size, 0, none⟩ = some (.int .i64 f15))) := fun q hb => by
    obtain ⟨_, a70, a71, a72, a73, _⟩ := HQ7.out.on hb
    obtain ⟨_, a80, a81, a82, a83, _⟩ := HQ8.out.on hb
    obtain ⟨_, a100, a101, a102, a103, _⟩ := HQ10.out.on hb
    obtain ⟨_, a110, a111, a112, a113, _⟩ := HQ11.out.on hb
    obtain ⟨_, a120, a121, a122, a123, _⟩ := HQ12.out.on hb
    obtain ⟨_, a140, a141, a142, a143, _⟩ := HQ14.out.on hb
    obtain ⟨_, a170, a171, a172, a173, _⟩ := HQ17.out.on hb
    obtain ⟨_, a150, a151, a152, a153, _⟩ := HQ15.out.on hb
    exact ⟨⟨a70, a71, a72, a73⟩, ⟨a80, a81, a82, a83⟩, ⟨a100, a101, a102, a103⟩, ⟨a110, a111, a112, a113⟩, ⟨a120, a121, a122, a123⟩, ⟨a140, a141, a142, a143⟩, ⟨a170, a171, a172, a173⟩, a150⟩
  have hS0 := HS.out _ (Below.refl _ W17).drew
  have HCa : Hid (Calls Tryd.prog 18 #[.agg #[.int .i64 f7, .int .i64 n7, .string s7, .slice A7 l7 c7], .agg #[.int .i64 f8, .int .i64 n8, .string s8, .slice A8 l8 c8]] W17.drew fun e u => ∃ f n s A l c, e = .returned (.agg #[.int .i64 f, .int .i64 n, .string s, .slice A l c]) ∧ TyAt (fun _ => True) u (Ty.fn a b) (.agg #[.int .i64 f, .int .i64 n, .string s, .slice A l c]) ∧ Below W17.heap.size W17 u) := by
    refine (reffun_any _ a b _ _ _ (HT7.out.on (Below.refl _ W17).drew) (HT8.out.on (Below.refl _ W17).drew)).mono ?_
    rintro e u ⟨v, rfl, hv, hb⟩
    obtain ⟨f, n, s, A, l, c, rfl⟩ := hv.flat
    exact ⟨f, n, s, A, l, c, rfl, hv.all, (Below.refl _ W17).drew.trans hb⟩
  have HEQ10 : Hid (∀ y f n s A l c, TyAt (fun _ => True) y (Ty.fn a b) (.agg #[.int .i64 f, .int .i64 n, .string s, .slice A l c]) → Below W17.heap.size W17 y → Calls Tryd.prog 17 #[.agg #[.int .i64 f10, .int .i64 n10, .string s10, .slice A10 l10 c10], .agg #[.int .i64 f, .int .i64 n, .string s, .slice A l c]] y fun e u => e = .returned (.bool true) ∧ Below W17.heap.size W17 u) := fun y f n s A l c hv hb => by
    have h9 := equal_any _ _ _ (Ty.fn a b) (Ty.fn a b) _ _ y (Nat.le_refl _) (HT10.out.on hb) hv
    rw [eqT_true rfl] at h9
    exact h9.mono (fun e u h => ⟨h.1, hb.trans (h.2.mono hb.size)⟩)
  have HEQ11 : Hid (∀ y, Below W17.heap.size W17 y → Calls Tryd.prog 17 #[.agg #[.int .i64 f11, .int .i64 n11, .string s11, .slice A11 l11 c11], .agg #[.int .i64 f7, .int .i64 n7, .string s7, .slice A7 l7 c7]] y fun e u => e = .returned (.bool true) ∧ Below W17.heap.size W17 u) := fun y hb => by
    have h9 := equal_any _ _ _ a a _ _ y (Nat.le_refl _) (HT11.out.on hb) (HT7.out.on hb)
    rw [eqT_true rfl] at h9
    exact h9.mono (fun e u h => ⟨h.1, hb.trans (h.2.mono hb.size)⟩)
  have HEQ12 : Hid (∀ y, Below W17.heap.size W17 y → Calls Tryd.prog 17 #[.agg #[.int .i64 f12, .int .i64 n12, .string s12, .slice A12 l12 c12], .agg #[.int .i64 f8, .int .i64 n8, .string s8, .slice A8 l8 c8]] y fun e u => e = .returned (.bool true) ∧ Below W17.heap.size W17 u) := fun y hb => by
    have h9 := equal_any _ _ _ b b _ _ y (Nat.le_refl _) (HT12.out.on hb) (HT8.out.on hb)
    rw [eqT_true rfl] at h9
    exact h9.mono (fun e u h => ⟨h.1, hb.trans (h.2.mono hb.size)⟩)
  have HEQ17 : Hid (∀ y, Below W17.heap.size W17 y → Calls Tryd.prog 17 #[.agg #[.int .i64 f17, .int .i64 n17, .string s17, .slice A17 l17 c17], .agg #[.int .i64 f14, .int .i64 n14, .string s14, .slice A14 l14 c14]] y fun e u => e = .returned (.bool true) ∧ Below W17.heap.size W17 u) := fun y hb => by
    have h9 := equal_any _ _ _ (a.give [b, a]) (a.give [b, a]) _ _ y (Nat.le_refl _) (HT17.out.on hb) (HT14.out.on hb)
    rw [eqT_true rfl] at h9
    exact h9.mono (fun e u h => ⟨h.1, hb.trans (h.2.mono hb.size)⟩)
  go_region_held3 (fun q => (q.cell? ⟨y7.heap.size, 0, none⟩ = some (.int .i64 f7) ∧ q.cell? ⟨y7.heap.size, 1, none⟩ = some (.int .i64 n7) ∧ q.cell? ⟨y7.heap.size, 2, none⟩ = some (.string s7) ∧ q.cell? ⟨y7.heap.size, 3, none⟩ = some (.slice A7 l7 c7)) ∧ (q.cell? ⟨y8.heap.size, 0, none⟩ = some (.int .i64 f8) ∧ q.cell? ⟨y8.heap.size, 1, none⟩ = some (.int .i64 n8) ∧ q.cell? ⟨y8.heap.size, 2, none⟩ = some (.string s8) ∧ q.cell? ⟨y8.heap.size, 3, none⟩ = some (.slice A8 l8 c8)) ∧ (q.cell? ⟨y10.heap.size, 0, none⟩ = some (.int .i64 f10) ∧ q.cell? ⟨y10.heap.size, 1, none⟩ = some (.int .i64 n10) ∧ q.cell? ⟨y10.heap.size, 2, none⟩ = some (.string s10) ∧ q.cell? ⟨y10.heap.size, 3, none⟩ = some (.slice A10 l10 c10)) ∧ (q.cell? ⟨y11.heap.size, 0, none⟩ = some (.int .i64 f11) ∧ q.cell? ⟨y11.heap.size, 1, none⟩ = some (.int .i64 n11) ∧ q.cell? ⟨y11.heap.size, 2, none⟩ = some (.string s11) ∧ q.cell? ⟨y11.heap.size, 3, none⟩ = some (.slice A11 l11 c11)) ∧ (q.cell? ⟨y11.heap.size + 1, 0, none⟩ = some (.int .i64 f12) ∧ q.cell? ⟨y11.heap.size + 1, 1, none⟩ = some (.int .i64 n12) ∧ q.cell? ⟨y11.heap.size + 1, 2, none⟩ = some (.string s12) ∧ q.cell? ⟨y11.heap.size + 1, 3, none⟩ = some (.slice A12 l12 c12)) ∧ (q.cell? ⟨y14.heap.size, 0, none⟩ = some (.int .i64 f14) ∧ q.cell? ⟨y14.heap.size, 1, none⟩ = some (.int .i64 n14) ∧ q.cell? ⟨y14.heap.size, 2, none⟩ = some (.string s14) ∧ q.cell? ⟨y14.heap.size, 3, none⟩ = some (.slice A14 l14 c14)) ∧ (q.cell? ⟨y17.heap.size, 0, none⟩ = some (.int .i64 f17) ∧ q.cell? ⟨y17.heap.size, 1, none⟩ = some (.int .i64 n17) ∧ q.cell? ⟨y17.heap.size, 2, none⟩ = some (.string s17) ∧ q.cell? ⟨y17.heap.size, 3, none⟩ = some (.slice A17 l17 c17)) ∧ q.cell? ⟨y15.heap.size, 0, none⟩ = some (.int .i64 f15)) (first | with_reducible exact hS0 | with_reducible exact hS1 | with_reducible exact hS2 | with_reducible exact hS3 | with_reducible exact hS4 | with_reducible exact hS5) (first | (go_at_call 18; (with_reducible refine HCa.out.mono ?_); rintro e u1 ⟨fu, nu, su, Au, lu, cu, rfl, htu, hb1⟩; have hS1 := HS.out u1 hb1) | (go_at_call 17; (with_reducible refine (HEQ10.out _ _ _ _ _ _ _ htu hb1).mono ?_); rintro e u2 ⟨rfl, hb2⟩; have hS2 := HS.out u2 hb2) | (go_at_call 17; (with_reducible refine (HEQ11.out _ hb2).mono ?_); rintro e u3 ⟨rfl, hb3⟩; have hS3 := HS.out u3 hb3) | (go_at_call 17; (with_reducible refine (HEQ12.out _ hb3).mono ?_); rintro e u4 ⟨rfl, hb4⟩; have hS4 := HS.out u4 hb4) | (go_at_call 17; (with_reducible refine (HEQ17.out _ hb4).mono ?_); rintro e u5 ⟨rfl, hb5⟩; have hS5 := HS.out u5 hb5))
  clear hS0 hS1 hS2 hS3 hS4 hS5
  have HT7 := Lib.hid (HT7.out.on hb5)
  have HQ7 := Lib.hid (HQ7.out.on hb5)
  have HT8 := Lib.hid (HT8.out.on hb5)
  have HQ8 := Lib.hid (HQ8.out.on hb5)
  have HT10 := Lib.hid (HT10.out.on hb5)
  have HQ10 := Lib.hid (HQ10.out.on hb5)
  have HT11 := Lib.hid (HT11.out.on hb5)
  have HT12 := Lib.hid (HT12.out.on hb5)
  have HQ11 := Lib.hid (HQ11.out.on hb5)
  have HQ12 := Lib.hid (HQ12.out.on hb5)
  have HT14 := Lib.hid (HT14.out.on hb5)
  have HQ14 := Lib.hid (HQ14.out.on hb5)
  have HT15 := Lib.hid (HT15.out.on hb5)
  have HT16 := Lib.hid (HT16.out.on hb5)
  have HQ15 := Lib.hid (HQ15.out.on hb5)
  have HT17 := Lib.hid (HT17.out.on hb5)
  have HQ17 := Lib.hid (HQ17.out.on hb5)
  have HB := Lib.hid (HB.out.trans (hb5.mono HB.out.size))
  clear hb1 hb2 hb3 hb4 hb5 htu HS HCa HEQ10 HEQ11 HEQ12 HEQ17
  clear HT10 HT11 HT12 HT14 HT15 HT16 HT17 HQ10 HQ11 HQ12 HQ14 HQ15 HQ17
  obtain ⟨x70, x71, x72, x73, x74, _⟩ := HQ7.out
  go_wp2_with fail
  refine (all_any _ nm a _ _ HT7.out).mono ?_
  rintro e y18 ⟨t18, rfl, ht18, hb18⟩
  obtain ⟨f18, n18, s18, A18, l18, c18, rfl⟩ := ht18.flat
  clear x70 x71 x72 x73 x74
  have HT7 := Lib.hid (HT7.out.on hb18)
  have HQ7 := Lib.hid (HQ7.out.on hb18)
  have HT8 := Lib.hid (HT8.out.on hb18)
  have HQ8 := Lib.hid (HQ8.out.on hb18)
  have HB := Lib.hid (HB.out.trans (hb18.mono HB.out.size))
  have HT18 := Lib.hid ht18.all
  clear ht18 hb18
  obtain ⟨W18, eW18, q18, b18, z18⟩ := one_box y18 (.int .i64 f18) (.int .i64 n18) (.string s18) (.slice A18 l18 c18) 25
  have HE18 := Lib.hid eW18
  have HT7 := Lib.hid (HT7.out.on b18)
  have HQ7 := Lib.hid (HQ7.out.on b18)
  have HT8 := Lib.hid (HT8.out.on b18)
  have HQ8 := Lib.hid (HQ8.out.on b18)
  have HT18 := Lib.hid (HT18.out.on b18)
  have HQ18 := Lib.hid q18
  have HB := Lib.hid (HB.out.trans (b18.mono HB.out.size))
  clear eW18 q18 b18
  go_wp2_with fail
  rw [HE18.out]
  refine (split_any _ _ _ _ HT18.out).mono ?_
  rintro e y19 ⟨hb19, hr⟩
  obtain ⟨A19, c19, A20, c20, rfl⟩ : ∃ A1 c1 A2 c2, e = .returned (.tuple #[.agg #[.int .i64 0, .int .i64 0, .string ⟨#[]⟩, .slice A1 0 c1], .agg #[.int .i64 0, .int .i64 0, .string ⟨#[]⟩, .slice A2 0 c2], .bool false]) := by
    have hsd : (Ty.all nm a).sides = none := rfl
    rw [hsd] at hr
    rcases hr with ⟨_, A1, c1, A2, c2, he⟩ | ⟨_, _, _, _, _, _, _, _, _, _, _, _, _, _, h9, _⟩
    · exact ⟨A1, c1, A2, c2, he⟩
    · cases h9
  have HT7 := Lib.hid (HT7.out.on hb19)
  have HQ7 := Lib.hid (HQ7.out.on hb19)
  have HT8 := Lib.hid (HT8.out.on hb19)
  have HQ8 := Lib.hid (HQ8.out.on hb19)
  have HT18 := Lib.hid (HT18.out.on hb19)
  have HQ18 := Lib.hid (HQ18.out.on hb19)
  have HB := Lib.hid (HB.out.trans (hb19.mono HB.out.size))
  clear hb19 hr
  obtain ⟨W20, eW20, q19, q20, b20, z20⟩ := two_boxes y19 (.int .i64 0) (.int .i64 0) (.string ⟨#[]⟩) (.slice A19 0 c19) (.int .i64 0) (.int .i64 0) (.string ⟨#[]⟩) (.slice A20 0 c20) 25 25
  have HE20 := Lib.hid eW20
  have HT7 := Lib.hid (HT7.out.on b20)
  have HQ7 := Lib.hid (HQ7.out.on b20)
  have HT8 := Lib.hid (HT8.out.on b20)
  have HQ8 := Lib.hid (HQ8.out.on b20)
  have HT18 := Lib.hid (HT18.out.on b20)
  have HQ18 := Lib.hid (HQ18.out.on b20)
  have HB := Lib.hid (HB.out.trans (b20.mono HB.out.size))
  have HQ19 := Lib.hid q19
  clear eW20 q19 q20 b20 z20
  go_wp2_with fail
  rw [HE20.out]
  have HS : Hid (∀ q, Below W20.heap.size W20 q → ((q.cell? ⟨y7.heap.size, 0, none⟩ = some (.int .i64 f7) ∧ q.cell? ⟨y7.heap.size, 1, none⟩ = some (.int .i64 n7) ∧ q.cell? ⟨y7.heap.size, 2, none⟩ = some (.string s7) ∧ q.cell? ⟨y7.heap.size, 3, none⟩ = some (.slice A7 l7 c7)) ∧ (q.cell? ⟨y8.heap.size, 0, none⟩ = some (.int .i64 f8) ∧ q.cell? ⟨y8.heap.size, 1, none⟩ = some (.int .i64 n8) ∧ q.cell? ⟨y8.heap.size, 2, none⟩ = some (.string s8) ∧ q.cell? ⟨y8.heap.size, 3, none⟩ = some (.slice A8 l8 c8)) ∧ q.cell? ⟨y19.heap.size, 0, none⟩ = some (.int .i64 0))) := fun q hb => by
    obtain ⟨_, a70, a71, a72, a73, _⟩ := HQ7.out.on hb
    obtain ⟨_, a80, a81, a82, a83, _⟩ := HQ8.out.on hb
    obtain ⟨_, a190, a191, a192, a193, _⟩ := HQ19.out.on hb
    exact ⟨⟨a70, a71, a72, a73⟩, ⟨a80, a81, a82, a83⟩, a190⟩
  have hS0 := HS.out _ (Below.refl _ W20).drew
  have hn13 := below_new W20 (.cells #[.int .i64 f7, .int .i64 n7, .string s7, .slice A7 l7 c7, .int .i64 f8, .int .i64 n8, .string s8, .slice A8 l8 c8] 25)
  have hS01 := HS.out (W20.alloc (.cells #[.int .i64 f7, .int .i64 n7, .string s7, .slice A7 l7 c7, .int .i64 f8, .int .i64 n8, .string s8, .slice A8 l8 c8] 25)) hn13
  have hS02 := HS.out (W20.alloc (.cells #[.int .i64 f7, .int .i64 n7, .string s7, .slice A7 l7 c7, .int .i64 f8, .int .i64 n8, .string s8, .slice A8 l8 c8] 25)).drew hn13.drew
  have HC13 : Hid (∀ y, Below W20.heap.size (W20.alloc (.cells #[.int .i64 f7, .int .i64 n7, .string s7, .slice A7 l7 c7, .int .i64 f8, .int .i64 n8, .string s8, .slice A8 l8 c8] 25)) y → W20.heap.size + 1 ≤ y.heap.size → Below (W20.heap.size + 1) (W20.alloc (.cells #[.int .i64 f7, .int .i64 n7, .string s7, .slice A7 l7 c7, .int .i64 f8, .int .i64 n8, .string s8, .slice A8 l8 c8] 25)) y → Calls Tryd.prog 13 #[.agg #[.int .i64 f8, .int .i64 n8, .string s8, .slice A8 l8 c8], .slice (some ⟨W20.heap.size, 0, none⟩) 2 2] y fun e u => ∃ f n s A l c, e = .returned (.agg #[.int .i64 f, .int .i64 n, .string s, .slice A l c]) ∧ TyAt (fun _ => True) u (Ty.fn a (Ty.fn b b)) (.agg #[.int .i64 f, .int .i64 n, .string s, .slice A l c]) ∧ Below W20.heap.size W20 u) := fun y hb _ hb1 => by
    have hrow := (two_new HT7.out HT8.out 25 2 (Nat.le_refl _) (by unfold maxLen; omega)).all
    have hzr : (W20.alloc (.cells #[.int .i64 f7, .int .i64 n7, .string s7, .slice A7 l7 c7, .int .i64 f8, .int .i64 n8, .string s8, .slice A8 l8 c8] 25)).heap.size = W20.heap.size + 1 := by simp
    have hb9 : Below (W20.alloc (.cells #[.int .i64 f7, .int .i64 n7, .string s7, .slice A7 l7 c7, .int .i64 f8, .int .i64 n8, .string s8, .slice A8 l8 c8] 25)).heap.size (W20.alloc (.cells #[.int .i64 f7, .int .i64 n7, .string s7, .slice A7 l7 c7, .int .i64 f8, .int .i64 n8, .string s8, .slice A8 l8 c8] 25)) y := by rw [hzr]; exact hb1
    have hby := hn13.trans hb
    refine (fun_any _ b [a, b] _ _ _ ((HT8.out.on hn13).on hb9) (hrow.on hb9) (by simp)).mono ?_
    rintro e u ⟨v, rfl, hv, hbu⟩
    obtain ⟨f, n, s, A, l, c, rfl⟩ := hv.flat
    exact ⟨f, n, s, A, l, c, rfl, hv.all, hby.trans (hbu.mono hby.size)⟩
  have HC13a := Lib.hid (HC13.out (W20.alloc (.cells #[.int .i64 f7, .int .i64 n7, .string s7, .slice A7 l7 c7, .int .i64 f8, .int .i64 n8, .string s8, .slice A8 l8 c8] 25)).drew (Below.refl _ _).drew (by simp) (Below.refl _ _).drew)
  have HC18a : Hid (∀ y, Below W20.heap.size W20 y → Calls Tryd.prog 18 #[.agg #[.int .i64 f8, .int .i64 n8, .string s8, .slice A8 l8 c8], .agg #[.int .i64 f8, .int .i64 n8, .string s8, .slice A8 l8 c8]] y fun e u => ∃ f n s A l c, e = .returned (.agg #[.int .i64 f, .int .i64 n, .string s, .slice A l c]) ∧ TyAt (fun _ => True) u (Ty.fn b b) (.agg #[.int .i64 f, .int .i64 n, .string s, .slice A l c]) ∧ Below W20.heap.size W20 u ∧ Below y.heap.size y u) := fun y hb => by
    refine (reffun_any _ b b _ _ _ (HT8.out.on hb) (HT8.out.on hb)).mono ?_
    rintro e u ⟨v, rfl, hv, hbu⟩
    obtain ⟨f, n, s, A, l, c, rfl⟩ := hv.flat
    exact ⟨f, n, s, A, l, c, rfl, hv.all, hb.trans (hbu.mono hb.size), hbu⟩
  have HC18b : Hid (∀ y f n s A l c, TyAt (fun _ => True) y (Ty.fn b b) (.agg #[.int .i64 f, .int .i64 n, .string s, .slice A l c]) → Below W20.heap.size W20 y → Calls Tryd.prog 18 #[.agg #[.int .i64 f7, .int .i64 n7, .string s7, .slice A7 l7 c7], .agg #[.int .i64 f, .int .i64 n, .string s, .slice A l c]] y fun e u => ∃ f n s A l c, e = .returned (.agg #[.int .i64 f, .int .i64 n, .string s, .slice A l c]) ∧ TyAt (fun _ => True) u (Ty.fn a (Ty.fn b b)) (.agg #[.int .i64 f, .int .i64 n, .string s, .slice A l c]) ∧ Below W20.heap.size W20 u ∧ Below y.heap.size y u) := fun y f n s A l c hv hb => by
    refine (reffun_any _ a (Ty.fn b b) _ _ _ (HT7.out.on hb) hv).mono ?_
    rintro e u ⟨v, rfl, hv, hbu⟩
    obtain ⟨f, n, s, A, l, c, rfl⟩ := hv.flat
    exact ⟨f, n, s, A, l, c, rfl, hv.all, hb.trans (hbu.mono hb.size), hbu⟩
  have HC17a : Hid (∀ y f n s A l c f' n' s' A' l' c', TyAt (fun _ => True) y (Ty.fn a (Ty.fn b b)) (.agg #[.int .i64 f, .int .i64 n, .string s, .slice A l c]) → TyAt (fun _ => True) y (Ty.fn a (Ty.fn b b)) (.agg #[.int .i64 f', .int .i64 n', .string s', .slice A' l' c']) → Below W20.heap.size W20 y → Calls Tryd.prog 17 #[.agg #[.int .i64 f, .int .i64 n, .string s, .slice A l c], .agg #[.int .i64 f', .int .i64 n', .string s', .slice A' l' c']] y fun e u => e = .returned (.bool true) ∧ Below W20.heap.size W20 u) := fun y f n s A l c f' n' s' A' l' c' hv hv' hb => by
    have h9 := equal_any _ _ _ _ _ _ _ y (Nat.le_refl _) hv hv'
    rw [eqT_true rfl] at h9
    exact h9.mono (fun e u h => ⟨h.1, hb.trans (h.2.mono hb.size)⟩)
  have HC13b : Hid (∀ y, Below W20.heap.size W20 y → Calls Tryd.prog 13 #[.agg #[.int .i64 f7, .int .i64 n7, .string s7, .slice A7 l7 c7], .slice none 0 0] y fun e u => ∃ f n s A l c, e = .returned (.agg #[.int .i64 f, .int .i64 n, .string s, .slice A l c]) ∧ TyAt (fun _ => True) u a (.agg #[.int .i64 f, .int .i64 n, .string s, .slice A l c]) ∧ Below W20.heap.size W20 u) := fun y hb => by
    refine (fun_any _ a [] _ _ _ (HT7.out.on hb) (tys_nil _ _ none 0 (Nat.zero_le _)) (by simp)).mono ?_
    rintro e u ⟨v, rfl, hv, hbu⟩
    obtain ⟨f, n, s, A, l, c, rfl⟩ := hv.flat
    exact ⟨f, n, s, A, l, c, rfl, hv.all, hb.trans (hbu.mono hb.size)⟩
  have HC17b : Hid (∀ y f n s A l c, TyAt (fun _ => True) y a (.agg #[.int .i64 f, .int .i64 n, .string s, .slice A l c]) → Below W20.heap.size W20 y → Calls Tryd.prog 17 #[.agg #[.int .i64 f, .int .i64 n, .string s, .slice A l c], .agg #[.int .i64 f7, .int .i64 n7, .string s7, .slice A7 l7 c7]] y fun e u => e = .returned (.bool true) ∧ Below W20.heap.size W20 u) := fun y f n s A l c hv hb => by
    have h9 := equal_any _ _ _ _ _ _ _ y (Nat.le_refl _) hv (HT7.out.on hb)
    rw [eqT_true rfl] at h9
    exact h9.mono (fun e u h => ⟨h.1, hb.trans (h.2.mono hb.size)⟩)
  go_region_held3 (fun q => (q.cell? ⟨y7.heap.size, 0, none⟩ = some (.int .i64 f7) ∧ q.cell? ⟨y7.heap.size, 1, none⟩ = some (.int .i64 n7) ∧ q.cell? ⟨y7.heap.size, 2, none⟩ = some (.string s7) ∧ q.cell? ⟨y7.heap.size, 3, none⟩ = some (.slice A7 l7 c7)) ∧ (q.cell? ⟨y8.heap.size, 0, none⟩ = some (.int .i64 f8) ∧ q.cell? ⟨y8.heap.size, 1, none⟩ = some (.int .i64 n8) ∧ q.cell? ⟨y8.heap.size, 2, none⟩ = some (.string s8) ∧ q.cell? ⟨y8.heap.size, 3, none⟩ = some (.slice A8 l8 c8)) ∧ q.cell? ⟨y19.heap.size, 0, none⟩ = some (.int .i64 0)) (first | with_reducible exact hS0 | with_reducible exact hS01 | with_reducible exact hS02 | with_reducible exact hS1 | with_reducible exact hS2 | with_reducible exact hS3 | with_reducible exact hS4 | with_reducible exact hS5 | with_reducible exact hS6) (first | (go_at_call 13; (with_reducible refine HC13a.out.mono ?_); rintro e u1 ⟨g1, m1, r1, B1, j1, i1, rfl, htu1, hbu1⟩; have hS1 := HS.out u1 hbu1) | (go_at_call 18; (with_reducible refine (HC18a.out _ hbu1).mono ?_); rintro e u2 ⟨g2, m2, r2, B2, j2, i2, rfl, htu2, hbu2, hbv2⟩; have hS2 := HS.out u2 hbu2) | (go_at_call 18; (with_reducible refine (HC18b.out _ _ _ _ _ _ _ htu2 hbu2).mono ?_); rintro e u3 ⟨g3, m3, r3, B3, j3, i3, rfl, htu3, hbu3, hbv3⟩; have hS3 := HS.out u3 hbu3) | (go_at_call 17; (with_reducible refine (HC17a.out _ _ _ _ _ _ _ _ _ _ _ _ _ ((htu1.on hbv2).on hbv3) htu3 hbu3).mono ?_); rintro e u4 ⟨rfl, hbu4⟩; have hS4 := HS.out u4 hbu4) | (go_at_call 13; (with_reducible refine (HC13b.out _ hbu4).mono ?_); rintro e u5 ⟨g5, m5, r5, B5, j5, i5, rfl, htu5, hbu5⟩; have hS5 := HS.out u5 hbu5) | (go_at_call 17; (with_reducible refine (HC17b.out _ _ _ _ _ _ _ htu5 hbu5).mono ?_); rintro e u6 ⟨rfl, hbu6⟩; have hS6 := HS.out u6 hbu6))
  clear hS0 hS01 hS02 hS1 hS2 hS3 hS4 hS5 hS6 hn13
  have HT7 := Lib.hid (HT7.out.on hbu6)
  have HQ7 := Lib.hid (HQ7.out.on hbu6)
  have HT8 := Lib.hid (HT8.out.on hbu6)
  have HQ8 := Lib.hid (HQ8.out.on hbu6)
  have HT18 := Lib.hid (HT18.out.on hbu6)
  have HQ18 := Lib.hid (HQ18.out.on hbu6)
  have HQ19 := Lib.hid (HQ19.out.on hbu6)
  have HB := Lib.hid (HB.out.trans (hbu6.mono HB.out.size))
  clear hbu1 hbu2 hbu3 hbu4 hbu5 hbu6 hbv2 hbv3 htu1 htu2 htu3 htu5 HS HC13 HC13a HC18a HC18b HC17a HC13b HC17b
  obtain ⟨x180, x181, x182, x183, x184, _⟩ := HQ18.out
  clear x180 x181 x182 x183 x184
  obtain ⟨x70, x71, x72, x73, x74, _⟩ := HQ7.out
  obtain ⟨x180, x181, x182, x183, x184, _⟩ := HQ18.out
  have hrow := all_new HT7.out nm 25
  have hn15 := below_new u6 (.cells #[.int .i64 f7, .int .i64 n7, .string s7, .slice A7 l7 c7] 25)
  obtain ⟨R15, eR15⟩ : ∃ R, u6.alloc (.cells #[.int .i64 f7, .int .i64 n7, .string s7, .slice A7 l7 c7] 25) = R := ⟨_, rfl⟩
  rw [eR15] at hrow hn15
  have HER15 := Lib.hid eR15
  have HT18 := Lib.hid (HT18.out.on hn15)
  have HROW15 := Lib.hid hrow.all
  have HB := Lib.hid (HB.out.trans (hn15.mono HB.out.size))
  clear eR15 hrow hn15
  go_wp2_with fail
  rw [HER15.out]
  have h9 := equal_any _ _ _ _ _ _ _ R15 (Nat.le_refl _) HT18.out HROW15.out
  rw [eqT_true rfl] at h9
  refine h9.mono ?_
  rintro e y21 ⟨rfl, hb21⟩
  have HB := Lib.hid (HB.out.trans (hb21.mono HB.out.size))
  clear h9 hb21 x70 x71 x72 x73 x74 x180 x181 x182 x183 x184
  go_wp2_with fail
  refine (meta_any n _).mono ?_
  rintro e y22 ⟨t22, rfl, ht22, hb22⟩
  obtain ⟨f22, n22, s22, A22, l22, c22, rfl⟩ := ht22.flat
  have HT22 := Lib.hid ht22.all
  have HB := Lib.hid (HB.out.trans (hb22.mono HB.out.size))
  clear ht22 hb22
  go_wp2_with fail
  have h9 := equal_any _ (fun _ => True) _ _ (.hole n) _ _ y22 (Nat.le_refl _) HT22.out (ty_leaf _ _ (.hole n) rfl none 0 (Nat.zero_le _))
  rw [eqT_true rfl] at h9
  refine h9.mono ?_
  rintro e y23 ⟨rfl, hb23⟩
  have HB := Lib.hid (HB.out.trans (hb23.mono HB.out.size))
  clear h9 hb23
  go_wp2_with fail
  refine (var_any nm _).mono ?_
  rintro e y24 ⟨t24, rfl, ht24, hb24⟩
  obtain ⟨f24, n24, s24, A24, l24, c24, rfl⟩ := ht24.flat
  have HT24 := Lib.hid ht24.all
  have HB := Lib.hid (HB.out.trans (hb24.mono HB.out.size))
  clear ht24 hb24
  go_wp2_with fail
  have h9 := equal_any _ (fun _ => True) _ _ (.var nm) _ _ y24 (Nat.le_refl _) HT24.out (ty_leaf _ _ (.var nm) rfl none 0 (Nat.zero_le _))
  rw [eqT_true rfl] at h9
  refine h9.mono ?_
  rintro e y25 ⟨rfl, hb25⟩
  have HB := Lib.hid (HB.out.trans (hb25.mono HB.out.size))
  clear h9 hb25
  go_wp2_with fail
  refine (lives_any _).mono ?_
  rintro e y26 ⟨rfl, hb26⟩
  have HB := Lib.hid (HB.out.trans (hb26.mono HB.out.size))
  clear hb26
  go_wp2
  go_ret
  exact ⟨rfl, HB.out⟩
theorem typesMakes_law (a : Option Addr) (len cap : Nat) (b : Option Addr) (len2 cap2 : Nat) (n : Int) (w : World) (h1 : SomeInts w (.slice a len cap)) (h2 : SomeInts w (.slice b len2 cap2)) (hn1 : -9223372036854775808 ≤ n) (hn2 : n ≤ 9223372036854775807) : Calls Tryd.prog 3 #[.slice a len cap, .slice b len2 cap2, .int .i64 n] w (TrueB w) := by
  obtain ⟨zs, h1⟩ := h1
  obtain ⟨ys, h2⟩ := h2
  exact typesMakes_walk _ _ _ _ zs ys n w h1 h2 hn1 hn2
end Go.Proofs.YtlloicehhjlekaaDoor
