/- KindsPrints (chapter 3): the law's walk. Condition: the slice reads as numbers. -/
import Derived.Test.YtomhojpoaicioaaLives
import Derived.Test.YtomhojpoaicioaaOpen
namespace Go.Proofs.Ytomhojpoaicioaa
open Go.RowKit

/-- How great a kind made of numbers is, and its print. -/
theorem madeK_sz : ∀ (f : Nat) (l : List Int), K.sz (madeK f l).1 ≤ 3 ^ f
  | 0, l => by show K.sz (.mk []) ≤ 1; rw [K.sz_mk]; simp
  | f + 1, [] => by show K.sz (.mk []) ≤ _; rw [K.sz_mk]; exact Nat.one_le_pow _ _ (by omega)
  | f + 1, z :: l => by
    show K.sz (.mk (manyK (madeK f) (howMany z) l).1) ≤ _
    rw [K.sz_mk]
    have key : ∀ n l, ((manyK (madeK f) n l).1.map K.sz).sum ≤ n * 3 ^ f := by
      intro n
      induction n with
      | zero => intro l; simp [manyK]
      | succ n ih =>
        intro l
        simp only [manyK, List.map_append, List.sum_append, List.map_cons, List.map_nil, List.sum_cons, List.sum_nil]
        have h1 := ih l
        have h2 := madeK_sz f (manyK (madeK f) n l).2
        rw [Nat.succ_mul]; omega
    have h1 := key (howMany z) l
    have h2 : howMany z * 3 ^ f ≤ 2 * 3 ^ f := Nat.mul_le_mul_right _ (howMany_le z)
    have h3 : 1 ≤ 3 ^ f := Nat.one_le_pow _ _ (by omega)
    rw [Nat.pow_succ]; omega
theorem kindZ_sz (zs : List Int) : K.sz (kindZ zs) ≤ 81 := madeK_sz 4 _
theorem print_le (k : K) : (printK k).length + 6 ≤ 7 * K.sz k := by
  refine K.induct (P := fun k => (printK k).length + 6 ≤ 7 * K.sz k) ?_ ?_ k
  · rw [printK_nil, K.sz_mk]; simp
  · intro k l hk hl
    rw [printK_cons, K.sz_mk]
    rw [K.sz_mk] at hl
    have := (itemK_len k).2
    simp only [List.map_cons, List.sum_cons, List.length_append] at *
    omega
theorem kindZ_print (zs : List Int) : (printK (kindZ zs)).length ≤ 561 := by have := print_le (kindZ zs); have := kindZ_sz zs; omega
set_option maxRecDepth 100000 in
set_option maxHeartbeats 1000000 in
theorem kindsPrints_walk (P : Nat → Prop) (v : Value) (zs : List Int) (w : World) (h : IntsAt P w v zs) : Calls Try.prog 3 #[v] w (TrueB w) := by
  have hc := kind_any P v zs w h
  have HS := Lib.hid (kindZ_sz zs)
  have HP := Lib.hid (kindZ_print zs)
  obtain ⟨A, c, rfl, _⟩ := h
  generalize kindZ zs = k at *
  have HC := Lib.hid hc
  clear hc
  go_enter Try.func3, Try.ntmps3
  go_wp2_with fail
  refine HC.out.mono ?_
  rintro e w1 ⟨kv, rfl, hk1, hb1⟩
  obtain ⟨Ak, nk, ck, rfl⟩ := kform hk1
  have hb2 := below_new w1 (.cells #[.slice Ak nk ck] 25)
  have hx2 : (w1.alloc (.cells #[.slice Ak nk ck] 25)).cell? ⟨w1.heap.size, 0, none⟩ = some (.slice Ak nk ck) := by simp [go_sem]
  have hz2 : (w1.alloc (.cells #[.slice Ak nk ck] 25)).heap.size = w1.heap.size + 1 := by simp
  have HX2 := Lib.hid hx2
  have HZ2 := Lib.hid hz2
  have HK1 := Lib.hid hk1
  have HB1 := Lib.hid hb1
  have HB2 := Lib.hid hb2
  clear hx2 hz2 hk1 hb1 hb2
  go_wp2_with fail
  generalize w1.alloc (.cells #[.slice Ak nk ck] 25) = w2 at *
  refine (print_any _ k _ w2 (HK1.out.on HB2.out) (by have := HP.out; omega)).mono ?_
  rintro e w3 ⟨rfl, hb3⟩
  have hz12 := HB2.out.size
  have hz2 := HZ2.out
  have hz3 := hb3.size
  have y3 := (hb3.cell (p := ⟨w1.heap.size, 0, none⟩) (show w1.heap.size < w2.heap.size by omega)).trans HX2.out
  have HK3 := Lib.hid ((HK1.out.on HB2.out).on hb3)
  have HB3 := Lib.hid ((HB1.out.trans (HB2.out.mono HB1.out.size)).trans (hb3.mono (by have := HB1.out.size; omega)))
  have hr := read_any (printK k) w3 (by have := HP.out; omega)
  rw [readS_print] at hr
  have HR := Lib.hid hr
  clear hb3 hr
  go_wp2_with fail
  refine HR.out.mono ?_
  rintro e w4 ⟨hb4, h4⟩
  obtain ⟨k2, v2, hk2, rfl, hkv2⟩ : ∃ k' v', some k = some k' ∧ e = .returned (.tuple #[.agg #[v'], .int .i64 0]) ∧ KAt (fun b => w3.heap.size ≤ b) w4 k' v' := by
    rcases h4 with h4 | ⟨h4, _⟩
    · exact h4
    · cases h4
  injection hk2 with hk2
  subst hk2
  obtain ⟨A2, n2, c2, rfl⟩ := kform hkv2
  have hb5 := below_new w4 (.cells #[.slice A2 n2 c2] 25)
  have hx5 : (w4.alloc (.cells #[.slice A2 n2 c2] 25)).cell? ⟨w4.heap.size, 0, none⟩ = some (.slice A2 n2 c2) := by simp [go_sem]
  have hz5 : (w4.alloc (.cells #[.slice A2 n2 c2] 25)).heap.size = w4.heap.size + 1 := by simp
  have hz4 := hb4.size
  have y5 := (hb5.cell (p := ⟨w1.heap.size, 0, none⟩) (show w1.heap.size < w4.heap.size by omega)).trans ((hb4.cell (p := ⟨w1.heap.size, 0, none⟩) (show w1.heap.size < w3.heap.size by omega)).trans y3)
  have HB5 := Lib.hid ((HB3.out.trans (hb4.mono HB3.out.size)).trans (hb5.mono (by have := HB3.out.size; omega)))
  have HK5 := Lib.hid ((HK3.out.on hb4).on hb5)
  have HV5 := Lib.hid (hkv2.on hb5)
  have HX5 := Lib.hid hx5
  have HY5 := Lib.hid y5
  have HZ5 := Lib.hid hz5
  have y4 := (hb4.cell (p := ⟨w1.heap.size, 0, none⟩) (show w1.heap.size < w3.heap.size by omega)).trans y3
  have z4 : w1.heap.size < w4.heap.size := by omega
  clear hb4 h4 hkv2 hb5 hx5 y3 y5 hz5
  go_wp2_with fail
  generalize w4.alloc (.cells #[.slice A2 n2 c2] 25) = w5 at *
  refine (refprint_any _ _ k _ w5 (Nat.le_refl _) HK5.out (by have := HP.out; omega)).mono ?_
  rintro e w6 ⟨rfl, hb6⟩
  have hz5 := HZ5.out
  have hz6 := hb6.size
  have y6 := (hb6.cell (p := ⟨w1.heap.size, 0, none⟩) (show w1.heap.size < w5.heap.size by omega)).trans HY5.out
  have x6 := (hb6.cell (p := ⟨w4.heap.size, 0, none⟩) (show w4.heap.size < w5.heap.size by omega)).trans HX5.out
  have HK6 := Lib.hid (HK5.out.on hb6)
  have HV6 := Lib.hid (HV5.out.on hb6)
  have HB6 := Lib.hid (HB5.out.trans (hb6.mono HB5.out.size))
  clear hb6 y4
  generalize (⟨(printK k).toArray⟩ : ByteArray) = pk at *
  go_wp2_with fail
  refine (refsame_any _ _ _ k k _ _ w6 (Nat.le_refl _) HV6.out HK6.out).mono ?_
  rintro e w7 ⟨rfl, hb7⟩
  rw [eqK_true rfl]
  have HB7 := Lib.hid (HB6.out.trans (hb7.mono HB6.out.size))
  clear hb7
  go_wp2_with fail
  refine (lives_any w7).mono ?_
  rintro e w8 ⟨rfl, hb8⟩
  have HB8 := Lib.hid (HB7.out.trans (hb8.mono HB7.out.size))
  clear hb8
  go_wp2
  go_ret
  exact ⟨rfl, HB8.out⟩
theorem kindsPrints_law (a : Option Addr) (len cap : Nat) (w : World) (h : SomeInts w (.slice a len cap)) : Calls Try.prog 3 #[.slice a len cap] w (TrueB w) := by
  obtain ⟨zs, h⟩ := h
  exact kindsPrints_walk _ _ zs w h
end Go.Proofs.Ytomhojpoaicioaa
