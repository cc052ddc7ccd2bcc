/- The contract of the law's terms: two terms made of numbers. Condition: the slice reads as numbers. -/
import Derived.Test.YtomhojpoaicioaaKindS
namespace Go.Proofs.Ytomhojpoaicioaa
open Go.RowKit Tm

def oneZ (zs : List Int) : Tm := (termZ 3 (zs.take 14)).1
def twoZ (zs : List Int) : Tm := (termZ 3 (termZ 3 (zs.take 14)).2).1
def TermsRes (w : World) (zs : List Int) (e : Ending) (w' : World) : Prop := ∃ u v, e = .returned (.tuple #[u, v]) ∧ TAt (fun b => w.heap.size ≤ b) w' (oneZ zs) u ∧ TAt (fun b => w.heap.size ≤ b) w' (twoZ zs) v ∧ Below w.heap.size w w'
set_option maxRecDepth 100000 in
set_option maxHeartbeats 2000000 in
theorem terms_any (P : Nat → Prop) (v : Value) (zs : List Int) (w : World) (h : IntsAt P w v zs) : Calls Try.prog 25 #[v] w (TermsRes w zs) := by
  have hb0 : Below w.heap.size w ((w.alloc (.cells #[.int .i64 0, .int .i64 0, .slice none 0 0] 54)).alloc (.cells #[.int .i64 0, .int .i64 0, .slice none 0 0] 54)) := (below_new w _).trans ((below_new _ _).mono (by simp))
  obtain ⟨W, eW, bW, zW, k4, k5⟩ := two_boxes w (.int .i64 0) (.int .i64 0) (.slice none 0 0) (.int .i64 0) (.int .i64 0) (.slice none 0 0) 54
  have HC := Lib.hid (ints_any P v zs 14 W (h.on bW) (by omega) (by omega))
  have HRES : Hid (∀ e w', (∃ u v, e = .returned (.tuple #[u, v]) ∧ TAt (fun b => w.heap.size ≤ b) w' (termZ 3 (zs.take 14)).1 u ∧ TAt (fun b => w.heap.size ≤ b) w' (termZ 3 (termZ 3 (zs.take 14)).2).1 v ∧ Below w.heap.size w w') → TermsRes w zs e w') := fun _ _ h => h
  generalize zs.take 14 = ys at *
  obtain ⟨A, c, rfl, _⟩ := h
  have HW := Lib.hid eW
  have HBW := Lib.hid bW
  have HK4 := Lib.hid k4
  have HK5 := Lib.hid k5
  have HZW := Lib.hid zW
  clear eW bW k4 k5 zW hb0
  go_enter Try.func25, Try.ntmps25
  go_upto_region 1 with (fail)
  rw [← HW.out]
  go_wp2_with fail
  refine HC.out.mono ?_
  rintro e w1 ⟨v1, rfl, hi1, hb1⟩
  have hin : IntsAt (fun b => b < w1.heap.size) w1 v1 ys := by
    obtain ⟨A, c, rfl, hc, hcm, hbd, hr⟩ := hi1
    refine ⟨A, c, rfl, hc, hcm, hbd, ?_⟩
    rcases hr with h9 | ⟨b, off, e, _, hlt, hcell⟩
    · exact .inl h9
    · exact .inr ⟨b, off, e, hlt, hlt, hcell⟩
  have HC2 := Lib.hid (term_any 3 0 ys v1 _ w1 rfl hin (fun b h => h))
  generalize termZ 3 ys = r1 at *
  obtain ⟨A1, c1, rfl, _⟩ := hi1
  have HB1 := Lib.hid (HBW.out.trans (hb1.mono HBW.out.size))
  have HB1' := Lib.hid hb1
  clear hin hb1
  go_wp2_with fail
  refine HC2.out.mono ?_
  rintro e w2 ⟨u2, v2, rfl, ht2, hi2, hb2⟩
  obtain ⟨A2, c2, rfl⟩ := ht2.form
  have HT2 := Lib.hid ht2
  have HI2 := Lib.hid hi2
  have HB2 := Lib.hid hb2
  obtain ⟨A3, c3, rfl, _⟩ := hi2
  clear ht2 hb2
  go_wp2_with fail
  have hb3 := below_new w2 (.cells #[.int .i64 (formT r1.1), .int .i64 (numT r1.1), .slice A2 (argsT r1.1) c2] 54)
  have hk6 := (MapKept.heap_alloc w2 (.cells #[.int .i64 (formT r1.1), .int .i64 (numT r1.1), .slice A2 (argsT r1.1) c2] 54)).1
  have hz3 : (w2.alloc (.cells #[.int .i64 (formT r1.1), .int .i64 (numT r1.1), .slice A2 (argsT r1.1) c2] 54)).heap.size = w2.heap.size + 1 := by simp
  have hi3 : IntsAt (fun b => b < (w2.alloc (.cells #[.int .i64 (formT r1.1), .int .i64 (numT r1.1), .slice A2 (argsT r1.1) c2] 54)).heap.size) (w2.alloc (.cells #[.int .i64 (formT r1.1), .int .i64 (numT r1.1), .slice A2 (argsT r1.1) c2] 54)) (.slice A3 r1.2.length c3) r1.2 := (HI2.out.on hb3).mono (fun b (hb : b < w1.heap.size) => by have := HB2.out.size; rw [hz3]; omega)
  generalize w2.alloc (.cells #[.int .i64 (formT r1.1), .int .i64 (numT r1.1), .slice A2 (argsT r1.1) c2] 54) = Y at *
  have HC3 := Lib.hid (term_any 3 0 r1.2 (.slice A3 r1.2.length c3) _ Y rfl hi3 (fun b h => h))
  have HB3 := Lib.hid hb3
  have HK6 := Lib.hid hk6
  have HZ3 := Lib.hid hz3
  generalize termZ 3 r1.2 = r2 at *
  clear hi3 hb3 hk6 hz3
  refine HC3.out.mono ?_
  rintro e w4 ⟨u4, v4, rfl, ht4, hi4, hb4⟩
  obtain ⟨A4, c4, rfl⟩ := ht4.form
  obtain ⟨A5, c5, rfl, _⟩ := hi4
  have h24 : Below w2.heap.size w2 w4 := HB3.out.trans (hb4.mono HB3.out.size)
  have h14 : Below w1.heap.size w1 w4 := HB2.out.trans (h24.mono HB2.out.size)
  have hW4 : Below W.heap.size W w4 := HB1'.out.trans (h14.mono HB1'.out.size)
  have hzw := HZW.out
  have hz1 := HB1'.out.size
  have hz2 := HB2.out.size
  have hz3 := HB3.out.size
  have hz3' := HZ3.out
  have hz4 := hb4.size
  have q4 := (hb4.block w2.heap.size (by omega)).trans HK6.out
  have g4 := (hW4.block w.heap.size (by omega)).trans HK4.out
  have g5 := (hW4.block (w.heap.size + 1) (by omega)).trans HK5.out
  have HT24 := Lib.hid (HT2.out.on h24)
  have HT4 := Lib.hid ht4
  have HB4 := Lib.hid (HBW.out.trans (hW4.mono HBW.out.size))
  have hx1 : w2.heap.size < w4.heap.size := by omega
  have hx2 : w.heap.size < w4.heap.size := by omega
  have hx3 : w.heap.size + 1 < w4.heap.size := by omega
  have hn1 : w.heap.size + 2 ≤ w1.heap.size := by omega
  have hn2 : w.heap.size + 2 ≤ w2.heap.size := by omega
  have hn3 : w.heap.size + 2 ≤ Y.heap.size := by omega
  have HN1 := Lib.hid hn1
  have HN2 := Lib.hid hn2
  have HN3 := Lib.hid hn3
  have s0 : w4.cell? ⟨w2.heap.size, 0, none⟩ = some (.int .i64 (formT r1.1)) := by simp [World.cell?, q4]
  have s1 : w4.cell? ⟨w2.heap.size, 1, none⟩ = some (.int .i64 (numT r1.1)) := by simp [World.cell?, q4]
  have s2 : w4.cell? ⟨w2.heap.size, 2, none⟩ = some (.slice A2 (argsT r1.1) c2) := by simp [World.cell?, q4]
  have t0 : w4.cell? ⟨w.heap.size, 0, none⟩ = some (.int .i64 0) := by simp [World.cell?, g4]
  have t1 : w4.cell? ⟨w.heap.size, 1, none⟩ = some (.int .i64 0) := by simp [World.cell?, g4]
  have t2 : w4.cell? ⟨w.heap.size, 2, none⟩ = some (.slice none 0 0) := by simp [World.cell?, g4]
  have t3 : w4.cell? ⟨w.heap.size + 1, 0, none⟩ = some (.int .i64 0) := by simp [World.cell?, g5]
  have t4 : w4.cell? ⟨w.heap.size + 1, 1, none⟩ = some (.int .i64 0) := by simp [World.cell?, g5]
  have t5 : w4.cell? ⟨w.heap.size + 1, 2, none⟩ = some (.slice none 0 0) := by simp [World.cell?, g5]
  have f0 : w4.frozen? ⟨w.heap.size, 0, none⟩ = false := by simp [World.frozen?, g4]
  have f1 : w4.frozen? ⟨w.heap.size, 1, none⟩ = false := by simp [World.frozen?, g4]
  have f2 : w4.frozen? ⟨w.heap.size, 2, none⟩ = false := by simp [World.frozen?, g4]
  have f3 : w4.frozen? ⟨w.heap.size + 1, 0, none⟩ = false := by simp [World.frozen?, g5]
  have f4 : w4.frozen? ⟨w.heap.size + 1, 1, none⟩ = false := by simp [World.frozen?, g5]
  have f5 : w4.frozen? ⟨w.heap.size + 1, 2, none⟩ = false := by simp [World.frozen?, g5]
  have hne1 : w2.heap.size ≠ w.heap.size := by omega
  have hne2 : w2.heap.size ≠ w.heap.size + 1 := by omega
  have hne3 : w4.heap.size ≠ w.heap.size := by omega
  have hne4 : w4.heap.size ≠ w.heap.size + 1 := by omega
  clear ht4 hb4 h24 h14 hW4 hzw hz1 hz2 hz3 hz3' hz4 q4 g4 g5 hn1 hn2 hn3
  go_wp2_with fail
  go_region
  all_goals
    have HEND : Hid (TermsRes w zs (.returned (.tuple #[.agg #[.int .i64 (formT r1.1), .int .i64 (numT r1.1), .slice A2 (argsT r1.1) c2], .agg #[.int .i64 (formT r2.1), .int .i64 (numT r2.1), .slice A4 (argsT r2.1) c4]])) ((put3 (put3 w4 w.heap.size (.int .i64 (formT r1.1)) (.int .i64 (numT r1.1)) (.slice A2 (argsT r1.1) c2)) (w.heap.size + 1) (.int .i64 (formT r2.1)) (.int .i64 (numT r2.1)) (.slice A4 (argsT r2.1) c4)).alloc (.cells #[.int .i64 (formT r2.1), .int .i64 (numT r2.1), .slice A4 (argsT r2.1) c4] 54)).drew) := by
      have hS := put3_below (u := .int .i64 (formT r2.1)) (v := .int .i64 (numT r2.1)) (z := .slice A4 (argsT r2.1) c4) (put3_below (u := .int .i64 (formT r1.1)) (v := .int .i64 (numT r1.1)) (z := .slice A2 (argsT r1.1) c2) HB4.out (Nat.le_refl _)) (Nat.le_succ _)
      have h1 := ((HT24.out.keep (put3_keeps (g := w.heap.size) (u := .int .i64 (formT r1.1)) (v := .int .i64 (numT r1.1)) (z := .slice A2 (argsT r1.1) c2) (fun h => by have h9 : w1.heap.size ≤ w.heap.size := h; have := HN1.out; omega))).keep (put3_keeps (g := w.heap.size + 1) (u := .int .i64 (formT r2.1)) (v := .int .i64 (numT r2.1)) (z := .slice A4 (argsT r2.1) c4) (fun h => by have h9 : w1.heap.size ≤ w.heap.size + 1 := h; have := HN1.out; omega))).mono (fun b (hb : w1.heap.size ≤ b) => (by have := HN1.out; omega : w.heap.size ≤ b))
      have h2 := ((HT4.out.keep (put3_keeps (g := w.heap.size) (u := .int .i64 (formT r1.1)) (v := .int .i64 (numT r1.1)) (z := .slice A2 (argsT r1.1) c2) (fun h => by have h9 : Y.heap.size ≤ w.heap.size := h; have := HN3.out; omega))).keep (put3_keeps (g := w.heap.size + 1) (u := .int .i64 (formT r2.1)) (v := .int .i64 (numT r2.1)) (z := .slice A4 (argsT r2.1) c4) (fun h => by have h9 : Y.heap.size ≤ w.heap.size + 1 := h; have := HN3.out; omega))).mono (fun b (hb : Y.heap.size ≤ b) => (by have := HN3.out; omega : w.heap.size ≤ b))
      generalize put3 (put3 w4 w.heap.size (.int .i64 (formT r1.1)) (.int .i64 (numT r1.1)) (.slice A2 (argsT r1.1) c2)) (w.heap.size + 1) (.int .i64 (formT r2.1)) (.int .i64 (numT r2.1)) (.slice A4 (argsT r2.1) c4) = S at *
      have hb6 := (below_new S (.cells #[.int .i64 (formT r2.1), .int .i64 (numT r2.1), .slice A4 (argsT r2.1) c4] 54)).drew
      exact HRES.out _ _ ⟨_, _, rfl, h1.on hb6, h2.on hb6, hS.trans (hb6.mono hS.size)⟩
    generalize formT r1.1 = F1 at *
    generalize numT r1.1 = G1 at *
    generalize argsT r1.1 = M1 at *
    generalize formT r2.1 = F2 at *
    generalize numT r2.1 = G2 at *
    generalize argsT r2.1 = M2 at *
    go_wp2
    exact bodyPost_ret (v := .tuple #[.agg #[.int .i64 F1, .int .i64 G1, .slice A2 M1 c2], .agg #[.int .i64 F2, .int .i64 G2, .slice A4 M2 c4]]) (by simp [results, Try.results25, go_sem, t0, t1, t2, t3, t4, t5, hx2, hx3]) rfl HEND.out
end Go.Proofs.Ytomhojpoaicioaa
