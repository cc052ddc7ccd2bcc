/- SccReaches: the walk. Conditions: the slices read as numbers, the numbers are of 64 bits. -/
import Derived.Test.YthmnghngcbkjpaaReB
import Derived.Test.YthmnghngcbkjpaaRowW
namespace Go.Proofs.Ythmnghngcbkjpaa
open Go.RowKit
set_option maxRecDepth 100000 in
set_option maxHeartbeats 4000000 in
theorem sccReaches_law (a0 : Int) (A1 : Option Addr) (l1 c1 : Nat) (a2 a3 : Int) (w : World) (h : SomeMat w (.slice A1 l1 c1)) (h1 : -9223372036854775808 ≤ a0) (h2 : a0 ≤ 9223372036854775807) (h3 : -9223372036854775808 ≤ a2) (h4 : a2 ≤ 9223372036854775807) (h5 : -9223372036854775808 ≤ a3) (h6 : a3 ≤ 9223372036854775807) :
    Calls Try.prog 4 #[.int .i64 a0, .slice A1 l1 c1, .int .i64 a2, .int .i64 a3] w (TrueB w) := by
  obtain ⟨M, hM⟩ := h
  have HFE := Lib.hid (few_any _ _ M w hM)
  have HBD := Lib.hid hM.bnd
  clear hM
  go_enter Try.func4, Try.ntmps4
  go_wp2_with fail
  refine (around_nat a0 11 _ h1 h2 (by omega) (by omega)).mono ?_
  rintro e w0 ⟨⟨k, hk, rfl⟩, rfl⟩
  go_wp2_with fail
  refine HFE.out.mono ?_
  rintro e w1 ⟨v, vs, rfl, hom, hb1⟩
  have hmat := few_mat HBD.out hom
  obtain ⟨ld, hld⟩ := ld_some k (useL (fewL M))
  obtain ⟨Av, cv, rfl, _, _⟩ := hmat.form
  have HMT := Lib.hid hmat
  have HB1 := Lib.hid hb1
  have HLD := Lib.hid hld
  clear hom hb1 hmat hld
  go_wp2_with fail
  refine (around_nat a2 11 _ h3 h4 (by omega) (by omega)).mono ?_
  rintro e w0 ⟨⟨x, hx, rfl⟩, rfl⟩
  go_wp2_with fail
  refine (around_nat a3 11 _ h5 h6 (by omega) (by omega)).mono ?_
  rintro e w0 ⟨⟨y, hy, rfl⟩, rfl⟩
  have HR1 : Hid (∀ w', Below w1.heap.size w1 w' → ∀ a b : Int, -9223372036854775808 ≤ a → a ≤ 9223372036854775807 → Calls Try.prog 15 #[.int .i64 k, .slice Av (fewL M).length cv, .int .i64 a, .int .i64 b] w' (BoolB (reachB k ld a b) w')) :=
    Lib.hid fun w' hb a b ha1 ha2 => reaches_any k _ (fewL M) a b w' ((HMT.out.on hb).mono (fun _ h => Nat.lt_of_lt_of_le h hb.size)) (by omega) (few_small M) ha1 ha2 ld HLD.out
  have HL1 : Hid (∀ w', Below w1.heap.size w1 w' → ∀ a b : Int, Calls Try.prog 16 #[.int .i64 k, .slice Av (fewL M).length cv, .int .i64 a, .int .i64 b] w' (BoolB (reachB k ld a b) w')) :=
    Lib.hid fun w' hb a b => leads_ref k _ (fewL M) a b w' ((HMT.out.on hb).mono (fun _ h => Nat.lt_of_lt_of_le h hb.size)) (by omega) (few_small M) ld HLD.out
  go_wp2_with fail
  refine (HR1.out _ (Below.refl _ _) a2 a3 h3 h4).mono ?_
  rintro e w2 ⟨rfl, hb2⟩
  have HB2 := Lib.hid hb2
  clear hb2
  go_wp2_with fail
  refine (HL1.out _ HB2.out a2 a3).mono ?_
  rintro e w3 ⟨rfl, hb3⟩
  have HB3 := Lib.hid (HB2.out.trans (hb3.mono HB2.out.size))
  have he1 : (reachB k ld a2 a3 == reachB k ld a2 a3) = true := by simp
  generalize reachB k ld a2 a3 = q at *
  clear hb3
  go_wp2_with fail
  refine (HR1.out _ HB3.out (x : Int) (y : Int) (by omega) (by omega)).mono ?_
  rintro e w4 ⟨rfl, hb4⟩
  have HB4 := Lib.hid (HB3.out.trans (hb4.mono HB3.out.size))
  clear hb4
  go_wp2_with fail
  refine (HL1.out _ HB4.out (x : Int) (y : Int)).mono ?_
  rintro e w5 ⟨rfl, hb5⟩
  have HB5 := Lib.hid (HB1.out.trans ((HB4.out.trans (hb5.mono HB4.out.size)).mono HB1.out.size))
  have he2 : (reachB k ld (x : Int) (y : Int) == reachB k ld (x : Int) (y : Int)) = true := by simp
  generalize reachB k ld (x : Int) (y : Int) = q2 at *
  clear hb5
  go_wp2_with fail
  refine (lives_any w5).mono ?_
  rintro e w6 ⟨rfl, hb6⟩
  have HB6 := Lib.hid (HB5.out.trans (hb6.mono HB5.out.size))
  clear hb6
  go_wp2
  go_ret
  exact ⟨rfl, HB6.out⟩
end Go.Proofs.Ythmnghngcbkjpaa
