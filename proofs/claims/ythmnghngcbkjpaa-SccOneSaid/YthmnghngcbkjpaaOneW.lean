/- SccOne: the walk. Conditions: the slices read as numbers, the numbers are of 64 bits. -/
import Derived.Test.YthmnghngcbkjpaaReB
import Derived.Test.YthmnghngcbkjpaaRowW
namespace Go.Proofs.Ythmnghngcbkjpaa
open Go.RowKit
def anyN (l : List Nat) (x : Nat) : Bool := l.any (fun z => z == x)
def bothN (x y : Nat) (l : List Nat) : Bool := anyN l x && anyN l y
theorem anyN_iff (l : List Nat) (x : Nat) : anyN l x = true ↔ x ∈ l := by simp [anyN]
theorem anyN_take (l : List Nat) (x j : Nat) (h : j < l.length) : anyN (l.take (j + 1)) x = (anyN (l.take j) x || l[j] == x) := by
  rw [List.take_succ_eq_append_getElem h, anyN, List.any_append]; simp [anyN]
theorem any_take (r : List (List Nat)) (p : List Nat → Bool) (i : Nat) (h : i < r.length) : (r.take (i + 1)).any p = ((r.take i).any p || p r[i]) := by
  rw [List.take_succ_eq_append_getElem h, List.any_append]; simp
theorem both_mut {n : Nat} {L : Nat → List Int} {r : List (List Nat)} {ld : Nat → Nat → Bool} (h : RowOk n L r) (hld : LdIs n L ld) {x y : Nat} (hx : x < n) (hy : y < n) : r.any (bothN x y) = (ld x y && ld y x) := by
  rw [Bool.eq_iff_iff, List.any_eq_true, Bool.and_eq_true, hld x y hx hy, hld y x hy hx]
  constructor
  · rintro ⟨g, hg, hb⟩
    simp only [bothN, Bool.and_eq_true, anyN_iff] at hb
    exact (h.both g hg x hb.1 y hy).1 hb.2
  · intro hm
    obtain ⟨g, hg, hxg⟩ := List.mem_flatten.1 ((h.mem x).2 hx)
    refine ⟨g, hg, ?_⟩
    simp only [bothN, Bool.and_eq_true, anyN_iff]
    exact ⟨hxg, (h.both g hg x hxg y hy).2 hm⟩
set_option maxRecDepth 100000 in
set_option maxHeartbeats 8000000 in
theorem sccOne_law (a0 : Int) (A1 : Option Addr) (l1 c1 : Nat) (a2 a3 : Int) (w : World) (h : SomeMat w (.slice A1 l1 c1)) (h1 : -9223372036854775808 ≤ a0) (h2 : a0 ≤ 9223372036854775807) (h3 : -9223372036854775808 ≤ a2) (h4 : a2 ≤ 9223372036854775807) (h5 : -9223372036854775808 ≤ a3) (h6 : a3 ≤ 9223372036854775807) :
    Calls Try.prog 6 #[.int .i64 a0, .slice A1 l1 c1, .int .i64 a2, .int .i64 a3] w (TrueB w) := by
  obtain ⟨M, hM⟩ := h
  have HFE := Lib.hid (few_any _ _ M w hM)
  have HBD := Lib.hid hM.bnd
  clear hM
  go_enter Try.func6, Try.ntmps6
  go_wp2_with fail
  refine (around_nat a0 10 _ h1 h2 (by omega) (by omega)).mono ?_
  rintro e w0 ⟨⟨k0, hk0, rfl⟩, rfl⟩
  obtain ⟨k, hkk⟩ : ∃ k : Nat, k = k0 + 1 := ⟨_, rfl⟩
  have hk : k ≤ 10 := by omega
  have hk1 : 1 ≤ k := by omega
  have hke : (1 : Int) + (k0 : Int) = (k : Int) := by omega
  clear hkk
  go_wp2_with fail
  refine HFE.out.mono ?_
  rintro e w1 ⟨v, vs, rfl, hom, hb1⟩
  have hmat := few_mat HBD.out hom
  obtain ⟨ld, hld⟩ := ld_some k (useL (fewL M))
  obtain ⟨Av, cv, rfl, _, _⟩ := hmat.form
  have HG := Lib.hid (groups_any k _ (fewL M) ld w1 hmat (by omega) (few_small M) hld)
  have HMT := Lib.hid hmat
  have HB1 := Lib.hid hb1
  have HLD := Lib.hid hld
  clear hom hb1 hmat hld hke
  go_wp2_with fail
  refine (around_nat a2 k _ h3 h4 (by omega) (by omega)).mono ?_
  rintro e w0 ⟨⟨x, hx, rfl⟩, rfl⟩
  go_wp2_with fail
  refine (around_nat a3 k _ h5 h6 (by omega) (by omega)).mono ?_
  rintro e w0 ⟨⟨y, hy, rfl⟩, rfl⟩
  go_wp2_with fail
  refine HG.out.mono ?_
  rintro e w2 ⟨gv, r, rfl, hgm, hrow, hb2⟩
  have hok := hrow.ok HLD.out
  obtain ⟨Ag, cg, eg, hg1, hg2⟩ := hgm.form
  rw [toI_length] at eg hg1
  subst eg
  have hrl : r.length ≤ 9223372036854775807 := by unfold maxLen at hg2; omega
  have HR1 : Hid (∀ w', Below w2.heap.size w2 w' → ∀ a b : Int, -9223372036854775808 ≤ a → a ≤ 9223372036854775807 → Calls Try.prog 15 #[.int .i64 k, .slice Av (fewL M).length cv, .int .i64 a, .int .i64 b] w' (BoolB (reachB k ld a b) w')) :=
    Lib.hid fun w' hb a b ha1 ha2 => reaches_any k _ (fewL M) a b w' (((HMT.out.on hb2).on (hb.mono (Nat.le_refl _))).mono (fun _ h => Nat.lt_of_lt_of_le h (Nat.le_trans hb2.size hb.size))) (by omega) (few_small M) ha1 ha2 ld HLD.out
  have HB2 := Lib.hid (HB1.out.trans (hb2.mono HB1.out.size))
  have HBM := Lib.hid (both_mut hok HLD.out hx hy)
  have HGM := Lib.hid hgm
  clear hrow hb2 hgm hok hg1 hg2
  go_wp2_with fail
  go_loopw [14, 15] (fun bv v wx => ∃ i : Nat, v = .int .i64 i ∧ i ≤ r.length ∧ bv = .bool ((r.take i).any (bothN x y)) ∧ wx = w2) (fun _ v _ => r.length - (intOf v).toNat)
  case atStart => exact ⟨0, rfl, Nat.zero_le _, rfl, rfl⟩
  case round =>
    obtain ⟨i, rfl, hi, rfl, hwx⟩ := hrel
    subst hwx
    by_cases hlt : i < r.length
    · have hii : (i : Int) < (r.length : Int) := by omega
      have hiI : i < (toI r).length := by rw [toI_length]; exact hlt
      obtain ⟨bg, og, Ai, ci, rfl, hbg, hcg, hig⟩ := HGM.out.at i hiI
      have egi : (toI r)[i] = r[i].map (fun x : Nat => (x : Int)) := toI_get r i hlt
      rw [egi] at hcg hig
      rw [List.length_map] at hcg hig
      obtain ⟨hx1, _, hx2, hx3⟩ := hig.at
      have HAT := Lib.hid (any_take r (bothN x y) i hlt)
      have hgl : (r[i].length : Int) ≤ 9223372036854775807 := by unfold maxLen at hx2; omega
      generalize r[i] = g at *
      generalize (r.take i).any (bothN x y) = b0 at *
      have HX3 := Lib.hid hx3
      clear hig hx3 egi hx1
      go_wp2_with fail
      go_loopw [16, 17, 18] (fun b1 b2 v wx => ∃ j : Nat, v = .int .i64 j ∧ j ≤ g.length ∧ b1 = .bool (anyN (g.take j) x) ∧ b2 = .bool (anyN (g.take j) y) ∧ wx = wr) (fun _ _ v _ => g.length - (intOf v).toNat)
      case atStart => exact ⟨0, rfl, Nat.zero_le _, rfl, rfl, rfl⟩
      case round =>
        obtain ⟨j, rfl, hj, rfl, rfl, hwx⟩ := hrel
        subst hwx
        by_cases hjl : j < g.length
        · have hji : (j : Int) < (g.length : Int) := by omega
          obtain ⟨bx, ox, rfl, _, hbx, hcx⟩ := HX3.out (by omega)
          have hcx2 := hcx j (by rw [List.length_map]; exact hjl)
          rw [List.getElem_map] at hcx2
          clear hcx
          have HS1 := Lib.hid (anyN_take g x j hjl)
          have HS2 := Lib.hid (anyN_take g y j hjl)
          have hq1 : ((g[j] : Int) == (x : Int)) = (g[j] == x) := by rw [Bool.eq_iff_iff]; simp; omega
          have hq2 : ((g[j] : Int) == (y : Int)) = (g[j] == y) := by rw [Bool.eq_iff_iff]; simp; omega
          generalize anyN (g.take j) x = p1 at *
          generalize anyN (g.take j) y = p2 at *
          generalize g[j] = z at *
          generalize (z == x) = q1 at *
          generalize (z == y) = q2 at *
          cases p1 with
          | true =>
            cases p2 with
            | true =>
              have HREL : Hid (true = anyN (g.take (j + 1)) x ∧ true = anyN (g.take (j + 1)) y) := Lib.hid ⟨by rw [HS1.out]; rfl, by rw [HS2.out]; rfl⟩
              go_wp2
              go_roundw
              case rel => exact ⟨j + 1, by go_num, by omega, by rw [← HREL.out.1], by rw [← HREL.out.2], by trivial⟩
              case measure => simp [intOf]; omega
            | false =>
              have HREL : Hid (true = anyN (g.take (j + 1)) x ∧ q2 = anyN (g.take (j + 1)) y) := Lib.hid ⟨by rw [HS1.out]; rfl, by rw [HS2.out]; simp⟩
              go_wp2
              go_roundw
              case rel => exact ⟨j + 1, by go_num, by omega, by rw [← HREL.out.1], by rw [← HREL.out.2], by trivial⟩
              case measure => simp [intOf]; omega
          | false =>
            cases p2 with
            | true =>
              have HREL : Hid (q1 = anyN (g.take (j + 1)) x ∧ true = anyN (g.take (j + 1)) y) := Lib.hid ⟨by rw [HS1.out]; simp, by rw [HS2.out]; rfl⟩
              go_wp2
              go_roundw
              case rel => exact ⟨j + 1, by go_num, by omega, by rw [← HREL.out.1], by rw [← HREL.out.2], by trivial⟩
              case measure => simp [intOf]; omega
            | false =>
              have HREL : Hid (q1 = anyN (g.take (j + 1)) x ∧ q2 = anyN (g.take (j + 1)) y) := Lib.hid ⟨by rw [HS1.out]; simp, by rw [HS2.out]; simp⟩
              go_wp2
              go_roundw
              case rel => exact ⟨j + 1, by go_num, by omega, by rw [← HREL.out.1], by rw [← HREL.out.2], by trivial⟩
              case measure => simp [intOf]; omega
        · have ej : j = g.length := by omega
          subst ej
          have hji : ¬ (g.length : Int) < (g.length : Int) := by omega
          have HBN : Hid (bothN x y g = (anyN (g.take g.length) x && anyN (g.take g.length) y)) := Lib.hid (by rw [List.take_length]; rfl)
          generalize anyN (g.take g.length) x = p1 at *
          generalize anyN (g.take g.length) y = p2 at *
          cases b0 with
          | true =>
            have HREL : Hid (true = (r.take (i + 1)).any (bothN x y)) := Lib.hid (by rw [HAT.out]; rfl)
            go_wp2
            go_roundw
            case rel => exact ⟨i + 1, by go_num, by omega, by rw [← HREL.out], by trivial⟩
            case measure => simp [intOf]; omega
          | false =>
            cases p1 with
            | false =>
              have HREL : Hid (false = (r.take (i + 1)).any (bothN x y)) := Lib.hid (by rw [HAT.out, HBN.out]; rfl)
              go_wp2
              go_roundw
              case rel => exact ⟨i + 1, by go_num, by omega, by rw [← HREL.out], by trivial⟩
              case measure => simp [intOf]; omega
            | true =>
              have HREL : Hid (p2 = (r.take (i + 1)).any (bothN x y)) := Lib.hid (by rw [HAT.out, HBN.out]; simp)
              go_wp2
              go_roundw
              case rel => exact ⟨i + 1, by go_num, by omega, by rw [← HREL.out], by trivial⟩
              case measure => simp [intOf]; omega
    · have ei : i = r.length := by omega
      subst ei
      have hii : ¬ (r.length : Int) < (r.length : Int) := by omega
      have HBQ : Hid ((r.take r.length).any (bothN x y) = (ld x y && ld y x)) := Lib.hid (by rw [List.take_length]; exact HBM.out)
      have HQ1 : Hid (reachB k ld (x : Int) (y : Int) = ld x y) := Lib.hid (reachB_in k ld hx hy)
      have HQ2 : Hid (reachB k ld (y : Int) (x : Int) = ld y x) := Lib.hid (reachB_in k ld hy hx)
      generalize (r.take r.length).any (bothN x y) = b0 at *
      go_wp2_with fail
      refine (HR1.out _ (Below.refl _ _) (x : Int) (y : Int) (by omega) (by omega)).mono ?_
      rintro e w4 ⟨rfl, hb4⟩
      rw [HQ1.out]
      have HB4 := Lib.hid hb4
      clear hb4
      cases hxy : ld x y with
      | false =>
        have hbe : b0 = false := by rw [HBQ.out, hxy]; rfl
        subst hbe
        clear hxy
        go_wp2_with fail
        refine (lives_any w4).mono ?_
        rintro e w6 ⟨rfl, hb6⟩
        have HB6 := Lib.hid ((HB2.out.trans (HB4.out.mono HB2.out.size)).trans (hb6.mono (Nat.le_trans HB2.out.size HB4.out.size)))
        clear hb6
        go_wp2
        go_ret
        exact ⟨rfl, HB6.out⟩
      | true =>
        have hbe : b0 = ld y x := by rw [HBQ.out, hxy]; rfl
        clear hxy
        go_wp2_with fail
        refine (HR1.out _ HB4.out (y : Int) (x : Int) (by omega) (by omega)).mono ?_
        rintro e w5 ⟨rfl, hb5⟩
        rw [HQ2.out]
        subst hbe
        have hee : (ld y x == ld y x) = true := by simp
        have HB5 := Lib.hid (HB4.out.trans (hb5.mono HB4.out.size))
        generalize ld y x = b9 at *
        clear hb5
        go_wp2_with fail
        refine (lives_any w5).mono ?_
        rintro e w6 ⟨rfl, hb6⟩
        have HB6 := Lib.hid ((HB2.out.trans (HB5.out.mono HB2.out.size)).trans (hb6.mono (Nat.le_trans HB2.out.size HB5.out.size)))
        clear hb6
        go_wp2
        go_ret
        exact ⟨rfl, HB6.out⟩
end Go.Proofs.Ythmnghngcbkjpaa
