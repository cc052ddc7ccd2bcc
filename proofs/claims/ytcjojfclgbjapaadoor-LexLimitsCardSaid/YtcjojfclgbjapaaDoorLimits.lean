/- The walk of the law LexLimits. Condition: the list of symbols stands in memory as the program's text lays it. -/
import Derived.Test.YtcjojfclgbjapaaDoorLimitsM
import Derived.Test.YtcjojfclgbjapaaDoorBlanks
namespace Go.Proofs.YtcjojfclgbjapaaDoor
open Go.RowKit

theorem one_u8_new (w : World) (a : Value) (t : TypeId) : ∀ j u, [a][j]? = some u → (w.alloc (.cells #[a] t)).cell? ((⟨w.heap.size, 0, none⟩ : Addr).add j) = some u := by
  intro j u h
  have hj : j = 0 := by have := (List.getElem?_eq_some_iff.1 h).1; simp at this; omega
  subst hj; simp at h; subst h; simp [Addr.add, go_sem]
theorem TokRow.drewN {w : World} {v : Value} {l : List Tok} (h : TokRow w v l) (m : Nat) : TokRow (w.drewN m) v l := h.below (below_drewN (Below.refl _ _) m)
theorem rep_snoc (n : Nat) (c : UInt8) : List.replicate (n + 1) c = List.replicate n c ++ [c] := List.replicate_succ'
theorem rep_str (n : Nat) (c : UInt8) : (⟨(List.replicate n c).toArray⟩ : ByteArray) ++ ⟨#[c]⟩ = ⟨(List.replicate (n + 1) c).toArray⟩ := by
  rw [rep_snoc]; exact append_mk2 _ [c]

set_option maxRecDepth 100000 in
set_option maxHeartbeats 2000000 in
theorem limits_walk (a0 a1 a2 : Int) (w : World) (h1 : -9223372036854775808 ≤ a0) (h2 : a0 ≤ 9223372036854775807) (h3 : -9223372036854775808 ≤ a1) (h4 : a1 ≤ 9223372036854775807) (h5 : -9223372036854775808 ≤ a2) (h6 : a2 ≤ 9223372036854775807) (hS : SymsIn w) :
    Calls Tryd.prog 7 #[.int .i64 a0, .int .i64 a1, .int .i64 a2] w fun e w' => e = .returned (.bool true) ∧ Below w.heap.size w w' := by
  have HS := Lib.hid hS
  clear hS
  obtain ⟨i0, hi, hz0, hz1, hz2⟩ := info_parts Tryd.info5
  go_enter Tryd.func7, Tryd.ntmps7
  go_wp2_with fail
  refine (around_any a0 _ _ h1 h2 (by omega) (by omega)).mono ?_
  rintro e w' ⟨y, hy, rfl, rfl⟩
  go_wp2_with fail
  obtain ⟨M, hM⟩ : ∃ M : Nat, (M : Int) = 3995 + (y : Int) := ⟨3995 + y, by omega⟩
  rw [← hM]
  have hM1 : 3995 ≤ M := by omega
  have hM2 : M ≤ 4010 := by omega
  clear hM hy
  go_loopw [8, 9] (fun v i wr => ∃ k : Nat, k ≤ M ∧ i = .int .i64 k ∧ wr.ownsRow w.heap.size 5 1 v (List.replicate k (32 : UInt8)).length (bc (List.replicate k 32)) ∧ Below w.heap.size w wr) (fun _ i _ => M - (intOf i).toNat)
  case atStart => exact ⟨0, Nat.zero_le _, rfl, World.ownsRow_nil _ _ _ _, Below.refl _ _⟩
  case round =>
    obtain ⟨k, hk, rfl, hown, hb⟩ := hrel
    have hsz := hb.size
    have HB := Lib.hid hb
    clear hb
    by_cases hlt : k < M
    · have hrl : (List.replicate k (32 : UInt8)).length ≤ 4010 := by simp; omega
      have hki : (k : Int) < (M : Int) := by omega
      go_wp2_with (at_builtin; refine wpList_append_own _ rfl (.tmp 35) (.tmp 36) 48 rfl w.heap.size 5 i0 (.int .u8 0) 1 1 Tryd.underlying48 hi hz0 hz1 hz2 rfl (by decide) _ _ _ rfl (hown.alloc _) ⟨wr.heap.size, 0, none⟩ 1 1 [.int .u8 32] rfl rfl (one_u8_new _ _ _) (by intro u hu; simp at hu; subst hu; rfl) (by unfold maxLen; omega) (by omega) (by simp; omega) ?_; intro v' w2 hown2 hg2 _)
      have HB3 : Below w.heap.size w w2 := (HB.out.alloc hsz _).grown (row := u8.ownBlock) hg2 (by simp; omega) (fun x hx => (hown.lt x hx).1)
      have hown3 : w2.ownsRow w.heap.size 5 1 v' (List.replicate (k + 1) (32 : UInt8)).length (bc (List.replicate (k + 1) 32)) := by
        rw [rep_snoc, List.length_append]
        show w2.ownsRow w.heap.size 5 1 v' _ (bc _)
        unfold bc at hown2 ⊢
        rw [List.map_append]; exact hown2
      clear hown2 hg2
      go_roundw
      case rel => exact ⟨k + 1, by omega, by go_num, hown3, HB3⟩
      case measure => simp [intOf]; omega
    · obtain rfl : k = M := by omega
      have hcv := convert_own hown
      have hkd : decide (k < k) = false := by simp
      have hres := long_res k
      have hA := fun hs => lexP_any ⟨(List.replicate k (32 : UInt8)).toArray⟩ wr hs (HS.out.on HB.out)
      rw [mk_list] at hA
      have hszz : (⟨(List.replicate k (32 : UInt8)).toArray⟩ : ByteArray).size ≤ 1099511627776 := by rw [mk_size]; simp; omega
      have HA := Lib.hid (hA hszz)
      clear hA hszz hown
      generalize resL (lexL (List.replicate k 32)) = l1 at *
      generalize resC (lexL (List.replicate k 32)) = c1 at *
      generalize resP (lexL (List.replicate k 32)) = p1 at *
      generalize (⟨(List.replicate k (32 : UInt8)).toArray⟩ : ByteArray) = S1 at *
      have HRES := Lib.hid hres
      clear hres
      go_wp2_with fail
      refine HA.out.mono ?_
      rintro e x1 ⟨v1, rfl, _, b1⟩
      have HB1 := Lib.hid ((HB.out.trans (b1.mono hsz)).alloc (HB.out.trans (b1.mono hsz)).size (.cells #[.int .i64 c1, .int .i64 p1] 30))
      have HT1 := Lib.hid (twoAt_new x1 c1 p1 30)
      clear b1 hcv HA HB
      go_wp2_with fail
      refine (around_any a1 _ _ h3 h4 (by omega) (by omega)).mono ?_
      rintro e w' ⟨y2, hy2, rfl, rfl⟩
      generalize x1.alloc (.cells #[.int .i64 c1, .int .i64 p1] 30) = x2 at *
      generalize x1.heap.size = B1 at *
      go_wp2_with fail
      obtain ⟨N, hN⟩ : ∃ N : Nat, (N : Int) = 28 + (y2 : Int) := ⟨28 + y2, by omega⟩
      rw [← hN]
      have hN1 : 28 ≤ N := by omega
      have hN2 : N ≤ 40 := by omega
      clear hN hy2
      go_loop [12, 13] (fun s i => ∃ j : Nat, j ≤ N ∧ i = .int .i64 j ∧ s = .string ⟨(List.replicate (N - j) (120 : UInt8)).toArray⟩) (fun _ i => (intOf i).toNat)
      case atStart => exact ⟨N, Nat.le_refl _, rfl, by rw [Nat.sub_self]; rfl⟩
      case round =>
        obtain ⟨j, hj, rfl, rfl⟩ := hrel
        by_cases hj0 : 0 < j
        · have hji : (0 : Int) < (j : Int) := by omega
          have hrs := rep_str (N - j) 120
          have hj1 : N - j + 1 = N - (j - 1) := by omega
          rw [hj1] at hrs
          have hzs : (⟨(List.replicate (N - j) (120 : UInt8)).toArray⟩ : ByteArray).size ≤ 40 := by rw [mk_size]; simp; omega
          have HRS := Lib.hid hrs
          clear hrs hj1
          generalize (⟨(List.replicate (N - j) (120 : UInt8)).toArray⟩ : ByteArray) = S2 at *
          go_wp2
          go_round
          case rel => exact ⟨j - 1, by omega, by go_num, by rw [← HRS.out]⟩
          case measure => simp [intOf]; omega
        · obtain rfl : j = 0 := by omega
          rw [Nat.sub_zero]
          have hnl : N ≤ 32 ↔ ¬ 32 < N := by omega
          have happ : (⟨#[32]⟩ : ByteArray) ++ ⟨(List.replicate N (120 : UInt8)).toArray⟩ = ⟨(32 :: List.replicate N (120 : UInt8)).toArray⟩ := append_mk2 [32] _
          have hsN : (⟨(List.replicate N (120 : UInt8)).toArray⟩ : ByteArray).size = N := by rw [mk_size]; simp
          have hres2 := name_res N (by omega) (by omega)
          have hA := fun hs => lexP_any ⟨(32 :: List.replicate N (120 : UInt8)).toArray⟩ x2 hs (HS.out.on HB1.out)
          rw [mk_list] at hA
          have hszz : (⟨(32 :: List.replicate N (120 : UInt8)).toArray⟩ : ByteArray).size ≤ 1099511627776 := by rw [mk_size]; simp; omega
          have HA := Lib.hid (hA hszz)
          rw [← happ] at HA
          clear hA hszz happ hnl
          generalize resL (lexL (32 :: List.replicate N 120)) = l2 at *
          generalize resC (lexL (32 :: List.replicate N 120)) = c2 at *
          generalize resP (lexL (32 :: List.replicate N 120)) = p2 at *
          generalize (⟨(List.replicate N (120 : UInt8)).toArray⟩ : ByteArray) = S2 at *
          subst hsN
          have HRES2 := Lib.hid hres2
          clear hres2
          go_wp2_with fail
          refine HA.out.mono ?_
          rintro e x3 ⟨v3, rfl, _, b3⟩
          have HB3 := Lib.hid ((HB1.out.trans (b3.mono HB1.out.size)).alloc (HB1.out.trans (b3.mono HB1.out.size)).size (.cells #[.int .i64 c2, .int .i64 p2] 30))
          have HT13 := Lib.hid ((HT1.out.on b3).on (below_new x3 (.cells #[.int .i64 c2, .int .i64 p2] 30)))
          have HT3 := Lib.hid (twoAt_new x3 c2 p2 30)
          clear b3 HA HB1 HT1
          go_wp2_with fail
          refine (around_any a2 _ _ h5 h6 (by omega) (by omega)).mono ?_
          rintro e w' ⟨y3, hy3, rfl, rfl⟩
          generalize x3.alloc (.cells #[.int .i64 c2, .int .i64 p2] 30) = x4 at *
          generalize x3.heap.size = B3 at *
          go_wp2_with fail
          go_loop [16, 17] (fun s i => ∃ (j : Nat) (S : ByteArray), j ≤ y3 ∧ i = .int .i64 j ∧ s = .string S ∧ S.size + j ≤ 20) (fun _ i => (intOf i).toNat)
          case atStart => exact ⟨y3, ⟨#[50, 49, 52, 55, 52, 56, 51]⟩, Nat.le_refl _, rfl, rfl, by show 7 + y3 ≤ 20; omega⟩
          case round =>
            obtain ⟨j, S3, hj, rfl, rfl, hS3⟩ := hrel
            by_cases hj0 : 0 < j
            · have hji : (0 : Int) < (j : Int) := by omega
              have hsum := size_append2 S3 ⟨#[57]⟩
              have HSUM := Lib.hid hsum
              clear hsum
              go_wp2
              go_round
              case rel => exact ⟨j - 1, S3 ++ ⟨#[57]⟩, by omega, by go_num, rfl, by rw [HSUM.out]; show S3.size + 1 + (j - 1) ≤ 20; omega⟩
              case measure => simp [intOf]; omega
            · obtain rfl : j = 0 := by omega
              go_wp2_with fail
              refine (around_any a2 _ _ h5 h6 (by omega) (by omega)).mono ?_
              rintro e w' ⟨y4, hy4, rfl, rfl⟩
              go_wp2_with fail
              rw [show (2147483640 : Int) + (y4 : Int) = ((2147483640 + y4 : Nat) : Int) by omega]
              refine (decimal_short 10 (2147483640 + y4) (by omega) (by omega) _).mono ?_
              rintro e x5 ⟨S4, hS4, rfl, b5⟩
              have HB5 := Lib.hid (HB3.out.trans (b5.mono HB3.out.size))
              have HT15 := Lib.hid (HT13.out.on b5)
              have HT35 := Lib.hid (HT3.out.on b5)
              clear b5 HB3 HT13 HT3
              have hA3 := fun W hW => lexP_any S3 W (by omega) hW
              have hA4 := fun W hW => lexP_any S4 W (by omega) hW
              have hR3 := fun W => reflexP_any S3 W (by omega)
              have hR4 := fun W => reflexP_any S4 W (by omega)
              have hl3 := resL_len S3.data.toList
              have hl4 := resL_len S4.data.toList
              generalize resL (lexL S3.data.toList) = l3 at *
              generalize resC (lexL S3.data.toList) = c3 at *
              generalize resP (lexL S3.data.toList) = p3 at *
              generalize resL (lexL S4.data.toList) = l4 at *
              generalize resC (lexL S4.data.toList) = c4 at *
              generalize resP (lexL S4.data.toList) = p4 at *
              have HA3 := Lib.hid hA3
              have HA4 := Lib.hid hA4
              have HRR3 := Lib.hid hR3
              have HRR4 := Lib.hid hR4
              clear hA3 hA4 hR3 hR4
              go_wp2_with fail
              refine (HA3.out x5 (HS.out.on HB5.out)).mono ?_
              rintro e x6 ⟨v6, rfl, hr6, b6⟩
              have n6 := below_new x6 (.cells #[.int .i64 c3, .int .i64 p3] 30)
              have HB6 := Lib.hid ((HB5.out.trans (b6.mono HB5.out.size)).alloc (HB5.out.trans (b6.mono HB5.out.size)).size (.cells #[.int .i64 c3, .int .i64 p3] 30))
              have HT16 := Lib.hid ((HT15.out.on b6).on n6)
              have HT36 := Lib.hid ((HT35.out.on b6).on n6)
              have HT66 := Lib.hid (twoAt_new x6 c3 p3 30)
              have HR6 := Lib.hid (hr6.below n6)
              clear b6 n6 hr6 HB5 HT15 HT35
              go_wp2_with fail
              generalize x6.alloc (.cells #[.int .i64 c3, .int .i64 p3] 30) = x7 at *
              generalize x6.heap.size = B6 at *
              refine (HA4.out x7 (HS.out.on HB6.out)).mono ?_
              rintro e x8 ⟨v8, rfl, hr8, b8⟩
              have n8 := below_new x8 (.cells #[.int .i64 c4, .int .i64 p4] 30)
              have HB8 := Lib.hid ((HB6.out.trans (b8.mono HB6.out.size)).alloc (HB6.out.trans (b8.mono HB6.out.size)).size (.cells #[.int .i64 c4, .int .i64 p4] 30))
              have HT18 := Lib.hid ((HT16.out.on b8).on n8)
              have HT38 := Lib.hid ((HT36.out.on b8).on n8)
              have HT68 := Lib.hid ((HT66.out.on b8).on n8)
              have HT88 := Lib.hid (twoAt_new x8 c4 p4 30)
              have HR68 := Lib.hid ((HR6.out.below b8).below n8)
              have HR8 := Lib.hid (hr8.below n8)
              clear b8 n8 hr8 HB6 HT16 HT36 HT66 HR6
              go_wp2_with fail
              generalize x8.alloc (.cells #[.int .i64 c4, .int .i64 p4] 30) = x9 at *
              generalize x8.heap.size = B8 at *
              refine (HRR3.out x9).mono ?_
              rintro e y1 ⟨u1, rfl, hr1, b1⟩
              have n1 := below_new y1 (.cells #[.int .i64 c3, .int .i64 p3] 30)
              have HC1 := Lib.hid ((HB8.out.trans (b1.mono HB8.out.size)).alloc (HB8.out.trans (b1.mono HB8.out.size)).size (.cells #[.int .i64 c3, .int .i64 p3] 30))
              have HU1 := Lib.hid ((HT18.out.on b1).on n1)
              have HU3 := Lib.hid ((HT38.out.on b1).on n1)
              have HU6 := Lib.hid ((HT68.out.on b1).on n1)
              have HU8 := Lib.hid ((HT88.out.on b1).on n1)
              have HUN := Lib.hid (twoAt_new y1 c3 p3 30)
              have HQ6 := Lib.hid ((HR68.out.below b1).below n1)
              have HQ8 := Lib.hid ((HR8.out.below b1).below n1)
              have HQ1 := Lib.hid (hr1.below n1)
              clear b1 n1 hr1 HB8 HT18 HT38 HT68 HT88 HR68 HR8
              go_wp2_with fail
              generalize y1.alloc (.cells #[.int .i64 c3, .int .i64 p3] 30) = y2 at *
              generalize y1.heap.size = D1 at *
              refine (HRR4.out y2).mono ?_
              rintro e y3 ⟨u3, rfl, hr3, b3⟩
              have n3 := below_new y3 (.cells #[.int .i64 c4, .int .i64 p4] 30)
              have HC3 := Lib.hid ((HC1.out.trans (b3.mono HC1.out.size)).alloc (HC1.out.trans (b3.mono HC1.out.size)).size (.cells #[.int .i64 c4, .int .i64 p4] 30))
              obtain ⟨z1, ca1, cb1⟩ := HU1.out.on b3
              obtain ⟨z3, ca3, cb3⟩ := HU3.out.on b3
              obtain ⟨z6, ca6, cb6⟩ := HU6.out.on b3
              obtain ⟨z8, ca8, cb8⟩ := HU8.out.on b3
              obtain ⟨zN, caN, cbN⟩ := HUN.out.on b3
              have HP6 := Lib.hid ((HQ6.out.below b3).below n3)
              have HP8 := Lib.hid ((HQ8.out.below b3).below n3)
              have HP1 := Lib.hid ((HQ1.out.below b3).below n3)
              have HP3 := Lib.hid (hr3.below n3)
              clear b3 n3 hr3 HC1 HU1 HU3 HU6 HU8 HUN HQ6 HQ8 HQ1
              have heq := eq_at
              have hgd := guard_at
              rcases HRES.out with ⟨hk4, rfl, rfl⟩ | ⟨hk4, rfl, rfl⟩
              all_goals
                rcases HRES2.out with ⟨hn32, rfl, rfl⟩ | ⟨hn32, rfl, rfl⟩
              all_goals
                have hk4' : (4000 < (k : Int)) ∨ ((k : Int) ≤ 4000) := by omega
                have hn32' : (32 < (S2.size : Int)) ∨ ((S2.size : Int) ≤ 32) := by omega
                first
                  | (have q1 : decide ((k : Int) ≤ 4000) = true := (by simp; omega))
                  | (have q1 : decide ((k : Int) ≤ 4000) = false := (by simp; omega))
                first
                  | (have q2 : decide ((S2.size : Int) ≤ 32) = true := (by simp; omega))
                  | (have q2 : decide ((S2.size : Int) ≤ 32) = false := (by simp; omega))
                clear hk4' hn32'
                go_wp2_with fail
                refine (same_same l3 _ _ _ HP6.out HP1.out (by omega)).mono ?_
                rintro e w3 ⟨rfl, m1, rfl⟩
                go_wp2_with fail
                refine (same_same l4 _ _ _ (HP8.out.drewN m1) (HP3.out.drewN m1) (by omega)).mono ?_
                rintro e w4 ⟨rfl, m2, rfl⟩
                have HBF := Lib.hid (below_drewN HC3.out (m1 + m2))
                go_wp2_with fail
                refine (lives_any _ (HS.out.on HBF.out)).mono ?_
                rintro e w5 ⟨rfl, b5⟩
                go_wp2
                go_ret
                exact ⟨rfl, HBF.out.trans (b5.mono HBF.out.size)⟩
end Go.Proofs.YtcjojfclgbjapaaDoor
