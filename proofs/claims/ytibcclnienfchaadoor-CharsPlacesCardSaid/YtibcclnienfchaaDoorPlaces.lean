/- The contracts of the document's Line and Column, and the walk of the law CharsPlaces. Condition: the text has fewer than 2^62 bytes. -/
import Derived.Test.YtibcclnienfchaaDoorPlace
namespace Go.Proofs.YtibcclnienfchaaDoor
open Go.RowKit

/-- Where a place lies, made to lie in the text. -/
def At (s : ByteArray) (at' : Int) (k : Nat) : Prop := k ≤ s.size ∧ ((k : Int) = at' ∨ (at' < 0 ∧ k = 0) ∨ ((s.size : Int) ≤ at' ∧ k = s.size))
theorem at_some (s : ByteArray) (at' : Int) : ∃ k, At s at' k := by
  by_cases h0 : at' < 0
  · exact ⟨0, by omega, .inr (.inl ⟨h0, rfl⟩)⟩
  by_cases h1 : (s.size : Int) ≤ at'
  · exact ⟨s.size, by omega, .inr (.inr ⟨h1, rfl⟩)⟩
  · exact ⟨at'.toNat, by omega, .inl (by omega)⟩

set_option maxHeartbeats 400000 in
theorem line_any (s : ByteArray) (at' : Int) (w : World) (hs : s.size < 4611686018427387904) (K : Nat) (hat : At s at' K) :
    Calls Tryd.prog 17 #[.string s, .int .i64 at'] w fun e w' => e = .returned (.int .i64 (lineN s K)) ∧ w = w' := by
  have HAT := Lib.hid hat
  clear hat
  go_enter Tryd.func17, Tryd.ntmps17
  go_wp2
  go_loop [5, 6] (fun n i => ∃ k : Nat, k ≤ K ∧ i = .int .i64 k ∧ n = .int .i64 (lineN s k)) (fun _ i => K - (intOf i).toNat)
  case atStart => exact ⟨0, Nat.zero_le _, rfl, rfl⟩
  case round =>
    obtain ⟨k, hk, rfl, rfl⟩ := hrel
    have hl := lineN_le s k
    have hat := HAT.out
    unfold At at hat
    by_cases hlt : k < K
    · have h1 : k < s.size := by omega
      have h2 : (k : Int) < at' := by omega
      have h3 : decide ((k : Int) < at') = true := by simpa using h2
      clear hat
      by_cases hb : (s[k].toNat : Int) = 10
      · have hb' : ((s[k].toNat : Int) == 10) = true := by simpa using hb
        have HL : Hid (lineN s (k + 1) = lineN s k + 1) := by rw [lineN, byteBang s k h1, if_pos hb]; exact rfl
        clear hb
        go_wp2
        go_round
        case rel => exact ⟨k + 1, by omega, by go_num, by rw [HL.out]; go_num⟩
        case measure => simp [intOf]; omega
      · have hb' : ((s[k].toNat : Int) == 10) = false := by simpa using hb
        have HL : Hid (lineN s (k + 1) = lineN s k) := by rw [lineN, byteBang s k h1, if_neg hb]; exact rfl
        clear hb
        go_wp2
        go_round
        case rel => exact ⟨k + 1, by omega, by go_num, by rw [HL.out]⟩
        case measure => simp [intOf]; omega
    · obtain rfl : k = K := by omega
      by_cases h1 : k < s.size
      · have h3 : decide ((k : Int) < at') = false := by simp; omega
        clear hat
        go_wp2
        go_ret
        exact ⟨rfl, rfl⟩
      · have h3 : decide (k < s.size) = false := by simpa using h1
        clear hat
        go_wp2
        go_ret
        exact ⟨rfl, rfl⟩

set_option maxHeartbeats 400000 in
theorem column_any (s : ByteArray) (at' : Int) (w : World) (hs : s.size < 4611686018427387904) (K : Nat) (hat : At s at' K) :
    Calls Tryd.prog 18 #[.string s, .int .i64 at'] w fun e w' => e = .returned (.int .i64 (colN s K)) ∧ w = w' := by
  have HAT := Lib.hid hat
  clear hat
  go_enter Tryd.func18, Tryd.ntmps18
  go_wp2
  go_loop [5, 6] (fun n i => ∃ k : Nat, k ≤ K ∧ i = .int .i64 k ∧ n = .int .i64 (colN s k)) (fun _ i => K - (intOf i).toNat)
  case atStart => exact ⟨0, Nat.zero_le _, rfl, rfl⟩
  case round =>
    obtain ⟨k, hk, rfl, rfl⟩ := hrel
    have hl := colN_le s k
    have hat := HAT.out
    unfold At at hat
    by_cases hlt : k < K
    · have h1 : k < s.size := by omega
      have h2 : (k : Int) < at' := by omega
      have h3 : decide ((k : Int) < at') = true := by simpa using h2
      clear hat
      by_cases hb : (s[k].toNat : Int) = 10
      · have hb' : ((s[k].toNat : Int) == 10) = true := by simpa using hb
        have HL : Hid (colN s (k + 1) = 1) := by rw [colN, byteBang s k h1, if_pos hb]; exact rfl
        clear hb
        go_wp2
        go_round
        case rel => exact ⟨k + 1, by omega, by go_num, by rw [HL.out]; rfl⟩
        case measure => simp [intOf]; omega
      · have hb' : ((s[k].toNat : Int) == 10) = false := by simpa using hb
        have HL : Hid (colN s (k + 1) = colN s k + 1) := by rw [colN, byteBang s k h1, if_neg hb]; exact rfl
        clear hb
        go_wp2
        go_round
        case rel => exact ⟨k + 1, by omega, by go_num, by rw [HL.out]; go_num⟩
        case measure => simp [intOf]; omega
    · obtain rfl : k = K := by omega
      by_cases h1 : k < s.size
      · have h3 : decide ((k : Int) < at') = false := by simp; omega
        clear hat
        go_wp2
        go_ret
        exact ⟨rfl, rfl⟩
      · have h3 : decide (k < s.size) = false := by simpa using h1
        clear hat
        go_wp2
        go_ret
        exact ⟨rfl, rfl⟩

theorem Tryd.info3 : (Tryd.prog.info? 3).map (fun i => (i.zero, i.size, i.bytes)) = some (some (.int .i64 0), 1, 8) := by kernel_rfl

set_option maxHeartbeats 1000000 in
theorem places_walk (a0 : ByteArray) (a1 a2 : Int) (w0 : a0.size ≤ maxLen) (_ : 0 ≤ a1) (_ : a1 ≤ 255) (h1 : -9223372036854775808 ≤ a2) (h2 : a2 ≤ 9223372036854775807) (w : World) :
    Calls Tryd.prog 4 #[.string a0, .int .u8 a1, .int .i64 a2] w fun e w' => e = .returned (.bool true) ∧ Below w.heap.size w w' := by
  obtain ⟨i0, hi, hz0, hz1, hz2⟩ := info_parts Tryd.info5
  go_enter Tryd.func4, Tryd.ntmps4
  go_wp2_with fail
  refine (short_any a0 60 _ w0 (by omega) (by omega)).mono ?_
  rintro e w' ⟨t, ht, rfl, rfl⟩
  go_wp2_with fail
  go_loopw [7, 9] (fun v i wr => ∃ (k : Nat) (l : List UInt8), k ≤ t.size ∧ i = .int .i64 k ∧ wr.ownsRow w.heap.size 5 1 v l.length (bc l) ∧ l.length = k ∧ Below w.heap.size w wr) (fun _ i _ => t.size - (intOf i).toNat)
  case atStart => exact ⟨0, [], Nat.zero_le _, rfl, World.ownsRow_nil _ _ _ _, rfl, Below.refl _ _⟩
  case round =>
    obtain ⟨k, l, hk, rfl, hownr, hl, hb⟩ := hrel
    have hsz := hb.size
    have hl60 : l.length ≤ 60 := by omega
    have HL := Lib.hid hl
    clear hl
    by_cases hlt : k < t.size
    · have hcb := (t[k]).toNat_lt
      have hcb' : (t[k].toNat : Int) < 256 := by omega
      have hn : 0 ≤ (t[k].toNat : Int) := by omega
      by_cases hc : ((t[k].toNat : Int) == a1) = true
      · go_wp2_with (at_builtin; refine wpList_append_own _ rfl (.tmp 35) (.tmp 36) 23 rfl w.heap.size 5 i0 (.int .u8 0) 1 1 Tryd.underlying23 hi hz0 hz1 hz2 rfl (by decide) _ _ _ rfl (hownr.alloc _) ⟨wr.heap.size, 0, none⟩ 1 1 [.int .u8 10] rfl rfl (cell_one_new _ _ _) (one_byte _) (by unfold maxLen; omega) (by omega) (by simp; omega) ?_; intro v' w2 hown2 hg2 _)
        have R := own_step _ [10] (hb.alloc hsz _) (by simp; omega) (hownr.alloc _) hown2 hg2 rfl rfl
        go_roundw
        case rel => exact ⟨k + 1, l ++ [10], by omega, by go_num, R.1, by simp [HL.out], R.2⟩
        case measure => simp [intOf]; omega
      have hc' : ((t[k].toNat : Int) == a1) = false := by simpa using hc
      clear hc
      by_cases hc7 : ((t[k].toNat : Int) % 7 == 3) = true
      · go_wp2_with (at_builtin; refine wpList_append_own _ rfl (.tmp 35) (.tmp 36) 23 rfl w.heap.size 5 i0 (.int .u8 0) 1 1 Tryd.underlying23 hi hz0 hz1 hz2 rfl (by decide) _ _ _ rfl (hownr.alloc _) ⟨wr.heap.size, 0, none⟩ 1 1 [.int .u8 10] rfl rfl (cell_one_new _ _ _) (one_byte _) (by unfold maxLen; omega) (by omega) (by simp; omega) ?_; intro v' w2 hown2 hg2 _)
        have R := own_step _ [10] (hb.alloc hsz _) (by simp; omega) (hownr.alloc _) hown2 hg2 rfl rfl
        go_roundw
        case rel => exact ⟨k + 1, l ++ [10], by omega, by go_num, R.1, by simp [HL.out], R.2⟩
        case measure => simp [intOf]; omega
      · have hc7' : ((t[k].toNat : Int) % 7 == 3) = false := by simpa using hc7
        clear hc7
        go_wp2_with (at_builtin; refine wpList_append_own _ rfl (.tmp 38) (.tmp 42) 23 rfl w.heap.size 5 i0 (.int .u8 0) 1 1 Tryd.underlying23 hi hz0 hz1 hz2 rfl (by decide) _ _ _ rfl (hownr.alloc _) ⟨wr.heap.size, 0, none⟩ 1 1 [.int .u8 (t[k].toNat : Int)] rfl rfl (cell_one_new _ _ _) (one_byte _) (by unfold maxLen; omega) (by omega) (by simp; omega) ?_; intro v' w2 hown2 hg2 _)
        have R := own_step _ [t[k]] (hb.alloc hsz _) (by simp; omega) (hownr.alloc _) hown2 hg2 rfl rfl
        go_roundw
        case rel => exact ⟨k + 1, l ++ [t[k]], by omega, by go_num, R.1, by simp [HL.out], R.2⟩
        case measure => simp [intOf]; omega
    · have hcv := convert_own hownr
      have hd : decide (k < t.size) = false := by simpa using hlt
      have hTs : (⟨l.toArray⟩ : ByteArray).size ≤ 60 := by show l.toArray.size ≤ 60; simpa using hl60
      generalize (⟨l.toArray⟩ : ByteArray) = T at *
      clear hownr HL hl60
      go_wp2_with fail
      refine (around_any a2 62 _ h1 h2 (by omega) (by omega)).mono ?_
      rintro e w' ⟨m, hm, rfl, rfl⟩
      obtain ⟨K0, hK0⟩ := at_some T a2
      obtain ⟨K1, hK1⟩ := at_some T (m : Int)
      unfold At at hK0 hK1
      have HK0 := Lib.hid hK0
      have HK1 := Lib.hid hK1
      clear hK0 hK1 hcv
      go_wp2_with fail
      go_loop [12] (fun i => ∃ j : Nat, j ≤ 2 ∧ i = .int .i64 j) (fun i => 2 - (intOf i).toNat)
      case atStart => exact ⟨0, by omega, rfl⟩
      case round =>
        obtain ⟨j, hj, rfl⟩ := hrel
        have hj' : j = 0 ∨ j = 1 ∨ j = 2 := by omega
        rcases hj' with rfl | rfl | rfl
        · go_wp2_with (first | (go_at_call 16; refine (place_any T _ _ (by omega) K0 HK0.out.1 HK0.out.2).mono ?_; rintro e w' ⟨rfl, rfl⟩) | (go_at_call 17; refine (line_any T _ _ (by omega) K0 HK0.out).mono ?_; rintro e w' ⟨rfl, rfl⟩) | (go_at_call 18; refine (column_any T _ _ (by omega) K0 HK0.out).mono ?_; rintro e w' ⟨rfl, rfl⟩))
          go_round
          case rel => exact ⟨1, by omega, rfl⟩
          case measure => simp [intOf]
        · go_wp2_with (first | (go_at_call 16; refine (place_any T _ _ (by omega) K1 HK1.out.1 HK1.out.2).mono ?_; rintro e w' ⟨rfl, rfl⟩) | (go_at_call 17; refine (line_any T _ _ (by omega) K1 HK1.out).mono ?_; rintro e w' ⟨rfl, rfl⟩) | (go_at_call 18; refine (column_any T _ _ (by omega) K1 HK1.out).mono ?_; rintro e w' ⟨rfl, rfl⟩))
          go_round
          case rel => exact ⟨2, by omega, rfl⟩
          case measure => simp [intOf]
        · go_wp2_with (go_at_call 15; refine (lives_any _).mono ?_; rintro e w' ⟨rfl, hbl⟩)
          go_ret
          exact ⟨rfl, (hb.alloc hsz _).trans (hbl.mono (by simp; omega))⟩
end Go.Proofs.YtibcclnienfchaaDoor
