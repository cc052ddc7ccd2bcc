/- The contracts of the program's number and name (lex). Conditions: the text is not empty, and has at most 2^40 bytes. -/
import Derived.Test.YtcjojfclgbjapaaDoorCodeA
namespace Go.Proofs.YtcjojfclgbjapaaDoor
open Go.RowKit

/-- What number answered. -/
def numR (l : List UInt8) : Value := oneV (if 2147483647 < numV (l.takeWhile digB) then .error 11 else .ok (3, l.takeWhile digB, numV (l.takeWhile digB)))
theorem numV_tw_ge (l : List UInt8) (k : Nat) (h : k ≤ (l.takeWhile digB).length) : numV (l.take k) ≤ numV (l.takeWhile digB) := by
  have e : l.takeWhile digB = l.take k ++ (l.takeWhile digB).drop k := by
    conv => lhs; rw [← List.take_append_drop k (l.takeWhile digB)]
    rw [show (l.takeWhile digB).take k = l.take k by
      rw [← tw_take digB l, List.take_take, Nat.min_eq_left h]]
  rw [e]; exact numV_mono _ _

set_option maxRecDepth 100000 in
set_option maxHeartbeats 1000000 in
theorem number_any (s : ByteArray) (w : World) (hm : s.size ≤ 1099511627776) :
    Calls Tryd.prog 40 #[.string s] w fun e w' => e = .returned (numR s.data.toList) ∧ Below w.heap.size w w' := by
  have HTL : Hid ((s.data.toList.takeWhile digB).length ≤ s.size) := by show _ ≤ _; rw [Lib.size_eq]; exact tw_le _ _
  go_enter Tryd.func40, Tryd.ntmps40
  go_wp2_with fail
  go_loop [4, 5] (fun v i => ∃ k : Nat, k ≤ s.size ∧ i = .int .i64 k ∧ v = .int .i64 (numV (s.data.toList.take k)) ∧ numV (s.data.toList.take k) ≤ 2147483647 ∧ Hid (k ≤ (s.data.toList.takeWhile digB).length)) (fun _ i => s.size - (intOf i).toNat)
  case atStart => exact ⟨0, by omega, rfl, rfl, by simp [numV], Nat.zero_le _⟩
  case round =>
    obtain ⟨k, hk, rfl, rfl, hV, hr⟩ := hrel
    by_cases hgo : ∃ h : k < s.size, digB s[k] = true
    · obtain ⟨hlt, hd⟩ := hgo
      have hkl : k < s.data.toList.length := by rw [← Lib.size_eq]; exact hlt
      have HR : Hid (k + 1 ≤ (s.data.toList.takeWhile digB).length) := tw_step digB s.data.toList k hr.out hkl (by rw [get_data s k hlt]; exact hd)
      have hnx := numV_snoc (s.data.toList.take k) s[k]
      rw [← take_get s k hlt] at hnx
      have hdv := dig_val hd
      have hd1 : 48 ≤ s[k].toNat := hdv.1
      have hd2 : s[k].toNat ≤ 57 := hdv.2
      have hd' : rangeB 48 57 (s[k].toNat : Int) = true := hd
      have HNX : Hid (((numV (s.data.toList.take (k + 1)) : Nat) : Int) = 10 * ((numV (s.data.toList.take k) : Nat) : Int) + ((s[k].toNat : Int) - 48)) := by show _ = _; omega
      have hge := numV_tw_ge s.data.toList (k + 1) HR.out
      have hdec : decide (k < s.size) = true := by simpa using hlt
      by_cases hbig : 2147483647 < numV (s.data.toList.take (k + 1))
      · have HE : Hid (numR s.data.toList = oneV (.error 11)) := by show _ = _; unfold numR; rw [if_pos (by omega)]
        have hb' : (2147483647 : Int) < 10 * ((numV (s.data.toList.take k) : Nat) : Int) + ((s[k].toNat : Int) - 48) := by have := HNX.out; omega
        clear hnx hge hbig hdv hd
        generalize numV (s.data.toList.take k) = V at *
        have hmod : ((s[k].toNat : Int) - 48) % 256 = (s[k].toNat : Int) - 48 := by omega
        go_wp2_with (go_at_call 39; refine (digit_any _ _).mono ?_; rintro e w' ⟨rfl, rfl⟩)
        exact bodyPost_ret (v := .tuple #[.agg #[.int .i64 0, .string ⟨#[]⟩, .int .i64 0, .int .i64 0], .int .i64 11]) (by simp [results, Tryd.results40, go_sem]) rfl ⟨by rw [HE.out]; rfl, (Below.refl _ _).alloc (Nat.le_refl _) _⟩
      · have hb' : ¬ (2147483647 : Int) < 10 * ((numV (s.data.toList.take k) : Nat) : Int) + ((s[k].toNat : Int) - 48) := by have := HNX.out; omega
        have HNB : Hid (numV (s.data.toList.take (k + 1)) ≤ 2147483647) := by show _ ≤ _; omega
        clear hnx hge hbig hdv hd
        generalize numV (s.data.toList.take k) = V at *
        have hmod : ((s[k].toNat : Int) - 48) % 256 = (s[k].toNat : Int) - 48 := by omega
        go_wp2_with (go_at_call 39; refine (digit_any _ _).mono ?_; rintro e w' ⟨rfl, rfl⟩)
        go_round
        case rel => exact ⟨k + 1, by omega, by go_num, by rw [HNX.out], HNB.out, HR⟩
        case measure => simp [intOf]; omega
    · have htw : (s.data.toList.takeWhile digB).length = k := by
        by_cases hlt : k < s.size
        · have hkl : k < s.data.toList.length := by rw [← Lib.size_eq]; exact hlt
          refine tw_stop digB s.data.toList k hr.out hkl ?_
          rw [get_data s k hlt]
          cases e9 : digB s[k] with
          | false => rfl
          | true => exact absurd ⟨hlt, e9⟩ hgo
        · have := HTL.out; have := hr.out; omega
      have HTK : Hid (s.data.toList.takeWhile digB = s.data.toList.take k) := by show _ = _; rw [← htw]; exact (tw_take _ _).symm
      have HE : Hid (numR s.data.toList = oneV (.ok (3, s.data.toList.take k, numV (s.data.toList.take k)))) := by show _ = _; unfold numR; rw [HTK.out, if_neg (by omega)]
      have hxt := extract_take s k
      have hxz : (s.extract 0 k).size ≤ 281474976710656 := by rw [ByteArray.size_extract]; omega
      have HX := Lib.hid hxt
      clear htw hxt
      generalize hVV : numV (s.data.toList.take k) = V at *
      have HVV := Lib.hid hVV
      clear hVV
      have hcase : (∃ h : k < s.size, rangeB 48 57 (s[k].toNat : Int) = false) ∨ decide (k < s.size) = false := by
        by_cases hlt : k < s.size
        · left; refine ⟨hlt, ?_⟩
          cases e9 : digB s[k] with
          | false => exact e9
          | true => exact absurd ⟨hlt, e9⟩ hgo
        · right; simpa using hlt
      clear hgo
      rcases hcase with ⟨hlt, hnd⟩ | hdec
      all_goals
        go_wp2_with (first | (go_at_call 39; refine (digit_any _ _).mono ?_; rintro e w' ⟨rfl, rfl⟩))
        refine (clone_any _ _ hxz).mono ?_
        rintro e w1 ⟨rfl, hb⟩
        rw [HX.out]
        obtain ⟨hc, hf⟩ := bcell hb
        have hz : w.heap.size < w1.heap.size := by have := hb.size; simp at this; omega
        have HW : Hid (Below w.heap.size w w1) := ((Below.refl _ _).alloc (Nat.le_refl _) _).trans (hb.mono (by simp))
        clear hb
        go_wp2
        exact bodyPost_ret (v := .tuple #[.agg #[.int .i64 3, .string ⟨(s.data.toList.take k).toArray⟩, .int .i64 V, .int .i64 0], .int .i64 0]) (by simp [results, Tryd.results40, go_sem, hc]) rfl ⟨by rw [HE.out]; rfl, ((((HW.out.setCell (Nat.le_refl _) _).setCell (Nat.le_refl _) _).setCell (Nat.le_refl _) _).setCell (Nat.le_refl _) _)⟩
end Go.Proofs.YtcjojfclgbjapaaDoor
