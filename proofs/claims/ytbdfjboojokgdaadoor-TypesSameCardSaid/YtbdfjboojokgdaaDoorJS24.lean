/- The contracts of the document's Decimal and Letters (numbers from 0 on). Condition: the number is below 2^62. -/
import Derived.Test.YtbdfjboojokgdaaDoorJS18
import Derived.Test.YtbdfjboojokgdaaDoorJS23
namespace Go.Proofs.YtbdfjboojokgdaaDoor
open Go.RowKit

theorem nDigits_le : ∀ (k u : Nat), u < 10 ^ (k + 1) → Lib.nDigits u ≤ k + 1
  | 0, u, h => by rw [Lib.nDigits_small (by simpa using h)]; omega
  | k + 1, u, h => by
    by_cases h10 : u < 10
    · rw [Lib.nDigits_small h10]; omega
    · rw [Lib.nDigits_big h10]
      have := nDigits_le k (u / 10) (by rw [Nat.pow_succ] at h; omega)
      omega

theorem letters_len (n : Nat) (h : n < 4611686018427387904) : (lettersL n).length ≤ 20 := by
  unfold lettersL
  by_cases hx : n < 26
  · simp [hx]
  · simp only [hx, if_false, List.length_cons, Lib.decDigits_length]
    have := nDigits_le 18 (n / 26) (by omega)
    omega

set_option maxRecDepth 100000 in
set_option maxHeartbeats 1000000 in
theorem decimal_any : ∀ (f n : Nat), n < f → n < 4611686018427387904 → ∀ (w : World), 
    Calls Tryd.prog 77 #[.int .i64 n] w fun e w' => e = .returned (.string ⟨(Lib.decDigits n).toArray⟩) ∧ Below w.heap.size w w'
  | 0, _, h, _, _ => absurd h (Nat.not_lt_zero _)
  | f + 1, n, hf, h, w => by
    have IH := Lib.hid (decimal_any f)
    have hcv := convert_one w (48 + (n : Int) % 10) (by omega) (by omega)
    have hof : (48 + (n : Int) % 10).toNat = 48 + n % 10 := by omega
    rw [hof] at hcv
    clear hof
    by_cases h10 : n < 10
    · have b1 : decide ((n : Int) < 10) = true := by simp; omega
      have HE : Hid (Lib.decDigits n = [UInt8.ofNat (48 + n % 10)]) := by rw [Lib.decDigits, dif_pos h10, Nat.mod_eq_of_lt h10]; exact rfl
      generalize UInt8.ofNat (48 + n % 10) = c at *
      go_enter Tryd.func77, Tryd.ntmps77
      go_wp2
      go_ret
      exact ⟨by rw [HE.out]; rfl, (Below.refl _ _).alloc (Nat.le_refl _) _⟩
    · have b1 : decide ((n : Int) < 10) = false := by simp; omega
      have HE : Hid (Lib.decDigits n = Lib.decDigits (n / 10) ++ [UInt8.ofNat (48 + n % 10)]) := by rw [Lib.decDigits, dif_neg h10]; exact rfl
      have hD : (Lib.decDigits (n / 10)).length ≤ 19 := by
        rw [Lib.decDigits_length]; exact nDigits_le 18 (n / 10) (by omega)
      generalize UInt8.ofNat (48 + n % 10) = c at *
      go_enter Tryd.func77, Tryd.ntmps77
      go_wp2_with fail
      rw [show ((n : Int) / 10) = ((n / 10 : Nat) : Int) by simp]
      refine (IH.out (n / 10) (by omega) (by omega) _).mono ?_
      rintro e w1 ⟨rfl, hb⟩
      generalize Lib.decDigits (n / 10) = D at *
      go_wp2
      go_ret
      refine ⟨?_, ((Below.refl _ _).alloc (Nat.le_refl _) _).trans (hb.mono (by simp))⟩
      rw [HE.out, ← append_mk2]
      rfl

set_option maxRecDepth 100000 in
set_option maxHeartbeats 1000000 in
theorem refletters_any (n : Nat) (h : n < 4611686018427387904) (w : World) :
    Calls Tryd.prog 67 #[.int .i64 n] w fun e w' => e = .returned (.string ⟨(lettersL n).toArray⟩) ∧ Below w.heap.size w w' := by
  have hcv := convert_one w (97 + (n : Int) % 26) (by omega) (by omega)
  have hof : (97 + (n : Int) % 26).toNat = 97 + n % 26 := by omega
  rw [hof] at hcv
  clear hof
  by_cases hx : n < 26
  · have h0 : decide ((n : Int) < 26) = true := by simp; omega
    have HE : Hid (lettersL n = [UInt8.ofNat (97 + n % 26)]) := by unfold lettersL; rw [if_pos hx]; exact rfl
    generalize UInt8.ofNat (97 + n % 26) = c at *
    go_enter Tryd.func67, Tryd.ntmps67
    go_wp2
    go_ret
    exact ⟨by rw [HE.out]; rfl, (Below.refl _ _).alloc (Nat.le_refl _) _⟩
  · have h0 : decide ((n : Int) < 26) = false := by simp; omega
    have HE : Hid (lettersL n = [UInt8.ofNat (97 + n % 26)] ++ Lib.decDigits (n / 26)) := by unfold lettersL; rw [if_neg hx]; exact rfl
    have hD : (Lib.decDigits (n / 26)).length ≤ 19 := by
      rw [Lib.decDigits_length]; exact nDigits_le 18 (n / 26) (by omega)
    generalize UInt8.ofNat (97 + n % 26) = c at *
    go_enter Tryd.func67, Tryd.ntmps67
    go_wp2_with fail
    rw [show ((n : Int) / 26) = ((n / 26 : Nat) : Int) by simp]
    refine (decimal_any (n / 26 + 1) (n / 26) (Nat.lt_succ_self _) (by omega) _).mono ?_
    rintro e w1 ⟨rfl, hb⟩
    generalize Lib.decDigits (n / 26) = D at *
    go_wp2
    go_ret
    refine ⟨?_, ((Below.refl _ _).alloc (Nat.le_refl _) _).trans (hb.mono (by simp))⟩
    rw [HE.out, ← append_mk2]
    rfl

end Go.Proofs.YtbdfjboojokgdaaDoor
