/- The contracts of the document's name, Lower and Upper (chapter 1). No conditions but those that each theorem names. -/
import Derived.Test.YtcjojfclgbjapaaDoorBase
import Derived.Lib.Hide
namespace Go.Proofs.YtcjojfclgbjapaaDoor
open Go.RowKit

theorem sign_of_range (lo hi : Int) (h : (lo = 97 ∧ hi = 122) ∨ (lo = 65 ∧ hi = 90)) (r : Int) (hr : rangeB lo hi r = true) : signB r = true := by
  unfold signB plainB rangeB at *
  rcases h with ⟨rfl, rfl⟩ | ⟨rfl, rfl⟩ <;> simp at * <;> omega

/-- All signs so far are signs of names. -/
def SignTo (s : ByteArray) (k : Nat) : Prop := ∀ i (h : i < s.size), i < k → signB (s[i].toNat : Int) = true

set_option maxHeartbeats 400000 in
theorem refname_any (lo hi : Int) (hlh : (lo = 97 ∧ hi = 122) ∨ (lo = 65 ∧ hi = 90)) (s : ByteArray) (w : World) (hs : s.size ≤ maxLen) :
    Calls Tryd.prog 57 #[.string s, .int .u8 lo, .int .u8 hi] w fun e w' => e = .returned (.bool (nameB lo hi s)) ∧ w = w' := by
  unfold maxLen at hs
  by_cases h0 : s.size = 0
  · have hn : nameB lo hi s = false := nameB_false (fun h => by unfold NameP at h; omega)
    rw [hn]; clear hn
    have h0' : ((s.size : Int) == 0) = true := by rw [h0]; rfl
    clear h0
    go_enter Tryd.func57, Tryd.ntmps57
    go_wp2
    go_ret
    exact ⟨rfl, rfl⟩
  have h0' : ((s.size : Int) == 0) = false := beq_eq_false_iff_ne.2 (by omega)
  by_cases h32 : 32 < s.size
  · have hn : nameB lo hi s = false := nameB_false (fun h => by unfold NameP at h; omega)
    rw [hn]; clear hn h0
    have h32' : (32 : Int) < (s.size : Int) := by omega
    go_enter Tryd.func57, Tryd.ntmps57
    go_wp2
    go_ret
    exact ⟨rfl, rfl⟩
  have h32' : decide ((32 : Int) < (s.size : Int)) = false := by simp; omega
  have HLH := Lib.hid hlh
  clear hlh
  go_enter Tryd.func57, Tryd.ntmps57
  go_wp2
  go_loop [7] (fun i => ∃ k : Nat, k ≤ s.size ∧ i = .int .i64 k ∧ SignTo s k) (fun i => s.size - (intOf i).toNat)
  case atStart => exact ⟨0, Nat.zero_le _, rfl, fun i _ h => absurd h (Nat.not_lt_zero _)⟩
  case round =>
    obtain ⟨k, hk, rfl, hok⟩ := hrel
    by_cases hlt : k < s.size
    · by_cases hsg : signB (s[k].toNat : Int) = true
      · have hok' : SignTo s (k + 1) := fun i h hi' => by
          by_cases e : i = k
          · subst e; exact hsg
          · exact hok i h (by omega)
        have HOK := Lib.hid hok'
        clear hok hok'
        have hcase : plainB (s[k].toNat : Int) = true ∨ (plainB (s[k].toNat : Int) = false ∧ (((s[k].toNat : Int) != 39) = false ∨ (((s[k].toNat : Int) != 39) = true ∧ ((s[k].toNat : Int) != 95) = false))) := by
          unfold signB at hsg
          simp only [Bool.or_eq_true, beq_iff_eq] at hsg
          by_cases hp : plainB (s[k].toNat : Int) = true
          · exact .inl hp
          · rcases hsg with (e | e) | e
            · exact absurd e hp
            · exact .inr ⟨by simpa using hp, .inl (by rw [e]; rfl)⟩
            · exact .inr ⟨by simpa using hp, .inr ⟨by rw [e]; rfl, by rw [e]; rfl⟩⟩
        clear hsg
        rcases hcase with hp | ⟨hp, hq | ⟨hq, hr⟩⟩
        all_goals
          go_wp2_with (go_at_call 62; refine (refplain_any _ _).mono ?_; rintro e w' ⟨rfl, rfl⟩)
          go_round
          case rel => exact ⟨k + 1, by omega, by go_num, HOK.out⟩
          case measure => simp [intOf]; omega
      · have hn : nameB lo hi s = false := nameB_false (fun h => by
          have h1 := h.2.2 k hlt
          unfold testB at h1
          split at h1
          · exact hsg (sign_of_range lo hi HLH.out _ h1)
          · exact hsg h1)
        have HN := Lib.hid hn
        have hp : plainB (s[k].toNat : Int) = false := by unfold signB at hsg; revert hsg; cases plainB (s[k].toNat : Int) <;> simp
        have hq : ((s[k].toNat : Int) != 39) = true := by unfold signB at hsg; rw [hp] at hsg; simp at hsg ⊢; omega
        have hr : ((s[k].toNat : Int) != 95) = true := by unfold signB at hsg; rw [hp] at hsg; simp at hsg ⊢; omega
        clear hn hsg hok
        go_wp2_with (go_at_call 62; refine (refplain_any _ _).mono ?_; rintro e w' ⟨rfl, rfl⟩)
        go_ret
        exact ⟨ret_bool HN.out.symm, rfl⟩
    · have hp0 : (0 : Int) < s.size := by omega
      have hp1 : 0 < s.size := by omega
      have HN : Hid (rangeB lo hi (s[0].toNat : Int) = nameB lo hi s) := by
        cases e : rangeB lo hi (s[0].toNat : Int)
        · exact (nameB_false (fun h => by have := h.2.2 0 hp1; unfold testB at this; rw [if_pos rfl, e] at this; cases this)).symm
        · refine (nameB_true ⟨hp1, by omega, fun i h => ?_⟩).symm
          unfold testB
          split
          · rename_i h9; subst h9; exact e
          · exact hok i h (by omega)
      have hd : decide (k < s.size) = false := by simpa using hlt
      clear hok
      go_wp2_with (go_at_call 63; refine (within_any _ _ _ _).mono ?_; rintro e w' ⟨rfl, rfl⟩)
      go_ret
      exact ⟨ret_bool HN.out, rfl⟩

set_option maxHeartbeats 400000 in
theorem reflower_any (s : ByteArray) (w : World) (hs : s.size ≤ maxLen) :
    Calls Tryd.prog 43 #[.string s] w fun e w' => e = .returned (.bool (nameB 97 122 s)) ∧ w = w' := by
  go_enter Tryd.func43, Tryd.ntmps43
  go_wp2_with (go_at_call 57; refine (refname_any 97 122 (.inl ⟨rfl, rfl⟩) _ _ hs).mono ?_; rintro e w' ⟨rfl, rfl⟩)
  go_ret
  exact ⟨rfl, rfl⟩
set_option maxHeartbeats 400000 in
theorem refupper_any (s : ByteArray) (w : World) (hs : s.size ≤ maxLen) :
    Calls Tryd.prog 44 #[.string s] w fun e w' => e = .returned (.bool (nameB 65 90 s)) ∧ w = w' := by
  go_enter Tryd.func44, Tryd.ntmps44
  go_wp2_with (go_at_call 57; refine (refname_any 65 90 (.inr ⟨rfl, rfl⟩) _ _ hs).mono ?_; rintro e w' ⟨rfl, rfl⟩)
  go_ret
  exact ⟨rfl, rfl⟩
end Go.Proofs.YtcjojfclgbjapaaDoor
