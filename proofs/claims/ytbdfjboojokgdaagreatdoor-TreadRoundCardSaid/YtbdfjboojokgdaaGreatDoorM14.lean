/- The contracts of the small functions that the laws of stage 1 call: signs, ranges, cuts. No conditions but those that each theorem names. The contracts of the document's name, Lower and Upper (chapter 1). No conditions but those that each theorem names. -/
import Derived.Test.YtbdfjboojokgdaaGreatDoorProg
import Derived.WalkKit
import Derived.WalkSpells
import Derived.WalkLawsBesides
import Derived.Lib.Strings
import Derived.Lib.Hide

namespace Go.Proofs.YtbdfjboojokgdaaGreatDoor.Lx
open Go.RowKit

def rangeB (lo hi r : Int) : Bool := decide (lo ≤ r) && decide (r ≤ hi)
def plainB (r : Int) : Bool := rangeB 97 122 r || rangeB 65 90 r || rangeB 48 57 r
def signB (r : Int) : Bool := plainB r || r == 39 || r == 95

theorem ret_bool {a b : Bool} (h : a = b) : Ending.returned (.bool a) = .returned (.bool b) := by rw [h]

set_option maxHeartbeats 400000 in
theorem small_any (r : Int) (w : World) :
    Calls Tryz.prog 106 #[.int .i32 r] w fun e w' => e = .returned (.bool (rangeB 97 122 r)) ∧ w = w' := by
  go_enter Tryz.func106, Tryz.ntmps106
  go_wp2
  all_goals go_ret
  all_goals exact ⟨ret_bool (by simp [rangeB]; omega), rfl⟩

set_option maxHeartbeats 400000 in
theorem capital_any (r : Int) (w : World) :
    Calls Tryz.prog 111 #[.int .i32 r] w fun e w' => e = .returned (.bool (rangeB 65 90 r)) ∧ w = w' := by
  go_enter Tryz.func111, Tryz.ntmps111
  go_wp2
  all_goals go_ret
  all_goals exact ⟨ret_bool (by simp [rangeB]; omega), rfl⟩

set_option maxHeartbeats 400000 in
theorem within_any (c lo hi : Int) (w : World) :
    Calls Tryz.prog 117 #[.int .u8 c, .int .u8 lo, .int .u8 hi] w fun e w' => e = .returned (.bool (rangeB lo hi c)) ∧ w = w' := by
  go_enter Tryz.func117, Tryz.ntmps117
  go_wp2
  all_goals go_ret
  all_goals exact ⟨ret_bool (by simp [rangeB]; omega), rfl⟩

set_option maxHeartbeats 400000 in
theorem plain_any (r : Int) (w : World) :
    Calls Tryz.prog 124 #[.int .i32 r] w fun e w' => e = .returned (.bool (plainB r)) ∧ w = w' := by
  go_enter Tryz.func124, Tryz.ntmps124
  go_wp2_with (first | (go_at_call 106; refine (small_any _ _).mono ?_; rintro e w' ⟨rfl, rfl⟩) | (go_at_call 111; refine (capital_any _ _).mono ?_; rintro e w' ⟨rfl, rfl⟩))
  all_goals go_ret
  all_goals exact ⟨ret_bool (by simp_all [plainB, rangeB]; try omega), rfl⟩

set_option maxHeartbeats 400000 in
theorem refplain_any (r : Int) (w : World) :
    Calls Tryz.prog 116 #[.int .u8 r] w fun e w' => e = .returned (.bool (plainB r)) ∧ w = w' := by
  go_enter Tryz.func116, Tryz.ntmps116
  go_wp2_with (go_at_call 117; refine (within_any _ _ _ _).mono ?_; rintro e w' ⟨rfl, rfl⟩)
  all_goals go_ret
  all_goals exact ⟨ret_bool (by simp_all [plainB, rangeB]; try omega), rfl⟩

/-- The call returned some number below m, and left the world as it was. -/
def SomeBelow (m : Int) (w : World) (e : Ending) (w' : World) : Prop := ∃ k : Nat, (k : Int) < m ∧ e = .returned (.int .i64 k) ∧ w = w'
/-- The call returned some text of at most m bytes, and left the world as it was. -/
def SomeShort (m : Int) (w : World) (e : Ending) (w' : World) : Prop := ∃ t : ByteArray, (t.size : Int) ≤ m ∧ e = .returned (.string t) ∧ w = w'

theorem someBelow_of {m n : Int} {w : World} (h0 : 0 ≤ n) (h : n < m) : SomeBelow m w (.returned (.int .i64 n)) w := by
  obtain ⟨k, rfl⟩ := Int.eq_ofNat_of_zero_le h0
  exact ⟨k, h, rfl, rfl⟩

set_option maxHeartbeats 400000 in
theorem around_any (n m : Int) (w : World) (h1 : -9223372036854775808 ≤ n) (h2 : n ≤ 9223372036854775807) (hm : 0 < m) (hm' : m ≤ 9223372036854775807) :
    Calls Tryz.prog 16 #[.int .i64 n, .int .i64 m] w (SomeBelow m w) := by
  go_enter Tryz.func16, Tryz.ntmps16
  go_wp2
  · go_ret
    refine someBelow_of (n := -(n + 1).tmod m) ?_ ?_
    · have h := Int.tmod_nonneg (a := -(n + 1)) m (by omega)
      rw [Int.neg_tmod] at h
      exact h
    · have h := Int.tmod_lt_of_pos (-(n + 1)) hm
      rw [Int.neg_tmod] at h
      exact h
  · go_ret
    exact someBelow_of (n := n % m) (Int.emod_nonneg _ (by omega)) (Int.emod_lt_of_pos _ hm)

/-- What a name asks of the sign at place i: the first lies in the range, the others are signs of names. -/
def testB (lo hi : Int) (i : Nat) (r : Int) : Bool := if i = 0 then rangeB lo hi r else signB r
def NameP (lo hi : Int) (s : ByteArray) : Prop := 0 < s.size ∧ s.size ≤ 32 ∧ ∀ i (h : i < s.size), testB lo hi i (s[i].toNat : Int) = true
instance (lo hi : Int) (s : ByteArray) : Decidable (NameP lo hi s) := by unfold NameP; infer_instance
def nameB (lo hi : Int) (s : ByteArray) : Bool := decide (NameP lo hi s)
theorem nameB_true {lo hi : Int} {s : ByteArray} (h : NameP lo hi s) : nameB lo hi s = true := by unfold nameB; exact decide_eq_true h
theorem nameB_false {lo hi : Int} {s : ByteArray} (h : ¬ NameP lo hi s) : nameB lo hi s = false := by unfold nameB; exact decide_eq_false h

theorem width_pos (s : ByteArray) (pos : Nat) (h : pos < s.size) : 1 ≤ (Utf8.decode s pos).2 := by
  by_cases ha : (s[pos]'h).toNat < 128
  · rw [decode_ascii s pos h ha]
    exact Nat.le_refl _
  · exact (decode_high s pos h (by omega)).2

theorem high_no (lo hi : Int) (hh : hi < 128) (i : Nat) (r : Int) (h : 128 ≤ r) : testB lo hi i r = false := by
  unfold testB signB plainB rangeB
  split <;> simp <;> omega

/-- The closure that asks one sign: at place 0 by the function that it holds, else whether it is a sign of names. -/
def Signs (K : Nat) (lo hi : Int) : Prop := ∀ (i : Nat) (r : Int) (b : Nat) (w : World), w.cell? ⟨b, 0, none⟩ = some (.func (.func K) #[] #[]) →
    Calls Tryz.prog 123 #[.int .i64 i, .int .i32 r, .pointer (some ⟨b, 0, none⟩)] w fun e w' => e = .returned (.bool (testB lo hi i r)) ∧ w = w'

set_option maxHeartbeats 400000 in
theorem signs_small : Signs 106 97 122 := by
  intro i r b w hc
  by_cases hi : i = 0
  · subst hi
    go_enter Tryz.func123, Tryz.ntmps123
    go_wp2_with (go_at_call 106; refine (small_any _ _).mono ?_; rintro e w' ⟨rfl, rfl⟩)
    go_ret
    exact ⟨ret_bool (by simp [testB]), rfl⟩
  · have hb : ((i : Int) == 0) = false := by simp; omega
    go_enter Tryz.func123, Tryz.ntmps123
    go_wp2_with (go_at_call 124; refine (plain_any _ _).mono ?_; rintro e w' ⟨rfl, rfl⟩)
    all_goals go_ret
    all_goals exact ⟨ret_bool (by simp_all [testB, signB]), rfl⟩

set_option maxHeartbeats 400000 in
theorem signs_capital : Signs 111 65 90 := by
  intro i r b w hc
  by_cases hi : i = 0
  · subst hi
    go_enter Tryz.func123, Tryz.ntmps123
    go_wp2_with (go_at_call 111; refine (capital_any _ _).mono ?_; rintro e w' ⟨rfl, rfl⟩)
    go_ret
    exact ⟨ret_bool (by simp [testB]), rfl⟩
  · have hb : ((i : Int) == 0) = false := by simp; omega
    go_enter Tryz.func123, Tryz.ntmps123
    go_wp2_with (go_at_call 124; refine (plain_any _ _).mono ?_; rintro e w' ⟨rfl, rfl⟩)
    all_goals go_ret
    all_goals exact ⟨ret_bool (by simp_all [testB, signB]), rfl⟩

theorem toList_nil (s : ByteArray) (h : s.size = 0) : s.toList = [] := by
  rw [Lib.toList_data]; exact List.eq_nil_of_length_eq_zero (by rw [← Lib.size_eq]; exact h)
theorem toList_ne (s : ByteArray) (h : 0 < s.size) : s.toList.isEmpty = false := by
  rw [Lib.toList_data]
  cases e : s.data.toList with
  | nil => rw [Lib.size_eq, e] at h; simp at h
  | cons a l => rfl

def OkTo (lo hi : Int) (s : ByteArray) (pos : Nat) : Prop := ∀ i (h : i < s.size), i < pos → testB lo hi i (s[i].toNat : Int) = true

set_option maxHeartbeats 400000 in
theorem named_any (K : Nat) (lo hi : Int) (hhi : hi < 128) (hK : Signs K lo hi) (s : ByteArray) (w : World) (hs : s.size ≤ maxLen) :
    Calls Tryz.prog 105 #[.string s, .func (.func K) #[] #[]] w fun e w' => e = .returned (.bool (nameB lo hi s)) ∧ Below w.heap.size w w' := by
  unfold maxLen at hs
  by_cases h0 : s.size = 0
  · have hn : nameB lo hi s = false := nameB_false (fun h => by unfold NameP at h; omega)
    have e0 := toList_nil s h0
    rw [hn]; clear hn h0
    go_enter Tryz.func105, Tryz.ntmps105
    go_wp2
    go_ret
    exact ⟨rfl, (Below.refl _ _).alloc (Nat.le_refl _) _⟩
  by_cases h32 : 32 < s.size
  · have hn : nameB lo hi s = false := nameB_false (fun h => by unfold NameP at h; omega)
    have e0 := toList_ne s (by omega)
    rw [hn]; clear hn h0
    have h32' : (32 : Int) < (s.size : Int) := by omega
    go_enter Tryz.func105, Tryz.ntmps105
    go_wp2
    go_ret
    exact ⟨rfl, (Below.refl _ _).alloc (Nat.le_refl _) _⟩
  have e0 := toList_ne s (by omega)
  have h32' : ¬ ((32 : Int) < (s.size : Int)) := by omega
  go_enter Tryz.func105, Tryz.ntmps105
  go_wp2
  go_loopw [] (fun wr => ∃ pos, pos ≤ s.size ∧ wr = (w.alloc (.cells #[.func (.func K) #[] #[]] 149)).iter s pos ∧ OkTo lo hi s pos) (fun wr => s.size - wr.iterPos (w.heap.size + 1))
  case atStart => exact ⟨0, Nat.zero_le _, rfl, fun i _ h => absurd h (Nat.not_lt_zero _)⟩
  case round =>
    obtain ⟨pos, hpos, rfl, hok⟩ := hrel
    have hcell : ∀ p, ((w.alloc (.cells #[.func (.func K) #[] #[]] 149)).iter s p).cell? ⟨w.heap.size, 0, none⟩ = some (.func (.func K) #[] #[]) := fun p => by simp [World.iter, go_sem]
    have hbel : ∀ p, Below w.heap.size w ((w.alloc (.cells #[.func (.func K) #[] #[]] 149)).iter s p) := fun p => ((Below.refl _ _).alloc (Nat.le_refl _) _).alloc (by simp) _
    have hmeas : ∀ p, ((w.alloc (.cells #[.func (.func K) #[] #[]] 149)).iter s p).iterPos (w.heap.size + 1) = p := fun p => by have := World.iterPos_iter (w.alloc (.cells #[.func (.func K) #[] #[]] 149)) s p; simpa using this
    have HM : Hid (∀ p, ((w.alloc (.cells #[.func (.func K) #[] #[]] 149)).iter s p).iterPos (w.heap.size + 1) = p) := hmeas
    clear hmeas
    by_cases hp : pos < s.size
    · by_cases ha : (s[pos]'hp).toNat < 128
      · have hnx : ∀ ty, (Instr.next (.pointer (some ⟨w.heap.size + 1, 0, none⟩)) true ty).run Tryz.prog ((w.alloc (.cells #[.func (.func K) #[] #[]] 149)).iter s pos) = _ := fun ty => by have := run_next_ascii (P := Tryz.prog) (w.alloc (.cells #[.func (.func K) #[] #[]] 149)) s pos ty hp ha; simpa using this
        by_cases ht : testB lo hi pos (s[pos].toNat : Int) = true
        · have hok' : OkTo lo hi s (pos + 1) := fun i h hi' => by
            by_cases e : i = pos
            · subst e; exact ht
            · exact hok i h (by omega)
          go_wp2_with (go_at_call 123; refine (hK _ _ _ _ (hcell _)).mono ?_; rintro e w' ⟨rfl, rfl⟩)
          go_roundw
          case rel => exact ⟨pos + 1, by omega, rfl, hok'⟩
          case measure => rw [HM.out, HM.out]; omega
        · have hn : nameB lo hi s = false := nameB_false (fun h => ht (h.2.2 pos hp))
          have HN : Hid (nameB lo hi s = false) := hn
          clear hn
          have ht' : testB lo hi pos (s[pos].toNat : Int) = false := by simpa using ht
          clear ht
          go_wp2_with (go_at_call 123; refine (hK _ _ _ _ (hcell _)).mono ?_; rintro e w' ⟨rfl, rfl⟩)
          go_ret
          exact ⟨ret_bool HN.out.symm, hbel _⟩
      · have hd := (decode_high s pos hp (by omega)).1
        have hnx : ∀ ty, (Instr.next (.pointer (some ⟨w.heap.size + 1, 0, none⟩)) true ty).run Tryz.prog ((w.alloc (.cells #[.func (.func K) #[] #[]] 149)).iter s pos) = _ := fun ty => by have := run_next_any (P := Tryz.prog) (w.alloc (.cells #[.func (.func K) #[] #[]] 149)) s pos ty hp; simpa using this
        have hn : nameB lo hi s = false := nameB_false (fun h => by
          have h1 := h.2.2 pos hp
          rw [high_no lo hi hhi pos _ (by omega)] at h1
          cases h1)
        have HN : Hid (nameB lo hi s = false) := hn
        clear hn
        have ht' : testB lo hi pos ((Utf8.decode s pos).1 : Int) = false := high_no lo hi hhi pos _ (by omega)
        go_wp2_with (go_at_call 123; refine (hK _ _ _ _ (hcell _)).mono ?_; rintro e w' ⟨rfl, rfl⟩)
        go_ret
        exact ⟨ret_bool HN.out.symm, hbel _⟩
    · have hnx : ∀ ty, (Instr.next (.pointer (some ⟨w.heap.size + 1, 0, none⟩)) true ty).run Tryz.prog ((w.alloc (.cells #[.func (.func K) #[] #[]] 149)).iter s pos) = _ := fun ty => by have := run_next_end (P := Tryz.prog) (w.alloc (.cells #[.func (.func K) #[] #[]] 149)) s pos ty hp; simpa using this
      have hn : nameB lo hi s = true := nameB_true ⟨by omega, by omega, fun i h => hok i h (by omega)⟩
      have HN : Hid (nameB lo hi s = true) := hn
      clear hn
      go_wp2
      go_ret
      exact ⟨ret_bool HN.out.symm, hbel _⟩

set_option maxHeartbeats 400000 in
theorem lower_any (s : ByteArray) (w : World) (hs : s.size ≤ maxLen) :
    Calls Tryz.prog 85 #[.string s] w fun e w' => e = .returned (.bool (nameB 97 122 s)) ∧ Below w.heap.size w w' := by
  go_enter Tryz.func85, Tryz.ntmps85
  go_wp2_with (go_at_call 105; refine (named_any 106 97 122 (by omega) signs_small _ _ hs).mono ?_; rintro e w' ⟨rfl, hb⟩)
  go_ret
  exact ⟨rfl, hb⟩

set_option maxHeartbeats 400000 in
theorem upper_any (s : ByteArray) (w : World) (hs : s.size ≤ maxLen) :
    Calls Tryz.prog 87 #[.string s] w fun e w' => e = .returned (.bool (nameB 65 90 s)) ∧ Below w.heap.size w w' := by
  go_enter Tryz.func87, Tryz.ntmps87
  go_wp2_with (go_at_call 105; refine (named_any 111 65 90 (by omega) signs_capital _ _ hs).mono ?_; rintro e w' ⟨rfl, hb⟩)
  go_ret
  exact ⟨rfl, hb⟩
end Go.Proofs.YtbdfjboojokgdaaGreatDoor.Lx
namespace Go.Proofs.YtbdfjboojokgdaaGreatDoor.Lx
open Go.RowKit

theorem sign_of_range (lo hi : Int) (h : (lo = 97 ∧ hi = 122) ∨ (lo = 65 ∧ hi = 90)) (r : Int) (hr : rangeB lo hi r = true) : signB r = true := by
  unfold signB plainB rangeB at *
  rcases h with ⟨rfl, rfl⟩ | ⟨rfl, rfl⟩ <;> simp at * <;> omega

/-- All signs so far are signs of names. -/
def SignTo (s : ByteArray) (k : Nat) : Prop := ∀ i (h : i < s.size), i < k → signB (s[i].toNat : Int) = true

set_option maxHeartbeats 400000 in
theorem refname_any (lo hi : Int) (hlh : (lo = 97 ∧ hi = 122) ∨ (lo = 65 ∧ hi = 90)) (s : ByteArray) (w : World) (hs : s.size ≤ maxLen) :
    Calls Tryz.prog 99 #[.string s, .int .u8 lo, .int .u8 hi] w fun e w' => e = .returned (.bool (nameB lo hi s)) ∧ w = w' := by
  unfold maxLen at hs
  by_cases h0 : s.size = 0
  · have hn : nameB lo hi s = false := nameB_false (fun h => by unfold NameP at h; omega)
    rw [hn]; clear hn
    have h0' : ((s.size : Int) == 0) = true := by rw [h0]; rfl
    clear h0
    go_enter Tryz.func99, Tryz.ntmps99
    go_wp2
    go_ret
    exact ⟨rfl, rfl⟩
  have h0' : ((s.size : Int) == 0) = false := beq_eq_false_iff_ne.2 (by omega)
  by_cases h32 : 32 < s.size
  · have hn : nameB lo hi s = false := nameB_false (fun h => by unfold NameP at h; omega)
    rw [hn]; clear hn h0
    have h32' : (32 : Int) < (s.size : Int) := by omega
    go_enter Tryz.func99, Tryz.ntmps99
    go_wp2
    go_ret
    exact ⟨rfl, rfl⟩
  have h32' : decide ((32 : Int) < (s.size : Int)) = false := by simp; omega
  have HLH := Lib.hid hlh
  clear hlh
  go_enter Tryz.func99, Tryz.ntmps99
  go_wp2
  go_loop [7] (fun i => ∃ k : Nat, k ≤ s.size ∧ i = .int .i64 k ∧ SignTo s k) (fun i => s.size - (intOf i).toNat)
  case atStart => exact ⟨0, Nat.zero_le _, rfl, fun i _ h => absurd h (Nat.not_lt_zero _)⟩
  case round =>
    obtain ⟨k, hk, rfl, hok⟩ := hrel
    by_cases hlt : k < s.size
    · by_cases hsg : signB (s[k].toNat : Int) = true
      · have hok' : SignTo s (k + 1) := fun i h hi' => by
          by_cases e : i = k
          · subst e; exact hsg
          · exact hok i h (by omega)
        have HOK := Lib.hid hok'
        clear hok hok'
        have hcase : plainB (s[k].toNat : Int) = true ∨ (plainB (s[k].toNat : Int) = false ∧ (((s[k].toNat : Int) != 39) = false ∨ (((s[k].toNat : Int) != 39) = true ∧ ((s[k].toNat : Int) != 95) = false))) := by
          unfold signB at hsg
          simp only [Bool.or_eq_true, beq_iff_eq] at hsg
          by_cases hp : plainB (s[k].toNat : Int) = true
          · exact .inl hp
          · rcases hsg with (e | e) | e
            · exact absurd e hp
            · exact .inr ⟨by simpa using hp, .inl (by rw [e]; rfl)⟩
            · exact .inr ⟨by simpa using hp, .inr ⟨by rw [e]; rfl, by rw [e]; rfl⟩⟩
        clear hsg
        rcases hcase with hp | ⟨hp, hq | ⟨hq, hr⟩⟩
        all_goals
          go_wp2_with (go_at_call 116; refine (refplain_any _ _).mono ?_; rintro e w' ⟨rfl, rfl⟩)
          go_round
          case rel => exact ⟨k + 1, by omega, by go_num, HOK.out⟩
          case measure => simp [intOf]; omega
      · have hn : nameB lo hi s = false := nameB_false (fun h => by
          have h1 := h.2.2 k hlt
          unfold testB at h1
          split at h1
          · exact hsg (sign_of_range lo hi HLH.out _ h1)
          · exact hsg h1)
        have HN := Lib.hid hn
        have hp : plainB (s[k].toNat : Int) = false := by unfold signB at hsg; revert hsg; cases plainB (s[k].toNat : Int) <;> simp
        have hq : ((s[k].toNat : Int) != 39) = true := by unfold signB at hsg; rw [hp] at hsg; simp at hsg ⊢; omega
        have hr : ((s[k].toNat : Int) != 95) = true := by unfold signB at hsg; rw [hp] at hsg; simp at hsg ⊢; omega
        clear hn hsg hok
        go_wp2_with (go_at_call 116; refine (refplain_any _ _).mono ?_; rintro e w' ⟨rfl, rfl⟩)
        go_ret
        exact ⟨ret_bool HN.out.symm, rfl⟩
    · have hp0 : (0 : Int) < s.size := by omega
      have hp1 : 0 < s.size := by omega
      have HN : Hid (rangeB lo hi (s[0].toNat : Int) = nameB lo hi s) := by
        cases e : rangeB lo hi (s[0].toNat : Int)
        · exact (nameB_false (fun h => by have := h.2.2 0 hp1; unfold testB at this; rw [if_pos rfl, e] at this; cases this)).symm
        · refine (nameB_true ⟨hp1, by omega, fun i h => ?_⟩).symm
          unfold testB
          split
          · rename_i h9; subst h9; exact e
          · exact hok i h (by omega)
      have hd : decide (k < s.size) = false := by simpa using hlt
      clear hok
      go_wp2_with (go_at_call 117; refine (within_any _ _ _ _).mono ?_; rintro e w' ⟨rfl, rfl⟩)
      go_ret
      exact ⟨ret_bool HN.out, rfl⟩

set_option maxHeartbeats 400000 in
theorem reflower_any (s : ByteArray) (w : World) (hs : s.size ≤ maxLen) :
    Calls Tryz.prog 69 #[.string s] w fun e w' => e = .returned (.bool (nameB 97 122 s)) ∧ w = w' := by
  go_enter Tryz.func69, Tryz.ntmps69
  go_wp2_with (go_at_call 99; refine (refname_any 97 122 (.inl ⟨rfl, rfl⟩) _ _ hs).mono ?_; rintro e w' ⟨rfl, rfl⟩)
  go_ret
  exact ⟨rfl, rfl⟩
set_option maxHeartbeats 400000 in
theorem refupper_any (s : ByteArray) (w : World) (hs : s.size ≤ maxLen) :
    Calls Tryz.prog 70 #[.string s] w fun e w' => e = .returned (.bool (nameB 65 90 s)) ∧ w = w' := by
  go_enter Tryz.func70, Tryz.ntmps70
  go_wp2_with (go_at_call 99; refine (refname_any 65 90 (.inr ⟨rfl, rfl⟩) _ _ hs).mono ?_; rintro e w' ⟨rfl, rfl⟩)
  go_ret
  exact ⟨rfl, rfl⟩
end Go.Proofs.YtbdfjboojokgdaaGreatDoor.Lx
