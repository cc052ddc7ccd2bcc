/- The contracts of the small functions that the laws of stage 1 call: signs, ranges, cuts. No conditions but those that each theorem names. Plain mathematics of chapter 2: what a source's tokens are. No program, no world. The contracts of slices.Backward at types, and of what it hands back, for every body of a loop. No conditions but those that each theorem names. -/
import Derived.Test.YtbdfjboojokgdaaDoorProg
import Derived.WalkKit
import Derived.WalkSpells
import Derived.WalkLawsBesides
import Derived.Lib.Strings
import Derived.RangeFuncNested
import Derived.RangeFuncBound
import Derived.RangeFuncCalls
import Derived.RangeFuncLeaves
import Derived.RangeFuncBox
import Derived.Shelf.Abstract
import Derived.Shelf.RegionOpen
import Derived.OwnWalkIn
import Derived.TacticsInMore
import Derived.LoopNIn
import Derived.LoopIn

namespace Go.Proofs.YtbdfjboojokgdaaDoor.Lx
open Go.RowKit

def rangeB (lo hi r : Int) : Bool := decide (lo ≤ r) && decide (r ≤ hi)
def plainB (r : Int) : Bool := rangeB 97 122 r || rangeB 65 90 r || rangeB 48 57 r
def signB (r : Int) : Bool := plainB r || r == 39 || r == 95

theorem ret_bool {a b : Bool} (h : a = b) : Ending.returned (.bool a) = .returned (.bool b) := by rw [h]

set_option maxHeartbeats 400000 in
theorem small_any (r : Int) (w : World) :
    Calls Tryd.prog 146 #[.int .i32 r] w fun e w' => e = .returned (.bool (rangeB 97 122 r)) ∧ w = w' := by
  go_enter Tryd.func146, Tryd.ntmps146
  go_wp2
  all_goals go_ret
  all_goals exact ⟨ret_bool (by simp [rangeB]; omega), rfl⟩

set_option maxHeartbeats 400000 in
theorem capital_any (r : Int) (w : World) :
    Calls Tryd.prog 151 #[.int .i32 r] w fun e w' => e = .returned (.bool (rangeB 65 90 r)) ∧ w = w' := by
  go_enter Tryd.func151, Tryd.ntmps151
  go_wp2
  all_goals go_ret
  all_goals exact ⟨ret_bool (by simp [rangeB]; omega), rfl⟩

set_option maxHeartbeats 400000 in
theorem within_any (c lo hi : Int) (w : World) :
    Calls Tryd.prog 165 #[.int .u8 c, .int .u8 lo, .int .u8 hi] w fun e w' => e = .returned (.bool (rangeB lo hi c)) ∧ w = w' := by
  go_enter Tryd.func165, Tryd.ntmps165
  go_wp2
  all_goals go_ret
  all_goals exact ⟨ret_bool (by simp [rangeB]; omega), rfl⟩

set_option maxHeartbeats 400000 in
theorem plain_any (r : Int) (w : World) :
    Calls Tryd.prog 161 #[.int .i32 r] w fun e w' => e = .returned (.bool (plainB r)) ∧ w = w' := by
  go_enter Tryd.func161, Tryd.ntmps161
  go_wp2_with (first | (go_at_call 146; refine (small_any _ _).mono ?_; rintro e w' ⟨rfl, rfl⟩) | (go_at_call 151; refine (capital_any _ _).mono ?_; rintro e w' ⟨rfl, rfl⟩))
  all_goals go_ret
  all_goals exact ⟨ret_bool (by simp_all [plainB, rangeB]; try omega), rfl⟩

set_option maxHeartbeats 400000 in
theorem refplain_any (r : Int) (w : World) :
    Calls Tryd.prog 164 #[.int .u8 r] w fun e w' => e = .returned (.bool (plainB r)) ∧ w = w' := by
  go_enter Tryd.func164, Tryd.ntmps164
  go_wp2_with (go_at_call 165; refine (within_any _ _ _ _).mono ?_; rintro e w' ⟨rfl, rfl⟩)
  all_goals go_ret
  all_goals exact ⟨ret_bool (by simp_all [plainB, rangeB]; try omega), rfl⟩

/-- The call returned some number below m, and left the world as it was. -/
def SomeBelow (m : Int) (w : World) (e : Ending) (w' : World) : Prop := ∃ k : Nat, (k : Int) < m ∧ e = .returned (.int .i64 k) ∧ w = w'
/-- The call returned some text of at most m bytes, and left the world as it was. -/
def SomeShort (m : Int) (w : World) (e : Ending) (w' : World) : Prop := ∃ t : ByteArray, (t.size : Int) ≤ m ∧ e = .returned (.string t) ∧ w = w'

theorem someBelow_of {m n : Int} {w : World} (h0 : 0 ≤ n) (h : n < m) : SomeBelow m w (.returned (.int .i64 n)) w := by
  obtain ⟨k, rfl⟩ := Int.eq_ofNat_of_zero_le h0
  exact ⟨k, h, rfl, rfl⟩

set_option maxHeartbeats 400000 in
theorem around_any (n m : Int) (w : World) (h1 : -9223372036854775808 ≤ n) (h2 : n ≤ 9223372036854775807) (hm : 0 < m) (hm' : m ≤ 9223372036854775807) :
    Calls Tryd.prog 36 #[.int .i64 n, .int .i64 m] w (SomeBelow m w) := by
  go_enter Tryd.func36, Tryd.ntmps36
  go_wp2
  · go_ret
    refine someBelow_of (n := -(n + 1).tmod m) ?_ ?_
    · have h := Int.tmod_nonneg (a := -(n + 1)) m (by omega)
      rw [Int.neg_tmod] at h
      exact h
    · have h := Int.tmod_lt_of_pos (-(n + 1)) hm
      rw [Int.neg_tmod] at h
      exact h
  · go_ret
    exact someBelow_of (n := n % m) (Int.emod_nonneg _ (by omega)) (Int.emod_lt_of_pos _ hm)

/-- What a name asks of the sign at place i: the first lies in the range, the others are signs of names. -/
def testB (lo hi : Int) (i : Nat) (r : Int) : Bool := if i = 0 then rangeB lo hi r else signB r
def NameP (lo hi : Int) (s : ByteArray) : Prop := 0 < s.size ∧ s.size ≤ 32 ∧ ∀ i (h : i < s.size), testB lo hi i (s[i].toNat : Int) = true
instance (lo hi : Int) (s : ByteArray) : Decidable (NameP lo hi s) := by unfold NameP; infer_instance
def nameB (lo hi : Int) (s : ByteArray) : Bool := decide (NameP lo hi s)
theorem nameB_true {lo hi : Int} {s : ByteArray} (h : NameP lo hi s) : nameB lo hi s = true := by unfold nameB; exact decide_eq_true h
theorem nameB_false {lo hi : Int} {s : ByteArray} (h : ¬ NameP lo hi s) : nameB lo hi s = false := by unfold nameB; exact decide_eq_false h

theorem width_pos (s : ByteArray) (pos : Nat) (h : pos < s.size) : 1 ≤ (Utf8.decode s pos).2 := by
  by_cases ha : (s[pos]'h).toNat < 128
  · rw [decode_ascii s pos h ha]
    exact Nat.le_refl _
  · exact (decode_high s pos h (by omega)).2

theorem high_no (lo hi : Int) (hh : hi < 128) (i : Nat) (r : Int) (h : 128 ≤ r) : testB lo hi i r = false := by
  unfold testB signB plainB rangeB
  split <;> simp <;> omega

/-- The closure that asks one sign: at place 0 by the function that it holds, else whether it is a sign of names. -/
def Signs (K : Nat) (lo hi : Int) : Prop := ∀ (i : Nat) (r : Int) (b : Nat) (w : World), w.cell? ⟨b, 0, none⟩ = some (.func (.func K) #[] #[]) →
    Calls Tryd.prog 160 #[.int .i64 i, .int .i32 r, .pointer (some ⟨b, 0, none⟩)] w fun e w' => e = .returned (.bool (testB lo hi i r)) ∧ w = w'

set_option maxHeartbeats 400000 in
theorem signs_small : Signs 146 97 122 := by
  intro i r b w hc
  by_cases hi : i = 0
  · subst hi
    go_enter Tryd.func160, Tryd.ntmps160
    go_wp2_with (go_at_call 146; refine (small_any _ _).mono ?_; rintro e w' ⟨rfl, rfl⟩)
    go_ret
    exact ⟨ret_bool (by simp [testB]), rfl⟩
  · have hb : ((i : Int) == 0) = false := by simp; omega
    go_enter Tryd.func160, Tryd.ntmps160
    go_wp2_with (go_at_call 161; refine (plain_any _ _).mono ?_; rintro e w' ⟨rfl, rfl⟩)
    all_goals go_ret
    all_goals exact ⟨ret_bool (by simp_all [testB, signB]), rfl⟩

set_option maxHeartbeats 400000 in
theorem signs_capital : Signs 151 65 90 := by
  intro i r b w hc
  by_cases hi : i = 0
  · subst hi
    go_enter Tryd.func160, Tryd.ntmps160
    go_wp2_with (go_at_call 151; refine (capital_any _ _).mono ?_; rintro e w' ⟨rfl, rfl⟩)
    go_ret
    exact ⟨ret_bool (by simp [testB]), rfl⟩
  · have hb : ((i : Int) == 0) = false := by simp; omega
    go_enter Tryd.func160, Tryd.ntmps160
    go_wp2_with (go_at_call 161; refine (plain_any _ _).mono ?_; rintro e w' ⟨rfl, rfl⟩)
    all_goals go_ret
    all_goals exact ⟨ret_bool (by simp_all [testB, signB]), rfl⟩

theorem toList_nil (s : ByteArray) (h : s.size = 0) : s.toList = [] := by
  rw [Lib.toList_data]; exact List.eq_nil_of_length_eq_zero (by rw [← Lib.size_eq]; exact h)
theorem toList_ne (s : ByteArray) (h : 0 < s.size) : s.toList.isEmpty = false := by
  rw [Lib.toList_data]
  cases e : s.data.toList with
  | nil => rw [Lib.size_eq, e] at h; simp at h
  | cons a l => rfl

def OkTo (lo hi : Int) (s : ByteArray) (pos : Nat) : Prop := ∀ i (h : i < s.size), i < pos → testB lo hi i (s[i].toNat : Int) = true

set_option maxHeartbeats 400000 in
theorem named_any (K : Nat) (lo hi : Int) (hhi : hi < 128) (hK : Signs K lo hi) (s : ByteArray) (w : World) (hs : s.size ≤ maxLen) :
    Calls Tryd.prog 145 #[.string s, .func (.func K) #[] #[]] w fun e w' => e = .returned (.bool (nameB lo hi s)) ∧ Below w.heap.size w w' := by
  unfold maxLen at hs
  by_cases h0 : s.size = 0
  · have hn : nameB lo hi s = false := nameB_false (fun h => by unfold NameP at h; omega)
    have e0 := toList_nil s h0
    rw [hn]; clear hn h0
    go_enter Tryd.func145, Tryd.ntmps145
    go_wp2
    go_ret
    exact ⟨rfl, (Below.refl _ _).alloc (Nat.le_refl _) _⟩
  by_cases h32 : 32 < s.size
  · have hn : nameB lo hi s = false := nameB_false (fun h => by unfold NameP at h; omega)
    have e0 := toList_ne s (by omega)
    rw [hn]; clear hn h0
    have h32' : (32 : Int) < (s.size : Int) := by omega
    go_enter Tryd.func145, Tryd.ntmps145
    go_wp2
    go_ret
    exact ⟨rfl, (Below.refl _ _).alloc (Nat.le_refl _) _⟩
  have e0 := toList_ne s (by omega)
  have h32' : ¬ ((32 : Int) < (s.size : Int)) := by omega
  go_enter Tryd.func145, Tryd.ntmps145
  go_wp2
  go_loopw [] (fun wr => ∃ pos, pos ≤ s.size ∧ wr = (w.alloc (.cells #[.func (.func K) #[] #[]] 188)).iter s pos ∧ OkTo lo hi s pos) (fun wr => s.size - wr.iterPos (w.heap.size + 1))
  case atStart => exact ⟨0, Nat.zero_le _, rfl, fun i _ h => absurd h (Nat.not_lt_zero _)⟩
  case round =>
    obtain ⟨pos, hpos, rfl, hok⟩ := hrel
    have hcell : ∀ p, ((w.alloc (.cells #[.func (.func K) #[] #[]] 188)).iter s p).cell? ⟨w.heap.size, 0, none⟩ = some (.func (.func K) #[] #[]) := fun p => by simp [World.iter, go_sem]
    have hbel : ∀ p, Below w.heap.size w ((w.alloc (.cells #[.func (.func K) #[] #[]] 188)).iter s p) := fun p => ((Below.refl _ _).alloc (Nat.le_refl _) _).alloc (by simp) _
    have hmeas : ∀ p, ((w.alloc (.cells #[.func (.func K) #[] #[]] 188)).iter s p).iterPos (w.heap.size + 1) = p := fun p => by have := World.iterPos_iter (w.alloc (.cells #[.func (.func K) #[] #[]] 188)) s p; simpa using this
    have HM : Hid (∀ p, ((w.alloc (.cells #[.func (.func K) #[] #[]] 188)).iter s p).iterPos (w.heap.size + 1) = p) := hmeas
    clear hmeas
    by_cases hp : pos < s.size
    · by_cases ha : (s[pos]'hp).toNat < 128
      · have hnx : ∀ ty, (Instr.next (.pointer (some ⟨w.heap.size + 1, 0, none⟩)) true ty).run Tryd.prog ((w.alloc (.cells #[.func (.func K) #[] #[]] 188)).iter s pos) = _ := fun ty => by have := run_next_ascii (P := Tryd.prog) (w.alloc (.cells #[.func (.func K) #[] #[]] 188)) s pos ty hp ha; simpa using this
        by_cases ht : testB lo hi pos (s[pos].toNat : Int) = true
        · have hok' : OkTo lo hi s (pos + 1) := fun i h hi' => by
            by_cases e : i = pos
            · subst e; exact ht
            · exact hok i h (by omega)
          go_wp2_with (go_at_call 160; refine (hK _ _ _ _ (hcell _)).mono ?_; rintro e w' ⟨rfl, rfl⟩)
          go_roundw
          case rel => exact ⟨pos + 1, by omega, rfl, hok'⟩
          case measure => rw [HM.out, HM.out]; omega
        · have hn : nameB lo hi s = false := nameB_false (fun h => ht (h.2.2 pos hp))
          have HN : Hid (nameB lo hi s = false) := hn
          clear hn
          have ht' : testB lo hi pos (s[pos].toNat : Int) = false := by simpa using ht
          clear ht
          go_wp2_with (go_at_call 160; refine (hK _ _ _ _ (hcell _)).mono ?_; rintro e w' ⟨rfl, rfl⟩)
          go_ret
          exact ⟨ret_bool HN.out.symm, hbel _⟩
      · have hd := (decode_high s pos hp (by omega)).1
        have hnx : ∀ ty, (Instr.next (.pointer (some ⟨w.heap.size + 1, 0, none⟩)) true ty).run Tryd.prog ((w.alloc (.cells #[.func (.func K) #[] #[]] 188)).iter s pos) = _ := fun ty => by have := run_next_any (P := Tryd.prog) (w.alloc (.cells #[.func (.func K) #[] #[]] 188)) s pos ty hp; simpa using this
        have hn : nameB lo hi s = false := nameB_false (fun h => by
          have h1 := h.2.2 pos hp
          rw [high_no lo hi hhi pos _ (by omega)] at h1
          cases h1)
        have HN : Hid (nameB lo hi s = false) := hn
        clear hn
        have ht' : testB lo hi pos ((Utf8.decode s pos).1 : Int) = false := high_no lo hi hhi pos _ (by omega)
        go_wp2_with (go_at_call 160; refine (hK _ _ _ _ (hcell _)).mono ?_; rintro e w' ⟨rfl, rfl⟩)
        go_ret
        exact ⟨ret_bool HN.out.symm, hbel _⟩
    · have hnx : ∀ ty, (Instr.next (.pointer (some ⟨w.heap.size + 1, 0, none⟩)) true ty).run Tryd.prog ((w.alloc (.cells #[.func (.func K) #[] #[]] 188)).iter s pos) = _ := fun ty => by have := run_next_end (P := Tryd.prog) (w.alloc (.cells #[.func (.func K) #[] #[]] 188)) s pos ty hp; simpa using this
      have hn : nameB lo hi s = true := nameB_true ⟨by omega, by omega, fun i h => hok i h (by omega)⟩
      have HN : Hid (nameB lo hi s = true) := hn
      clear hn
      go_wp2
      go_ret
      exact ⟨ret_bool HN.out.symm, hbel _⟩

set_option maxHeartbeats 400000 in
theorem lower_any (s : ByteArray) (w : World) (hs : s.size ≤ maxLen) :
    Calls Tryd.prog 116 #[.string s] w fun e w' => e = .returned (.bool (nameB 97 122 s)) ∧ Below w.heap.size w w' := by
  go_enter Tryd.func116, Tryd.ntmps116
  go_wp2_with (go_at_call 145; refine (named_any 146 97 122 (by omega) signs_small _ _ hs).mono ?_; rintro e w' ⟨rfl, hb⟩)
  go_ret
  exact ⟨rfl, hb⟩

set_option maxHeartbeats 400000 in
theorem upper_any (s : ByteArray) (w : World) (hs : s.size ≤ maxLen) :
    Calls Tryd.prog 118 #[.string s] w fun e w' => e = .returned (.bool (nameB 65 90 s)) ∧ Below w.heap.size w w' := by
  go_enter Tryd.func118, Tryd.ntmps118
  go_wp2_with (go_at_call 145; refine (named_any 151 65 90 (by omega) signs_capital _ _ hs).mono ?_; rintro e w' ⟨rfl, hb⟩)
  go_ret
  exact ⟨rfl, hb⟩
end Go.Proofs.YtbdfjboojokgdaaDoor.Lx
namespace Go.Proofs.YtbdfjboojokgdaaDoor.Lx

def digB (c : UInt8) : Bool := rangeB 48 57 (c.toNat : Int)
def sgnB (c : UInt8) : Bool := signB (c.toNat : Int)
/-- How many bytes of blanks a text begins with: one, or a remark's. -/
def blankN : List UInt8 → Nat
  | [] => 0
  | a :: r => if a = 32 ∨ a = 9 ∨ a = 10 then 1 else
      match r with
      | [] => 0
      | b :: q => if a = 45 ∧ b = 45 then 2 + (q.takeWhile (fun c => c != 10)).length else 0
structure Tok where
  kind : Nat
  text : List UInt8
  num : Nat
  place : Nat
def numV (l : List UInt8) : Nat := l.foldl (fun k c => k * 10 + (c.toNat - 48)) 0
def keysL : List (List UInt8) := [[99, 97, 115, 101], [99, 108, 97, 115, 115], [100, 97, 116, 97], [105, 110], [105, 110, 115, 116, 97, 110, 99, 101], [108, 101, 116], [111, 102]]
def symsL : List (List UInt8) := [[45, 62], [61, 62], [92], [61], [124], [40], [41], [123], [125], [59], [58], [44], [95]]
def symL (l : List UInt8) : List UInt8 := (symsL.find? (fun p => p.isPrefixOf l)).getD []
/-- The token with which a text begins: its kind, text and number; or the error. -/
def oneT (l : List UInt8) : Except Nat (Nat × List UInt8 × Nat) :=
  match l with
  | [] => .error 10
  | c :: _ =>
    if digB c then (if 2147483647 < numV (l.takeWhile digB) then .error 11 else .ok (3, l.takeWhile digB, numV (l.takeWhile digB)))
    else if rangeB 97 122 (c.toNat : Int) || rangeB 65 90 (c.toNat : Int) then
      (if 32 < (l.takeWhile sgnB).length then .error 2
      else if rangeB 65 90 (c.toNat : Int) then .ok (2, l.takeWhile sgnB, 0)
      else if l.takeWhile sgnB ∈ keysL then .ok (5, l.takeWhile sgnB, 0) else .ok (1, l.takeWhile sgnB, 0))
    else if symL l = [] then .error 10 else .ok (4, symL l, 0)
def lexF : Nat → List UInt8 → Nat → Except (Nat × Nat) (List Tok)
  | 0, _, i => .ok [⟨6, [], 0, i⟩]
  | f + 1, l, i => if l = [] then .ok [⟨6, [], 0, i⟩]
    else if 0 < blankN l then lexF f (l.drop (blankN l)) (i + blankN l)
    else match oneT l with
      | .error e => .error (e, i)
      | .ok (k, x, n) => (lexF f (l.drop x.length) (i + x.length)).map (fun r => ⟨k, x, n, i⟩ :: r)
def lexL (l : List UInt8) : Except (Nat × Nat) (List Tok) := if 4000 < l.length then .error (2, 0) else lexF l.length l 0

/-! ### Sizes -/
theorem tw_le (p : UInt8 → Bool) (l : List UInt8) : (l.takeWhile p).length ≤ l.length := (List.takeWhile_prefix p).length_le
theorem blankN_le (l : List UInt8) : blankN l ≤ l.length := by
  unfold blankN
  match l with
  | [] => simp
  | [a] => simp; split <;> simp
  | a :: b :: q =>
    have := tw_le (fun c : UInt8 => c != 10) q
    simp only [List.length_cons]
    split
    · omega
    · split <;> omega
theorem symL_cases (l : List UInt8) : symL l = [] ∨ (symL l ∈ symsL ∧ symL l <+: l) := by
  unfold symL
  cases h : symsL.find? (fun p => p.isPrefixOf l) with
  | none => exact .inl rfl
  | some x =>
    right
    exact ⟨List.mem_of_find?_eq_some h, List.isPrefixOf_iff_prefix.1 (by have := List.find?_some h; simpa using this)⟩
theorem symL_pos {l : List UInt8} (h : symL l ≠ []) : 0 < (symL l).length := List.length_pos_iff.2 h
theorem symL_le (l : List UInt8) : (symL l).length ≤ l.length := by
  rcases symL_cases l with h | ⟨_, h⟩
  · rw [h]; simp
  · exact h.length_le
theorem takeWhile_pos {p : UInt8 → Bool} {c : UInt8} {r : List UInt8} (h : p c = true) : 0 < ((c :: r).takeWhile p).length := by simp [h]
theorem sgn_of_letter {c : UInt8} (h : (rangeB 97 122 (c.toNat : Int) || rangeB 65 90 (c.toNat : Int)) = true) : sgnB c = true := by
  unfold sgnB signB plainB
  revert h
  cases rangeB 97 122 (c.toNat : Int) <;> cases rangeB 65 90 (c.toNat : Int) <;> simp
theorem oneT_len {l : List UInt8} {k n : Nat} {x : List UInt8} (h : oneT l = .ok (k, x, n)) : 1 ≤ x.length ∧ x.length ≤ l.length := by
  unfold oneT at h
  match l, h with
  | c :: r, h =>
    simp only at h
    by_cases hd : digB c = true
    · rw [if_pos hd] at h
      split at h
      · cases h
      · cases h; exact ⟨takeWhile_pos hd, tw_le _ _⟩
    · rw [if_neg hd] at h
      by_cases hl : (rangeB 97 122 (c.toNat : Int) || rangeB 65 90 (c.toNat : Int)) = true
      · rw [if_pos hl] at h
        have hp : 0 < ((c :: r).takeWhile sgnB).length := takeWhile_pos (sgn_of_letter hl)
        have hq : ((c :: r).takeWhile sgnB).length ≤ (c :: r).length := tw_le _ _
        split at h
        · cases h
        · split at h
          · cases h; exact ⟨hp, hq⟩
          · split at h <;> cases h <;> exact ⟨hp, hq⟩
      · rw [if_neg hl] at h
        split at h
        · cases h
        · rename_i h9; cases h; exact ⟨symL_pos h9, symL_le _⟩

theorem lexF_more : ∀ (f g : Nat) (l : List UInt8) (i : Nat), l.length ≤ f → l.length ≤ g → lexF f l i = lexF g l i
  | f, g, [], i, _, _ => by cases f <;> cases g <;> simp [lexF]
  | 0, _, a :: l, _, h, _ => by simp at h
  | f + 1, 0, a :: l, _, _, h => by simp at h
  | f + 1, g + 1, a :: l, i, hf, hg => by
    simp only [lexF, reduceCtorEq, if_false]
    by_cases hb : 0 < blankN (a :: l)
    · rw [if_pos hb, if_pos hb]
      exact lexF_more f g _ _ (by simp at *; omega) (by simp at *; omega)
    · rw [if_neg hb, if_neg hb]
      cases h : oneT (a :: l) with
      | error e => rfl
      | ok x =>
        obtain ⟨k, x, n⟩ := x
        have := oneT_len h
        simp only
        rw [lexF_more f g ((a :: l).drop x.length) _ (by simp at *; omega) (by simp at *; omega)]

/-! ### What a loop that goes through a source knows -/
def LexInv (l : List UInt8) (out : List Tok) (i : Nat) : Prop :=
  i ≤ l.length ∧ out.length ≤ i ∧ lexF l.length l 0 = (lexF (l.length - i) (l.drop i) i).map (fun r => out ++ r)
theorem except_map_id {ε α : Type} (x : Except ε α) (f : α → α) (h : ∀ a, f a = a) : x.map f = x := by
  cases x with
  | error e => rfl
  | ok a => show Except.ok (f a) = _; rw [h]
theorem except_map_map {ε α β γ : Type} (x : Except ε α) (f : α → β) (g : β → γ) : (x.map f).map g = x.map (fun a => g (f a)) := by cases x <;> rfl
theorem lexInv_start (l : List UInt8) : LexInv l [] 0 := ⟨Nat.zero_le _, Nat.le_refl _, (except_map_id _ _ (fun _ => rfl)).symm⟩
theorem drop_ne {l : List UInt8} {i : Nat} (h : i < l.length) : l.drop i ≠ [] := by
  intro e; have := congrArg List.length e; simp at this; omega
theorem lexInv_end {l : List UInt8} {out : List Tok} {i : Nat} (h : LexInv l out i) (hi : ¬ i < l.length) : lexF l.length l 0 = .ok (out ++ [⟨6, [], 0, l.length⟩]) := by
  have hil : i = l.length := by have := h.1; omega
  rw [h.2.2, hil]
  simp [lexF, Except.map]
theorem lexF_step {l : List UInt8} {i : Nat} (hi : i < l.length) : lexF (l.length - i) (l.drop i) i =
    if 0 < blankN (l.drop i) then lexF (l.length - (i + blankN (l.drop i))) (l.drop (i + blankN (l.drop i))) (i + blankN (l.drop i))
    else match oneT (l.drop i) with
      | .error e => .error (e, i)
      | .ok (k, x, n) => (lexF (l.length - (i + x.length)) (l.drop (i + x.length)) (i + x.length)).map (fun r => ⟨k, x, n, i⟩ :: r) := by
  obtain ⟨g, hg⟩ : ∃ g, l.length - i = g + 1 := ⟨l.length - i - 1, by omega⟩
  rw [hg]
  simp only [lexF, drop_ne hi, if_false]
  by_cases hb : 0 < blankN (l.drop i)
  · rw [if_pos hb, if_pos hb, List.drop_drop]
    have := blankN_le (l.drop i)
    rw [List.length_drop] at this
    exact lexF_more _ _ _ _ (by simp; omega) (by simp)
  · rw [if_neg hb, if_neg hb]
    cases h : oneT (l.drop i) with
    | error e => rfl
    | ok x =>
      obtain ⟨k, x, n⟩ := x
      have := oneT_len h
      rw [List.length_drop] at this
      simp only [List.drop_drop]
      rw [lexF_more g (l.length - (i + x.length)) _ _ (by simp; omega) (by simp)]
theorem lexInv_blank {l : List UInt8} {out : List Tok} {i : Nat} (h : LexInv l out i) (hi : i < l.length) (hb : 0 < blankN (l.drop i)) : LexInv l out (i + blankN (l.drop i)) := by
  have hl := blankN_le (l.drop i)
  rw [List.length_drop] at hl
  refine ⟨by omega, by have := h.2.1; omega, ?_⟩
  rw [h.2.2, lexF_step hi, if_pos hb]
theorem lexInv_err {l : List UInt8} {out : List Tok} {i e : Nat} (h : LexInv l out i) (hi : i < l.length) (hb : ¬ 0 < blankN (l.drop i)) (ho : oneT (l.drop i) = .error e) : lexF l.length l 0 = .error (e, i) := by
  rw [h.2.2, lexF_step hi, if_neg hb, ho]
  rfl
theorem lexInv_tok {l : List UInt8} {out : List Tok} {i k n : Nat} {x : List UInt8} (h : LexInv l out i) (hi : i < l.length) (hb : ¬ 0 < blankN (l.drop i)) (ho : oneT (l.drop i) = .ok (k, x, n)) : LexInv l (out ++ [⟨k, x, n, i⟩]) (i + x.length) := by
  have hl := oneT_len ho
  rw [List.length_drop] at hl
  refine ⟨by omega, by have := h.2.1; simp; omega, ?_⟩
  rw [h.2.2, lexF_step hi, if_neg hb, ho]
  simp only [except_map_map]
  congr 1
  funext r
  simp

/-! ### Walks through a text -/
theorem tw_step (p : UInt8 → Bool) : ∀ (L : List UInt8) (j : Nat), j ≤ (L.takeWhile p).length → ∀ (hj : j < L.length), p L[j] = true → j + 1 ≤ (L.takeWhile p).length
  | [], _, _, hj, _ => absurd hj (Nat.not_lt_zero _)
  | a :: r, j, h, hj, hp => by
    by_cases ha : p a = true
    · simp only [List.takeWhile_cons, ha, if_true, List.length_cons] at h ⊢
      cases j with
      | zero => omega
      | succ i => have := tw_step p r i (by omega) (by simpa using hj) (by simpa using hp); omega
    · simp only [List.takeWhile_cons, ha] at h
      obtain rfl : j = 0 := by simpa using h
      exact absurd hp ha
theorem tw_stop (p : UInt8 → Bool) : ∀ (L : List UInt8) (j : Nat), j ≤ (L.takeWhile p).length → ∀ (hj : j < L.length), p L[j] = false → (L.takeWhile p).length = j
  | [], _, _, hj, _ => absurd hj (Nat.not_lt_zero _)
  | a :: r, j, h, hj, hp => by
    by_cases ha : p a = true
    · simp only [List.takeWhile_cons, ha, if_true, List.length_cons] at h ⊢
      cases j with
      | zero => simp at hp; rw [hp] at ha; cases ha
      | succ i => have := tw_stop p r i (by omega) (by simpa using hj) (by simpa using hp); omega
    · simp only [List.takeWhile_cons, ha] at h ⊢
      obtain rfl : j = 0 := by simpa using h
      rfl
theorem tw_end (p : UInt8 → Bool) (L : List UInt8) (j : Nat) (h : j ≤ (L.takeWhile p).length) (hj : ¬ j < L.length) : (L.takeWhile p).length = j := by
  have := tw_le p L; omega
theorem tw_take (p : UInt8 → Bool) (L : List UInt8) : L.take (L.takeWhile p).length = L.takeWhile p := by
  have := List.takeWhile_prefix p (l := L)
  exact (List.prefix_iff_eq_take.1 this).symm
end Go.Proofs.YtbdfjboojokgdaaDoor.Lx
namespace Go.Proofs.YtbdfjboojokgdaaDoor
open Go.RowKit Go.Shelf
attribute [local go_sem] Oper.semAt_some

/-- The numbers that have come behind so many rounds: from the last on. -/
def dn (len k : Nat) : List Nat := (List.range k).map (fun j => len - 1 - j)
theorem dn_succ (len k : Nat) : dn len (k + 1) = dn len k ++ [len - 1 - k] := by simp [dn, List.range_succ]
theorem dn_length (len k : Nat) : (dn len k).length = k := by simp [dn]
/-- What a round keeps: all below a number, and one box. -/
def KB (n₀ Bs : Nat) (W W' : World) : Prop := Below n₀ W W' ∧ W'.heap[Bs]? = W.heap[Bs]?
theorem KB.refl (n₀ Bs : Nat) (W : World) : KB n₀ Bs W W := ⟨Below.refl _ _, rfl⟩
theorem KB.trans {n₀ Bs : Nat} {A B C : World} (h : KB n₀ Bs A B) (k : KB n₀ Bs B C) : KB n₀ Bs A C := ⟨h.1.trans k.1, k.2.trans h.2⟩
theorem KB.b {n₀ Bs : Nat} {w : World} (hn : n₀ ≤ w.heap.size) (hB : Bs < w.heap.size) (W : World) (l : Nat) (o o' : Obj) (hl : w.heap.size ≤ l) (h : W.heap[l]? = some o) (h1 : o.isCells = false) (h2 : o.isWalk = false) : KB n₀ Bs W (W.putObj l o') :=
  ⟨belowK_b hn W l o o' hl h h1 h2, World.putObj_heap_other (by omega)⟩
/-- Five functions that tell the four cells of each. -/
structure Row4 where
  f : Nat → Int
  n : Nat → Int
  s : Nat → ByteArray
  A : Nat → Option Addr
  l : Nat → Nat
  c : Nat → Nat
def Row4.val (r : Row4) (k : Nat) : Value := .agg #[.int .i64 (r.f k), .int .i64 (r.n k), .string (r.s k), .slice (r.A k) (r.l k) (r.c k)]
def Row4.cells (r : Row4) (W : World) (b off len : Nat) : Prop := ∀ j, j < len → W.cell? ⟨b, off + j * 4, none⟩ = some (.int .i64 (r.f j)) ∧ W.cell? ⟨b, off + j * 4 + 1, none⟩ = some (.int .i64 (r.n j)) ∧ W.cell? ⟨b, off + j * 4 + 2, none⟩ = some (.string (r.s j)) ∧ W.cell? ⟨b, off + j * 4 + 3, none⟩ = some (.slice (r.A j) (r.l j) (r.c j))
set_option maxRecDepth 100000 in
set_option maxHeartbeats 1000000 in
theorem back1_in (F : Fence) (n : Nat) (h70 : F.fn 134) (hro : F.round = none) (hn : 1 ≤ n) (l Bs n₀ b off len cap : Nat) (A : Option Addr) (r : Row4) (hreach : len ≤ 1099511627776) (hb : 0 < len → b < n₀) (hA : len = 0 ∨ A = some ⟨b, off, none⟩) (J Jx : List Nat → World → Prop)
    (hY : ∀ (pre : List Nat) (x : Nat) (W : World), J pre W → pre.length < len → YieldAt F (n - 1) Tryd.prog l #[.int .i64 (x : Int), r.val x] W fun e W' =>
      (e = .returned (.bool true) ∧ J (pre ++ [x]) W' ∧ KB n₀ Bs W W') ∨ (e = .returned (.bool false) ∧ Jx (pre ++ [x]) W'))
    (W : World) (hBs : W.cell? ⟨Bs, 0, none⟩ = some (.slice A len cap)) (hc : r.cells W b off len) (h0 : J [] W) :
    CallsIn F n Tryd.prog 134 #[.func (.yield l) #[] #[], .pointer (some ⟨Bs, 0, none⟩)] W fun e W' => (∃ v, e = .returned v) ∧
      ((∃ ys, ys = dn len len ∧ J ys W') ∨ (∃ pre, (∃ k, k ≤ len ∧ pre = dn len k) ∧ Jx pre W')) := by
  refine callsIn_of_wp Tryd.func134 rfl h70 ?_ hro
  simp only [Tryd.ntmps134, List.size_toArray, List.length_cons, List.length_nil, Nat.reduceAdd, Nat.reduceSub, Array.replicate_succ, Array.replicate_zero, List.push_toArray, List.append_toArray, List.nil_append, List.cons_append]
  gi_wp2
  gi_loopw [3] (fun i wr => ∃ k : Nat, k ≤ len ∧ i = .int .i64 ((len : Int) - 1 - k) ∧ J (dn len k) wr ∧ KB n₀ Bs W wr)
    (fun i _ => (intOf i + 1).toNat)
  case atStart => exact ⟨0, Nat.zero_le _, by simp, h0, KB.refl _ _ _⟩
  case round =>
    obtain ⟨k, hk, rfl, hJs, hnx⟩ := hrel
    have hbs' := (World.cell?_of_block (a := ⟨Bs, 0, none⟩) hnx.2).trans hBs
    by_cases hlt : k < len
    · obtain ⟨m, hm, hm2⟩ : ∃ m : Nat, (len : Int) - 1 - k = m ∧ len - 1 - k = m := ⟨len - 1 - k, by omega, rfl⟩
      have hml : m < len := by omega
      obtain rfl : A = some ⟨b, off, none⟩ := by rcases hA with h | h; omega; exact h
      obtain ⟨c0, c1, c2, c3⟩ := hc m hml
      have c0' := (hnx.1.cell (p := ⟨b, off + m * 4, none⟩) (hb (by omega))).trans c0
      have c1' := (hnx.1.cell (p := ⟨b, off + m * 4 + 1, none⟩) (hb (by omega))).trans c1
      have c2' := (hnx.1.cell (p := ⟨b, off + m * 4 + 2, none⟩) (hb (by omega))).trans c2
      have c3' := (hnx.1.cell (p := ⟨b, off + m * 4 + 3, none⟩) (hb (by omega))).trans c3
      obtain ⟨fn, tmps, assign, body, hy, hR⟩ := hY _ m wr hJs (by rw [dn_length]; exact hlt)
      unfold Row4.val at hy
      rw [hm]
      have hm0 : (0 : Int) ≤ (m : Int) := by omega
      have hmi : (m : Int) < (len : Int) := by omega
      gi_wp2
      refine hR.mono ?_
      rintro e W3 (⟨rfl, hJ3, hk3⟩ | ⟨rfl, hJx3⟩)
      · gi_wp2
        go_roundw
        case rel => exact ⟨k + 1, by omega, by congr 1; omega, by rw [dn_succ, hm2]; exact hJ3, hnx.trans hk3⟩
        case measure => simp [intOf]
      · gi_wp2
        refine bodyPost_ret (results_none rfl _ _ _) rfl ?_
        exact ⟨⟨_, rfl⟩, .inr ⟨_, ⟨k + 1, by omega, by rw [dn_succ, hm2]⟩, hJx3⟩⟩
    · obtain rfl : k = len := by omega
      have e1 : (k : Int) - 1 - k = -1 := by omega
      rw [e1]
      gi_wp2
      go_end0
      exact ⟨⟨_, rfl⟩, .inl ⟨_, rfl, hJs⟩⟩
set_option maxHeartbeats 1000000 in
theorem back_in (F : Fence) (n : Nat) (h44 : F.fn 102) (hro : F.round = none) (v : Value) (w : World) (hv : ∃ A len cap, v = .slice A len cap) :
    CallsIn F n Tryd.prog 102 #[v] w fun e w' => e = .returned (.func (.func 134) #[] #[.pointer (some ⟨w.heap.size, 0, none⟩)]) ∧ w' = w.alloc (.cells #[v] 23) := by
  obtain ⟨A, len, cap, rfl⟩ := hv
  refine callsIn_of_wp Tryd.func102 rfl h44 ?_ hro
  simp only [Tryd.ntmps102, List.size_toArray, List.length_cons, List.length_nil, Nat.reduceAdd, Nat.reduceSub, Array.replicate_succ, Array.replicate_zero, List.push_toArray, List.append_toArray, List.nil_append, List.cons_append]
  gi_wp2
  go_ret
  exact ⟨rfl, rfl⟩
theorem back_stops (F : Fence) (n : Nat) (h70 : F.fn 134) (hro : F.round = none) (hn : 1 ≤ n) (Bs n₀ b off len cap : Nat) (A : Option Addr) (r : Row4) (w : World) (hreach : len ≤ 1099511627776) (hb : 0 < len → b < n₀) (hA : len = 0 ∨ A = some ⟨b, off, none⟩) (hBs : Bs < w.heap.size) (hn₀ : n₀ ≤ w.heap.size)
    (hc : w.cell? ⟨Bs, 0, none⟩ = some (.slice A len cap)) (hr : r.cells w b off len) :
    SeqStopsK F n Tryd.prog 134 #[.pointer (some ⟨Bs, 0, none⟩)] (fun x : Nat => #[Value.int .i64 (x : Int), r.val x]) (KB n₀ Bs) (fun ys => ys = dn len len) (fun pre => ∃ k, k ≤ len ∧ pre = dn len k) len w := fun l J Jx W hW _ _ hY h0 =>
  back1_in F n h70 hro hn l Bs n₀ b off len cap A r hreach hb hA J Jx hY W ((hW.cell (p := ⟨Bs, 0, none⟩) hBs).trans hc) (fun j hj => by
    obtain ⟨c0, c1, c2, c3⟩ := hr j hj
    have hbw : b < w.heap.size := by have := hb (by omega); omega
    exact ⟨(hW.cell (p := ⟨b, _, none⟩) hbw).trans c0, (hW.cell (p := ⟨b, _, none⟩) hbw).trans c1, (hW.cell (p := ⟨b, _, none⟩) hbw).trans c2, (hW.cell (p := ⟨b, _, none⟩) hbw).trans c3⟩) h0
end Go.Proofs.YtbdfjboojokgdaaDoor
