/- The contracts of chars.Place and of the document's Line and Column. Condition: the text has fewer than 2^62 bytes. -/
import Derived.Test.YtibcclnienfchaaDoorLives
namespace Go.Proofs.YtibcclnienfchaaDoor
open Go.RowKit

def lineN (s : ByteArray) : Nat → Nat
  | 0 => 1
  | k + 1 => if ((s.data[k]!).toNat : Int) = 10 then lineN s k + 1 else lineN s k
def colN (s : ByteArray) : Nat → Nat
  | 0 => 1
  | k + 1 => if ((s.data[k]!).toNat : Int) = 10 then 1 else colN s k + 1

theorem byteBang (s : ByteArray) (j : Nat) (hj : j < s.size) : s.data[j]! = s[j] := by
  rw [getElem!_pos s.data j (by simpa using hj)]; rfl
theorem lineN_le (s : ByteArray) (k : Nat) : lineN s k ≤ k + 1 := by
  induction k with
  | zero => simp [lineN]
  | succ k ih => unfold lineN; split <;> omega
theorem colN_le (s : ByteArray) (k : Nat) : colN s k ≤ k + 1 := by
  induction k with
  | zero => simp [colN]
  | succ k ih => unfold colN; split <;> omega

theorem extract_bang (s : ByteArray) (n j : Nat) (hn : n ≤ s.size) (hj : j < n) : (s.extract 0 n).data[j]! = s.data[j]! := by
  have hs : (s.extract 0 n).size = n := by rw [ByteArray.size_extract]; omega
  rw [byteBang _ j (by omega), byteBang s j (by omega)]
  simp [ByteArray.getElem_extract]

theorem lastIdx_congr (s t : ByteArray) (c : Int) (k : Nat) (h : ∀ j, j < k → t.data[j]! = s.data[j]!) : Lib.lastIdx t c k = Lib.lastIdx s c k := by
  induction k with
  | zero => rfl
  | succ k ih => simp only [Lib.lastIdx, h k (by omega), ih (fun j hj => h j (by omega))]
theorem last_col (s : ByteArray) (k : Nat) : (k : Int) - Lib.lastIdx s 10 k = (colN s k : Int) := by
  induction k with
  | zero => simp [Lib.lastIdx, colN]
  | succ k ih =>
    unfold Lib.lastIdx colN
    by_cases h : ((s.data[k]!).toNat : Int) = 10
    · rw [if_pos h, if_pos h]; omega
    · rw [if_neg h, if_neg h]; omega
theorem col_of (s : ByteArray) (k : Nat) (hk : k ≤ s.size) : (k : Int) - Lib.lastIndexByte (s.extract 0 k) 10 = (colN s k : Int) := by
  have hs : (s.extract 0 k).size = k := by rw [ByteArray.size_extract]; omega
  unfold Lib.lastIndexByte
  rw [hs, lastIdx_congr s _ 10 k (fun j hj => extract_bang s k j hk hj)]
  exact last_col s k
theorem count_take (s : ByteArray) (k : Nat) (hk : k ≤ s.size) : 1 + (s.data.toList.take k).count 10 = lineN s k := by
  induction k with
  | zero => simp [lineN]
  | succ k ih =>
    rw [take_snoc s k (by omega), List.count_append]
    unfold lineN
    rw [byteBang s k (by omega)]
    have := ih (by omega)
    by_cases h : (s[k].toNat : Int) = 10
    · have e : s[k] = 10 := UInt8.toNat_inj.1 (by show s[k].toNat = 10; omega)
      rw [if_pos h, e]; simp; omega
    · have e : ¬ s[k] = 10 := fun e => h (by rw [e]; rfl)
      rw [if_neg h]; simp [e]; omega
theorem line_of (s : ByteArray) (k : Nat) (hk : k ≤ s.size) : 1 + (Lib.countByte (s.data.toList.take k) 10 : Int) = (lineN s k : Int) := by
  have := count_take s k hk
  unfold Lib.countByte
  omega

set_option maxHeartbeats 400000 in
theorem place_any (s : ByteArray) (at' : Int) (w : World) (hs : s.size < 4611686018427387904) (k : Nat) (hk : k ≤ s.size) (hat : (k : Int) = at' ∨ (at' < 0 ∧ k = 0) ∨ ((s.size : Int) ≤ at' ∧ k = s.size)) :
    Calls Tryd.prog 16 #[.string s, .int .i64 at'] w fun e w' => e = .returned (.tuple #[.int .i64 (lineN s k), .int .i64 (colN s k)]) ∧ w = w' := by
  have hmin : (min (max at' 0) (s.size : Int)).toNat = k := by omega
  have HL := Lib.hid (line_of s k hk)
  have HC := Lib.hid (col_of s k hk)
  have hl := lineN_le s k
  have hc := colN_le s k
  have hx : (s.extract 0 k).size = k := by rw [ByteArray.size_extract]; omega
  have hln := line_of s k hk
  have hcn := col_of s k hk
  have b1 : 0 ≤ (Lib.countByte (s.data.toList.take k) 10 : Int) := by omega
  have b2 : (Lib.countByte (s.data.toList.take k) 10 : Int) ≤ k := by omega
  have b3 : -1 ≤ Lib.lastIndexByte (s.extract 0 k) 10 := by omega
  have b4 : Lib.lastIndexByte (s.extract 0 k) 10 ≤ k := by omega
  clear hln hcn hat hl hc
  go_enter Tryd.func16, Tryd.ntmps16
  go_wp2_with (first | (go_at_call 29; refine (Tryd.strings_Count_one _ 10 _).mono ?_; rintro e w' ⟨rfl, hw⟩; subst hw) | (go_at_call 30; refine (Tryd.strings_LastIndexByte _ _ (by rw [hx]; omega) _).mono ?_; rintro e w' ⟨rfl, hw⟩; subst hw))
  go_ret2
  exact ⟨by rw [← HL.out, ← HC.out]; rfl, rfl⟩

set_option maxHeartbeats 400000 in
theorem row_walk (a0 : ByteArray) (a1 : Int) (w0 : a0.size ≤ maxLen) (h1 : -9223372036854775808 ≤ a1) (h2 : a1 ≤ 9223372036854775807) (w : World) :
    Calls Tryd.prog 8 #[.string a0, .int .i64 a1] w fun e w' => e = .returned (.bool true) ∧ Below w.heap.size w w' := by
  go_enter Tryd.func8, Tryd.ntmps8
  go_wp2_with fail
  refine (short_any a0 40 _ w0 (by omega) (by omega)).mono ?_
  rintro e w' ⟨t, ht, rfl, rfl⟩
  go_wp2_with fail
  have hsz : ((⟨#[97, 10]⟩ : ByteArray) ++ t ++ ⟨#[10, 10, 98]⟩).size = 2 + t.size + 3 := by simp [ByteArray.size_append]; rfl
  generalize ((⟨#[97, 10]⟩ : ByteArray) ++ t ++ ⟨#[10, 10, 98]⟩) = T at *
  refine (around_any a1 _ _ h1 h2 (by omega) (by omega)).mono ?_
  rintro e w' ⟨k, hk, rfl, rfl⟩
  have hk' : k < T.size := by omega
  have hT : T.size ≤ 45 := by omega
  clear hsz hk ht
  have hl0 := lineN_le T k
  have hc0 := colN_le T k
  go_wp2_with fail
  refine (place_any T _ _ (by omega) k (by omega) (Or.inl rfl)).mono ?_
  rintro e w' ⟨rfl, rfl⟩
  go_wp2_with fail
  refine (place_any T _ _ (by omega) (k + 1) (by omega) (Or.inl (by omega))).mono ?_
  rintro e w' ⟨rfl, rfl⟩
  by_cases hb : (T[k].toNat : Int) = 10
  · have hb' : ((T[k].toNat : Int) == 10) = true := by simpa using hb
    have hl : lineN T (k + 1) = lineN T k + 1 := by rw [lineN, byteBang T k hk', if_pos hb]
    have hc : colN T (k + 1) = 1 := by rw [colN, byteBang T k hk', if_pos hb]
    clear hb
    go_wp2_with (go_at_call 15; refine (lives_any _).mono ?_; rintro e w' ⟨rfl, hbl⟩)
    go_ret
    exact ⟨rfl, hbl⟩
  · have hb' : ((T[k].toNat : Int) == 10) = false := by simpa using hb
    have hl : lineN T (k + 1) = lineN T k := by rw [lineN, byteBang T k hk', if_neg hb]
    have hc : colN T (k + 1) = colN T k + 1 := by rw [colN, byteBang T k hk', if_neg hb]
    clear hb
    go_wp2_with (go_at_call 15; refine (lives_any _).mono ?_; rintro e w' ⟨rfl, hbl⟩)
    go_ret
    exact ⟨rfl, hbl⟩
end Go.Proofs.YtibcclnienfchaaDoor
