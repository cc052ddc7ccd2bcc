/- The contracts of chars.Letters and of the document's Decimal and Letters, and the walk of the law CharsLetters. Condition: the library's table of powers of ten reads as the program's text lays it. -/
import Derived.Test.YtibcclnienfchaaDoorLives
import Derived.Lib.AppendIntMem
import Derived.LaidMore
namespace Go.Proofs.YtibcclnienfchaaDoor
open Go.RowKit

/-! ### Plain mathematics -/
def lettersL (n : Nat) : List UInt8 := UInt8.ofNat (97 + n % 26) :: (if n < 26 then [] else Lib.decDigits (n / 26))

def decVal (l : List UInt8) : Nat := l.foldl (fun a c => a * 10 + (c.toNat - 48)) 0
theorem ofNat_toNat (n : Nat) (h : n < 256) : (UInt8.ofNat n).toNat = n := by simp [UInt8.toNat_ofNat']; omega
theorem decVal_dec : ∀ (f u : Nat), u < f → decVal (Lib.decDigits u) = u
  | 0, _, h => absurd h (Nat.not_lt_zero _)
  | f + 1, u, h => by
    rw [Lib.decDigits]
    by_cases h10 : u < 10
    · rw [dif_pos h10]; simp only [decVal, List.foldl_cons, List.foldl_nil]; rw [ofNat_toNat _ (by omega)]; omega
    · rw [dif_neg h10]
      unfold decVal
      rw [List.foldl_append]
      have := decVal_dec f (u / 10) (by omega)
      unfold decVal at this
      rw [this]
      simp only [List.foldl_cons, List.foldl_nil]
      rw [ofNat_toNat _ (by omega)]; omega
theorem decVal_eq (u : Nat) : decVal (Lib.decDigits u) = u := decVal_dec (u + 1) u (Nat.lt_succ_self _)
theorem dec_ne (u : Nat) : Lib.decDigits u ≠ [] := by
  intro h
  have := Lib.decDigits_length u
  have := Lib.nDigits_pos u
  rw [h] at *
  simp at *
  omega
theorem letters_inj (x y : Nat) (h : lettersL x = lettersL y) : x = y := by
  unfold lettersL at h
  rw [List.cons.injEq] at h
  obtain ⟨h1, h2⟩ := h
  have e := congrArg UInt8.toNat h1
  rw [ofNat_toNat _ (by omega), ofNat_toNat _ (by omega)] at e
  by_cases hx : x < 26 <;> by_cases hy : y < 26
  · omega
  · rw [if_pos hx, if_neg hy] at h2; exact absurd h2.symm (dec_ne _)
  · rw [if_neg hx, if_pos hy] at h2; exact absurd h2 (dec_ne _)
  · rw [if_neg hx, if_neg hy] at h2
    have := congrArg decVal h2
    rw [decVal_eq, decVal_eq] at this
    omega

theorem dec_all : ∀ (f u : Nat), u < f → ∀ c ∈ Lib.decDigits u, 48 ≤ c.toNat ∧ c.toNat ≤ 57
  | 0, _, h => absurd h (Nat.not_lt_zero _)
  | f + 1, u, h => by
    rw [Lib.decDigits]
    by_cases h10 : u < 10
    · rw [dif_pos h10]; intro c hc; simp only [List.mem_singleton] at hc; subst hc; rw [ofNat_toNat _ (by omega)]; omega
    · rw [dif_neg h10]
      intro c hc
      rw [List.mem_append] at hc
      rcases hc with hc | hc
      · exact dec_all f (u / 10) (by omega) c hc
      · simp only [List.mem_singleton] at hc; subst hc; rw [ofNat_toNat _ (by omega)]; omega
theorem nDigits_le : ∀ (k u : Nat), u < 10 ^ (k + 1) → Lib.nDigits u ≤ k + 1
  | 0, u, h => by rw [Lib.nDigits_small (by simpa using h)]; omega
  | k + 1, u, h => by
    by_cases h10 : u < 10
    · rw [Lib.nDigits_small h10]; omega
    · rw [Lib.nDigits_big h10]
      have := nDigits_le k (u / 10) (by rw [Nat.pow_succ] at h; omega)
      omega

theorem letters_len (n : Nat) (h : n < 4611686018427387904) : (lettersL n).length ≤ 20 := by
  unfold lettersL
  by_cases hx : n < 26
  · simp [hx]
  · simp only [hx, if_false, List.length_cons, Lib.decDigits_length]
    have := nDigits_le 18 (n / 26) (by omega)
    omega

theorem letters_name (n : Nat) (h : n < 4611686018427387904) : nameB 97 122 ⟨(lettersL n).toArray⟩ = true := by
  have hsz : (⟨(lettersL n).toArray⟩ : ByteArray).size = (lettersL n).length := by show (lettersL n).toArray.size = _; simp
  have hl := letters_len n h
  refine nameB_true ⟨by rw [hsz]; simp [lettersL], by omega, fun i hi => ?_⟩
  have hget : (⟨(lettersL n).toArray⟩ : ByteArray)[i] = (lettersL n)[i]'(by omega) := by
    show (lettersL n).toArray[i] = _
    simp
  rw [hget]
  unfold testB
  by_cases h0 : i = 0
  · subst h0
    rw [if_pos rfl]
    simp only [lettersL, List.getElem_cons_zero]
    rw [ofNat_toNat _ (by omega)]
    simp [rangeB]; omega
  · rw [if_neg h0]
    obtain ⟨j, rfl⟩ : ∃ j, i = j + 1 := ⟨i - 1, by omega⟩
    by_cases hx : n < 26
    · rw [hsz] at hi; simp [lettersL, hx] at hi
    · have hmem : (lettersL n)[j + 1]'(by omega) ∈ Lib.decDigits (n / 26) := by
        simp only [lettersL, List.getElem_cons_succ, hx, if_false]
        exact List.getElem_mem _
      have := dec_all (n / 26 + 1) (n / 26) (Nat.lt_succ_self _) _ hmem
      unfold signB plainB rangeB
      simp; omega

theorem alpha_fin : ∀ i : Fin 26, ((⟨#[97, 98, 99, 100, 101, 102, 103, 104, 105, 106, 107, 108, 109, 110, 111, 112, 113, 114, 115, 116, 117, 118, 119, 120, 121, 122]⟩ : ByteArray).extract i.val (i.val + 1)).data = #[UInt8.ofNat (97 + i.val)] := by decide +kernel
theorem alpha_piece (i : Nat) (h : i < 26) : (⟨#[97, 98, 99, 100, 101, 102, 103, 104, 105, 106, 107, 108, 109, 110, 111, 112, 113, 114, 115, 116, 117, 118, 119, 120, 121, 122]⟩ : ByteArray).extract i (i + 1) = ⟨#[UInt8.ofNat (97 + i)]⟩ :=
  congrArg ByteArray.mk (alpha_fin ⟨i, h⟩)

/-! ### Strings -/
theorem append_mk (a b : List UInt8) : (⟨a.toArray⟩ : ByteArray) ++ ⟨b.toArray⟩ = ⟨(a ++ b).toArray⟩ := by
  apply ByteArray.ext
  simp [ByteArray.data_append]
/-- string([]byte{x}). -/
theorem convert_one (w : World) (x : Int) (h0 : 0 ≤ x) (h1 : x < 256) :
    (convert 23 9 (.slice (some ⟨w.heap.size, 0, none⟩) 1 1)).run Tryd.prog (w.alloc (.cells #[.int .u8 x] 5)) = .ok (.string ⟨#[UInt8.ofNat x.toNat]⟩) (w.alloc (.cells #[.int .u8 x] 5)) := by
  have hx : (((UInt8.ofNat x.toNat).toNat : Nat) : Int) = x := by rw [ofNat_toNat _ (by omega)]; omega
  refine run_convert_bytes_back (w.alloc (.cells #[.int .u8 x] 5)) 23 9 5 ⟨w.heap.size, 0, none⟩ 1 [UInt8.ofNat x.toNat] Tryd.underlying23 Tryd.underlying5 Tryd.underlying9 fun j hj => ?_
  obtain rfl : j = 0 := by simpa using hj
  simp only [List.getElem_cons_zero]
  rw [hx]
  simp [Addr.add, go_sem]

theorem itoa_nat (n k : Nat) : Lib.itoa ((n : Int) / (k : Int)) = Lib.decDigits (n / k) := by
  have : ((n : Int) / (k : Int)) = ((n / k : Nat) : Int) := by simp
  rw [this]
  unfold Lib.itoa
  rw [if_neg (by have := Int.natCast_nonneg (n / k); omega)]
  rfl

set_option maxHeartbeats 400000 in
theorem letters_any (n : Nat) (h : n < 4611686018427387904) (w : World) (htab : Lib.TabIs Tryd.prog w "internal/strconv.uint64pow10" .u64 Lib.pow10Tab) :
    Calls Tryd.prog 23 #[.int .i64 n] w fun e w' => e = .returned (.string ⟨(lettersL n).toArray⟩) ∧ Below w.heap.size w w' := by
  have HT := Lib.hid htab
  clear htab
  have hal := alpha_piece (n % 26) (by omega)
  by_cases hx : n < 26
  · have h0 : ((n : Int) / 26 == 0) = true := by simp; omega
    have HE : Hid (lettersL n = [UInt8.ofNat (97 + n % 26)]) := by unfold lettersL; rw [if_pos hx]; exact rfl
    generalize UInt8.ofNat (97 + n % 26) = c at *
    go_enter Tryd.func23, Tryd.ntmps23
    go_wp2
    go_ret
    exact ⟨by rw [HE.out]; first | rfl | (simp only [hal]; rfl), Below.refl _ _⟩
  · have h0 : ((n : Int) / 26 == 0) = false := by simp; omega
    have HE : Hid (lettersL n = [UInt8.ofNat (97 + n % 26)] ++ Lib.decDigits (n / 26)) := by unfold lettersL; rw [if_neg hx]; exact rfl
    have hD : (Lib.decDigits (n / 26)).length ≤ 19 := by
      rw [Lib.decDigits_length]; exact nDigits_le 18 (n / 26) (by omega)
    generalize UInt8.ofNat (97 + n % 26) = c at *
    go_enter Tryd.func23, Tryd.ntmps23
    go_wp2_with fail
    refine (Tryd.strconv_Itoa _ (by omega) (by omega) _ HT.out).mono ?_
    rintro e w1 ⟨rfl, hw⟩
    have hb : Below w.heap.size w w1 := by obtain ⟨k, os, rfl⟩ := hw; exact Lib.below_grow _ _ (Nat.le_refl _) _ _
    clear hw
    rw [show Lib.itoa ((n : Int) / 26) = Lib.decDigits (n / 26) from itoa_nat n 26]
    generalize Lib.decDigits (n / 26) = D at *
    go_wp2
    go_ret
    refine ⟨?_, hb⟩
    rw [HE.out, ← append_mk]
    rfl

set_option maxHeartbeats 400000 in
theorem decimal_any : ∀ (f n : Nat), n < f → n < 4611686018427387904 → ∀ (w : World), 
    Calls Tryd.prog 35 #[.int .i64 n] w fun e w' => e = .returned (.string ⟨(Lib.decDigits n).toArray⟩) ∧ Below w.heap.size w w'
  | 0, _, h, _, _ => absurd h (Nat.not_lt_zero _)
  | f + 1, n, hf, h, w => by
    have IH := Lib.hid (decimal_any f)
    have hcv := convert_one w (48 + (n : Int) % 10) (by omega) (by omega)
    have hof : (48 + (n : Int) % 10).toNat = 48 + n % 10 := by omega
    rw [hof] at hcv
    clear hof
    by_cases h10 : n < 10
    · have b1 : decide ((n : Int) < 10) = true := by simp; omega
      have HE : Hid (Lib.decDigits n = [UInt8.ofNat (48 + n % 10)]) := by rw [Lib.decDigits, dif_pos h10, Nat.mod_eq_of_lt h10]; exact rfl
      generalize UInt8.ofNat (48 + n % 10) = c at *
      go_enter Tryd.func35, Tryd.ntmps35
      go_wp2
      go_ret
      exact ⟨by rw [HE.out]; rfl, (Below.refl _ _).alloc (Nat.le_refl _) _⟩
    · have b1 : decide ((n : Int) < 10) = false := by simp; omega
      have HE : Hid (Lib.decDigits n = Lib.decDigits (n / 10) ++ [UInt8.ofNat (48 + n % 10)]) := by rw [Lib.decDigits, dif_neg h10]; exact rfl
      have hD : (Lib.decDigits (n / 10)).length ≤ 19 := by
        rw [Lib.decDigits_length]; exact nDigits_le 18 (n / 10) (by omega)
      generalize UInt8.ofNat (48 + n % 10) = c at *
      go_enter Tryd.func35, Tryd.ntmps35
      go_wp2_with fail
      rw [show ((n : Int) / 10) = ((n / 10 : Nat) : Int) by simp]
      refine (IH.out (n / 10) (by omega) (by omega) _).mono ?_
      rintro e w1 ⟨rfl, hb⟩
      generalize Lib.decDigits (n / 10) = D at *
      go_wp2
      go_ret
      refine ⟨?_, ((Below.refl _ _).alloc (Nat.le_refl _) _).trans (hb.mono (by simp))⟩
      rw [HE.out, ← append_mk]
      rfl

set_option maxHeartbeats 400000 in
theorem refletters_any (n : Nat) (h : n < 4611686018427387904) (w : World) :
    Calls Tryd.prog 24 #[.int .i64 n] w fun e w' => e = .returned (.string ⟨(lettersL n).toArray⟩) ∧ Below w.heap.size w w' := by
  have hcv := convert_one w (97 + (n : Int) % 26) (by omega) (by omega)
  have hof : (97 + (n : Int) % 26).toNat = 97 + n % 26 := by omega
  rw [hof] at hcv
  clear hof
  by_cases hx : n < 26
  · have h0 : decide ((n : Int) < 26) = true := by simp; omega
    have HE : Hid (lettersL n = [UInt8.ofNat (97 + n % 26)]) := by unfold lettersL; rw [if_pos hx]; exact rfl
    generalize UInt8.ofNat (97 + n % 26) = c at *
    go_enter Tryd.func24, Tryd.ntmps24
    go_wp2
    go_ret
    exact ⟨by rw [HE.out]; rfl, (Below.refl _ _).alloc (Nat.le_refl _) _⟩
  · have h0 : decide ((n : Int) < 26) = false := by simp; omega
    have HE : Hid (lettersL n = [UInt8.ofNat (97 + n % 26)] ++ Lib.decDigits (n / 26)) := by unfold lettersL; rw [if_neg hx]; exact rfl
    have hD : (Lib.decDigits (n / 26)).length ≤ 19 := by
      rw [Lib.decDigits_length]; exact nDigits_le 18 (n / 26) (by omega)
    generalize UInt8.ofNat (97 + n % 26) = c at *
    go_enter Tryd.func24, Tryd.ntmps24
    go_wp2_with fail
    rw [show ((n : Int) / 26) = ((n / 26 : Nat) : Int) by simp]
    refine (decimal_any (n / 26 + 1) (n / 26) (Nat.lt_succ_self _) (by omega) _).mono ?_
    rintro e w1 ⟨rfl, hb⟩
    generalize Lib.decDigits (n / 26) = D at *
    go_wp2
    go_ret
    refine ⟨?_, ((Below.refl _ _).alloc (Nat.le_refl _) _).trans (hb.mono (by simp))⟩
    rw [HE.out, ← append_mk]
    rfl

/-- What the card's condition gives: the table of powers of ten. -/
theorem pow10_of_laid {W : World} (h : laidMetH Tryd.prog Rows.charsLettersRow.laid W) : Lib.TabIs Tryd.prog W "internal/strconv.uint64pow10" .u64 Lib.pow10Tab := by
  rw [MakeChecks.laidMetH_plain _ _ _ (by kernel_rfl)] at h
  have h' : laidMet Tryd.prog [("math/bits.deBruijn32tab", Rows.laid_math_bits_deBruijn32tab), ("math/bits.deBruijn64tab", Rows.laid_math_bits_deBruijn64tab), ("internal/strconv.uint64pow10", Lib.tabData .u64 Lib.pow10Tab)] W := h
  obtain ⟨ps, ⟨_, _, _, _, _, _, _, _, _, _, ⟨_, _, _, _, _, _, _, _, _, _, ⟨g', t', cs, fuel, p, q, hg', ht', hvar, hd, _, _⟩, _⟩, _⟩, _⟩ := h'
  clear h
  have hg : Tryd.prog.globalNamed "internal/strconv.uint64pow10" = some 1 := by kernel_rfl
  have hty : (Tryd.prog.globals[1]?).map (·.type) = some 68 := by kernel_rfl
  obtain rfl := Option.some.inj (hg.symm.trans hg')
  obtain rfl := Option.some.inj (hty.symm.trans ht')
  have hc := Lib.cells_of_tab Tryd.underlying68 Tryd.underlying59 (by kernel_rfl) (by kernel_rfl) hd
  unfold Lib.TabIs
  rw [hvar, ← hc]

/-- The table reads on so, whatever the calls make. -/
theorem tab_on {w w' : World} (h : Lib.TabIs Tryd.prog w "internal/strconv.uint64pow10" .u64 Lib.pow10Tab) (hb : Below w.heap.size w w') : Lib.TabIs Tryd.prog w' "internal/strconv.uint64pow10" .u64 Lib.pow10Tab :=
  Lib.tabBelow_of_tabIs h w' hb

set_option maxHeartbeats 1000000 in
theorem letters_walk (a0 a1 : Int) (h1 : -9223372036854775808 ≤ a0) (h2 : a0 ≤ 9223372036854775807) (h3 : -9223372036854775808 ≤ a1) (h4 : a1 ≤ 9223372036854775807) (w : World) (htab : Lib.TabIs Tryd.prog w "internal/strconv.uint64pow10" .u64 Lib.pow10Tab) :
    Calls Tryd.prog 7 #[.int .i64 a0, .int .i64 a1] w fun e w' => e = .returned (.bool true) ∧ Below w.heap.size w w' := by
  have HT := Lib.hid htab
  clear htab
  go_enter Tryd.func7, Tryd.ntmps7
  go_wp2_with fail
  refine (around_any a0 _ _ h1 h2 (by omega) (by omega)).mono ?_
  rintro e w' ⟨x, hx, rfl, rfl⟩
  go_wp2_with fail
  refine (around_any a1 _ _ h3 h4 (by omega) (by omega)).mono ?_
  rintro e w' ⟨y, hy, rfl, rfl⟩
  go_wp2_with fail
  refine (around_any a0 _ _ h1 h2 (by omega) (by omega)).mono ?_
  rintro e w' ⟨z, hz, rfl, rfl⟩
  go_wp2_with fail
  refine (around_any a1 _ _ h3 h4 (by omega) (by omega)).mono ?_
  rintro e w' ⟨u, hu, rfl, rfl⟩
  have hx' : x < 4611686018427387904 := by omega
  have hy' : y < 4611686018427387904 := by omega
  have hz' : z < 4611686018427387904 := by omega
  have hu' : u < 4611686018427387904 := by omega
  clear hx hy hz hu h1 h2 h3 h4
  go_wp2_with fail
  refine (letters_any x hx' _ HT.out).mono ?_
  rintro e w1 ⟨rfl, hb1⟩
  have B1 := hb1
  go_wp2_with fail
  refine (refletters_any x hx' _).mono ?_
  rintro e w2 ⟨rfl, hb2⟩
  have B2 := B1.trans (hb2.mono B1.size)
  clear hb1 hb2 B1
  go_wp2_with fail
  refine (letters_any z hz' _ (tab_on HT.out B2)).mono ?_
  rintro e w3 ⟨rfl, hb3⟩
  have B3 := B2.trans (hb3.mono B2.size)
  clear hb3 B2
  go_wp2_with fail
  refine (refletters_any z hz' _).mono ?_
  rintro e w4 ⟨rfl, hb4⟩
  have B4 := B3.trans (hb4.mono B3.size)
  clear hb4 B3
  go_wp2_with fail
  refine (letters_any x hx' _ (tab_on HT.out B4)).mono ?_
  rintro e w5 ⟨rfl, hb5⟩
  have B5 := B4.trans (hb5.mono B4.size)
  clear hb5 B4
  have hnm := letters_name x hx'
  have hsz : (⟨(lettersL x).toArray⟩ : ByteArray).size ≤ maxLen := by
    show (lettersL x).toArray.size ≤ maxLen
    have := letters_len x hx'
    simp [maxLen]; omega
  go_wp2_with fail
  refine (lower_any _ _ hsz).mono ?_
  rintro e w6 ⟨rfl, hb6⟩
  have B6 := B5.trans (hb6.mono B5.size)
  clear hb6 B5 hsz
  go_wp2_with fail
  refine (letters_any x hx' _ (tab_on HT.out B6)).mono ?_
  rintro e w7 ⟨rfl, hb7⟩
  have B7 := B6.trans (hb7.mono B6.size)
  clear hb7 B6 hnm
  go_wp2_with fail
  refine (letters_any y hy' _ (tab_on HT.out B7)).mono ?_
  rintro e w8 ⟨rfl, hb8⟩
  have B8 := B7.trans (hb8.mono B7.size)
  clear hb8 B7
  have e1 : (lettersL x == lettersL y) = ((x : Int) == (y : Int)) := by
    by_cases e : x = y
    · subst e; simp
    · rw [beq_eq_false_iff_ne.2 (fun h => e (letters_inj _ _ h)), beq_eq_false_iff_ne.2 (by omega)]
  have e2 : (lettersL z == lettersL u) = ((z : Int) == (u : Int)) := by
    by_cases e : z = u
    · subst e; simp
    · rw [beq_eq_false_iff_ne.2 (fun h => e (letters_inj _ _ h)), beq_eq_false_iff_ne.2 (by omega)]
  generalize lettersL x = X at *
  generalize lettersL y = Y at *
  go_wp2_with fail
  refine (letters_any z hz' _ (tab_on HT.out B8)).mono ?_
  rintro e w9 ⟨rfl, hb9⟩
  have B9 := B8.trans (hb9.mono B8.size)
  clear hb9 B8
  go_wp2_with fail
  refine (letters_any u hu' _ (tab_on HT.out B9)).mono ?_
  rintro e w10 ⟨rfl, hb10⟩
  have B10 := B9.trans (hb10.mono B9.size)
  clear hb10 B9
  go_wp2_with (go_at_call 15; refine (lives_any _).mono ?_; rintro e w' ⟨rfl, hbl⟩)
  go_ret
  exact ⟨rfl, B10.trans (hbl.mono B10.size)⟩

theorem letters_walk_laid (a0 a1 : Int) (h1 : -9223372036854775808 ≤ a0) (h2 : a0 ≤ 9223372036854775807) (h3 : -9223372036854775808 ≤ a1) (h4 : a1 ≤ 9223372036854775807) (w : World) (hL : laidMetH Tryd.prog Rows.charsLettersRow.laid w) :
    Calls Tryd.prog 7 #[.int .i64 a0, .int .i64 a1] w fun e w' => e = .returned (.bool true) ∧ Below w.heap.size w w' :=
  letters_walk a0 a1 h1 h2 h3 h4 w (pow10_of_laid hL)
end Go.Proofs.YtibcclnienfchaaDoor
