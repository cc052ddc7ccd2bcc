/- The contract of the program's first (lex). Conditions: the text is not empty, and has at most 2^40 bytes; the list of symbols stands in memory as the program's text lays it. -/
import Derived.Test.YtcjojfclgbjapaaDoorCodeC
namespace Go.Proofs.YtcjojfclgbjapaaDoor
open Go.RowKit

theorem oneV_form (r : Except Nat (Nat × List UInt8 × Nat)) : ∃ (k n e : Int) (x : ByteArray), oneV r = .tuple #[.agg #[.int .i64 k, .string x, .int .i64 n, .int .i64 0], .int .i64 e] := by
  cases r with
  | error e => exact ⟨0, 0, e, _, rfl⟩
  | ok y => obtain ⟨k, x, n⟩ := y; exact ⟨k, n, 0, ⟨x.toArray⟩, rfl⟩

theorem keys_low : ∀ x ∈ keysL, ∃ c r, x = c :: r ∧ rangeB 65 90 ((c : UInt8).toNat : Int) = false := by
  intro x hx
  simp only [keysL, List.mem_cons, List.not_mem_nil, or_false] at hx
  rcases hx with rfl | rfl | rfl | rfl | rfl | rfl | rfl
  all_goals exact ⟨_, _, rfl, by decide⟩

theorem dig_not_letter {c : UInt8} (h : (rangeB 97 122 (c.toNat : Int) || rangeB 65 90 (c.toNat : Int)) = true) : digB c = false := by
  unfold digB rangeB at *
  simp at h ⊢
  omega
theorem low_not_up {c : UInt8} (h : rangeB 97 122 (c.toNat : Int) = true) : rangeB 65 90 (c.toNat : Int) = false := by
  unfold rangeB at *
  simp at h ⊢
  omega

theorem nameR_low {c : UInt8} {r : List UInt8} (h : rangeB 97 122 (c.toNat : Int) = true) : nameR 1 (c :: r) = oneV (oneT (c :: r)) := by
  have hd := dig_not_letter (c := c) (by rw [h]; rfl)
  have hu := low_not_up h
  unfold nameR oneT
  simp only [hd, hu, h, Bool.false_eq_true, if_false, Bool.or_false, if_true]
theorem nameR_up {c : UInt8} {r : List UInt8} (h : rangeB 65 90 (c.toNat : Int) = true) : nameR 2 (c :: r) = oneV (oneT (c :: r)) := by
  have hl : (rangeB 97 122 (c.toNat : Int) || rangeB 65 90 (c.toNat : Int)) = true := by rw [h]; simp
  have hd := dig_not_letter hl
  have hno : (c :: r).takeWhile sgnB ∉ keysL := by
    intro hm
    obtain ⟨c', r', e, hc⟩ := keys_low _ hm
    have hs := sgn_of_letter hl
    simp only [List.takeWhile_cons, hs, if_true, List.cons.injEq] at e
    rw [e.1, hc] at h
    cases h
  unfold nameR oneT
  simp only [hd, h, Bool.or_true, Bool.false_eq_true, if_false, if_true, hno]
theorem numR_dig {c : UInt8} {r : List UInt8} (h : digB c = true) : numR (c :: r) = oneV (oneT (c :: r)) := by
  unfold numR oneT
  simp only [h, if_true]
theorem symV_sym {c : UInt8} {r : List UInt8} (hd : digB c = false) (hl : (rangeB 97 122 (c.toNat : Int) || rangeB 65 90 (c.toNat : Int)) = false) : symV (c :: r) = oneV (oneT (c :: r)) := by
  unfold symV oneT
  simp only [hd, hl, Bool.false_eq_true, if_false]
  split <;> rfl

set_option maxRecDepth 100000 in
set_option maxHeartbeats 1000000 in
theorem first_any (s : ByteArray) (w : World) (hs : 0 < s.size) (hm : s.size ≤ 1099511627776) (hS : Texts 0 symsL w) (h0 : 0 < w.heap.size) :
    Calls Tryd.prog 29 #[.string s] w fun e w' => e = .returned (oneV (oneT s.data.toList)) ∧ Below w.heap.size w w' := by
  have hp0 : (0 : Int) < s.size := by omega
  obtain ⟨r, hr⟩ := head_of s hs
  have hx1 : (s.extract 0 1).size ≤ maxLen := by rw [ByteArray.size_extract]; unfold maxLen; omega
  have n1 := name_one 97 122 s hs
  have n2 := name_one 65 90 s hs
  have HS := Lib.hid hS
  clear hS
  obtain ⟨rk, rn, re, rx, hv⟩ := oneV_form (oneT s.data.toList)
  have HV := Lib.hid hv
  clear hv
  by_cases hlo : rangeB 97 122 (s[0].toNat : Int) = true
  · have HN : Hid (nameR 1 s.data.toList = .tuple #[.agg #[.int .i64 rk, .string rx, .int .i64 rn, .int .i64 0], .int .i64 re]) := by show _ = _; rw [← HV.out, hr]; exact nameR_low hlo
    have hsg : sgnB s[0] = true := sgn_of_letter (by rw [hlo]; rfl)
    have N1 : Hid (nameB 97 122 (s.extract 0 1) = true) := by show _ = _; rw [n1, hlo]
    have HSG := Lib.hid hsg
    clear hr n1 n2 hlo hsg
    go_enter Tryd.func29, Tryd.ntmps29
    go_wp2_with fail
    refine (lower_any _ _ hx1).mono ?_
    rintro e w1 ⟨rfl, b1⟩
    rw [N1.out]
    have HB1 : Hid (Below (w.heap.size + 1) (w.alloc (.cells #[.int .i64 0, .string ⟨#[]⟩, .int .i64 0, .int .i64 0] 41)) w1) := by simpa [Hid] using b1
    clear b1
    go_wp2_with fail
    refine (name_any s 1 _ hs hm HSG.out).mono ?_
    rintro e w2 ⟨rfl, b2⟩
    rw [HN.out]
    have HB2 : Hid (Below (w.heap.size + 1) (w.alloc (.cells #[.int .i64 0, .string ⟨#[]⟩, .int .i64 0, .int .i64 0] 41)) w2) := HB1.out.trans (b2.mono (by have := HB1.out.size; simpa using this))
    obtain ⟨cc, cf, cz⟩ := four_old HB2.out
    clear b2
    go_wp2
    exact bodyPost_ret (v := .tuple #[.agg #[.int .i64 rk, .string rx, .int .i64 rn, .int .i64 0], .int .i64 re]) (by simp [results, Tryd.results29, go_sem, cc]) rfl ⟨by rw [HV.out], ((((four_new_below HB2.out).setCell (Nat.le_refl _) _).setCell (Nat.le_refl _) _).setCell (Nat.le_refl _) _).setCell (Nat.le_refl _) _⟩
  have hlo' : rangeB 97 122 (s[0].toNat : Int) = false := by simpa using hlo
  have N1 : Hid (nameB 97 122 (s.extract 0 1) = false) := by show _ = _; rw [n1, hlo']
  by_cases hup : rangeB 65 90 (s[0].toNat : Int) = true
  · have HN : Hid (nameR 2 s.data.toList = .tuple #[.agg #[.int .i64 rk, .string rx, .int .i64 rn, .int .i64 0], .int .i64 re]) := by show _ = _; rw [← HV.out, hr]; exact nameR_up hup
    have hsg : sgnB s[0] = true := sgn_of_letter (by rw [hup]; simp)
    have N2 : Hid (nameB 65 90 (s.extract 0 1) = true) := by show _ = _; rw [n2, hup]
    have HSG := Lib.hid hsg
    clear hr n1 n2 hlo hsg hlo' hup
    go_enter Tryd.func29, Tryd.ntmps29
    go_wp2_with fail
    refine (lower_any _ _ hx1).mono ?_
    rintro e w1 ⟨rfl, b1⟩
    rw [N1.out]
    have HB1 : Hid (Below (w.heap.size + 1) (w.alloc (.cells #[.int .i64 0, .string ⟨#[]⟩, .int .i64 0, .int .i64 0] 41)) w1) := by simpa [Hid] using b1
    clear b1
    go_wp2_with fail
    refine (upper_any _ _ hx1).mono ?_
    rintro e w3 ⟨rfl, b1⟩
    rw [N2.out]
    have HB3 : Hid (Below (w.heap.size + 1) (w.alloc (.cells #[.int .i64 0, .string ⟨#[]⟩, .int .i64 0, .int .i64 0] 41)) w3) := HB1.out.trans (b1.mono (by have := HB1.out.size; simpa using this))
    clear b1
    go_wp2_with fail
    refine (name_any s 2 _ hs hm HSG.out).mono ?_
    rintro e w2 ⟨rfl, b2⟩
    rw [HN.out]
    have HB2 : Hid (Below (w.heap.size + 1) (w.alloc (.cells #[.int .i64 0, .string ⟨#[]⟩, .int .i64 0, .int .i64 0] 41)) w2) := HB3.out.trans (b2.mono (by have := HB3.out.size; simpa using this))
    obtain ⟨cc, cf, cz⟩ := four_old HB2.out
    clear b2
    go_wp2
    exact bodyPost_ret (v := .tuple #[.agg #[.int .i64 rk, .string rx, .int .i64 rn, .int .i64 0], .int .i64 re]) (by simp [results, Tryd.results29, go_sem, cc]) rfl ⟨by rw [HV.out], ((((four_new_below HB2.out).setCell (Nat.le_refl _) _).setCell (Nat.le_refl _) _).setCell (Nat.le_refl _) _).setCell (Nat.le_refl _) _⟩
  have hup' : rangeB 65 90 (s[0].toNat : Int) = false := by simpa using hup
  have N2 : Hid (nameB 65 90 (s.extract 0 1) = false) := by show _ = _; rw [n2, hup']
  by_cases hd : digB s[0] = true
  · have HN : Hid (numR s.data.toList = .tuple #[.agg #[.int .i64 rk, .string rx, .int .i64 rn, .int .i64 0], .int .i64 re]) := by show _ = _; rw [← HV.out, hr]; exact numR_dig hd
    have hd' : rangeB 48 57 (s[0].toNat : Int) = true := hd
    clear hr n1 n2 hlo hlo' hup hup' hd
    go_enter Tryd.func29, Tryd.ntmps29
    go_wp2_with fail
    refine (lower_any _ _ hx1).mono ?_
    rintro e w1 ⟨rfl, b1⟩
    rw [N1.out]
    have HB1 : Hid (Below (w.heap.size + 1) (w.alloc (.cells #[.int .i64 0, .string ⟨#[]⟩, .int .i64 0, .int .i64 0] 41)) w1) := by simpa [Hid] using b1
    clear b1
    go_wp2_with fail
    refine (upper_any _ _ hx1).mono ?_
    rintro e w3 ⟨rfl, b1⟩
    rw [N2.out]
    have HB3 : Hid (Below (w.heap.size + 1) (w.alloc (.cells #[.int .i64 0, .string ⟨#[]⟩, .int .i64 0, .int .i64 0] 41)) w3) := HB1.out.trans (b1.mono (by have := HB1.out.size; simpa using this))
    clear b1
    go_wp2_with fail
    refine (digit_any _ _).mono ?_
    rintro e w' ⟨rfl, rfl⟩
    go_wp2_with fail
    refine (number_any s _ hm).mono ?_
    rintro e w2 ⟨rfl, b2⟩
    rw [HN.out]
    have HB2 : Hid (Below (w.heap.size + 1) (w.alloc (.cells #[.int .i64 0, .string ⟨#[]⟩, .int .i64 0, .int .i64 0] 41)) w2) := HB3.out.trans (b2.mono (by have := HB3.out.size; simpa using this))
    obtain ⟨cc, cf, cz⟩ := four_old HB2.out
    clear b2
    go_wp2
    exact bodyPost_ret (v := .tuple #[.agg #[.int .i64 rk, .string rx, .int .i64 rn, .int .i64 0], .int .i64 re]) (by simp [results, Tryd.results29, go_sem, cc]) rfl ⟨by rw [HV.out], ((((four_new_below HB2.out).setCell (Nat.le_refl _) _).setCell (Nat.le_refl _) _).setCell (Nat.le_refl _) _).setCell (Nat.le_refl _) _⟩
  · have hdf : digB s[0] = false := by simpa using hd
    have HN : Hid (symV s.data.toList = .tuple #[.agg #[.int .i64 rk, .string rx, .int .i64 rn, .int .i64 0], .int .i64 re]) := by show _ = _; rw [← HV.out, hr]; exact symV_sym hdf (by rw [hlo', hup']; rfl)
    have hd' : rangeB 48 57 (s[0].toNat : Int) = false := hdf
    clear hr n1 n2 hlo hlo' hup hup' hd hdf
    go_enter Tryd.func29, Tryd.ntmps29
    go_wp2_with fail
    refine (lower_any _ _ hx1).mono ?_
    rintro e w1 ⟨rfl, b1⟩
    rw [N1.out]
    have HB1 : Hid (Below (w.heap.size + 1) (w.alloc (.cells #[.int .i64 0, .string ⟨#[]⟩, .int .i64 0, .int .i64 0] 41)) w1) := by simpa [Hid] using b1
    clear b1
    go_wp2_with fail
    refine (upper_any _ _ hx1).mono ?_
    rintro e w3 ⟨rfl, b1⟩
    rw [N2.out]
    have HB3 : Hid (Below (w.heap.size + 1) (w.alloc (.cells #[.int .i64 0, .string ⟨#[]⟩, .int .i64 0, .int .i64 0] 41)) w3) := HB1.out.trans (b1.mono (by have := HB1.out.size; simpa using this))
    clear b1
    go_wp2_with fail
    refine (digit_any _ _).mono ?_
    rintro e w' ⟨rfl, rfl⟩
    go_wp2_with fail
    have hz3 : 0 < w3.heap.size := by have := HB3.out.size; simp at this; omega
    refine (symbol_any s w3 (HS.out.below (four_new_below HB3.out) h0) hz3).mono ?_
    rintro e w2 ⟨rfl, b2⟩
    rw [HN.out]
    have HB2 : Hid (Below (w.heap.size + 1) (w.alloc (.cells #[.int .i64 0, .string ⟨#[]⟩, .int .i64 0, .int .i64 0] 41)) w2) := HB3.out.trans (b2.mono (by have := HB3.out.size; simpa using this))
    obtain ⟨cc, cf, cz⟩ := four_old HB2.out
    clear b2
    go_wp2
    exact bodyPost_ret (v := .tuple #[.agg #[.int .i64 rk, .string rx, .int .i64 rn, .int .i64 0], .int .i64 re]) (by simp [results, Tryd.results29, go_sem, cc]) rfl ⟨by rw [HV.out], ((((four_new_below HB2.out).setCell (Nat.le_refl _) _).setCell (Nat.le_refl _) _).setCell (Nat.le_refl _) _).setCell (Nat.le_refl _) _⟩
end Go.Proofs.YtcjojfclgbjapaaDoor
