/- The contracts of the program's name and first (lex). Conditions: the text is not empty, and has at most 2^40 bytes; of first: the list of symbols stands in memory as the program's text lays it. The contract of the program's first (lex). Conditions: the text is not empty, and has at most 2^40 bytes; the list of symbols stands in memory as the program's text lays it. -/
import Derived.Test.YtbdfjboojokgdaaDoorJV28
namespace Go.Proofs.YtbdfjboojokgdaaDoor.Lx
open Go.RowKit

theorem contains_any (B : Nat) (strs : List (List UInt8)) (x : ByteArray) (n c : Nat) (w : World) (hT : Texts B strs w) (hn : strs.length = n) (hm : n ≤ 4611686018427387904) :
    Calls Tryd.prog 148 #[.slice (some ⟨B, 0, none⟩) n c, .string x] w fun e w' => e = .returned (.bool (decide (x.data.toList ∈ strs))) ∧ w = w' := by
  refine (Tryd.slices_Contains_string B 0 n c (strs.map (fun l => ⟨l.toArray⟩)) x w (by simp [hn]) (by omega) (fun j hj => ?_)).mono ?_
  · have hj' : j < strs.length := by simpa using hj
    have := hT j hj'
    rw [Nat.zero_add, this]
    simp [List.getD, hj']
  · rintro e w' ⟨rfl, rfl⟩
    refine ⟨ret_bool ?_, rfl⟩
    rw [Bool.eq_iff_iff, Lib.containsS_iff, decide_eq_true_eq, List.take_of_length_le (by simp [hn])]
    constructor
    · intro h
      obtain ⟨l, hl, e⟩ := List.mem_map.1 h
      rw [← e]; simpa using hl
    · intro h
      exact List.mem_map.2 ⟨_, h, bytes_ext (by simp)⟩

/-- What name answered. -/
def nameR (K : Nat) (l : List UInt8) : Value := oneV (if 32 < (l.takeWhile sgnB).length then .error 2 else if l.takeWhile sgnB ∈ keysL then .ok (5, l.takeWhile sgnB, 0) else .ok (K, l.takeWhile sgnB, 0))

theorem extract_list1 (s : ByteArray) (k : Nat) (h : k < s.size) : (s.extract k (k + 1)).data.toList = [s[k]] := by
  rw [← Lib.toList_data]; exact extract_one s k h

/-- The cells of the block that a function laid for its result stand on, whatever the calls made behind it. -/
theorem four_old {w w1 : World} {a b c d : Value} {t : TypeId} (h : Below (w.heap.size + 1) (w.alloc (.cells #[a, b, c, d] t)) w1) :
    (w1.cell? ⟨w.heap.size, 0, none⟩ = some a ∧ w1.cell? ⟨w.heap.size, 1, none⟩ = some b ∧ w1.cell? ⟨w.heap.size, 2, none⟩ = some c ∧ w1.cell? ⟨w.heap.size, 3, none⟩ = some d)
    ∧ (w1.frozen? ⟨w.heap.size, 0, none⟩ = false ∧ w1.frozen? ⟨w.heap.size, 1, none⟩ = false ∧ w1.frozen? ⟨w.heap.size, 2, none⟩ = false ∧ w1.frozen? ⟨w.heap.size, 3, none⟩ = false)
    ∧ w.heap.size < w1.heap.size := by
  refine ⟨⟨?_, ?_, ?_, ?_⟩, ⟨?_, ?_, ?_, ?_⟩, ?_⟩
  · exact (h.cell (p := ⟨w.heap.size, 0, none⟩) (Nat.lt_succ_self _)).trans (by simp [go_sem])
  · exact (h.cell (p := ⟨w.heap.size, 1, none⟩) (Nat.lt_succ_self _)).trans (by simp [go_sem])
  · exact (h.cell (p := ⟨w.heap.size, 2, none⟩) (Nat.lt_succ_self _)).trans (by simp [go_sem])
  · exact (h.cell (p := ⟨w.heap.size, 3, none⟩) (Nat.lt_succ_self _)).trans (by simp [go_sem])
  · exact (h.frozen (p := ⟨w.heap.size, 0, none⟩) (Nat.lt_succ_self _)).trans (by simp [go_sem])
  · exact (h.frozen (p := ⟨w.heap.size, 1, none⟩) (Nat.lt_succ_self _)).trans (by simp [go_sem])
  · exact (h.frozen (p := ⟨w.heap.size, 2, none⟩) (Nat.lt_succ_self _)).trans (by simp [go_sem])
  · exact (h.frozen (p := ⟨w.heap.size, 3, none⟩) (Nat.lt_succ_self _)).trans (by simp [go_sem])
  · have := h.size; simp at this; omega
theorem four_new_below {w w1 : World} {o : Obj} (h : Below (w.heap.size + 1) (w.alloc o) w1) : Below w.heap.size w w1 :=
  ((Below.refl _ _).alloc (Nat.le_refl _) _).trans (h.mono (by omega))

set_option maxRecDepth 100000 in
set_option maxHeartbeats 1000000 in
theorem name_any (s : ByteArray) (K : Nat) (w : World) (hs : 0 < s.size) (hm : s.size ≤ 1099511627776) (hsg : sgnB s[0] = true) :
    Calls Tryd.prog 117 #[.string s, .int .i64 K] w fun e w' => e = .returned (nameR K s.data.toList) ∧ Below w.heap.size w w' := by
  have HTL : Hid ((s.data.toList.takeWhile sgnB).length ≤ s.size) := by show _ ≤ _; rw [Lib.size_eq]; exact tw_le _ _
  have HT1 : Hid (1 ≤ (s.data.toList.takeWhile sgnB).length) := by
    obtain ⟨r, e⟩ := head_of s hs
    show 1 ≤ _
    rw [e]; exact takeWhile_pos hsg
  clear hsg
  go_enter Tryd.func117, Tryd.ntmps117
  go_wp2_with fail
  go_loopw [6] (fun i wr => ∃ k : Nat, 1 ≤ k ∧ k ≤ s.size ∧ i = .int .i64 k ∧ Hid (k ≤ (s.data.toList.takeWhile sgnB).length) ∧ Below (w.heap.size + 1) (w.alloc (.cells #[.int .i64 0, .string ⟨#[]⟩, .int .i64 0, .int .i64 0] 133)) wr) (fun i _ => s.size - (intOf i).toNat)
  case atStart => exact ⟨1, by omega, by omega, rfl, HT1.out, Below.refl _ _⟩
  case round =>
    obtain ⟨k, hk1, hk, rfl, hr, hb⟩ := hrel
    have hsz : w.heap.size + 1 ≤ wr.heap.size := by have := hb.size; simpa using this
    have HB := Lib.hid hb
    clear hb
    by_cases hgo : ∃ h : k < s.size, sgnB s[k] = true
    · obtain ⟨hlt, hd⟩ := hgo
      have hkl : k < s.data.toList.length := by rw [← Lib.size_eq]; exact hlt
      have HR : Hid (k + 1 ≤ (s.data.toList.takeWhile sgnB).length) := tw_step sgnB s.data.toList k hr.out hkl (by rw [get_data s k hlt]; exact hd)
      have hx := extract_list1 s k hlt
      have HX := Lib.hid hx
      have hd' : signB (s[k].toNat : Int) = true := hd
      clear hx hd
      go_wp2_with (go_at_call 147; refine (sign_any _ _ _ HX.out).mono ?_; rintro e w1 ⟨rfl, b1⟩)
      go_roundw
      case rel => exact ⟨k + 1, by omega, by omega, by go_num, HR, HB.out.trans (b1.mono hsz)⟩
      case measure => simp [intOf]; omega
    · have htw : (s.data.toList.takeWhile sgnB).length = k := by
        by_cases hlt : k < s.size
        · have hkl : k < s.data.toList.length := by rw [← Lib.size_eq]; exact hlt
          refine tw_stop sgnB s.data.toList k hr.out hkl ?_
          rw [get_data s k hlt]
          cases e9 : sgnB s[k] with
          | false => rfl
          | true => exact absurd ⟨hlt, e9⟩ hgo
        · have := HTL.out; have := hr.out; omega
      have HTK : Hid (s.data.toList.takeWhile sgnB = s.data.toList.take k) := by show _ = _; rw [← htw]; exact (tw_take _ _).symm
      have HTN : Hid ((s.data.toList.takeWhile sgnB).length = k) := htw
      have hcase : (∃ h : k < s.size, signB (s[k].toNat : Int) = false) ∨ decide (k < s.size) = false := by
        by_cases hlt : k < s.size
        · left; refine ⟨hlt, ?_⟩
          cases e9 : sgnB s[k] with
          | false => exact e9
          | true => exact absurd ⟨hlt, e9⟩ hgo
        · right; simpa using hlt
      have hxz : (s.extract 0 k).size ≤ 281474976710656 := by rw [ByteArray.size_extract]; omega
      clear hgo htw
      have hdone : (∃ c, (s.extract k (k + 1)).data.toList = [c] ∧ signB (c.toNat : Int) = false ∧ decide (k < s.size) = true) ∨ decide (k < s.size) = false := by
        rcases hcase with ⟨hlt, hst⟩ | hdec
        · exact .inl ⟨s[k], extract_list1 s k hlt, hst, by simpa using hlt⟩
        · exact .inr hdec
      clear hcase
      by_cases h32 : 32 < k
      · have h32' : decide ((32 : Int) < (k : Int)) = true := by simp; omega
        have HE : Hid (nameR K s.data.toList = oneV (.error 2)) := by show _ = _; unfold nameR; rw [HTN.out, if_pos h32]
        rcases hdone with ⟨c, hx, hst, hdec⟩ | hdec
        · have HX := Lib.hid hx
          have hlt : k < s.size := by simpa using hdec
          clear hx
          go_wp2_with (go_at_call 147; refine (sign_any _ _ _ HX.out).mono ?_; rintro e w1 ⟨rfl, b1⟩; have HB1 : Hid (Below (w.heap.size + 1) (w.alloc (.cells #[.int .i64 0, .string ⟨#[]⟩, .int .i64 0, .int .i64 0] 133)) w1) := HB.out.trans (b1.mono hsz); obtain ⟨cc, cf, cz⟩ := four_old HB1.out; clear b1)
          exact bodyPost_ret (v := .tuple #[.agg #[.int .i64 0, .string ⟨#[]⟩, .int .i64 0, .int .i64 0], .int .i64 2]) (by simp [results, Tryd.results117, go_sem, cc]) rfl ⟨by rw [HE.out]; rfl, ((((four_new_below HB1.out).setCell (Nat.le_refl _) _).setCell (Nat.le_refl _) _).setCell (Nat.le_refl _) _).setCell (Nat.le_refl _) _⟩
        · obtain ⟨cc, cf, cz⟩ := four_old HB.out
          go_wp2_with fail
          exact bodyPost_ret (v := .tuple #[.agg #[.int .i64 0, .string ⟨#[]⟩, .int .i64 0, .int .i64 0], .int .i64 2]) (by simp [results, Tryd.results117, go_sem, cc]) rfl ⟨by rw [HE.out]; rfl, ((((four_new_below HB.out).setCell (Nat.le_refl _) _).setCell (Nat.le_refl _) _).setCell (Nat.le_refl _) _).setCell (Nat.le_refl _) _⟩
      · have h32' : decide ((32 : Int) < (k : Int)) = false := by simp; omega
        have hxt := extract_take s k
        have HXT := Lib.hid hxt
        clear hxt
        by_cases hkey : s.data.toList.take k ∈ keysL
        · have hkd : decide (List.take k s.data.toList ∈ keysL) = true := by simpa using hkey
          have HE : Hid (nameR K s.data.toList = oneV (.ok (5, s.data.toList.take k, 0))) := by show _ = _; unfold nameR; rw [HTN.out, if_neg h32, HTK.out, if_pos hkey]
          clear hkey
          rcases hdone with ⟨c, hx, hst, hdec⟩ | hdec
          · have HX := Lib.hid hx
            have hlt : k < s.size := by simpa using hdec
            clear hx
            go_wp2_with (go_at_call 147; refine (sign_any _ _ _ HX.out).mono ?_; rintro e w1 ⟨rfl, b1⟩; have HB1 : Hid (Below (w.heap.size + 1) (w.alloc (.cells #[.int .i64 0, .string ⟨#[]⟩, .int .i64 0, .int .i64 0] 133)) w1) := HB.out.trans (b1.mono hsz); have hz1 : w.heap.size + 1 ≤ w1.heap.size := Nat.le_trans hsz b1.size; clear b1)
            go_region_with (first | (go_at_call 149; refine (keys_any _).mono ?_; rintro e w2 ⟨rfl, hT2, hb2⟩; have hT3 : Texts w1.heap.size keysL w2 := (by simpa using hT2); have HB2 : Hid (Below (w.heap.size + 1) (w.alloc (.cells #[.int .i64 0, .string ⟨#[]⟩, .int .i64 0, .int .i64 0] 133)) w2) := HB1.out.drew.trans (hb2.mono hz1); clear hT2 hb2) | (go_at_call 148; refine (contains_any _ keysL _ 7 7 _ hT3 rfl (by decide)).mono ?_; rintro e w3 ⟨rfl, rfl⟩))
            all_goals
              go_wp2_with fail
              refine (clone_any _ _ hxz).mono ?_
              rintro e w4 ⟨rfl, b4⟩
              have hz2 : w.heap.size + 1 ≤ w2.heap.size := by have := HB2.out.size; simpa using this
              have HB4 : Hid (Below (w.heap.size + 1) (w.alloc (.cells #[.int .i64 0, .string ⟨#[]⟩, .int .i64 0, .int .i64 0] 133)) w4) := HB2.out.trans (b4.mono hz2)
              obtain ⟨cc, cf, cz⟩ := four_old HB4.out
              clear b4
              rw [HXT.out]
              go_wp2
              exact bodyPost_ret (v := .tuple #[.agg #[.int .i64 5, .string ⟨(s.data.toList.take k).toArray⟩, .int .i64 0, .int .i64 0], .int .i64 0]) (by simp [results, Tryd.results117, go_sem, cc]) rfl ⟨by rw [HE.out]; rfl, ((((four_new_below HB4.out).setCell (Nat.le_refl _) _).setCell (Nat.le_refl _) _).setCell (Nat.le_refl _) _).setCell (Nat.le_refl _) _⟩
          · have HB1 : Hid (Below (w.heap.size + 1) (w.alloc (.cells #[.int .i64 0, .string ⟨#[]⟩, .int .i64 0, .int .i64 0] 133)) wr) := HB
            have hz1 : w.heap.size + 1 ≤ wr.heap.size := hsz
            clear HB hsz
            generalize wr = w1 at *
            go_wp2_with fail
            go_region_with (first | (go_at_call 149; refine (keys_any _).mono ?_; rintro e w2 ⟨rfl, hT2, hb2⟩; have hT3 : Texts w1.heap.size keysL w2 := (by simpa using hT2); have HB2 : Hid (Below (w.heap.size + 1) (w.alloc (.cells #[.int .i64 0, .string ⟨#[]⟩, .int .i64 0, .int .i64 0] 133)) w2) := HB1.out.drew.trans (hb2.mono hz1); clear hT2 hb2) | (go_at_call 148; refine (contains_any _ keysL _ 7 7 _ hT3 rfl (by decide)).mono ?_; rintro e w3 ⟨rfl, rfl⟩))
            all_goals
              go_wp2_with fail
              refine (clone_any _ _ hxz).mono ?_
              rintro e w4 ⟨rfl, b4⟩
              have hz2 : w.heap.size + 1 ≤ w2.heap.size := by have := HB2.out.size; simpa using this
              have HB4 : Hid (Below (w.heap.size + 1) (w.alloc (.cells #[.int .i64 0, .string ⟨#[]⟩, .int .i64 0, .int .i64 0] 133)) w4) := HB2.out.trans (b4.mono hz2)
              obtain ⟨cc, cf, cz⟩ := four_old HB4.out
              clear b4
              rw [HXT.out]
              go_wp2
              exact bodyPost_ret (v := .tuple #[.agg #[.int .i64 5, .string ⟨(s.data.toList.take k).toArray⟩, .int .i64 0, .int .i64 0], .int .i64 0]) (by simp [results, Tryd.results117, go_sem, cc]) rfl ⟨by rw [HE.out]; rfl, ((((four_new_below HB4.out).setCell (Nat.le_refl _) _).setCell (Nat.le_refl _) _).setCell (Nat.le_refl _) _).setCell (Nat.le_refl _) _⟩
        · have hkd : decide (List.take k s.data.toList ∈ keysL) = false := by simpa using hkey
          have HE : Hid (nameR K s.data.toList = oneV (.ok (K, s.data.toList.take k, 0))) := by show _ = _; unfold nameR; rw [HTN.out, if_neg h32, HTK.out, if_neg hkey]
          clear hkey
          rcases hdone with ⟨c, hx, hst, hdec⟩ | hdec
          · have HX := Lib.hid hx
            have hlt : k < s.size := by simpa using hdec
            clear hx
            go_wp2_with (go_at_call 147; refine (sign_any _ _ _ HX.out).mono ?_; rintro e w1 ⟨rfl, b1⟩; have HB1 : Hid (Below (w.heap.size + 1) (w.alloc (.cells #[.int .i64 0, .string ⟨#[]⟩, .int .i64 0, .int .i64 0] 133)) w1) := HB.out.trans (b1.mono hsz); have hz1 : w.heap.size + 1 ≤ w1.heap.size := Nat.le_trans hsz b1.size; clear b1)
            go_region_with (first | (go_at_call 149; refine (keys_any _).mono ?_; rintro e w2 ⟨rfl, hT2, hb2⟩; have hT3 : Texts w1.heap.size keysL w2 := (by simpa using hT2); have HB2 : Hid (Below (w.heap.size + 1) (w.alloc (.cells #[.int .i64 0, .string ⟨#[]⟩, .int .i64 0, .int .i64 0] 133)) w2) := HB1.out.drew.trans (hb2.mono hz1); clear hT2 hb2) | (go_at_call 148; refine (contains_any _ keysL _ 7 7 _ hT3 rfl (by decide)).mono ?_; rintro e w3 ⟨rfl, rfl⟩))
            all_goals
              go_wp2_with fail
              refine (clone_any _ _ hxz).mono ?_
              rintro e w4 ⟨rfl, b4⟩
              have hz2 : w.heap.size + 1 ≤ w2.heap.size := by have := HB2.out.size; simpa using this
              have HB4 : Hid (Below (w.heap.size + 1) (w.alloc (.cells #[.int .i64 0, .string ⟨#[]⟩, .int .i64 0, .int .i64 0] 133)) w4) := HB2.out.trans (b4.mono hz2)
              obtain ⟨cc, cf, cz⟩ := four_old HB4.out
              clear b4
              rw [HXT.out]
              go_wp2
              exact bodyPost_ret (v := .tuple #[.agg #[.int .i64 K, .string ⟨(s.data.toList.take k).toArray⟩, .int .i64 0, .int .i64 0], .int .i64 0]) (by simp [results, Tryd.results117, go_sem, cc]) rfl ⟨by rw [HE.out]; rfl, ((((four_new_below HB4.out).setCell (Nat.le_refl _) _).setCell (Nat.le_refl _) _).setCell (Nat.le_refl _) _).setCell (Nat.le_refl _) _⟩
          · have HB1 : Hid (Below (w.heap.size + 1) (w.alloc (.cells #[.int .i64 0, .string ⟨#[]⟩, .int .i64 0, .int .i64 0] 133)) wr) := HB
            have hz1 : w.heap.size + 1 ≤ wr.heap.size := hsz
            clear HB hsz
            generalize wr = w1 at *
            go_wp2_with fail
            go_region_with (first | (go_at_call 149; refine (keys_any _).mono ?_; rintro e w2 ⟨rfl, hT2, hb2⟩; have hT3 : Texts w1.heap.size keysL w2 := (by simpa using hT2); have HB2 : Hid (Below (w.heap.size + 1) (w.alloc (.cells #[.int .i64 0, .string ⟨#[]⟩, .int .i64 0, .int .i64 0] 133)) w2) := HB1.out.drew.trans (hb2.mono hz1); clear hT2 hb2) | (go_at_call 148; refine (contains_any _ keysL _ 7 7 _ hT3 rfl (by decide)).mono ?_; rintro e w3 ⟨rfl, rfl⟩))
            all_goals
              go_wp2_with fail
              refine (clone_any _ _ hxz).mono ?_
              rintro e w4 ⟨rfl, b4⟩
              have hz2 : w.heap.size + 1 ≤ w2.heap.size := by have := HB2.out.size; simpa using this
              have HB4 : Hid (Below (w.heap.size + 1) (w.alloc (.cells #[.int .i64 0, .string ⟨#[]⟩, .int .i64 0, .int .i64 0] 133)) w4) := HB2.out.trans (b4.mono hz2)
              obtain ⟨cc, cf, cz⟩ := four_old HB4.out
              clear b4
              rw [HXT.out]
              go_wp2
              exact bodyPost_ret (v := .tuple #[.agg #[.int .i64 K, .string ⟨(s.data.toList.take k).toArray⟩, .int .i64 0, .int .i64 0], .int .i64 0]) (by simp [results, Tryd.results117, go_sem, cc]) rfl ⟨by rw [HE.out]; rfl, ((((four_new_below HB4.out).setCell (Nat.le_refl _) _).setCell (Nat.le_refl _) _).setCell (Nat.le_refl _) _).setCell (Nat.le_refl _) _⟩
end Go.Proofs.YtbdfjboojokgdaaDoor.Lx
namespace Go.Proofs.YtbdfjboojokgdaaDoor.Lx
open Go.RowKit

theorem oneV_form (r : Except Nat (Nat × List UInt8 × Nat)) : ∃ (k n e : Int) (x : ByteArray), oneV r = .tuple #[.agg #[.int .i64 k, .string x, .int .i64 n, .int .i64 0], .int .i64 e] := by
  cases r with
  | error e => exact ⟨0, 0, e, _, rfl⟩
  | ok y => obtain ⟨k, x, n⟩ := y; exact ⟨k, n, 0, ⟨x.toArray⟩, rfl⟩

theorem keys_low : ∀ x ∈ keysL, ∃ c r, x = c :: r ∧ rangeB 65 90 ((c : UInt8).toNat : Int) = false := by
  intro x hx
  simp only [keysL, List.mem_cons, List.not_mem_nil, or_false] at hx
  rcases hx with rfl | rfl | rfl | rfl | rfl | rfl | rfl
  all_goals exact ⟨_, _, rfl, by decide⟩

theorem dig_not_letter {c : UInt8} (h : (rangeB 97 122 (c.toNat : Int) || rangeB 65 90 (c.toNat : Int)) = true) : digB c = false := by
  unfold digB rangeB at *
  simp at h ⊢
  omega
theorem low_not_up {c : UInt8} (h : rangeB 97 122 (c.toNat : Int) = true) : rangeB 65 90 (c.toNat : Int) = false := by
  unfold rangeB at *
  simp at h ⊢
  omega

theorem nameR_low {c : UInt8} {r : List UInt8} (h : rangeB 97 122 (c.toNat : Int) = true) : nameR 1 (c :: r) = oneV (oneT (c :: r)) := by
  have hd := dig_not_letter (c := c) (by rw [h]; rfl)
  have hu := low_not_up h
  unfold nameR oneT
  simp only [hd, hu, h, Bool.false_eq_true, if_false, Bool.or_false, if_true]
theorem nameR_up {c : UInt8} {r : List UInt8} (h : rangeB 65 90 (c.toNat : Int) = true) : nameR 2 (c :: r) = oneV (oneT (c :: r)) := by
  have hl : (rangeB 97 122 (c.toNat : Int) || rangeB 65 90 (c.toNat : Int)) = true := by rw [h]; simp
  have hd := dig_not_letter hl
  have hno : (c :: r).takeWhile sgnB ∉ keysL := by
    intro hm
    obtain ⟨c', r', e, hc⟩ := keys_low _ hm
    have hs := sgn_of_letter hl
    simp only [List.takeWhile_cons, hs, if_true, List.cons.injEq] at e
    rw [e.1, hc] at h
    cases h
  unfold nameR oneT
  simp only [hd, h, Bool.or_true, Bool.false_eq_true, if_false, if_true, hno]
theorem numR_dig {c : UInt8} {r : List UInt8} (h : digB c = true) : numR (c :: r) = oneV (oneT (c :: r)) := by
  unfold numR oneT
  simp only [h, if_true]
theorem symV_sym {c : UInt8} {r : List UInt8} (hd : digB c = false) (hl : (rangeB 97 122 (c.toNat : Int) || rangeB 65 90 (c.toNat : Int)) = false) : symV (c :: r) = oneV (oneT (c :: r)) := by
  unfold symV oneT
  simp only [hd, hl, Bool.false_eq_true, if_false]
  split <;> rfl

set_option maxRecDepth 100000 in
set_option maxHeartbeats 1000000 in
theorem first_any (s : ByteArray) (w : World) (hs : 0 < s.size) (hm : s.size ≤ 1099511627776) (hS : Texts 0 symsL w) (h0 : 0 < w.heap.size) :
    Calls Tryd.prog 80 #[.string s] w fun e w' => e = .returned (oneV (oneT s.data.toList)) ∧ Below w.heap.size w w' := by
  have hp0 : (0 : Int) < s.size := by omega
  obtain ⟨r, hr⟩ := head_of s hs
  have hx1 : (s.extract 0 1).size ≤ maxLen := by rw [ByteArray.size_extract]; unfold maxLen; omega
  have n1 := name_one 97 122 s hs
  have n2 := name_one 65 90 s hs
  have HS := Lib.hid hS
  clear hS
  obtain ⟨rk, rn, re, rx, hv⟩ := oneV_form (oneT s.data.toList)
  have HV := Lib.hid hv
  clear hv
  by_cases hlo : rangeB 97 122 (s[0].toNat : Int) = true
  · have HN : Hid (nameR 1 s.data.toList = .tuple #[.agg #[.int .i64 rk, .string rx, .int .i64 rn, .int .i64 0], .int .i64 re]) := by show _ = _; rw [← HV.out, hr]; exact nameR_low hlo
    have hsg : sgnB s[0] = true := sgn_of_letter (by rw [hlo]; rfl)
    have N1 : Hid (nameB 97 122 (s.extract 0 1) = true) := by show _ = _; rw [n1, hlo]
    have HSG := Lib.hid hsg
    clear hr n1 n2 hlo hsg
    go_enter Tryd.func80, Tryd.ntmps80
    go_wp2_with fail
    refine (lower_any _ _ hx1).mono ?_
    rintro e w1 ⟨rfl, b1⟩
    rw [N1.out]
    have HB1 : Hid (Below (w.heap.size + 1) (w.alloc (.cells #[.int .i64 0, .string ⟨#[]⟩, .int .i64 0, .int .i64 0] 133)) w1) := by simpa [Hid] using b1
    clear b1
    go_wp2_with fail
    refine (name_any s 1 _ hs hm HSG.out).mono ?_
    rintro e w2 ⟨rfl, b2⟩
    rw [HN.out]
    have HB2 : Hid (Below (w.heap.size + 1) (w.alloc (.cells #[.int .i64 0, .string ⟨#[]⟩, .int .i64 0, .int .i64 0] 133)) w2) := HB1.out.trans (b2.mono (by have := HB1.out.size; simpa using this))
    obtain ⟨cc, cf, cz⟩ := four_old HB2.out
    clear b2
    go_wp2
    exact bodyPost_ret (v := .tuple #[.agg #[.int .i64 rk, .string rx, .int .i64 rn, .int .i64 0], .int .i64 re]) (by simp [results, Tryd.results80, go_sem, cc]) rfl ⟨by rw [HV.out], ((((four_new_below HB2.out).setCell (Nat.le_refl _) _).setCell (Nat.le_refl _) _).setCell (Nat.le_refl _) _).setCell (Nat.le_refl _) _⟩
  have hlo' : rangeB 97 122 (s[0].toNat : Int) = false := by simpa using hlo
  have N1 : Hid (nameB 97 122 (s.extract 0 1) = false) := by show _ = _; rw [n1, hlo']
  by_cases hup : rangeB 65 90 (s[0].toNat : Int) = true
  · have HN : Hid (nameR 2 s.data.toList = .tuple #[.agg #[.int .i64 rk, .string rx, .int .i64 rn, .int .i64 0], .int .i64 re]) := by show _ = _; rw [← HV.out, hr]; exact nameR_up hup
    have hsg : sgnB s[0] = true := sgn_of_letter (by rw [hup]; simp)
    have N2 : Hid (nameB 65 90 (s.extract 0 1) = true) := by show _ = _; rw [n2, hup]
    have HSG := Lib.hid hsg
    clear hr n1 n2 hlo hsg hlo' hup
    go_enter Tryd.func80, Tryd.ntmps80
    go_wp2_with fail
    refine (lower_any _ _ hx1).mono ?_
    rintro e w1 ⟨rfl, b1⟩
    rw [N1.out]
    have HB1 : Hid (Below (w.heap.size + 1) (w.alloc (.cells #[.int .i64 0, .string ⟨#[]⟩, .int .i64 0, .int .i64 0] 133)) w1) := by simpa [Hid] using b1
    clear b1
    go_wp2_with fail
    refine (upper_any _ _ hx1).mono ?_
    rintro e w3 ⟨rfl, b1⟩
    rw [N2.out]
    have HB3 : Hid (Below (w.heap.size + 1) (w.alloc (.cells #[.int .i64 0, .string ⟨#[]⟩, .int .i64 0, .int .i64 0] 133)) w3) := HB1.out.trans (b1.mono (by have := HB1.out.size; simpa using this))
    clear b1
    go_wp2_with fail
    refine (name_any s 2 _ hs hm HSG.out).mono ?_
    rintro e w2 ⟨rfl, b2⟩
    rw [HN.out]
    have HB2 : Hid (Below (w.heap.size + 1) (w.alloc (.cells #[.int .i64 0, .string ⟨#[]⟩, .int .i64 0, .int .i64 0] 133)) w2) := HB3.out.trans (b2.mono (by have := HB3.out.size; simpa using this))
    obtain ⟨cc, cf, cz⟩ := four_old HB2.out
    clear b2
    go_wp2
    exact bodyPost_ret (v := .tuple #[.agg #[.int .i64 rk, .string rx, .int .i64 rn, .int .i64 0], .int .i64 re]) (by simp [results, Tryd.results80, go_sem, cc]) rfl ⟨by rw [HV.out], ((((four_new_below HB2.out).setCell (Nat.le_refl _) _).setCell (Nat.le_refl _) _).setCell (Nat.le_refl _) _).setCell (Nat.le_refl _) _⟩
  have hup' : rangeB 65 90 (s[0].toNat : Int) = false := by simpa using hup
  have N2 : Hid (nameB 65 90 (s.extract 0 1) = false) := by show _ = _; rw [n2, hup']
  by_cases hd : digB s[0] = true
  · have HN : Hid (numR s.data.toList = .tuple #[.agg #[.int .i64 rk, .string rx, .int .i64 rn, .int .i64 0], .int .i64 re]) := by show _ = _; rw [← HV.out, hr]; exact numR_dig hd
    have hd' : rangeB 48 57 (s[0].toNat : Int) = true := hd
    clear hr n1 n2 hlo hlo' hup hup' hd
    go_enter Tryd.func80, Tryd.ntmps80
    go_wp2_with fail
    refine (lower_any _ _ hx1).mono ?_
    rintro e w1 ⟨rfl, b1⟩
    rw [N1.out]
    have HB1 : Hid (Below (w.heap.size + 1) (w.alloc (.cells #[.int .i64 0, .string ⟨#[]⟩, .int .i64 0, .int .i64 0] 133)) w1) := by simpa [Hid] using b1
    clear b1
    go_wp2_with fail
    refine (upper_any _ _ hx1).mono ?_
    rintro e w3 ⟨rfl, b1⟩
    rw [N2.out]
    have HB3 : Hid (Below (w.heap.size + 1) (w.alloc (.cells #[.int .i64 0, .string ⟨#[]⟩, .int .i64 0, .int .i64 0] 133)) w3) := HB1.out.trans (b1.mono (by have := HB1.out.size; simpa using this))
    clear b1
    go_wp2_with fail
    refine (digit_any _ _).mono ?_
    rintro e w' ⟨rfl, rfl⟩
    go_wp2_with fail
    refine (number_any s _ hm).mono ?_
    rintro e w2 ⟨rfl, b2⟩
    rw [HN.out]
    have HB2 : Hid (Below (w.heap.size + 1) (w.alloc (.cells #[.int .i64 0, .string ⟨#[]⟩, .int .i64 0, .int .i64 0] 133)) w2) := HB3.out.trans (b2.mono (by have := HB3.out.size; simpa using this))
    obtain ⟨cc, cf, cz⟩ := four_old HB2.out
    clear b2
    go_wp2
    exact bodyPost_ret (v := .tuple #[.agg #[.int .i64 rk, .string rx, .int .i64 rn, .int .i64 0], .int .i64 re]) (by simp [results, Tryd.results80, go_sem, cc]) rfl ⟨by rw [HV.out], ((((four_new_below HB2.out).setCell (Nat.le_refl _) _).setCell (Nat.le_refl _) _).setCell (Nat.le_refl _) _).setCell (Nat.le_refl _) _⟩
  · have hdf : digB s[0] = false := by simpa using hd
    have HN : Hid (symV s.data.toList = .tuple #[.agg #[.int .i64 rk, .string rx, .int .i64 rn, .int .i64 0], .int .i64 re]) := by show _ = _; rw [← HV.out, hr]; exact symV_sym hdf (by rw [hlo', hup']; rfl)
    have hd' : rangeB 48 57 (s[0].toNat : Int) = false := hdf
    clear hr n1 n2 hlo hlo' hup hup' hd hdf
    go_enter Tryd.func80, Tryd.ntmps80
    go_wp2_with fail
    refine (lower_any _ _ hx1).mono ?_
    rintro e w1 ⟨rfl, b1⟩
    rw [N1.out]
    have HB1 : Hid (Below (w.heap.size + 1) (w.alloc (.cells #[.int .i64 0, .string ⟨#[]⟩, .int .i64 0, .int .i64 0] 133)) w1) := by simpa [Hid] using b1
    clear b1
    go_wp2_with fail
    refine (upper_any _ _ hx1).mono ?_
    rintro e w3 ⟨rfl, b1⟩
    rw [N2.out]
    have HB3 : Hid (Below (w.heap.size + 1) (w.alloc (.cells #[.int .i64 0, .string ⟨#[]⟩, .int .i64 0, .int .i64 0] 133)) w3) := HB1.out.trans (b1.mono (by have := HB1.out.size; simpa using this))
    clear b1
    go_wp2_with fail
    refine (digit_any _ _).mono ?_
    rintro e w' ⟨rfl, rfl⟩
    go_wp2_with fail
    have hz3 : 0 < w3.heap.size := by have := HB3.out.size; simp at this; omega
    refine (symbol_any s w3 (HS.out.below (four_new_below HB3.out) h0) hz3).mono ?_
    rintro e w2 ⟨rfl, b2⟩
    rw [HN.out]
    have HB2 : Hid (Below (w.heap.size + 1) (w.alloc (.cells #[.int .i64 0, .string ⟨#[]⟩, .int .i64 0, .int .i64 0] 133)) w2) := HB3.out.trans (b2.mono (by have := HB3.out.size; simpa using this))
    obtain ⟨cc, cf, cz⟩ := four_old HB2.out
    clear b2
    go_wp2
    exact bodyPost_ret (v := .tuple #[.agg #[.int .i64 rk, .string rx, .int .i64 rn, .int .i64 0], .int .i64 re]) (by simp [results, Tryd.results80, go_sem, cc]) rfl ⟨by rw [HV.out], ((((four_new_below HB2.out).setCell (Nat.le_refl _) _).setCell (Nat.le_refl _) _).setCell (Nat.le_refl _) _).setCell (Nat.le_refl _) _⟩
end Go.Proofs.YtbdfjboojokgdaaDoor.Lx
