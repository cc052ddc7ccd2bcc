/- The contracts of the program's small functions of lex: digit, sign, Keys, symbol; and of strings.Clone. Condition, where it is named: the list of symbols stands in memory as the program's text lays it. The contracts of the program's number and name (lex). Conditions: the text is not empty, and has at most 2^40 bytes. The contracts of the program's name and first (lex). Conditions: the text is not empty, and has at most 2^40 bytes; of first: the list of symbols stands in memory as the program's text lays it. The contract of the program's first (lex). Conditions: the text is not empty, and has at most 2^40 bytes; the list of symbols stands in memory as the program's text lays it. -/
import Derived.Test.YtbdfjboojokgdaaGreatDoorM18
import Derived.Test.YtbdfjboojokgdaaGreatDoorM04
import Derived.Lib.Hide
namespace Go.Proofs.YtbdfjboojokgdaaGreatDoor.Lx
open Go.RowKit

set_option maxHeartbeats 400000 in
theorem digit_any (c : Int) (w : World) :
    Calls Tryz.prog 88 #[.int .u8 c] w fun e w' => e = .returned (.bool (rangeB 48 57 c)) ∧ w = w' := by
  go_enter Tryz.func88, Tryz.ntmps88
  go_wp2
  all_goals go_ret
  all_goals exact ⟨ret_bool (by simp [rangeB]; omega), rfl⟩

theorem name_two (c : UInt8) : nameB 97 122 ⟨#[97, c]⟩ = signB (c.toNat : Int) := by
  cases h : signB (c.toNat : Int) with
  | true =>
    refine nameB_true ⟨Nat.lt_of_lt_of_eq (by decide) (show 2 = _ from rfl), (show (2 : Nat) ≤ 32 by decide), fun i hi => ?_⟩
    have : i = 0 ∨ i = 1 := by have : i < 2 := hi; omega
    rcases this with rfl | rfl
    · rfl
    · exact h
  | false =>
    refine nameB_false (fun hn => ?_)
    have := hn.2.2 1 (Nat.lt_of_lt_of_eq (by decide) (show 2 = _ from rfl))
    have h9 : testB 97 122 1 (c.toNat : Int) = true := this
    unfold testB at h9
    simp [h] at h9

set_option maxHeartbeats 400000 in
theorem sign_any (x : ByteArray) (c : UInt8) (w : World) (hx : x.data.toList = [c]) :
    Calls Tryz.prog 107 #[.string x] w fun e w' => e = .returned (.bool (signB (c.toNat : Int))) ∧ Below w.heap.size w w' := by
  have hb : (⟨#[97]⟩ : ByteArray) ++ x = ⟨#[97, c]⟩ := bytes_ext (by simp [hx])
  have h1 : x.size = 1 := by rw [Lib.size_eq, hx]; rfl
  have HB := Lib.hid hb
  have h1' : x.size ≤ 1 := by omega
  clear hb hx h1
  go_enter Tryz.func107, Tryz.ntmps107
  go_wp2_with fail
  rw [HB.out]
  refine (lower_any (⟨#[97, c]⟩ : ByteArray) _ (show (2 : Nat) ≤ maxLen by decide)).mono ?_
  rintro e w1 ⟨rfl, hb⟩
  rw [name_two]
  go_wp2
  go_ret
  exact ⟨rfl, hb⟩

set_option maxHeartbeats 400000 in
theorem keys_any (w : World) :
    Calls Tryz.prog 109 #[] w fun e w' => e = .returned (.slice (some ⟨w.heap.size, 0, none⟩) 7 7) ∧ Texts w.heap.size keysL w' ∧ Below w.heap.size w w' := by
  go_enter Tryz.func109, Tryz.ntmps109
  go_wp2
  go_ret
  exact ⟨rfl, texts_new w keysL 9, (Below.refl _ _).alloc (Nat.le_refl _) _⟩

set_option maxHeartbeats 400000 in
theorem clone_any (s : ByteArray) (w : World) (h : s.size ≤ 281474976710656) :
    Calls Tryz.prog 110 #[.string s] w fun e w' => e = .returned (.string s) ∧ Below w.heap.size w w' := by
  go_enter Tryz.func110, Tryz.ntmps110
  go_wp2_with (go_at_call 126; refine (Tryz.stringslite_Clone _ _ h).mono ?_; rintro e w' ⟨rfl, hb⟩)
  go_ret
  exact ⟨rfl, hb⟩

theorem run_index_sym (A : Array Value) (k : Nat) (x : ByteArray) (W : World) (hk : k < 13) (hA : A[k]? = some (.string x)) :
    (Instr.index 150 (.agg A) (.int .i64 k)).run Tryz.prog W = .ok (.string x) W := by
  have h : Tryz.prog.underlying 150 = some (.array 13 9) := Tryz.underlying150
  have hn : (0 : Int) ≤ k ∧ (k : Int) < 13 := by omega
  have z9 := Tryz.sizeOf9
  have a9 := Tryz.isAgg9
  simp [Instr.index, run_underlying h, asIntOf, hn, go_sem, hk, z9, a9, hA]
def symA : Array Value := (symsL.map (fun l => Value.string ⟨l.toArray⟩)).toArray
/-- What symbol answered. -/
def symV (l : List UInt8) : Value := if symL l = [] then .tuple #[.agg #[.int .i64 0, .string ⟨#[]⟩, .int .i64 0, .int .i64 0], .int .i64 10] else .tuple #[aggT 4 (symL l) 0 0, .int .i64 0]

set_option maxRecDepth 100000 in
set_option maxHeartbeats 1000000 in
theorem symbol_any (s : ByteArray) (w : World) (hS : Texts 0 symsL w) (h0 : 0 < w.heap.size) :
    Calls Tryz.prog 90 #[.string s] w fun e w' => e = .returned (symV s.data.toList) ∧ Below w.heap.size w w' := by
  have c0 := hS 0 (by decide)
  have c1 := hS 1 (by decide)
  have c2 := hS 2 (by decide)
  have c3 := hS 3 (by decide)
  have c4 := hS 4 (by decide)
  have c5 := hS 5 (by decide)
  have c6 := hS 6 (by decide)
  have c7 := hS 7 (by decide)
  have c8 := hS 8 (by decide)
  have c9 := hS 9 (by decide)
  have c10 := hS 10 (by decide)
  have c11 := hS 11 (by decide)
  have c12 := hS 12 (by decide)
  have HS := Lib.hid hS
  clear hS
  go_enter Tryz.func90, Tryz.ntmps90
  go_wp2_with fail
  clear c0 c1 c2 c3 c4 c5 c6 c7 c8 c9 c10 c11 c12
  have hA : ∀ k (h : k < symsL.length), symA[k]? = some (.string ⟨symsL[k].toArray⟩) := fun k h => by simp [symA, h]
  have HA := Lib.hid hA
  have hAz : symA.size = 13 := rfl
  clear hA
  rw [show (#[Value.string ⟨symsL[0].toArray⟩, Value.string ⟨symsL[1].toArray⟩, Value.string ⟨symsL[2].toArray⟩, Value.string ⟨symsL[3].toArray⟩, Value.string ⟨symsL[4].toArray⟩, Value.string ⟨symsL[5].toArray⟩, Value.string ⟨symsL[6].toArray⟩, Value.string ⟨symsL[7].toArray⟩, Value.string ⟨symsL[8].toArray⟩, Value.string ⟨symsL[9].toArray⟩, Value.string ⟨symsL[10].toArray⟩, Value.string ⟨symsL[11].toArray⟩, Value.string ⟨symsL[12].toArray⟩] : Array Value) = symA from rfl]
  generalize symA = A at *
  go_loop [5, 7] (fun _ i => ∃ k : Nat, k ≤ 13 ∧ i = .int .i64 k ∧ Hid (symsL.find? (fun p => p.isPrefixOf s.data.toList) = (symsL.drop k).find? (fun p => p.isPrefixOf s.data.toList))) (fun _ i => 13 - (intOf i).toNat)
  case atStart => exact ⟨0, by omega, rfl, rfl⟩
  case round =>
    obtain ⟨k, hk, rfl, hfi⟩ := hrel
    by_cases hlt : k < 13
    · have hks : k < symsL.length := hlt
      have hc := HA.out k hks
      have HF := Lib.hid (find_from hks hfi.out)
      have hpos : symsL[k] ≠ [] := by
        have : ∀ x ∈ symsL, x ≠ [] := by decide
        exact this _ (List.getElem_mem hks)
      have HPOS := Lib.hid hpos
      clear hpos
      generalize symsL[k] = x at *
      have hki : (k : Int) < 13 := by omega
      have hk0 : (0 : Int) ≤ (k : Int) := by omega
      have hrun := fun W => run_index_sym A k _ W hlt hc
      clear hfi hks hc
      go_wp2_with fail
      refine (Tryz.strings_HasPrefix _ _ _).mono ?_
      rintro e w' ⟨rfl, rfl⟩
      rw [show Lib.hasPrefix s.data.toList (⟨x.toArray⟩ : ByteArray).data.toList = x.isPrefixOf s.data.toList by unfold Lib.hasPrefix; simp]
      by_cases hp : x.isPrefixOf s.data.toList = true
      · have HE : Hid (symL s.data.toList = x) := HF.out.1 hp
        rw [hp]
        clear hp
        go_wp2
        exact bodyPost_ret (v := .tuple #[.agg #[.int .i64 4, .string ⟨x.toArray⟩, .int .i64 0, .int .i64 0], .int .i64 0]) (by simp [results, Tryz.results90, go_sem]) rfl ⟨by unfold symV; rw [HE.out, if_neg HPOS.out]; rfl, (Below.refl _ _).alloc (Nat.le_refl _) _⟩
      · have hp' : x.isPrefixOf s.data.toList = false := Bool.eq_false_iff.2 hp
        have HR : Hid (symsL.find? (fun p => p.isPrefixOf s.data.toList) = (symsL.drop (k + 1)).find? (fun p => p.isPrefixOf s.data.toList)) := HF.out.2 hp'
        rw [hp']
        clear hp hp'
        go_wp2
        go_round
        case rel => exact ⟨k + 1, by omega, by go_num, HR⟩
        case measure => simp [intOf]; omega
    · obtain rfl : k = 13 := by omega
      have HE : Hid (symL s.data.toList = []) := by show symL _ = []; unfold symL; rw [hfi.out]; rfl
      go_wp2
      exact bodyPost_ret (v := .tuple #[.agg #[.int .i64 0, .string ⟨#[]⟩, .int .i64 0, .int .i64 0], .int .i64 10]) (by simp [results, Tryz.results90, go_sem]) rfl ⟨by unfold symV; rw [if_pos HE.out], (Below.refl _ _).alloc (Nat.le_refl _) _⟩
end Go.Proofs.YtbdfjboojokgdaaGreatDoor.Lx
namespace Go.Proofs.YtbdfjboojokgdaaGreatDoor.Lx
open Go.RowKit

/-- What number answered. -/
def numR (l : List UInt8) : Value := oneV (if 2147483647 < numV (l.takeWhile digB) then .error 11 else .ok (3, l.takeWhile digB, numV (l.takeWhile digB)))
theorem numV_tw_ge (l : List UInt8) (k : Nat) (h : k ≤ (l.takeWhile digB).length) : numV (l.take k) ≤ numV (l.takeWhile digB) := by
  have e : l.takeWhile digB = l.take k ++ (l.takeWhile digB).drop k := by
    conv => lhs; rw [← List.take_append_drop k (l.takeWhile digB)]
    rw [show (l.takeWhile digB).take k = l.take k by
      rw [← tw_take digB l, List.take_take, Nat.min_eq_left h]]
  rw [e]; exact numV_mono _ _

set_option maxRecDepth 100000 in
set_option maxHeartbeats 1000000 in
theorem number_any (s : ByteArray) (w : World) (hm : s.size ≤ 1099511627776) :
    Calls Tryz.prog 89 #[.string s] w fun e w' => e = .returned (numR s.data.toList) ∧ Below w.heap.size w w' := by
  have HTL : Hid ((s.data.toList.takeWhile digB).length ≤ s.size) := by show _ ≤ _; rw [Lib.size_eq]; exact tw_le _ _
  go_enter Tryz.func89, Tryz.ntmps89
  go_wp2_with fail
  go_loop [4, 5] (fun v i => ∃ k : Nat, k ≤ s.size ∧ i = .int .i64 k ∧ v = .int .i64 (numV (s.data.toList.take k)) ∧ numV (s.data.toList.take k) ≤ 2147483647 ∧ Hid (k ≤ (s.data.toList.takeWhile digB).length)) (fun _ i => s.size - (intOf i).toNat)
  case atStart => exact ⟨0, by omega, rfl, rfl, by simp [numV], Nat.zero_le _⟩
  case round =>
    obtain ⟨k, hk, rfl, rfl, hV, hr⟩ := hrel
    by_cases hgo : ∃ h : k < s.size, digB s[k] = true
    · obtain ⟨hlt, hd⟩ := hgo
      have hkl : k < s.data.toList.length := by rw [← Lib.size_eq]; exact hlt
      have HR : Hid (k + 1 ≤ (s.data.toList.takeWhile digB).length) := tw_step digB s.data.toList k hr.out hkl (by rw [get_data s k hlt]; exact hd)
      have hnx := numV_snoc (s.data.toList.take k) s[k]
      rw [← take_get s k hlt] at hnx
      have hdv := dig_val hd
      have hd1 : 48 ≤ s[k].toNat := hdv.1
      have hd2 : s[k].toNat ≤ 57 := hdv.2
      have hd' : rangeB 48 57 (s[k].toNat : Int) = true := hd
      have HNX : Hid (((numV (s.data.toList.take (k + 1)) : Nat) : Int) = 10 * ((numV (s.data.toList.take k) : Nat) : Int) + ((s[k].toNat : Int) - 48)) := by show _ = _; omega
      have hge := numV_tw_ge s.data.toList (k + 1) HR.out
      have hdec : decide (k < s.size) = true := by simpa using hlt
      by_cases hbig : 2147483647 < numV (s.data.toList.take (k + 1))
      · have HE : Hid (numR s.data.toList = oneV (.error 11)) := by show _ = _; unfold numR; rw [if_pos (by omega)]
        have hb' : (2147483647 : Int) < 10 * ((numV (s.data.toList.take k) : Nat) : Int) + ((s[k].toNat : Int) - 48) := by have := HNX.out; omega
        clear hnx hge hbig hdv hd
        generalize numV (s.data.toList.take k) = V at *
        have hmod : ((s[k].toNat : Int) - 48) % 256 = (s[k].toNat : Int) - 48 := by omega
        go_wp2_with (go_at_call 88; refine (digit_any _ _).mono ?_; rintro e w' ⟨rfl, rfl⟩)
        exact bodyPost_ret (v := .tuple #[.agg #[.int .i64 0, .string ⟨#[]⟩, .int .i64 0, .int .i64 0], .int .i64 11]) (by simp [results, Tryz.results89, go_sem]) rfl ⟨by rw [HE.out]; rfl, (Below.refl _ _).alloc (Nat.le_refl _) _⟩
      · have hb' : ¬ (2147483647 : Int) < 10 * ((numV (s.data.toList.take k) : Nat) : Int) + ((s[k].toNat : Int) - 48) := by have := HNX.out; omega
        have HNB : Hid (numV (s.data.toList.take (k + 1)) ≤ 2147483647) := by show _ ≤ _; omega
        clear hnx hge hbig hdv hd
        generalize numV (s.data.toList.take k) = V at *
        have hmod : ((s[k].toNat : Int) - 48) % 256 = (s[k].toNat : Int) - 48 := by omega
        go_wp2_with (go_at_call 88; refine (digit_any _ _).mono ?_; rintro e w' ⟨rfl, rfl⟩)
        go_round
        case rel => exact ⟨k + 1, by omega, by go_num, by rw [HNX.out], HNB.out, HR⟩
        case measure => simp [intOf]; omega
    · have htw : (s.data.toList.takeWhile digB).length = k := by
        by_cases hlt : k < s.size
        · have hkl : k < s.data.toList.length := by rw [← Lib.size_eq]; exact hlt
          refine tw_stop digB s.data.toList k hr.out hkl ?_
          rw [get_data s k hlt]
          cases e9 : digB s[k] with
          | false => rfl
          | true => exact absurd ⟨hlt, e9⟩ hgo
        · have := HTL.out; have := hr.out; omega
      have HTK : Hid (s.data.toList.takeWhile digB = s.data.toList.take k) := by show _ = _; rw [← htw]; exact (tw_take _ _).symm
      have HE : Hid (numR s.data.toList = oneV (.ok (3, s.data.toList.take k, numV (s.data.toList.take k)))) := by show _ = _; unfold numR; rw [HTK.out, if_neg (by omega)]
      have hxt := extract_take s k
      have hxz : (s.extract 0 k).size ≤ 281474976710656 := by rw [ByteArray.size_extract]; omega
      have HX := Lib.hid hxt
      clear htw hxt
      generalize hVV : numV (s.data.toList.take k) = V at *
      have HVV := Lib.hid hVV
      clear hVV
      have hcase : (∃ h : k < s.size, rangeB 48 57 (s[k].toNat : Int) = false) ∨ decide (k < s.size) = false := by
        by_cases hlt : k < s.size
        · left; refine ⟨hlt, ?_⟩
          cases e9 : digB s[k] with
          | false => exact e9
          | true => exact absurd ⟨hlt, e9⟩ hgo
        · right; simpa using hlt
      clear hgo
      rcases hcase with ⟨hlt, hnd⟩ | hdec
      all_goals
        go_wp2_with (first | (go_at_call 88; refine (digit_any _ _).mono ?_; rintro e w' ⟨rfl, rfl⟩))
        refine (clone_any _ _ hxz).mono ?_
        rintro e w1 ⟨rfl, hb⟩
        rw [HX.out]
        obtain ⟨hc, hf⟩ := bcell hb
        have hz : w.heap.size < w1.heap.size := by have := hb.size; simp at this; omega
        have HW : Hid (Below w.heap.size w w1) := ((Below.refl _ _).alloc (Nat.le_refl _) _).trans (hb.mono (by simp))
        clear hb
        go_wp2
        exact bodyPost_ret (v := .tuple #[.agg #[.int .i64 3, .string ⟨(s.data.toList.take k).toArray⟩, .int .i64 V, .int .i64 0], .int .i64 0]) (by simp [results, Tryz.results89, go_sem, hc]) rfl ⟨by rw [HE.out]; rfl, ((((HW.out.setCell (Nat.le_refl _) _).setCell (Nat.le_refl _) _).setCell (Nat.le_refl _) _).setCell (Nat.le_refl _) _)⟩
end Go.Proofs.YtbdfjboojokgdaaGreatDoor.Lx
namespace Go.Proofs.YtbdfjboojokgdaaGreatDoor.Lx
open Go.RowKit

theorem contains_any (B : Nat) (strs : List (List UInt8)) (x : ByteArray) (n c : Nat) (w : World) (hT : Texts B strs w) (hn : strs.length = n) (hm : n ≤ 4611686018427387904) :
    Calls Tryz.prog 108 #[.slice (some ⟨B, 0, none⟩) n c, .string x] w fun e w' => e = .returned (.bool (decide (x.data.toList ∈ strs))) ∧ w = w' := by
  refine (Tryz.slices_Contains_string B 0 n c (strs.map (fun l => ⟨l.toArray⟩)) x w (by simp [hn]) (by omega) (fun j hj => ?_)).mono ?_
  · have hj' : j < strs.length := by simpa using hj
    have := hT j hj'
    rw [Nat.zero_add, this]
    simp [List.getD, hj']
  · rintro e w' ⟨rfl, rfl⟩
    refine ⟨ret_bool ?_, rfl⟩
    rw [Bool.eq_iff_iff, Lib.containsS_iff, decide_eq_true_eq, List.take_of_length_le (by simp [hn])]
    constructor
    · intro h
      obtain ⟨l, hl, e⟩ := List.mem_map.1 h
      rw [← e]; simpa using hl
    · intro h
      exact List.mem_map.2 ⟨_, h, bytes_ext (by simp)⟩

/-- What name answered. -/
def nameR (K : Nat) (l : List UInt8) : Value := oneV (if 32 < (l.takeWhile sgnB).length then .error 2 else if l.takeWhile sgnB ∈ keysL then .ok (5, l.takeWhile sgnB, 0) else .ok (K, l.takeWhile sgnB, 0))

theorem extract_list1 (s : ByteArray) (k : Nat) (h : k < s.size) : (s.extract k (k + 1)).data.toList = [s[k]] := by
  rw [← Lib.toList_data]; exact extract_one s k h

/-- The cells of the block that a function laid for its result stand on, whatever the calls made behind it. -/
theorem four_old {w w1 : World} {a b c d : Value} {t : TypeId} (h : Below (w.heap.size + 1) (w.alloc (.cells #[a, b, c, d] t)) w1) :
    (w1.cell? ⟨w.heap.size, 0, none⟩ = some a ∧ w1.cell? ⟨w.heap.size, 1, none⟩ = some b ∧ w1.cell? ⟨w.heap.size, 2, none⟩ = some c ∧ w1.cell? ⟨w.heap.size, 3, none⟩ = some d)
    ∧ (w1.frozen? ⟨w.heap.size, 0, none⟩ = false ∧ w1.frozen? ⟨w.heap.size, 1, none⟩ = false ∧ w1.frozen? ⟨w.heap.size, 2, none⟩ = false ∧ w1.frozen? ⟨w.heap.size, 3, none⟩ = false)
    ∧ w.heap.size < w1.heap.size := by
  refine ⟨⟨?_, ?_, ?_, ?_⟩, ⟨?_, ?_, ?_, ?_⟩, ?_⟩
  · exact (h.cell (p := ⟨w.heap.size, 0, none⟩) (Nat.lt_succ_self _)).trans (by simp [go_sem])
  · exact (h.cell (p := ⟨w.heap.size, 1, none⟩) (Nat.lt_succ_self _)).trans (by simp [go_sem])
  · exact (h.cell (p := ⟨w.heap.size, 2, none⟩) (Nat.lt_succ_self _)).trans (by simp [go_sem])
  · exact (h.cell (p := ⟨w.heap.size, 3, none⟩) (Nat.lt_succ_self _)).trans (by simp [go_sem])
  · exact (h.frozen (p := ⟨w.heap.size, 0, none⟩) (Nat.lt_succ_self _)).trans (by simp [go_sem])
  · exact (h.frozen (p := ⟨w.heap.size, 1, none⟩) (Nat.lt_succ_self _)).trans (by simp [go_sem])
  · exact (h.frozen (p := ⟨w.heap.size, 2, none⟩) (Nat.lt_succ_self _)).trans (by simp [go_sem])
  · exact (h.frozen (p := ⟨w.heap.size, 3, none⟩) (Nat.lt_succ_self _)).trans (by simp [go_sem])
  · have := h.size; simp at this; omega
theorem four_new_below {w w1 : World} {o : Obj} (h : Below (w.heap.size + 1) (w.alloc o) w1) : Below w.heap.size w w1 :=
  ((Below.refl _ _).alloc (Nat.le_refl _) _).trans (h.mono (by omega))

set_option maxRecDepth 100000 in
set_option maxHeartbeats 1000000 in
theorem name_any (s : ByteArray) (K : Nat) (w : World) (hs : 0 < s.size) (hm : s.size ≤ 1099511627776) (hsg : sgnB s[0] = true) :
    Calls Tryz.prog 86 #[.string s, .int .i64 K] w fun e w' => e = .returned (nameR K s.data.toList) ∧ Below w.heap.size w w' := by
  have HTL : Hid ((s.data.toList.takeWhile sgnB).length ≤ s.size) := by show _ ≤ _; rw [Lib.size_eq]; exact tw_le _ _
  have HT1 : Hid (1 ≤ (s.data.toList.takeWhile sgnB).length) := by
    obtain ⟨r, e⟩ := head_of s hs
    show 1 ≤ _
    rw [e]; exact takeWhile_pos hsg
  clear hsg
  go_enter Tryz.func86, Tryz.ntmps86
  go_wp2_with fail
  go_loopw [6] (fun i wr => ∃ k : Nat, 1 ≤ k ∧ k ≤ s.size ∧ i = .int .i64 k ∧ Hid (k ≤ (s.data.toList.takeWhile sgnB).length) ∧ Below (w.heap.size + 1) (w.alloc (.cells #[.int .i64 0, .string ⟨#[]⟩, .int .i64 0, .int .i64 0] 82)) wr) (fun i _ => s.size - (intOf i).toNat)
  case atStart => exact ⟨1, by omega, by omega, rfl, HT1.out, Below.refl _ _⟩
  case round =>
    obtain ⟨k, hk1, hk, rfl, hr, hb⟩ := hrel
    have hsz : w.heap.size + 1 ≤ wr.heap.size := by have := hb.size; simpa using this
    have HB := Lib.hid hb
    clear hb
    by_cases hgo : ∃ h : k < s.size, sgnB s[k] = true
    · obtain ⟨hlt, hd⟩ := hgo
      have hkl : k < s.data.toList.length := by rw [← Lib.size_eq]; exact hlt
      have HR : Hid (k + 1 ≤ (s.data.toList.takeWhile sgnB).length) := tw_step sgnB s.data.toList k hr.out hkl (by rw [get_data s k hlt]; exact hd)
      have hx := extract_list1 s k hlt
      have HX := Lib.hid hx
      have hd' : signB (s[k].toNat : Int) = true := hd
      clear hx hd
      go_wp2_with (go_at_call 107; refine (sign_any _ _ _ HX.out).mono ?_; rintro e w1 ⟨rfl, b1⟩)
      go_roundw
      case rel => exact ⟨k + 1, by omega, by omega, by go_num, HR, HB.out.trans (b1.mono hsz)⟩
      case measure => simp [intOf]; omega
    · have htw : (s.data.toList.takeWhile sgnB).length = k := by
        by_cases hlt : k < s.size
        · have hkl : k < s.data.toList.length := by rw [← Lib.size_eq]; exact hlt
          refine tw_stop sgnB s.data.toList k hr.out hkl ?_
          rw [get_data s k hlt]
          cases e9 : sgnB s[k] with
          | false => rfl
          | true => exact absurd ⟨hlt, e9⟩ hgo
        · have := HTL.out; have := hr.out; omega
      have HTK : Hid (s.data.toList.takeWhile sgnB = s.data.toList.take k) := by show _ = _; rw [← htw]; exact (tw_take _ _).symm
      have HTN : Hid ((s.data.toList.takeWhile sgnB).length = k) := htw
      have hcase : (∃ h : k < s.size, signB (s[k].toNat : Int) = false) ∨ decide (k < s.size) = false := by
        by_cases hlt : k < s.size
        · left; refine ⟨hlt, ?_⟩
          cases e9 : sgnB s[k] with
          | false => exact e9
          | true => exact absurd ⟨hlt, e9⟩ hgo
        · right; simpa using hlt
      have hxz : (s.extract 0 k).size ≤ 281474976710656 := by rw [ByteArray.size_extract]; omega
      clear hgo htw
      have hdone : (∃ c, (s.extract k (k + 1)).data.toList = [c] ∧ signB (c.toNat : Int) = false ∧ decide (k < s.size) = true) ∨ decide (k < s.size) = false := by
        rcases hcase with ⟨hlt, hst⟩ | hdec
        · exact .inl ⟨s[k], extract_list1 s k hlt, hst, by simpa using hlt⟩
        · exact .inr hdec
      clear hcase
      by_cases h32 : 32 < k
      · have h32' : decide ((32 : Int) < (k : Int)) = true := by simp; omega
        have HE : Hid (nameR K s.data.toList = oneV (.error 2)) := by show _ = _; unfold nameR; rw [HTN.out, if_pos h32]
        rcases hdone with ⟨c, hx, hst, hdec⟩ | hdec
        · have HX := Lib.hid hx
          have hlt : k < s.size := by simpa using hdec
          clear hx
          go_wp2_with (go_at_call 107; refine (sign_any _ _ _ HX.out).mono ?_; rintro e w1 ⟨rfl, b1⟩; have HB1 : Hid (Below (w.heap.size + 1) (w.alloc (.cells #[.int .i64 0, .string ⟨#[]⟩, .int .i64 0, .int .i64 0] 82)) w1) := HB.out.trans (b1.mono hsz); obtain ⟨cc, cf, cz⟩ := four_old HB1.out; clear b1)
          exact bodyPost_ret (v := .tuple #[.agg #[.int .i64 0, .string ⟨#[]⟩, .int .i64 0, .int .i64 0], .int .i64 2]) (by simp [results, Tryz.results86, go_sem, cc]) rfl ⟨by rw [HE.out]; rfl, ((((four_new_below HB1.out).setCell (Nat.le_refl _) _).setCell (Nat.le_refl _) _).setCell (Nat.le_refl _) _).setCell (Nat.le_refl _) _⟩
        · obtain ⟨cc, cf, cz⟩ := four_old HB.out
          go_wp2_with fail
          exact bodyPost_ret (v := .tuple #[.agg #[.int .i64 0, .string ⟨#[]⟩, .int .i64 0, .int .i64 0], .int .i64 2]) (by simp [results, Tryz.results86, go_sem, cc]) rfl ⟨by rw [HE.out]; rfl, ((((four_new_below HB.out).setCell (Nat.le_refl _) _).setCell (Nat.le_refl _) _).setCell (Nat.le_refl _) _).setCell (Nat.le_refl _) _⟩
      · have h32' : decide ((32 : Int) < (k : Int)) = false := by simp; omega
        have hxt := extract_take s k
        have HXT := Lib.hid hxt
        clear hxt
        by_cases hkey : s.data.toList.take k ∈ keysL
        · have hkd : decide (List.take k s.data.toList ∈ keysL) = true := by simpa using hkey
          have HE : Hid (nameR K s.data.toList = oneV (.ok (5, s.data.toList.take k, 0))) := by show _ = _; unfold nameR; rw [HTN.out, if_neg h32, HTK.out, if_pos hkey]
          clear hkey
          rcases hdone with ⟨c, hx, hst, hdec⟩ | hdec
          · have HX := Lib.hid hx
            have hlt : k < s.size := by simpa using hdec
            clear hx
            go_wp2_with (go_at_call 107; refine (sign_any _ _ _ HX.out).mono ?_; rintro e w1 ⟨rfl, b1⟩; have HB1 : Hid (Below (w.heap.size + 1) (w.alloc (.cells #[.int .i64 0, .string ⟨#[]⟩, .int .i64 0, .int .i64 0] 82)) w1) := HB.out.trans (b1.mono hsz); have hz1 : w.heap.size + 1 ≤ w1.heap.size := Nat.le_trans hsz b1.size; clear b1)
            go_region_with (first | (go_at_call 109; refine (keys_any _).mono ?_; rintro e w2 ⟨rfl, hT2, hb2⟩; have hT3 : Texts w1.heap.size keysL w2 := (by simpa using hT2); have HB2 : Hid (Below (w.heap.size + 1) (w.alloc (.cells #[.int .i64 0, .string ⟨#[]⟩, .int .i64 0, .int .i64 0] 82)) w2) := HB1.out.drew.trans (hb2.mono hz1); clear hT2 hb2) | (go_at_call 108; refine (contains_any _ keysL _ 7 7 _ hT3 rfl (by decide)).mono ?_; rintro e w3 ⟨rfl, rfl⟩))
            all_goals
              go_wp2_with fail
              refine (clone_any _ _ hxz).mono ?_
              rintro e w4 ⟨rfl, b4⟩
              have hz2 : w.heap.size + 1 ≤ w2.heap.size := by have := HB2.out.size; simpa using this
              have HB4 : Hid (Below (w.heap.size + 1) (w.alloc (.cells #[.int .i64 0, .string ⟨#[]⟩, .int .i64 0, .int .i64 0] 82)) w4) := HB2.out.trans (b4.mono hz2)
              obtain ⟨cc, cf, cz⟩ := four_old HB4.out
              clear b4
              rw [HXT.out]
              go_wp2
              exact bodyPost_ret (v := .tuple #[.agg #[.int .i64 5, .string ⟨(s.data.toList.take k).toArray⟩, .int .i64 0, .int .i64 0], .int .i64 0]) (by simp [results, Tryz.results86, go_sem, cc]) rfl ⟨by rw [HE.out]; rfl, ((((four_new_below HB4.out).setCell (Nat.le_refl _) _).setCell (Nat.le_refl _) _).setCell (Nat.le_refl _) _).setCell (Nat.le_refl _) _⟩
          · have HB1 : Hid (Below (w.heap.size + 1) (w.alloc (.cells #[.int .i64 0, .string ⟨#[]⟩, .int .i64 0, .int .i64 0] 82)) wr) := HB
            have hz1 : w.heap.size + 1 ≤ wr.heap.size := hsz
            clear HB hsz
            generalize wr = w1 at *
            go_wp2_with fail
            go_region_with (first | (go_at_call 109; refine (keys_any _).mono ?_; rintro e w2 ⟨rfl, hT2, hb2⟩; have hT3 : Texts w1.heap.size keysL w2 := (by simpa using hT2); have HB2 : Hid (Below (w.heap.size + 1) (w.alloc (.cells #[.int .i64 0, .string ⟨#[]⟩, .int .i64 0, .int .i64 0] 82)) w2) := HB1.out.drew.trans (hb2.mono hz1); clear hT2 hb2) | (go_at_call 108; refine (contains_any _ keysL _ 7 7 _ hT3 rfl (by decide)).mono ?_; rintro e w3 ⟨rfl, rfl⟩))
            all_goals
              go_wp2_with fail
              refine (clone_any _ _ hxz).mono ?_
              rintro e w4 ⟨rfl, b4⟩
              have hz2 : w.heap.size + 1 ≤ w2.heap.size := by have := HB2.out.size; simpa using this
              have HB4 : Hid (Below (w.heap.size + 1) (w.alloc (.cells #[.int .i64 0, .string ⟨#[]⟩, .int .i64 0, .int .i64 0] 82)) w4) := HB2.out.trans (b4.mono hz2)
              obtain ⟨cc, cf, cz⟩ := four_old HB4.out
              clear b4
              rw [HXT.out]
              go_wp2
              exact bodyPost_ret (v := .tuple #[.agg #[.int .i64 5, .string ⟨(s.data.toList.take k).toArray⟩, .int .i64 0, .int .i64 0], .int .i64 0]) (by simp [results, Tryz.results86, go_sem, cc]) rfl ⟨by rw [HE.out]; rfl, ((((four_new_below HB4.out).setCell (Nat.le_refl _) _).setCell (Nat.le_refl _) _).setCell (Nat.le_refl _) _).setCell (Nat.le_refl _) _⟩
        · have hkd : decide (List.take k s.data.toList ∈ keysL) = false := by simpa using hkey
          have HE : Hid (nameR K s.data.toList = oneV (.ok (K, s.data.toList.take k, 0))) := by show _ = _; unfold nameR; rw [HTN.out, if_neg h32, HTK.out, if_neg hkey]
          clear hkey
          rcases hdone with ⟨c, hx, hst, hdec⟩ | hdec
          · have HX := Lib.hid hx
            have hlt : k < s.size := by simpa using hdec
            clear hx
            go_wp2_with (go_at_call 107; refine (sign_any _ _ _ HX.out).mono ?_; rintro e w1 ⟨rfl, b1⟩; have HB1 : Hid (Below (w.heap.size + 1) (w.alloc (.cells #[.int .i64 0, .string ⟨#[]⟩, .int .i64 0, .int .i64 0] 82)) w1) := HB.out.trans (b1.mono hsz); have hz1 : w.heap.size + 1 ≤ w1.heap.size := Nat.le_trans hsz b1.size; clear b1)
            go_region_with (first | (go_at_call 109; refine (keys_any _).mono ?_; rintro e w2 ⟨rfl, hT2, hb2⟩; have hT3 : Texts w1.heap.size keysL w2 := (by simpa using hT2); have HB2 : Hid (Below (w.heap.size + 1) (w.alloc (.cells #[.int .i64 0, .string ⟨#[]⟩, .int .i64 0, .int .i64 0] 82)) w2) := HB1.out.drew.trans (hb2.mono hz1); clear hT2 hb2) | (go_at_call 108; refine (contains_any _ keysL _ 7 7 _ hT3 rfl (by decide)).mono ?_; rintro e w3 ⟨rfl, rfl⟩))
            all_goals
              go_wp2_with fail
              refine (clone_any _ _ hxz).mono ?_
              rintro e w4 ⟨rfl, b4⟩
              have hz2 : w.heap.size + 1 ≤ w2.heap.size := by have := HB2.out.size; simpa using this
              have HB4 : Hid (Below (w.heap.size + 1) (w.alloc (.cells #[.int .i64 0, .string ⟨#[]⟩, .int .i64 0, .int .i64 0] 82)) w4) := HB2.out.trans (b4.mono hz2)
              obtain ⟨cc, cf, cz⟩ := four_old HB4.out
              clear b4
              rw [HXT.out]
              go_wp2
              exact bodyPost_ret (v := .tuple #[.agg #[.int .i64 K, .string ⟨(s.data.toList.take k).toArray⟩, .int .i64 0, .int .i64 0], .int .i64 0]) (by simp [results, Tryz.results86, go_sem, cc]) rfl ⟨by rw [HE.out]; rfl, ((((four_new_below HB4.out).setCell (Nat.le_refl _) _).setCell (Nat.le_refl _) _).setCell (Nat.le_refl _) _).setCell (Nat.le_refl _) _⟩
          · have HB1 : Hid (Below (w.heap.size + 1) (w.alloc (.cells #[.int .i64 0, .string ⟨#[]⟩, .int .i64 0, .int .i64 0] 82)) wr) := HB
            have hz1 : w.heap.size + 1 ≤ wr.heap.size := hsz
            clear HB hsz
            generalize wr = w1 at *
            go_wp2_with fail
            go_region_with (first | (go_at_call 109; refine (keys_any _).mono ?_; rintro e w2 ⟨rfl, hT2, hb2⟩; have hT3 : Texts w1.heap.size keysL w2 := (by simpa using hT2); have HB2 : Hid (Below (w.heap.size + 1) (w.alloc (.cells #[.int .i64 0, .string ⟨#[]⟩, .int .i64 0, .int .i64 0] 82)) w2) := HB1.out.drew.trans (hb2.mono hz1); clear hT2 hb2) | (go_at_call 108; refine (contains_any _ keysL _ 7 7 _ hT3 rfl (by decide)).mono ?_; rintro e w3 ⟨rfl, rfl⟩))
            all_goals
              go_wp2_with fail
              refine (clone_any _ _ hxz).mono ?_
              rintro e w4 ⟨rfl, b4⟩
              have hz2 : w.heap.size + 1 ≤ w2.heap.size := by have := HB2.out.size; simpa using this
              have HB4 : Hid (Below (w.heap.size + 1) (w.alloc (.cells #[.int .i64 0, .string ⟨#[]⟩, .int .i64 0, .int .i64 0] 82)) w4) := HB2.out.trans (b4.mono hz2)
              obtain ⟨cc, cf, cz⟩ := four_old HB4.out
              clear b4
              rw [HXT.out]
              go_wp2
              exact bodyPost_ret (v := .tuple #[.agg #[.int .i64 K, .string ⟨(s.data.toList.take k).toArray⟩, .int .i64 0, .int .i64 0], .int .i64 0]) (by simp [results, Tryz.results86, go_sem, cc]) rfl ⟨by rw [HE.out]; rfl, ((((four_new_below HB4.out).setCell (Nat.le_refl _) _).setCell (Nat.le_refl _) _).setCell (Nat.le_refl _) _).setCell (Nat.le_refl _) _⟩
end Go.Proofs.YtbdfjboojokgdaaGreatDoor.Lx
namespace Go.Proofs.YtbdfjboojokgdaaGreatDoor.Lx
open Go.RowKit

theorem oneV_form (r : Except Nat (Nat × List UInt8 × Nat)) : ∃ (k n e : Int) (x : ByteArray), oneV r = .tuple #[.agg #[.int .i64 k, .string x, .int .i64 n, .int .i64 0], .int .i64 e] := by
  cases r with
  | error e => exact ⟨0, 0, e, _, rfl⟩
  | ok y => obtain ⟨k, x, n⟩ := y; exact ⟨k, n, 0, ⟨x.toArray⟩, rfl⟩

theorem keys_low : ∀ x ∈ keysL, ∃ c r, x = c :: r ∧ rangeB 65 90 ((c : UInt8).toNat : Int) = false := by
  intro x hx
  simp only [keysL, List.mem_cons, List.not_mem_nil, or_false] at hx
  rcases hx with rfl | rfl | rfl | rfl | rfl | rfl | rfl
  all_goals exact ⟨_, _, rfl, by decide⟩

theorem dig_not_letter {c : UInt8} (h : (rangeB 97 122 (c.toNat : Int) || rangeB 65 90 (c.toNat : Int)) = true) : digB c = false := by
  unfold digB rangeB at *
  simp at h ⊢
  omega
theorem low_not_up {c : UInt8} (h : rangeB 97 122 (c.toNat : Int) = true) : rangeB 65 90 (c.toNat : Int) = false := by
  unfold rangeB at *
  simp at h ⊢
  omega

theorem nameR_low {c : UInt8} {r : List UInt8} (h : rangeB 97 122 (c.toNat : Int) = true) : nameR 1 (c :: r) = oneV (oneT (c :: r)) := by
  have hd := dig_not_letter (c := c) (by rw [h]; rfl)
  have hu := low_not_up h
  unfold nameR oneT
  simp only [hd, hu, h, Bool.false_eq_true, if_false, Bool.or_false, if_true]
theorem nameR_up {c : UInt8} {r : List UInt8} (h : rangeB 65 90 (c.toNat : Int) = true) : nameR 2 (c :: r) = oneV (oneT (c :: r)) := by
  have hl : (rangeB 97 122 (c.toNat : Int) || rangeB 65 90 (c.toNat : Int)) = true := by rw [h]; simp
  have hd := dig_not_letter hl
  have hno : (c :: r).takeWhile sgnB ∉ keysL := by
    intro hm
    obtain ⟨c', r', e, hc⟩ := keys_low _ hm
    have hs := sgn_of_letter hl
    simp only [List.takeWhile_cons, hs, if_true, List.cons.injEq] at e
    rw [e.1, hc] at h
    cases h
  unfold nameR oneT
  simp only [hd, h, Bool.or_true, Bool.false_eq_true, if_false, if_true, hno]
theorem numR_dig {c : UInt8} {r : List UInt8} (h : digB c = true) : numR (c :: r) = oneV (oneT (c :: r)) := by
  unfold numR oneT
  simp only [h, if_true]
theorem symV_sym {c : UInt8} {r : List UInt8} (hd : digB c = false) (hl : (rangeB 97 122 (c.toNat : Int) || rangeB 65 90 (c.toNat : Int)) = false) : symV (c :: r) = oneV (oneT (c :: r)) := by
  unfold symV oneT
  simp only [hd, hl, Bool.false_eq_true, if_false]
  split <;> rfl

set_option maxRecDepth 100000 in
set_option maxHeartbeats 1000000 in
theorem first_any (s : ByteArray) (w : World) (hs : 0 < s.size) (hm : s.size ≤ 1099511627776) (hS : Texts 0 symsL w) (h0 : 0 < w.heap.size) :
    Calls Tryz.prog 64 #[.string s] w fun e w' => e = .returned (oneV (oneT s.data.toList)) ∧ Below w.heap.size w w' := by
  have hp0 : (0 : Int) < s.size := by omega
  obtain ⟨r, hr⟩ := head_of s hs
  have hx1 : (s.extract 0 1).size ≤ maxLen := by rw [ByteArray.size_extract]; unfold maxLen; omega
  have n1 := name_one 97 122 s hs
  have n2 := name_one 65 90 s hs
  have HS := Lib.hid hS
  clear hS
  obtain ⟨rk, rn, re, rx, hv⟩ := oneV_form (oneT s.data.toList)
  have HV := Lib.hid hv
  clear hv
  by_cases hlo : rangeB 97 122 (s[0].toNat : Int) = true
  · have HN : Hid (nameR 1 s.data.toList = .tuple #[.agg #[.int .i64 rk, .string rx, .int .i64 rn, .int .i64 0], .int .i64 re]) := by show _ = _; rw [← HV.out, hr]; exact nameR_low hlo
    have hsg : sgnB s[0] = true := sgn_of_letter (by rw [hlo]; rfl)
    have N1 : Hid (nameB 97 122 (s.extract 0 1) = true) := by show _ = _; rw [n1, hlo]
    have HSG := Lib.hid hsg
    clear hr n1 n2 hlo hsg
    go_enter Tryz.func64, Tryz.ntmps64
    go_wp2_with fail
    refine (lower_any _ _ hx1).mono ?_
    rintro e w1 ⟨rfl, b1⟩
    rw [N1.out]
    have HB1 : Hid (Below (w.heap.size + 1) (w.alloc (.cells #[.int .i64 0, .string ⟨#[]⟩, .int .i64 0, .int .i64 0] 82)) w1) := by simpa [Hid] using b1
    clear b1
    go_wp2_with fail
    refine (name_any s 1 _ hs hm HSG.out).mono ?_
    rintro e w2 ⟨rfl, b2⟩
    rw [HN.out]
    have HB2 : Hid (Below (w.heap.size + 1) (w.alloc (.cells #[.int .i64 0, .string ⟨#[]⟩, .int .i64 0, .int .i64 0] 82)) w2) := HB1.out.trans (b2.mono (by have := HB1.out.size; simpa using this))
    obtain ⟨cc, cf, cz⟩ := four_old HB2.out
    clear b2
    go_wp2
    exact bodyPost_ret (v := .tuple #[.agg #[.int .i64 rk, .string rx, .int .i64 rn, .int .i64 0], .int .i64 re]) (by simp [results, Tryz.results64, go_sem, cc]) rfl ⟨by rw [HV.out], ((((four_new_below HB2.out).setCell (Nat.le_refl _) _).setCell (Nat.le_refl _) _).setCell (Nat.le_refl _) _).setCell (Nat.le_refl _) _⟩
  have hlo' : rangeB 97 122 (s[0].toNat : Int) = false := by simpa using hlo
  have N1 : Hid (nameB 97 122 (s.extract 0 1) = false) := by show _ = _; rw [n1, hlo']
  by_cases hup : rangeB 65 90 (s[0].toNat : Int) = true
  · have HN : Hid (nameR 2 s.data.toList = .tuple #[.agg #[.int .i64 rk, .string rx, .int .i64 rn, .int .i64 0], .int .i64 re]) := by show _ = _; rw [← HV.out, hr]; exact nameR_up hup
    have hsg : sgnB s[0] = true := sgn_of_letter (by rw [hup]; simp)
    have N2 : Hid (nameB 65 90 (s.extract 0 1) = true) := by show _ = _; rw [n2, hup]
    have HSG := Lib.hid hsg
    clear hr n1 n2 hlo hsg hlo' hup
    go_enter Tryz.func64, Tryz.ntmps64
    go_wp2_with fail
    refine (lower_any _ _ hx1).mono ?_
    rintro e w1 ⟨rfl, b1⟩
    rw [N1.out]
    have HB1 : Hid (Below (w.heap.size + 1) (w.alloc (.cells #[.int .i64 0, .string ⟨#[]⟩, .int .i64 0, .int .i64 0] 82)) w1) := by simpa [Hid] using b1
    clear b1
    go_wp2_with fail
    refine (upper_any _ _ hx1).mono ?_
    rintro e w3 ⟨rfl, b1⟩
    rw [N2.out]
    have HB3 : Hid (Below (w.heap.size + 1) (w.alloc (.cells #[.int .i64 0, .string ⟨#[]⟩, .int .i64 0, .int .i64 0] 82)) w3) := HB1.out.trans (b1.mono (by have := HB1.out.size; simpa using this))
    clear b1
    go_wp2_with fail
    refine (name_any s 2 _ hs hm HSG.out).mono ?_
    rintro e w2 ⟨rfl, b2⟩
    rw [HN.out]
    have HB2 : Hid (Below (w.heap.size + 1) (w.alloc (.cells #[.int .i64 0, .string ⟨#[]⟩, .int .i64 0, .int .i64 0] 82)) w2) := HB3.out.trans (b2.mono (by have := HB3.out.size; simpa using this))
    obtain ⟨cc, cf, cz⟩ := four_old HB2.out
    clear b2
    go_wp2
    exact bodyPost_ret (v := .tuple #[.agg #[.int .i64 rk, .string rx, .int .i64 rn, .int .i64 0], .int .i64 re]) (by simp [results, Tryz.results64, go_sem, cc]) rfl ⟨by rw [HV.out], ((((four_new_below HB2.out).setCell (Nat.le_refl _) _).setCell (Nat.le_refl _) _).setCell (Nat.le_refl _) _).setCell (Nat.le_refl _) _⟩
  have hup' : rangeB 65 90 (s[0].toNat : Int) = false := by simpa using hup
  have N2 : Hid (nameB 65 90 (s.extract 0 1) = false) := by show _ = _; rw [n2, hup']
  by_cases hd : digB s[0] = true
  · have HN : Hid (numR s.data.toList = .tuple #[.agg #[.int .i64 rk, .string rx, .int .i64 rn, .int .i64 0], .int .i64 re]) := by show _ = _; rw [← HV.out, hr]; exact numR_dig hd
    have hd' : rangeB 48 57 (s[0].toNat : Int) = true := hd
    clear hr n1 n2 hlo hlo' hup hup' hd
    go_enter Tryz.func64, Tryz.ntmps64
    go_wp2_with fail
    refine (lower_any _ _ hx1).mono ?_
    rintro e w1 ⟨rfl, b1⟩
    rw [N1.out]
    have HB1 : Hid (Below (w.heap.size + 1) (w.alloc (.cells #[.int .i64 0, .string ⟨#[]⟩, .int .i64 0, .int .i64 0] 82)) w1) := by simpa [Hid] using b1
    clear b1
    go_wp2_with fail
    refine (upper_any _ _ hx1).mono ?_
    rintro e w3 ⟨rfl, b1⟩
    rw [N2.out]
    have HB3 : Hid (Below (w.heap.size + 1) (w.alloc (.cells #[.int .i64 0, .string ⟨#[]⟩, .int .i64 0, .int .i64 0] 82)) w3) := HB1.out.trans (b1.mono (by have := HB1.out.size; simpa using this))
    clear b1
    go_wp2_with fail
    refine (digit_any _ _).mono ?_
    rintro e w' ⟨rfl, rfl⟩
    go_wp2_with fail
    refine (number_any s _ hm).mono ?_
    rintro e w2 ⟨rfl, b2⟩
    rw [HN.out]
    have HB2 : Hid (Below (w.heap.size + 1) (w.alloc (.cells #[.int .i64 0, .string ⟨#[]⟩, .int .i64 0, .int .i64 0] 82)) w2) := HB3.out.trans (b2.mono (by have := HB3.out.size; simpa using this))
    obtain ⟨cc, cf, cz⟩ := four_old HB2.out
    clear b2
    go_wp2
    exact bodyPost_ret (v := .tuple #[.agg #[.int .i64 rk, .string rx, .int .i64 rn, .int .i64 0], .int .i64 re]) (by simp [results, Tryz.results64, go_sem, cc]) rfl ⟨by rw [HV.out], ((((four_new_below HB2.out).setCell (Nat.le_refl _) _).setCell (Nat.le_refl _) _).setCell (Nat.le_refl _) _).setCell (Nat.le_refl _) _⟩
  · have hdf : digB s[0] = false := by simpa using hd
    have HN : Hid (symV s.data.toList = .tuple #[.agg #[.int .i64 rk, .string rx, .int .i64 rn, .int .i64 0], .int .i64 re]) := by show _ = _; rw [← HV.out, hr]; exact symV_sym hdf (by rw [hlo', hup']; rfl)
    have hd' : rangeB 48 57 (s[0].toNat : Int) = false := hdf
    clear hr n1 n2 hlo hlo' hup hup' hd hdf
    go_enter Tryz.func64, Tryz.ntmps64
    go_wp2_with fail
    refine (lower_any _ _ hx1).mono ?_
    rintro e w1 ⟨rfl, b1⟩
    rw [N1.out]
    have HB1 : Hid (Below (w.heap.size + 1) (w.alloc (.cells #[.int .i64 0, .string ⟨#[]⟩, .int .i64 0, .int .i64 0] 82)) w1) := by simpa [Hid] using b1
    clear b1
    go_wp2_with fail
    refine (upper_any _ _ hx1).mono ?_
    rintro e w3 ⟨rfl, b1⟩
    rw [N2.out]
    have HB3 : Hid (Below (w.heap.size + 1) (w.alloc (.cells #[.int .i64 0, .string ⟨#[]⟩, .int .i64 0, .int .i64 0] 82)) w3) := HB1.out.trans (b1.mono (by have := HB1.out.size; simpa using this))
    clear b1
    go_wp2_with fail
    refine (digit_any _ _).mono ?_
    rintro e w' ⟨rfl, rfl⟩
    go_wp2_with fail
    have hz3 : 0 < w3.heap.size := by have := HB3.out.size; simp at this; omega
    refine (symbol_any s w3 (HS.out.below (four_new_below HB3.out) h0) hz3).mono ?_
    rintro e w2 ⟨rfl, b2⟩
    rw [HN.out]
    have HB2 : Hid (Below (w.heap.size + 1) (w.alloc (.cells #[.int .i64 0, .string ⟨#[]⟩, .int .i64 0, .int .i64 0] 82)) w2) := HB3.out.trans (b2.mono (by have := HB3.out.size; simpa using this))
    obtain ⟨cc, cf, cz⟩ := four_old HB2.out
    clear b2
    go_wp2
    exact bodyPost_ret (v := .tuple #[.agg #[.int .i64 rk, .string rx, .int .i64 rn, .int .i64 0], .int .i64 re]) (by simp [results, Tryz.results64, go_sem, cc]) rfl ⟨by rw [HV.out], ((((four_new_below HB2.out).setCell (Nat.le_refl _) _).setCell (Nat.le_refl _) _).setCell (Nat.le_refl _) _).setCell (Nat.le_refl _) _⟩
end Go.Proofs.YtbdfjboojokgdaaGreatDoor.Lx
