/- The contracts of the program's small functions of lex: digit, sign, Keys, symbol; and of strings.Clone. Condition, where it is named: the list of symbols stands in memory as the program's text lays it. The contracts of the program's number and name (lex). Conditions: the text is not empty, and has at most 2^40 bytes. -/
import Derived.Test.YtbdfjboojokgdaaDoorJ17
import Derived.Test.YtbdfjboojokgdaaDoorJ07
import Derived.Lib.Hide
namespace Go.Proofs.YtbdfjboojokgdaaDoor.Lx
open Go.RowKit

set_option maxHeartbeats 400000 in
theorem digit_any (c : Int) (w : World) :
    Calls Tryd.prog 119 #[.int .u8 c] w fun e w' => e = .returned (.bool (rangeB 48 57 c)) ∧ w = w' := by
  go_enter Tryd.func119, Tryd.ntmps119
  go_wp2
  all_goals go_ret
  all_goals exact ⟨ret_bool (by simp [rangeB]; omega), rfl⟩

theorem name_two (c : UInt8) : nameB 97 122 ⟨#[97, c]⟩ = signB (c.toNat : Int) := by
  cases h : signB (c.toNat : Int) with
  | true =>
    refine nameB_true ⟨Nat.lt_of_lt_of_eq (by decide) (show 2 = _ from rfl), (show (2 : Nat) ≤ 32 by decide), fun i hi => ?_⟩
    have : i = 0 ∨ i = 1 := by have : i < 2 := hi; omega
    rcases this with rfl | rfl
    · rfl
    · exact h
  | false =>
    refine nameB_false (fun hn => ?_)
    have := hn.2.2 1 (Nat.lt_of_lt_of_eq (by decide) (show 2 = _ from rfl))
    have h9 : testB 97 122 1 (c.toNat : Int) = true := this
    unfold testB at h9
    simp [h] at h9

set_option maxHeartbeats 400000 in
theorem sign_any (x : ByteArray) (c : UInt8) (w : World) (hx : x.data.toList = [c]) :
    Calls Tryd.prog 147 #[.string x] w fun e w' => e = .returned (.bool (signB (c.toNat : Int))) ∧ Below w.heap.size w w' := by
  have hb : (⟨#[97]⟩ : ByteArray) ++ x = ⟨#[97, c]⟩ := bytes_ext (by simp [hx])
  have h1 : x.size = 1 := by rw [Lib.size_eq, hx]; rfl
  have HB := Lib.hid hb
  have h1' : x.size ≤ 1 := by omega
  clear hb hx h1
  go_enter Tryd.func147, Tryd.ntmps147
  go_wp2_with fail
  rw [HB.out]
  refine (lower_any (⟨#[97, c]⟩ : ByteArray) _ (show (2 : Nat) ≤ maxLen by decide)).mono ?_
  rintro e w1 ⟨rfl, hb⟩
  rw [name_two]
  go_wp2
  go_ret
  exact ⟨rfl, hb⟩

set_option maxHeartbeats 400000 in
theorem keys_any (w : World) :
    Calls Tryd.prog 149 #[] w fun e w' => e = .returned (.slice (some ⟨w.heap.size, 0, none⟩) 7 7) ∧ Texts w.heap.size keysL w' ∧ Below w.heap.size w w' := by
  go_enter Tryd.func149, Tryd.ntmps149
  go_wp2
  go_ret
  exact ⟨rfl, texts_new w keysL 9, (Below.refl _ _).alloc (Nat.le_refl _) _⟩

set_option maxHeartbeats 400000 in
theorem clone_any (s : ByteArray) (w : World) (h : s.size ≤ 281474976710656) :
    Calls Tryd.prog 150 #[.string s] w fun e w' => e = .returned (.string s) ∧ Below w.heap.size w w' := by
  go_enter Tryd.func150, Tryd.ntmps150
  go_wp2_with (go_at_call 163; refine (Tryd.stringslite_Clone _ _ h).mono ?_; rintro e w' ⟨rfl, hb⟩)
  go_ret
  exact ⟨rfl, hb⟩

theorem run_index_sym (A : Array Value) (k : Nat) (x : ByteArray) (W : World) (hk : k < 13) (hA : A[k]? = some (.string x)) :
    (Instr.index 189 (.agg A) (.int .i64 k)).run Tryd.prog W = .ok (.string x) W := by
  have h : Tryd.prog.underlying 189 = some (.array 13 9) := Tryd.underlying189
  have hn : (0 : Int) ≤ k ∧ (k : Int) < 13 := by omega
  have z9 := Tryd.sizeOf9
  have a9 := Tryd.isAgg9
  simp [Instr.index, run_underlying h, asIntOf, hn, go_sem, hk, z9, a9, hA]
def symA : Array Value := (symsL.map (fun l => Value.string ⟨l.toArray⟩)).toArray
/-- What symbol answered. -/
def symV (l : List UInt8) : Value := if symL l = [] then .tuple #[.agg #[.int .i64 0, .string ⟨#[]⟩, .int .i64 0, .int .i64 0], .int .i64 10] else .tuple #[aggT 4 (symL l) 0 0, .int .i64 0]

set_option maxRecDepth 100000 in
set_option maxHeartbeats 1000000 in
theorem symbol_any (s : ByteArray) (w : World) (hS : Texts 0 symsL w) (h0 : 0 < w.heap.size) :
    Calls Tryd.prog 121 #[.string s] w fun e w' => e = .returned (symV s.data.toList) ∧ Below w.heap.size w w' := by
  have c0 := hS 0 (by decide)
  have c1 := hS 1 (by decide)
  have c2 := hS 2 (by decide)
  have c3 := hS 3 (by decide)
  have c4 := hS 4 (by decide)
  have c5 := hS 5 (by decide)
  have c6 := hS 6 (by decide)
  have c7 := hS 7 (by decide)
  have c8 := hS 8 (by decide)
  have c9 := hS 9 (by decide)
  have c10 := hS 10 (by decide)
  have c11 := hS 11 (by decide)
  have c12 := hS 12 (by decide)
  have HS := Lib.hid hS
  clear hS
  go_enter Tryd.func121, Tryd.ntmps121
  go_wp2_with fail
  clear c0 c1 c2 c3 c4 c5 c6 c7 c8 c9 c10 c11 c12
  have hA : ∀ k (h : k < symsL.length), symA[k]? = some (.string ⟨symsL[k].toArray⟩) := fun k h => by simp [symA, h]
  have HA := Lib.hid hA
  have hAz : symA.size = 13 := rfl
  clear hA
  rw [show (#[Value.string ⟨symsL[0].toArray⟩, Value.string ⟨symsL[1].toArray⟩, Value.string ⟨symsL[2].toArray⟩, Value.string ⟨symsL[3].toArray⟩, Value.string ⟨symsL[4].toArray⟩, Value.string ⟨symsL[5].toArray⟩, Value.string ⟨symsL[6].toArray⟩, Value.string ⟨symsL[7].toArray⟩, Value.string ⟨symsL[8].toArray⟩, Value.string ⟨symsL[9].toArray⟩, Value.string ⟨symsL[10].toArray⟩, Value.string ⟨symsL[11].toArray⟩, Value.string ⟨symsL[12].toArray⟩] : Array Value) = symA from rfl]
  generalize symA = A at *
  go_loop [5, 7] (fun _ i => ∃ k : Nat, k ≤ 13 ∧ i = .int .i64 k ∧ Hid (symsL.find? (fun p => p.isPrefixOf s.data.toList) = (symsL.drop k).find? (fun p => p.isPrefixOf s.data.toList))) (fun _ i => 13 - (intOf i).toNat)
  case atStart => exact ⟨0, by omega, rfl, rfl⟩
  case round =>
    obtain ⟨k, hk, rfl, hfi⟩ := hrel
    by_cases hlt : k < 13
    · have hks : k < symsL.length := hlt
      have hc := HA.out k hks
      have HF := Lib.hid (find_from hks hfi.out)
      have hpos : symsL[k] ≠ [] := by
        have : ∀ x ∈ symsL, x ≠ [] := by decide
        exact this _ (List.getElem_mem hks)
      have HPOS := Lib.hid hpos
      clear hpos
      generalize symsL[k] = x at *
      have hki : (k : Int) < 13 := by omega
      have hk0 : (0 : Int) ≤ (k : Int) := by omega
      have hrun := fun W => run_index_sym A k _ W hlt hc
      clear hfi hks hc
      go_wp2_with fail
      refine (Tryd.strings_HasPrefix _ _ _).mono ?_
      rintro e w' ⟨rfl, rfl⟩
      rw [show Lib.hasPrefix s.data.toList (⟨x.toArray⟩ : ByteArray).data.toList = x.isPrefixOf s.data.toList by unfold Lib.hasPrefix; simp]
      by_cases hp : x.isPrefixOf s.data.toList = true
      · have HE : Hid (symL s.data.toList = x) := HF.out.1 hp
        rw [hp]
        clear hp
        go_wp2
        exact bodyPost_ret (v := .tuple #[.agg #[.int .i64 4, .string ⟨x.toArray⟩, .int .i64 0, .int .i64 0], .int .i64 0]) (by simp [results, Tryd.results121, go_sem]) rfl ⟨by unfold symV; rw [HE.out, if_neg HPOS.out]; rfl, (Below.refl _ _).alloc (Nat.le_refl _) _⟩
      · have hp' : x.isPrefixOf s.data.toList = false := Bool.eq_false_iff.2 hp
        have HR : Hid (symsL.find? (fun p => p.isPrefixOf s.data.toList) = (symsL.drop (k + 1)).find? (fun p => p.isPrefixOf s.data.toList)) := HF.out.2 hp'
        rw [hp']
        clear hp hp'
        go_wp2
        go_round
        case rel => exact ⟨k + 1, by omega, by go_num, HR⟩
        case measure => simp [intOf]; omega
    · obtain rfl : k = 13 := by omega
      have HE : Hid (symL s.data.toList = []) := by show symL _ = []; unfold symL; rw [hfi.out]; rfl
      go_wp2
      exact bodyPost_ret (v := .tuple #[.agg #[.int .i64 0, .string ⟨#[]⟩, .int .i64 0, .int .i64 0], .int .i64 10]) (by simp [results, Tryd.results121, go_sem]) rfl ⟨by unfold symV; rw [if_pos HE.out], (Below.refl _ _).alloc (Nat.le_refl _) _⟩
end Go.Proofs.YtbdfjboojokgdaaDoor.Lx
namespace Go.Proofs.YtbdfjboojokgdaaDoor.Lx
open Go.RowKit

/-- What number answered. -/
def numR (l : List UInt8) : Value := oneV (if 2147483647 < numV (l.takeWhile digB) then .error 11 else .ok (3, l.takeWhile digB, numV (l.takeWhile digB)))
theorem numV_tw_ge (l : List UInt8) (k : Nat) (h : k ≤ (l.takeWhile digB).length) : numV (l.take k) ≤ numV (l.takeWhile digB) := by
  have e : l.takeWhile digB = l.take k ++ (l.takeWhile digB).drop k := by
    conv => lhs; rw [← List.take_append_drop k (l.takeWhile digB)]
    rw [show (l.takeWhile digB).take k = l.take k by
      rw [← tw_take digB l, List.take_take, Nat.min_eq_left h]]
  rw [e]; exact numV_mono _ _

set_option maxRecDepth 100000 in
set_option maxHeartbeats 1000000 in
theorem number_any (s : ByteArray) (w : World) (hm : s.size ≤ 1099511627776) :
    Calls Tryd.prog 120 #[.string s] w fun e w' => e = .returned (numR s.data.toList) ∧ Below w.heap.size w w' := by
  have HTL : Hid ((s.data.toList.takeWhile digB).length ≤ s.size) := by show _ ≤ _; rw [Lib.size_eq]; exact tw_le _ _
  go_enter Tryd.func120, Tryd.ntmps120
  go_wp2_with fail
  go_loop [4, 5] (fun v i => ∃ k : Nat, k ≤ s.size ∧ i = .int .i64 k ∧ v = .int .i64 (numV (s.data.toList.take k)) ∧ numV (s.data.toList.take k) ≤ 2147483647 ∧ Hid (k ≤ (s.data.toList.takeWhile digB).length)) (fun _ i => s.size - (intOf i).toNat)
  case atStart => exact ⟨0, by omega, rfl, rfl, by simp [numV], Nat.zero_le _⟩
  case round =>
    obtain ⟨k, hk, rfl, rfl, hV, hr⟩ := hrel
    by_cases hgo : ∃ h : k < s.size, digB s[k] = true
    · obtain ⟨hlt, hd⟩ := hgo
      have hkl : k < s.data.toList.length := by rw [← Lib.size_eq]; exact hlt
      have HR : Hid (k + 1 ≤ (s.data.toList.takeWhile digB).length) := tw_step digB s.data.toList k hr.out hkl (by rw [get_data s k hlt]; exact hd)
      have hnx := numV_snoc (s.data.toList.take k) s[k]
      rw [← take_get s k hlt] at hnx
      have hdv := dig_val hd
      have hd1 : 48 ≤ s[k].toNat := hdv.1
      have hd2 : s[k].toNat ≤ 57 := hdv.2
      have hd' : rangeB 48 57 (s[k].toNat : Int) = true := hd
      have HNX : Hid (((numV (s.data.toList.take (k + 1)) : Nat) : Int) = 10 * ((numV (s.data.toList.take k) : Nat) : Int) + ((s[k].toNat : Int) - 48)) := by show _ = _; omega
      have hge := numV_tw_ge s.data.toList (k + 1) HR.out
      have hdec : decide (k < s.size) = true := by simpa using hlt
      by_cases hbig : 2147483647 < numV (s.data.toList.take (k + 1))
      · have HE : Hid (numR s.data.toList = oneV (.error 11)) := by show _ = _; unfold numR; rw [if_pos (by omega)]
        have hb' : (2147483647 : Int) < 10 * ((numV (s.data.toList.take k) : Nat) : Int) + ((s[k].toNat : Int) - 48) := by have := HNX.out; omega
        clear hnx hge hbig hdv hd
        generalize numV (s.data.toList.take k) = V at *
        have hmod : ((s[k].toNat : Int) - 48) % 256 = (s[k].toNat : Int) - 48 := by omega
        go_wp2_with (go_at_call 119; refine (digit_any _ _).mono ?_; rintro e w' ⟨rfl, rfl⟩)
        exact bodyPost_ret (v := .tuple #[.agg #[.int .i64 0, .string ⟨#[]⟩, .int .i64 0, .int .i64 0], .int .i64 11]) (by simp [results, Tryd.results120, go_sem]) rfl ⟨by rw [HE.out]; rfl, (Below.refl _ _).alloc (Nat.le_refl _) _⟩
      · have hb' : ¬ (2147483647 : Int) < 10 * ((numV (s.data.toList.take k) : Nat) : Int) + ((s[k].toNat : Int) - 48) := by have := HNX.out; omega
        have HNB : Hid (numV (s.data.toList.take (k + 1)) ≤ 2147483647) := by show _ ≤ _; omega
        clear hnx hge hbig hdv hd
        generalize numV (s.data.toList.take k) = V at *
        have hmod : ((s[k].toNat : Int) - 48) % 256 = (s[k].toNat : Int) - 48 := by omega
        go_wp2_with (go_at_call 119; refine (digit_any _ _).mono ?_; rintro e w' ⟨rfl, rfl⟩)
        go_round
        case rel => exact ⟨k + 1, by omega, by go_num, by rw [HNX.out], HNB.out, HR⟩
        case measure => simp [intOf]; omega
    · have htw : (s.data.toList.takeWhile digB).length = k := by
        by_cases hlt : k < s.size
        · have hkl : k < s.data.toList.length := by rw [← Lib.size_eq]; exact hlt
          refine tw_stop digB s.data.toList k hr.out hkl ?_
          rw [get_data s k hlt]
          cases e9 : digB s[k] with
          | false => rfl
          | true => exact absurd ⟨hlt, e9⟩ hgo
        · have := HTL.out; have := hr.out; omega
      have HTK : Hid (s.data.toList.takeWhile digB = s.data.toList.take k) := by show _ = _; rw [← htw]; exact (tw_take _ _).symm
      have HE : Hid (numR s.data.toList = oneV (.ok (3, s.data.toList.take k, numV (s.data.toList.take k)))) := by show _ = _; unfold numR; rw [HTK.out, if_neg (by omega)]
      have hxt := extract_take s k
      have hxz : (s.extract 0 k).size ≤ 281474976710656 := by rw [ByteArray.size_extract]; omega
      have HX := Lib.hid hxt
      clear htw hxt
      generalize hVV : numV (s.data.toList.take k) = V at *
      have HVV := Lib.hid hVV
      clear hVV
      have hcase : (∃ h : k < s.size, rangeB 48 57 (s[k].toNat : Int) = false) ∨ decide (k < s.size) = false := by
        by_cases hlt : k < s.size
        · left; refine ⟨hlt, ?_⟩
          cases e9 : digB s[k] with
          | false => exact e9
          | true => exact absurd ⟨hlt, e9⟩ hgo
        · right; simpa using hlt
      clear hgo
      rcases hcase with ⟨hlt, hnd⟩ | hdec
      all_goals
        go_wp2_with (first | (go_at_call 119; refine (digit_any _ _).mono ?_; rintro e w' ⟨rfl, rfl⟩))
        refine (clone_any _ _ hxz).mono ?_
        rintro e w1 ⟨rfl, hb⟩
        rw [HX.out]
        obtain ⟨hc, hf⟩ := bcell hb
        have hz : w.heap.size < w1.heap.size := by have := hb.size; simp at this; omega
        have HW : Hid (Below w.heap.size w w1) := ((Below.refl _ _).alloc (Nat.le_refl _) _).trans (hb.mono (by simp))
        clear hb
        go_wp2
        exact bodyPost_ret (v := .tuple #[.agg #[.int .i64 3, .string ⟨(s.data.toList.take k).toArray⟩, .int .i64 V, .int .i64 0], .int .i64 0]) (by simp [results, Tryd.results120, go_sem, hc]) rfl ⟨by rw [HE.out]; rfl, ((((HW.out.setCell (Nat.le_refl _) _).setCell (Nat.le_refl _) _).setCell (Nat.le_refl _) _).setCell (Nat.le_refl _) _)⟩
end Go.Proofs.YtbdfjboojokgdaaDoor.Lx
