/- The contracts of the program's small functions of lex: digit, sign, Keys, symbol; and of strings.Clone. Condition, where it is named: the list of symbols stands in memory as the program's text lays it. -/
import Derived.Test.YtcjojfclgbjapaaDoorLexLex
import Derived.Test.YtcjojfclgbjapaaDoorShelf
import Derived.Lib.Hide
namespace Go.Proofs.YtcjojfclgbjapaaDoor
open Go.RowKit

set_option maxHeartbeats 400000 in
theorem digit_any (c : Int) (w : World) :
    Calls Tryd.prog 39 #[.int .u8 c] w fun e w' => e = .returned (.bool (rangeB 48 57 c)) ∧ w = w' := by
  go_enter Tryd.func39, Tryd.ntmps39
  go_wp2
  all_goals go_ret
  all_goals exact ⟨ret_bool (by simp [rangeB]; omega), rfl⟩

theorem name_two (c : UInt8) : nameB 97 122 ⟨#[97, c]⟩ = signB (c.toNat : Int) := by
  cases h : signB (c.toNat : Int) with
  | true =>
    refine nameB_true ⟨Nat.lt_of_lt_of_eq (by decide) (show 2 = _ from rfl), (show (2 : Nat) ≤ 32 by decide), fun i hi => ?_⟩
    have : i = 0 ∨ i = 1 := by have : i < 2 := hi; omega
    rcases this with rfl | rfl
    · rfl
    · exact h
  | false =>
    refine nameB_false (fun hn => ?_)
    have := hn.2.2 1 (Nat.lt_of_lt_of_eq (by decide) (show 2 = _ from rfl))
    have h9 : testB 97 122 1 (c.toNat : Int) = true := this
    unfold testB at h9
    simp [h] at h9

set_option maxHeartbeats 400000 in
theorem sign_any (x : ByteArray) (c : UInt8) (w : World) (hx : x.data.toList = [c]) :
    Calls Tryd.prog 54 #[.string x] w fun e w' => e = .returned (.bool (signB (c.toNat : Int))) ∧ Below w.heap.size w w' := by
  have hb : (⟨#[97]⟩ : ByteArray) ++ x = ⟨#[97, c]⟩ := bytes_ext (by simp [hx])
  have h1 : x.size = 1 := by rw [Lib.size_eq, hx]; rfl
  have HB := Lib.hid hb
  have h1' : x.size ≤ 1 := by omega
  clear hb hx h1
  go_enter Tryd.func54, Tryd.ntmps54
  go_wp2_with fail
  rw [HB.out]
  refine (lower_any (⟨#[97, c]⟩ : ByteArray) _ (show (2 : Nat) ≤ maxLen by decide)).mono ?_
  rintro e w1 ⟨rfl, hb⟩
  rw [name_two]
  go_wp2
  go_ret
  exact ⟨rfl, hb⟩

set_option maxHeartbeats 400000 in
theorem keys_any (w : World) :
    Calls Tryd.prog 23 #[] w fun e w' => e = .returned (.slice (some ⟨w.heap.size, 0, none⟩) 7 7) ∧ Texts w.heap.size keysL w' ∧ Below w.heap.size w w' := by
  go_enter Tryd.func23, Tryd.ntmps23
  go_wp2
  go_ret
  exact ⟨rfl, texts_new w keysL 9, (Below.refl _ _).alloc (Nat.le_refl _) _⟩

set_option maxHeartbeats 400000 in
theorem clone_any (s : ByteArray) (w : World) (h : s.size ≤ 281474976710656) :
    Calls Tryd.prog 56 #[.string s] w fun e w' => e = .returned (.string s) ∧ Below w.heap.size w w' := by
  go_enter Tryd.func56, Tryd.ntmps56
  go_wp2_with (go_at_call 61; refine (Tryd.stringslite_Clone _ _ h).mono ?_; rintro e w' ⟨rfl, hb⟩)
  go_ret
  exact ⟨rfl, hb⟩

theorem run_index_sym (A : Array Value) (k : Nat) (x : ByteArray) (W : World) (hk : k < 13) (hA : A[k]? = some (.string x)) :
    (Instr.index 79 (.agg A) (.int .i64 k)).run Tryd.prog W = .ok (.string x) W := by
  have h : Tryd.prog.underlying 79 = some (.array 13 9) := Tryd.underlying79
  have hn : (0 : Int) ≤ k ∧ (k : Int) < 13 := by omega
  have z9 := Tryd.sizeOf9
  have a9 := Tryd.isAgg9
  simp [Instr.index, run_underlying h, asIntOf, hn, go_sem, hk, z9, a9, hA]
def symA : Array Value := (symsL.map (fun l => Value.string ⟨l.toArray⟩)).toArray
/-- What symbol answered. -/
def symV (l : List UInt8) : Value := if symL l = [] then .tuple #[.agg #[.int .i64 0, .string ⟨#[]⟩, .int .i64 0, .int .i64 0], .int .i64 10] else .tuple #[aggT 4 (symL l) 0 0, .int .i64 0]

set_option maxRecDepth 100000 in
set_option maxHeartbeats 1000000 in
theorem symbol_any (s : ByteArray) (w : World) (hS : Texts 0 symsL w) (h0 : 0 < w.heap.size) :
    Calls Tryd.prog 41 #[.string s] w fun e w' => e = .returned (symV s.data.toList) ∧ Below w.heap.size w w' := by
  have c0 := hS 0 (by decide)
  have c1 := hS 1 (by decide)
  have c2 := hS 2 (by decide)
  have c3 := hS 3 (by decide)
  have c4 := hS 4 (by decide)
  have c5 := hS 5 (by decide)
  have c6 := hS 6 (by decide)
  have c7 := hS 7 (by decide)
  have c8 := hS 8 (by decide)
  have c9 := hS 9 (by decide)
  have c10 := hS 10 (by decide)
  have c11 := hS 11 (by decide)
  have c12 := hS 12 (by decide)
  have HS := Lib.hid hS
  clear hS
  go_enter Tryd.func41, Tryd.ntmps41
  go_wp2_with fail
  clear c0 c1 c2 c3 c4 c5 c6 c7 c8 c9 c10 c11 c12
  have hA : ∀ k (h : k < symsL.length), symA[k]? = some (.string ⟨symsL[k].toArray⟩) := fun k h => by simp [symA, h]
  have HA := Lib.hid hA
  have hAz : symA.size = 13 := rfl
  clear hA
  rw [show (#[Value.string ⟨symsL[0].toArray⟩, Value.string ⟨symsL[1].toArray⟩, Value.string ⟨symsL[2].toArray⟩, Value.string ⟨symsL[3].toArray⟩, Value.string ⟨symsL[4].toArray⟩, Value.string ⟨symsL[5].toArray⟩, Value.string ⟨symsL[6].toArray⟩, Value.string ⟨symsL[7].toArray⟩, Value.string ⟨symsL[8].toArray⟩, Value.string ⟨symsL[9].toArray⟩, Value.string ⟨symsL[10].toArray⟩, Value.string ⟨symsL[11].toArray⟩, Value.string ⟨symsL[12].toArray⟩] : Array Value) = symA from rfl]
  generalize symA = A at *
  go_loop [5, 7] (fun _ i => ∃ k : Nat, k ≤ 13 ∧ i = .int .i64 k ∧ Hid (symsL.find? (fun p => p.isPrefixOf s.data.toList) = (symsL.drop k).find? (fun p => p.isPrefixOf s.data.toList))) (fun _ i => 13 - (intOf i).toNat)
  case atStart => exact ⟨0, by omega, rfl, rfl⟩
  case round =>
    obtain ⟨k, hk, rfl, hfi⟩ := hrel
    by_cases hlt : k < 13
    · have hks : k < symsL.length := hlt
      have hc := HA.out k hks
      have HF := Lib.hid (find_from hks hfi.out)
      have hpos : symsL[k] ≠ [] := by
        have : ∀ x ∈ symsL, x ≠ [] := by decide
        exact this _ (List.getElem_mem hks)
      have HPOS := Lib.hid hpos
      clear hpos
      generalize symsL[k] = x at *
      have hki : (k : Int) < 13 := by omega
      have hk0 : (0 : Int) ≤ (k : Int) := by omega
      have hrun := fun W => run_index_sym A k _ W hlt hc
      clear hfi hks hc
      go_wp2_with fail
      refine (Tryd.strings_HasPrefix _ _ _).mono ?_
      rintro e w' ⟨rfl, rfl⟩
      rw [show Lib.hasPrefix s.data.toList (⟨x.toArray⟩ : ByteArray).data.toList = x.isPrefixOf s.data.toList by unfold Lib.hasPrefix; simp]
      by_cases hp : x.isPrefixOf s.data.toList = true
      · have HE : Hid (symL s.data.toList = x) := HF.out.1 hp
        rw [hp]
        clear hp
        go_wp2
        exact bodyPost_ret (v := .tuple #[.agg #[.int .i64 4, .string ⟨x.toArray⟩, .int .i64 0, .int .i64 0], .int .i64 0]) (by simp [results, Tryd.results41, go_sem]) rfl ⟨by unfold symV; rw [HE.out, if_neg HPOS.out]; rfl, (Below.refl _ _).alloc (Nat.le_refl _) _⟩
      · have hp' : x.isPrefixOf s.data.toList = false := Bool.eq_false_iff.2 hp
        have HR : Hid (symsL.find? (fun p => p.isPrefixOf s.data.toList) = (symsL.drop (k + 1)).find? (fun p => p.isPrefixOf s.data.toList)) := HF.out.2 hp'
        rw [hp']
        clear hp hp'
        go_wp2
        go_round
        case rel => exact ⟨k + 1, by omega, by go_num, HR⟩
        case measure => simp [intOf]; omega
    · obtain rfl : k = 13 := by omega
      have HE : Hid (symL s.data.toList = []) := by show symL _ = []; unfold symL; rw [hfi.out]; rfl
      go_wp2
      exact bodyPost_ret (v := .tuple #[.agg #[.int .i64 0, .string ⟨#[]⟩, .int .i64 0, .int .i64 0], .int .i64 10]) (by simp [results, Tryd.results41, go_sem]) rfl ⟨by unfold symV; rw [if_pos HE.out], (Below.refl _ _).alloc (Nat.le_refl _) _⟩
end Go.Proofs.YtcjojfclgbjapaaDoor
