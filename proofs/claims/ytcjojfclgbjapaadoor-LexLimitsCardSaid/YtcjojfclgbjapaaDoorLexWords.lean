/- The contracts of the document's Print and of the laws' words (chapter 2). Conditions: a row reads as tokens; bounds on its length. -/
import Derived.Test.YtcjojfclgbjapaaDoorLexTexts
import Derived.Test.YtcjojfclgbjapaaDoorLexJoin
namespace Go.Proofs.YtcjojfclgbjapaaDoor
open Go.RowKit

theorem tokRow_form {w : World} {v : Value} {l : List Tok} (h : TokRow w v l) : ∃ A c, v = .slice A l.length c := by
  rcases h with ⟨hv, hl⟩ | ⟨g, cap, hv, _⟩
  · subst hl; exact ⟨none, 0, hv⟩
  · exact ⟨_, cap, hv⟩
theorem printT_snoc (l : List Tok) (t : Tok) : printT (l ++ [t]) = printStep (printT l) t := by unfold printT; rw [List.foldl_append]; rfl
theorem printT_len (M : Nat) : ∀ (l : List Tok), (∀ t ∈ l, t.text.length ≤ M) → (printT l).length ≤ (M + 1) * l.length := by
  intro l
  have aux : ∀ (l : List Tok) (out : List UInt8), (∀ t ∈ l, t.text.length ≤ M) → (l.foldl printStep out).length ≤ out.length + (M + 1) * l.length := by
    intro l
    induction l with
    | nil => intro out _; simp
    | cons t r ih =>
      intro out h
      have h1 := h t (List.mem_cons_self ..)
      have h2 := ih (printStep out t) (fun q hq => h q (List.mem_cons_of_mem _ hq))
      have h3 : (printStep out t).length ≤ out.length + (M + 1) := by
        unfold printStep
        split
        · omega
        · split <;> simp <;> omega
      rw [List.foldl_cons, List.length_cons, Nat.mul_add]
      omega
  intro h
  have := aux l [] h
  simpa [printT] using this

set_option maxRecDepth 100000 in
set_option maxHeartbeats 1000000 in
theorem refprint2_any (l : List Tok) (v : Value) (w : World) (hr : TokRow w v l) (hn : l.length ≤ 5000) (ht : ∀ t ∈ l, t.text.length ≤ 4000) :
    Calls Tryd.prog 17 #[v] w fun e w' => e = .returned (.string ⟨(printT l).toArray⟩) ∧ w = w' := by
  obtain ⟨A, c, rfl⟩ := tokRow_form hr
  have HR := Lib.hid hr
  have HT := Lib.hid ht
  clear hr ht
  go_enter Tryd.func17, Tryd.ntmps17
  go_wp2
  go_loop [3, 4] (fun o i => ∃ k : Nat, k ≤ l.length ∧ i = .int .i64 k ∧ o = .string ⟨(printT (l.take k)).toArray⟩) (fun _ i => l.length - (intOf i).toNat)
  case atStart => exact ⟨0, Nat.zero_le _, rfl, rfl⟩
  case round =>
    obtain ⟨k, hk, rfl, rfl⟩ := hrel
    have hlen := printT_len 4000 (l.take k) (fun t h9 => HT.out t (List.mem_of_mem_take h9))
    have hlen2 : (l.take k).length ≤ 5000 := by simp; omega
    have hlen3 : (printT (l.take k)).length ≤ 4001 * 5000 := Nat.le_trans hlen (Nat.mul_le_mul_left _ hlen2)
    clear hlen hlen2
    by_cases hlt : k < l.length
    · obtain ⟨g, d, e1, _, r1⟩ : ∃ g cap, Value.slice A l.length c = .slice (some ⟨g, 0, none⟩) l.length cap ∧ _ := by
        rcases HR.out with ⟨_, h9⟩ | h9
        · rw [h9] at hlt; simp at hlt
        · exact h9
      have e1' : A = some ⟨g, 0, none⟩ := by injection e1
      clear e1
      subst e1'
      obtain ⟨p0, p1, p2, p3⟩ := r1 k hlt
      have htk : l.take (k + 1) = l.take k ++ [l[k]] := List.take_succ_eq_append_getElem hlt
      have hst : printT (l.take (k + 1)) = printStep (printT (l.take k)) l[k] := by rw [htk, printT_snoc]
      have htl := HT.out l[k] (List.getElem_mem hlt)
      clear r1 p2 p3 htk
      have HST := Lib.hid hst
      clear hst
      generalize printT (l.take k) = P at *
      generalize l[k] = t at *
      have hki : (k : Int) < (l.length : Int) := by omega
      have hk0 : (0 : Int) ≤ (k : Int) := by omega
      by_cases h6 : t.kind = 6
      · have HE : Hid (printT (l.take (k + 1)) = P) := by show _ = _; rw [HST.out]; unfold printStep; rw [if_pos h6]
        have h6' : ((t.kind : Int) == 6) = true := by simp; omega
        clear h6 HST
        go_wp2
        go_round
        case rel => exact ⟨k + 1, by omega, by go_num, by rw [HE.out]⟩
        case measure => simp [intOf]; omega
      · have h6' : ((t.kind : Int) == 6) = false := by rw [beq_eq_false_iff_ne]; omega
        by_cases hP : P = []
        · subst hP
          have HE : Hid (printT (l.take (k + 1)) = t.text) := by show _ = _; rw [HST.out]; unfold printStep; rw [if_neg h6, if_pos rfl]; rfl
          clear h6 HST
          go_wp2
          go_round
          case rel => exact ⟨k + 1, by omega, by go_num, by rw [HE.out]; first | rfl | simp⟩
          case measure => simp [intOf]; omega
        · have HE : Hid (printT (l.take (k + 1)) = P ++ [32] ++ t.text) := by show _ = _; rw [HST.out]; unfold printStep; rw [if_neg h6, if_neg hP]
          have hPb : P.isEmpty = false := by simpa using hP
          clear h6 HST hP
          go_wp2
          go_round
          case rel => exact ⟨k + 1, by omega, by go_num, by rw [HE.out, ← append_mk2, ← append_mk2]⟩
          case measure => simp [intOf]; omega
    · have hd : decide (k < l.length) = false := by simpa using hlt
      have HK : Hid (printT (l.take k) = printT l) := by show _ = _; rw [List.take_of_length_le (by omega)]
      go_wp2
      go_ret
      exact ⟨by rw [HK.out]; rfl, rfl⟩

def wordsT (strs : List (List UInt8)) : List Tok := strs.map (fun x => ⟨0, x, 0, 0⟩)
/-- The call made a row of these tokens. -/
def MadeToks (w : World) (l : List Tok) (e : Ending) (w' : World) : Prop := ∃ v, e = .returned v ∧ w'.ownsRow w.heap.size 59 4 v l.length (tokCells l) ∧ Below w.heap.size w w'

set_option maxRecDepth 100000 in
set_option maxHeartbeats 1000000 in
theorem words_any (A : Option Addr) (strs : List (List UInt8)) (c : Nat) (w : World) (hs : StrRow w.heap.size w A strs) (hn : strs.length ≤ 5000) :
    Calls Tryd.prog 18 #[.slice A strs.length c] w (MadeToks w (wordsT strs)) := by
  have HS := Lib.hid hs
  clear hs
  obtain ⟨i0, hi, hz0, hz1, hz2⟩ := info_parts Tryd.info59
  go_enter Tryd.func18, Tryd.ntmps18
  go_wp2
  go_loopw [3, 4] (fun v i wr => ∃ k : Nat, k ≤ strs.length ∧ i = .int .i64 k ∧ wr.ownsRow w.heap.size 59 4 v (wordsT (strs.take k)).length (tokCells (wordsT (strs.take k))) ∧ Below w.heap.size w wr) (fun _ i _ => strs.length - (intOf i).toNat)
  case atStart => exact ⟨0, Nat.zero_le _, rfl, World.ownsRow_nil _ _ _ _, Below.refl _ _⟩
  case round =>
    obtain ⟨k, hk, rfl, hown, hb⟩ := hrel
    have hsz := hb.size
    have hwl : (wordsT (strs.take k)).length ≤ 5000 := by simp [wordsT]; omega
    by_cases hlt : k < strs.length
    · obtain ⟨g, rfl, hgB, hc⟩ : ∃ g, A = some ⟨g, 0, none⟩ ∧ g < w.heap.size ∧ ∀ i (h : i < strs.length), w.cell? ⟨g, i, none⟩ = some (SV strs[i]) := by
        rcases HS.out with h0 | h0
        · rw [h0] at hlt; simp at hlt
        · exact h0
      have hck := (hb.cell (p := ⟨g, k, none⟩) hgB).trans (hc k hlt)
      have htk : strs.take (k + 1) = strs.take k ++ [strs[k]] := List.take_succ_eq_append_getElem hlt
      have HTK : Hid (wordsT (strs.take (k + 1)) = wordsT (strs.take k) ++ [⟨0, strs[k], 0, 0⟩]) := by show _ = _; unfold wordsT; rw [htk, List.map_append]; rfl
      clear hc htk
      generalize strs[k] = t at *
      unfold SV at hck
      have hki : (k : Int) < (strs.length : Int) := by omega
      have hk0 : (0 : Int) ≤ (k : Int) := by omega
      go_wp2_with (at_builtin; refine wpList_append_own _ rfl (.tmp 11) (.tmp 17) 33 rfl w.heap.size 59 i0 (.agg #[.int .i64 0, .string ⟨#[]⟩, .int .i64 0, .int .i64 0]) 4 40 Tryd.underlying33 hi hz0 hz1 hz2 rfl (by decide) _ _ _ rfl (hown.alloc _) ⟨wr.heap.size, 0, none⟩ 1 1 [.int .i64 0, .string ⟨t.toArray⟩, .int .i64 0, .int .i64 0] rfl rfl (four_new _ _ _ _ _ _) (four_one _ _ _ _) (by unfold maxLen; omega) (by omega) (by simp; omega) ?_; intro v' w2 hown2 hg2 _)
      have HB3 : Below w.heap.size w w2 := (hb.alloc hsz _).grown (row := u3.ownBlock) hg2 (by simp; omega) (fun x hx => (hown.lt x hx).1)
      have hown3 : w2.ownsRow w.heap.size 59 4 v' (wordsT (strs.take (k + 1))).length (tokCells (wordsT (strs.take (k + 1)))) := by
        rw [HTK.out, tokCells_snoc, List.length_append]; exact hown2
      clear hown2 hg2
      go_roundw
      case rel => exact ⟨k + 1, by omega, by go_num, hown3, HB3⟩
      case measure => simp [intOf]; omega
    · have hd : decide (k < strs.length) = false := by simpa using hlt
      have hown3 : wr.ownsRow w.heap.size 59 4 u3 (wordsT strs).length (tokCells (wordsT strs)) := by
        have e : strs.take k = strs := List.take_of_length_le (by omega)
        rw [e] at hown; exact hown
      go_wp2
      go_ret
      exact ⟨_, rfl, hown3, hb⟩
end Go.Proofs.YtcjojfclgbjapaaDoor
