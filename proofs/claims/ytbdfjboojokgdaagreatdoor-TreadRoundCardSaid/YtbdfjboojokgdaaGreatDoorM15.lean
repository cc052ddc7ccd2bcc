/- Plain mathematics of chapter 2: what a source's tokens are. No program, no world. The contracts of the document's functions of chapter 2: digit, sign, blank, Keys, Has, symbol. No conditions but those that each theorem names. Plain mathematics of chapter 2: the tokens of texts of tokens with blanks between are these texts. No program, no world. -/
import Derived.Test.YtbdfjboojokgdaaGreatDoorM14
import Derived.Lib.Strings
import Derived.Lib.IndexBytes
import Derived.Deep.QuietTactic
import Derived.BigQuiet
import Derived.KernelRfl
namespace Go.Proofs.YtbdfjboojokgdaaGreatDoor.Lx

def digB (c : UInt8) : Bool := rangeB 48 57 (c.toNat : Int)
def sgnB (c : UInt8) : Bool := signB (c.toNat : Int)
/-- How many bytes of blanks a text begins with: one, or a remark's. -/
def blankN : List UInt8 → Nat
  | [] => 0
  | a :: r => if a = 32 ∨ a = 9 ∨ a = 10 then 1 else
      match r with
      | [] => 0
      | b :: q => if a = 45 ∧ b = 45 then 2 + (q.takeWhile (fun c => c != 10)).length else 0
structure Tok where
  kind : Nat
  text : List UInt8
  num : Nat
  place : Nat
def numV (l : List UInt8) : Nat := l.foldl (fun k c => k * 10 + (c.toNat - 48)) 0
def keysL : List (List UInt8) := [[99, 97, 115, 101], [99, 108, 97, 115, 115], [100, 97, 116, 97], [105, 110], [105, 110, 115, 116, 97, 110, 99, 101], [108, 101, 116], [111, 102]]
def symsL : List (List UInt8) := [[45, 62], [61, 62], [92], [61], [124], [40], [41], [123], [125], [59], [58], [44], [95]]
def symL (l : List UInt8) : List UInt8 := (symsL.find? (fun p => p.isPrefixOf l)).getD []
/-- The token with which a text begins: its kind, text and number; or the error. -/
def oneT (l : List UInt8) : Except Nat (Nat × List UInt8 × Nat) :=
  match l with
  | [] => .error 10
  | c :: _ =>
    if digB c then (if 2147483647 < numV (l.takeWhile digB) then .error 11 else .ok (3, l.takeWhile digB, numV (l.takeWhile digB)))
    else if rangeB 97 122 (c.toNat : Int) || rangeB 65 90 (c.toNat : Int) then
      (if 32 < (l.takeWhile sgnB).length then .error 2
      else if rangeB 65 90 (c.toNat : Int) then .ok (2, l.takeWhile sgnB, 0)
      else if l.takeWhile sgnB ∈ keysL then .ok (5, l.takeWhile sgnB, 0) else .ok (1, l.takeWhile sgnB, 0))
    else if symL l = [] then .error 10 else .ok (4, symL l, 0)
def lexF : Nat → List UInt8 → Nat → Except (Nat × Nat) (List Tok)
  | 0, _, i => .ok [⟨6, [], 0, i⟩]
  | f + 1, l, i => if l = [] then .ok [⟨6, [], 0, i⟩]
    else if 0 < blankN l then lexF f (l.drop (blankN l)) (i + blankN l)
    else match oneT l with
      | .error e => .error (e, i)
      | .ok (k, x, n) => (lexF f (l.drop x.length) (i + x.length)).map (fun r => ⟨k, x, n, i⟩ :: r)
def lexL (l : List UInt8) : Except (Nat × Nat) (List Tok) := if 4000 < l.length then .error (2, 0) else lexF l.length l 0

/-! ### Sizes -/
theorem tw_le (p : UInt8 → Bool) (l : List UInt8) : (l.takeWhile p).length ≤ l.length := (List.takeWhile_prefix p).length_le
theorem blankN_le (l : List UInt8) : blankN l ≤ l.length := by
  unfold blankN
  match l with
  | [] => simp
  | [a] => simp; split <;> simp
  | a :: b :: q =>
    have := tw_le (fun c : UInt8 => c != 10) q
    simp only [List.length_cons]
    split
    · omega
    · split <;> omega
theorem symL_cases (l : List UInt8) : symL l = [] ∨ (symL l ∈ symsL ∧ symL l <+: l) := by
  unfold symL
  cases h : symsL.find? (fun p => p.isPrefixOf l) with
  | none => exact .inl rfl
  | some x =>
    right
    exact ⟨List.mem_of_find?_eq_some h, List.isPrefixOf_iff_prefix.1 (by have := List.find?_some h; simpa using this)⟩
theorem symL_pos {l : List UInt8} (h : symL l ≠ []) : 0 < (symL l).length := List.length_pos_iff.2 h
theorem symL_le (l : List UInt8) : (symL l).length ≤ l.length := by
  rcases symL_cases l with h | ⟨_, h⟩
  · rw [h]; simp
  · exact h.length_le
theorem takeWhile_pos {p : UInt8 → Bool} {c : UInt8} {r : List UInt8} (h : p c = true) : 0 < ((c :: r).takeWhile p).length := by simp [h]
theorem sgn_of_letter {c : UInt8} (h : (rangeB 97 122 (c.toNat : Int) || rangeB 65 90 (c.toNat : Int)) = true) : sgnB c = true := by
  unfold sgnB signB plainB
  revert h
  cases rangeB 97 122 (c.toNat : Int) <;> cases rangeB 65 90 (c.toNat : Int) <;> simp
theorem oneT_len {l : List UInt8} {k n : Nat} {x : List UInt8} (h : oneT l = .ok (k, x, n)) : 1 ≤ x.length ∧ x.length ≤ l.length := by
  unfold oneT at h
  match l, h with
  | c :: r, h =>
    simp only at h
    by_cases hd : digB c = true
    · rw [if_pos hd] at h
      split at h
      · cases h
      · cases h; exact ⟨takeWhile_pos hd, tw_le _ _⟩
    · rw [if_neg hd] at h
      by_cases hl : (rangeB 97 122 (c.toNat : Int) || rangeB 65 90 (c.toNat : Int)) = true
      · rw [if_pos hl] at h
        have hp : 0 < ((c :: r).takeWhile sgnB).length := takeWhile_pos (sgn_of_letter hl)
        have hq : ((c :: r).takeWhile sgnB).length ≤ (c :: r).length := tw_le _ _
        split at h
        · cases h
        · split at h
          · cases h; exact ⟨hp, hq⟩
          · split at h <;> cases h <;> exact ⟨hp, hq⟩
      · rw [if_neg hl] at h
        split at h
        · cases h
        · rename_i h9; cases h; exact ⟨symL_pos h9, symL_le _⟩

theorem lexF_more : ∀ (f g : Nat) (l : List UInt8) (i : Nat), l.length ≤ f → l.length ≤ g → lexF f l i = lexF g l i
  | f, g, [], i, _, _ => by cases f <;> cases g <;> simp [lexF]
  | 0, _, a :: l, _, h, _ => by simp at h
  | f + 1, 0, a :: l, _, _, h => by simp at h
  | f + 1, g + 1, a :: l, i, hf, hg => by
    simp only [lexF, reduceCtorEq, if_false]
    by_cases hb : 0 < blankN (a :: l)
    · rw [if_pos hb, if_pos hb]
      exact lexF_more f g _ _ (by simp at *; omega) (by simp at *; omega)
    · rw [if_neg hb, if_neg hb]
      cases h : oneT (a :: l) with
      | error e => rfl
      | ok x =>
        obtain ⟨k, x, n⟩ := x
        have := oneT_len h
        simp only
        rw [lexF_more f g ((a :: l).drop x.length) _ (by simp at *; omega) (by simp at *; omega)]

/-! ### What a loop that goes through a source knows -/
def LexInv (l : List UInt8) (out : List Tok) (i : Nat) : Prop :=
  i ≤ l.length ∧ out.length ≤ i ∧ lexF l.length l 0 = (lexF (l.length - i) (l.drop i) i).map (fun r => out ++ r)
theorem except_map_id {ε α : Type} (x : Except ε α) (f : α → α) (h : ∀ a, f a = a) : x.map f = x := by
  cases x with
  | error e => rfl
  | ok a => show Except.ok (f a) = _; rw [h]
theorem except_map_map {ε α β γ : Type} (x : Except ε α) (f : α → β) (g : β → γ) : (x.map f).map g = x.map (fun a => g (f a)) := by cases x <;> rfl
theorem lexInv_start (l : List UInt8) : LexInv l [] 0 := ⟨Nat.zero_le _, Nat.le_refl _, (except_map_id _ _ (fun _ => rfl)).symm⟩
theorem drop_ne {l : List UInt8} {i : Nat} (h : i < l.length) : l.drop i ≠ [] := by
  intro e; have := congrArg List.length e; simp at this; omega
theorem lexInv_end {l : List UInt8} {out : List Tok} {i : Nat} (h : LexInv l out i) (hi : ¬ i < l.length) : lexF l.length l 0 = .ok (out ++ [⟨6, [], 0, l.length⟩]) := by
  have hil : i = l.length := by have := h.1; omega
  rw [h.2.2, hil]
  simp [lexF, Except.map]
theorem lexF_step {l : List UInt8} {i : Nat} (hi : i < l.length) : lexF (l.length - i) (l.drop i) i =
    if 0 < blankN (l.drop i) then lexF (l.length - (i + blankN (l.drop i))) (l.drop (i + blankN (l.drop i))) (i + blankN (l.drop i))
    else match oneT (l.drop i) with
      | .error e => .error (e, i)
      | .ok (k, x, n) => (lexF (l.length - (i + x.length)) (l.drop (i + x.length)) (i + x.length)).map (fun r => ⟨k, x, n, i⟩ :: r) := by
  obtain ⟨g, hg⟩ : ∃ g, l.length - i = g + 1 := ⟨l.length - i - 1, by omega⟩
  rw [hg]
  simp only [lexF, drop_ne hi, if_false]
  by_cases hb : 0 < blankN (l.drop i)
  · rw [if_pos hb, if_pos hb, List.drop_drop]
    have := blankN_le (l.drop i)
    rw [List.length_drop] at this
    exact lexF_more _ _ _ _ (by simp; omega) (by simp)
  · rw [if_neg hb, if_neg hb]
    cases h : oneT (l.drop i) with
    | error e => rfl
    | ok x =>
      obtain ⟨k, x, n⟩ := x
      have := oneT_len h
      rw [List.length_drop] at this
      simp only [List.drop_drop]
      rw [lexF_more g (l.length - (i + x.length)) _ _ (by simp; omega) (by simp)]
theorem lexInv_blank {l : List UInt8} {out : List Tok} {i : Nat} (h : LexInv l out i) (hi : i < l.length) (hb : 0 < blankN (l.drop i)) : LexInv l out (i + blankN (l.drop i)) := by
  have hl := blankN_le (l.drop i)
  rw [List.length_drop] at hl
  refine ⟨by omega, by have := h.2.1; omega, ?_⟩
  rw [h.2.2, lexF_step hi, if_pos hb]
theorem lexInv_err {l : List UInt8} {out : List Tok} {i e : Nat} (h : LexInv l out i) (hi : i < l.length) (hb : ¬ 0 < blankN (l.drop i)) (ho : oneT (l.drop i) = .error e) : lexF l.length l 0 = .error (e, i) := by
  rw [h.2.2, lexF_step hi, if_neg hb, ho]
  rfl
theorem lexInv_tok {l : List UInt8} {out : List Tok} {i k n : Nat} {x : List UInt8} (h : LexInv l out i) (hi : i < l.length) (hb : ¬ 0 < blankN (l.drop i)) (ho : oneT (l.drop i) = .ok (k, x, n)) : LexInv l (out ++ [⟨k, x, n, i⟩]) (i + x.length) := by
  have hl := oneT_len ho
  rw [List.length_drop] at hl
  refine ⟨by omega, by have := h.2.1; simp; omega, ?_⟩
  rw [h.2.2, lexF_step hi, if_neg hb, ho]
  simp only [except_map_map]
  congr 1
  funext r
  simp

/-! ### Walks through a text -/
theorem tw_step (p : UInt8 → Bool) : ∀ (L : List UInt8) (j : Nat), j ≤ (L.takeWhile p).length → ∀ (hj : j < L.length), p L[j] = true → j + 1 ≤ (L.takeWhile p).length
  | [], _, _, hj, _ => absurd hj (Nat.not_lt_zero _)
  | a :: r, j, h, hj, hp => by
    by_cases ha : p a = true
    · simp only [List.takeWhile_cons, ha, if_true, List.length_cons] at h ⊢
      cases j with
      | zero => omega
      | succ i => have := tw_step p r i (by omega) (by simpa using hj) (by simpa using hp); omega
    · simp only [List.takeWhile_cons, ha] at h
      obtain rfl : j = 0 := by simpa using h
      exact absurd hp ha
theorem tw_stop (p : UInt8 → Bool) : ∀ (L : List UInt8) (j : Nat), j ≤ (L.takeWhile p).length → ∀ (hj : j < L.length), p L[j] = false → (L.takeWhile p).length = j
  | [], _, _, hj, _ => absurd hj (Nat.not_lt_zero _)
  | a :: r, j, h, hj, hp => by
    by_cases ha : p a = true
    · simp only [List.takeWhile_cons, ha, if_true, List.length_cons] at h ⊢
      cases j with
      | zero => simp at hp; rw [hp] at ha; cases ha
      | succ i => have := tw_stop p r i (by omega) (by simpa using hj) (by simpa using hp); omega
    · simp only [List.takeWhile_cons, ha] at h ⊢
      obtain rfl : j = 0 := by simpa using h
      rfl
theorem tw_end (p : UInt8 → Bool) (L : List UInt8) (j : Nat) (h : j ≤ (L.takeWhile p).length) (hj : ¬ j < L.length) : (L.takeWhile p).length = j := by
  have := tw_le p L; omega
theorem tw_take (p : UInt8 → Bool) (L : List UInt8) : L.take (L.takeWhile p).length = L.takeWhile p := by
  have := List.takeWhile_prefix p (l := L)
  exact (List.prefix_iff_eq_take.1 this).symm
end Go.Proofs.YtbdfjboojokgdaaGreatDoor.Lx
namespace Go.Proofs.YtbdfjboojokgdaaGreatDoor.Lx
open Go.RowKit

set_option maxHeartbeats 400000 in
theorem refdigit_any (c : Int) (w : World) :
    Calls Tryz.prog 68 #[.int .u8 c] w fun e w' => e = .returned (.bool (rangeB 48 57 c)) ∧ w = w' := by
  go_enter Tryz.func68, Tryz.ntmps68
  go_wp2
  all_goals go_ret
  all_goals exact ⟨ret_bool (by simp [rangeB]; omega), rfl⟩

set_option maxHeartbeats 400000 in
theorem refsign_any (c : Int) (w : World) :
    Calls Tryz.prog 71 #[.int .u8 c] w fun e w' => e = .returned (.bool (signB c)) ∧ w = w' := by
  go_enter Tryz.func71, Tryz.ntmps71
  go_wp2_with (go_at_call 68; refine (refdigit_any _ _).mono ?_; rintro e w' ⟨rfl, rfl⟩)
  all_goals go_ret
  all_goals exact ⟨ret_bool (by rw [Bool.eq_iff_iff]; simp_all [signB, plainB, rangeB]; try omega), rfl⟩

theorem head_of (s : ByteArray) (h : 0 < s.size) : ∃ r, s.data.toList = s[0] :: r := by
  have h0 := Lib.data_getElem? s 0 h
  cases hl : s.data.toList with
  | nil => rw [hl] at h0; cases h0
  | cons a r => rw [hl] at h0; simp at h0; exact ⟨r, by rw [h0]⟩
theorem heads_of (s : ByteArray) (h : 1 < s.size) : ∃ r, s.data.toList = s[0] :: s[1] :: r := by
  have h0 := Lib.data_getElem? s 0 (by omega)
  have h1 := Lib.data_getElem? s 1 h
  match hl : s.data.toList, h0, h1 with
  | a :: b :: r, h0, h1 => simp at h0 h1; exact ⟨r, by rw [h0, h1]⟩
theorem extract_one (s : ByteArray) (k : Nat) (h : k < s.size) : (s.extract k (k + 1)).toList = [s[k]] := by
  rw [Lib.toList_data, Lib.extract_data]
  have := Lib.data_getElem? s k h
  rw [show k + 1 - k = 1 by omega]
  have hd := List.drop_eq_getElem_cons (l := s.data.toList) (i := k) (by rw [← Lib.size_eq]; exact h)
  rw [hd]
  rw [List.getElem?_eq_getElem (by rw [← Lib.size_eq]; exact h)] at this
  simp at this
  simp [this]
theorem extract_two (s : ByteArray) (h : 1 < s.size) : (s.extract 0 2).toList = [s[0], s[1]] := by
  obtain ⟨r, e⟩ := heads_of s h
  rw [Lib.toList_data, Lib.extract_data, e]
  rfl
theorem byte_ne {c : UInt8} {n : Nat} (_hn : n < 256) (h : c ≠ UInt8.ofNat n) : ((c.toNat : Int) == (n : Int)) = false := by
  rw [beq_eq_false_iff_ne]
  intro e
  apply h
  rw [show n = c.toNat by omega]
  simp
theorem get_data (s : ByteArray) (k : Nat) (h : k < s.size) (h' : k < s.data.toList.length) : s.data.toList[k] = s[k] := by
  have := Lib.data_getElem? s k h
  rw [List.getElem?_eq_getElem h'] at this
  exact Option.some.inj this

set_option maxHeartbeats 400000 in
theorem refblank_any (s : ByteArray) (w : World) (hs : 0 < s.size) (hm : s.size ≤ 1099511627776) :
    Calls Tryz.prog 43 #[.string s] w fun e w' => e = .returned (.int .i64 (blankN s.data.toList)) ∧ w = w' := by
  have hp0 : (0 : Int) < s.size := by omega
  by_cases hb : s[0] = 32 ∨ s[0] = 9 ∨ s[0] = 10
  · have HB : Hid (blankN s.data.toList = 1) := by obtain ⟨r, e⟩ := head_of s hs; rw [e]; simp only [blankN]; rw [if_pos hb]; exact rfl
    have hc : ((s[0].toNat : Int) == 32) = true ∨ (((s[0].toNat : Int) == 32) = false ∧ ((s[0].toNat : Int) == 9) = true) ∨ (((s[0].toNat : Int) == 32) = false ∧ ((s[0].toNat : Int) == 9) = false ∧ ((s[0].toNat : Int) == 10) = true) := by
      rcases hb with e | e | e <;> rw [e] <;> decide
    clear hb
    rcases hc with h | ⟨h, h'⟩ | ⟨h, h', h''⟩
    all_goals
      go_enter Tryz.func43, Tryz.ntmps43
      go_wp2
      go_ret
      exact ⟨by rw [HB.out]; rfl, rfl⟩
  have n32 : ((s[0].toNat : Int) == 32) = false := byte_ne (n := 32) (by decide) (fun e => hb (.inl e))
  have n9 : ((s[0].toNat : Int) == 9) = false := byte_ne (n := 9) (by decide) (fun e => hb (.inr (.inl e)))
  have n10 : ((s[0].toNat : Int) == 10) = false := byte_ne (n := 10) (by decide) (fun e => hb (.inr (.inr e)))
  by_cases h1 : 1 < s.size
  · have h1' : decide ((1 : Int) < s.size) = true := by simp; omega
    have hx := extract_two s h1
    obtain ⟨q, hq⟩ := heads_of s h1
    by_cases h45 : s[0] = 45 ∧ s[1] = 45
    · have HB : Hid (blankN s.data.toList = 2 + (q.takeWhile (fun c => c != 10)).length) := by rw [hq]; simp only [blankN]; rw [if_neg hb]; rw [if_pos h45]; exact rfl
      have hx' : (s.extract 0 2).toList = [45, 45] := by rw [hx, h45.1, h45.2]
      have HQ := Lib.hid hq
      have hql : q.length + 2 = s.size := by rw [Lib.size_eq, hq]; simp
      have HQL := Lib.hid hql
      clear hx hq hb h45 hql
      go_enter Tryz.func43, Tryz.ntmps43
      go_wp2
      go_loop [3] (fun n => ∃ k : Nat, 2 ≤ k ∧ k ≤ s.size ∧ n = .int .i64 k ∧ Hid (k - 2 ≤ (q.takeWhile (fun c => c != 10)).length)) (fun n => s.size - (intOf n).toNat)
      case atStart => exact ⟨2, by omega, by omega, rfl, Nat.zero_le _⟩
      case round =>
        obtain ⟨k, hk2, hk, rfl, hr⟩ := hrel
        by_cases hlt : k < s.size
        · have hx1 := extract_one s k hlt
          have hqk : k - 2 < q.length := by have := HQL.out; omega
          have hget : q[k - 2] = s[k] := by
            have h9 := get_data s k hlt (by rw [← Lib.size_eq]; exact hlt)
            rw [← h9]
            have e2 : s.data.toList = s[0] :: s[1] :: q := HQ.out
            obtain ⟨m, rfl⟩ : ∃ m, k = m + 2 := ⟨k - 2, by omega⟩
            simp only [e2]
            rfl
          by_cases h10 : s[k] = 10
          · have hx2 : (s.extract k (k + 1)).toList = [10] := by rw [hx1, h10]
            have HE : Hid (blankN s.data.toList = k) := by rw [HB.out, tw_stop _ q (k - 2) hr.out hqk (by rw [hget, h10]; rfl)]; show 2 + (k - 2) = k; omega
            clear hx1 hget h10
            go_wp2
            go_ret
            exact ⟨by rw [HE.out]; rfl, rfl⟩
          · have hx2 : ((s.extract k (k + 1)).toList == [10]) = false := by rw [hx1]; simpa using h10
            have HR : Hid (k + 1 - 2 ≤ (q.takeWhile (fun c => c != 10)).length) := by
              have := tw_step (fun c => c != 10) q (k - 2) hr.out hqk (by rw [hget]; simpa using h10)
              show k + 1 - 2 ≤ _; omega
            clear hx1 hget h10
            go_wp2
            go_round
            case rel => exact ⟨k + 1, by omega, by omega, by go_num, HR⟩
            case measure => simp [intOf]; omega
        · have hd : decide (k < s.size) = false := by simpa using hlt
          have HE : Hid (blankN s.data.toList = k) := by rw [HB.out, tw_end _ q (k - 2) hr.out (by have := HQL.out; omega)]; show 2 + (k - 2) = k; omega
          go_wp2
          go_ret
          exact ⟨by rw [HE.out]; rfl, rfl⟩
    · have HB : Hid (blankN s.data.toList = 0) := by rw [hq]; simp only [blankN]; rw [if_neg hb]; rw [if_neg h45]; exact rfl
      have hx' : ((s.extract 0 2).toList == [45, 45]) = false := by rw [hx]; simpa using h45
      clear hx hq hb h45
      go_enter Tryz.func43, Tryz.ntmps43
      go_wp2
      go_ret
      exact ⟨by rw [HB.out]; rfl, rfl⟩
  · have h1' : decide ((1 : Int) < s.size) = false := by simp; omega
    have HB : Hid (blankN s.data.toList = 0) := by
      obtain ⟨r, e⟩ := head_of s hs
      have hr : r = [] := by have := Lib.size_eq s; rw [e] at this; simp at this; exact List.eq_nil_of_length_eq_zero (by omega)
      rw [e, hr]; simp only [blankN]; rw [if_neg hb]; exact rfl
    clear hb
    go_enter Tryz.func43, Tryz.ntmps43
    go_wp2
    go_ret
    exact ⟨by rw [HB.out]; rfl, rfl⟩

theorem bytes_ext {a b : ByteArray} (h : a.data.toList = b.data.toList) : a = b := by
  rw [← Lib.mk_data a, ← Lib.mk_data b, h]

/-- A block that holds these texts, cell by cell. -/
def Texts (B : Nat) (strs : List (List UInt8)) (w : World) : Prop := ∀ n (h : n < strs.length), w.cell? ⟨B, n, none⟩ = some (.string ⟨strs[n].toArray⟩)
theorem Texts.below {B X : Nat} {strs : List (List UInt8)} {w w' : World} (h : Texts B strs w) (hb : Below X w w') (hB : B < X) : Texts B strs w' :=
  fun n hn => (hb.cell (p := ⟨B, n, none⟩) hB).trans (h n hn)
theorem texts_new (w : World) (strs : List (List UInt8)) (t : TypeId) : Texts w.heap.size strs (w.alloc (.cells (strs.map (fun l => Value.string ⟨l.toArray⟩)).toArray t)) := fun n hn => by
  rw [World.cell?_alloc_at _ _ _ _ rfl]
  simp [hn]

set_option maxHeartbeats 400000 in
theorem refkeys_any (w : World) :
    Calls Tryz.prog 73 #[] w fun e w' => e = .returned (.slice (some ⟨w.heap.size, 0, none⟩) 7 7) ∧ Texts w.heap.size keysL w' ∧ Below w.heap.size w w' := by
  go_enter Tryz.func73, Tryz.ntmps73
  go_wp2
  go_ret
  exact ⟨rfl, texts_new w keysL 9, (Below.refl _ _).alloc (Nat.le_refl _) _⟩

set_option maxHeartbeats 400000 in
theorem refhas_any (B n cap : Nat) (strs : List (List UInt8)) (x : ByteArray) (w : World) (hT : Texts B strs w) (hn : strs.length = n) (hm : n ≤ 4611686018427387904) :
    Calls Tryz.prog 72 #[.slice (some ⟨B, 0, none⟩) n cap, .string x] w fun e w' => e = .returned (.bool (decide (x.data.toList ∈ strs))) ∧ w = w' := by
  have HT := Lib.hid hT
  have HN := Lib.hid hn
  clear hT hn
  go_enter Tryz.func72, Tryz.ntmps72
  go_wp2
  go_loop [5] (fun i => ∃ k : Nat, k ≤ n ∧ i = .int .i64 k ∧ Hid (x.data.toList ∉ strs.take k)) (fun i => n - (intOf i).toNat)
  case atStart => exact ⟨0, Nat.zero_le _, rfl, by simp [Hid]⟩
  case round =>
    obtain ⟨k, hk, rfl, hno⟩ := hrel
    by_cases hlt : k < n
    · have hks : k < strs.length := by rw [HN.out]; exact hlt
      have hc := HT.out k hks
      have htk : strs.take (k + 1) = strs.take k ++ [strs[k]] := List.take_succ_eq_append_getElem hks
      have hv : (⟨strs[k].toArray⟩ : ByteArray).toList = strs[k] := by rw [Lib.toList_data]
      by_cases he : strs[k] = x.data.toList
      · have HE : Hid (decide (x.data.toList ∈ strs) = true) := by
          have : x.data.toList ∈ strs := by rw [← he]; exact List.getElem_mem hks
          exact decide_eq_true this
        have hb : ((⟨strs[k].toArray⟩ : ByteArray).toList == x.toList) = true := by rw [hv, he, Lib.toList_data]; simp
        generalize (⟨strs[k].toArray⟩ : ByteArray) = v at *
        clear htk hv he hks
        go_wp2
        go_ret
        exact ⟨ret_bool HE.out.symm, rfl⟩
      · have hb : ((⟨strs[k].toArray⟩ : ByteArray).toList == x.toList) = false := by rw [hv, Lib.toList_data]; simpa using he
        have HR : Hid (x.data.toList ∉ strs.take (k + 1)) := by
          show ¬ _
          rw [htk, List.mem_append, List.mem_singleton]
          rintro (h | h)
          · exact hno.out h
          · exact he h.symm
        generalize (⟨strs[k].toArray⟩ : ByteArray) = v at *
        clear htk hv he hks
        go_wp2
        go_round
        case rel => exact ⟨k + 1, by omega, by go_num, HR⟩
        case measure => simp [intOf]; omega
    · have hd : decide (k < n) = false := by simpa using hlt
      have HE : Hid (decide (x.data.toList ∈ strs) = false) := by
        have h9 := hno.out
        rw [List.take_of_length_le (by rw [HN.out]; omega)] at h9
        exact decide_eq_false h9
      go_wp2
      go_ret
      exact ⟨ret_bool HE.out.symm, rfl⟩

theorem find_from {l : List UInt8} {k : Nat} (hk : k < symsL.length) (h : symsL.find? (fun p => p.isPrefixOf l) = (symsL.drop k).find? (fun p => p.isPrefixOf l)) :
    (symsL[k].isPrefixOf l = true → symL l = symsL[k]) ∧ (symsL[k].isPrefixOf l = false → symsL.find? (fun p => p.isPrefixOf l) = (symsL.drop (k + 1)).find? (fun p => p.isPrefixOf l)) := by
  rw [List.drop_eq_getElem_cons hk, List.find?_cons] at h
  constructor
  · intro hp
    rw [hp] at h
    unfold symL
    rw [h]
    rfl
  · intro hp
    rw [hp] at h
    exact h
theorem prefix_extract (s : ByteArray) (x : List UInt8) : ((s.extract 0 x.length).toList == x) = x.isPrefixOf s.data.toList := by
  rw [Lib.toList_data, Lib.extract_data, Bool.eq_iff_iff, beq_iff_eq, List.isPrefixOf_iff_prefix, List.prefix_iff_eq_take]
  simp only [Nat.sub_zero, List.drop_zero]
  exact eq_comm
theorem prefix_long (s : ByteArray) (x : List UInt8) (h : ¬ x.length ≤ s.size) : x.isPrefixOf s.data.toList = false := by
  rw [← Bool.not_eq_true, List.isPrefixOf_iff_prefix]
  intro hp
  exact h (by rw [Lib.size_eq]; exact hp.length_le)

set_option maxHeartbeats 1000000 in
theorem refsymbol_any (s : ByteArray) (w : World) :
    Calls Tryz.prog 74 #[.string s] w fun e w' => e = .returned (.string ⟨(symL s.data.toList).toArray⟩) ∧ Below w.heap.size w w' := by
  go_enter Tryz.func74, Tryz.ntmps74
  go_wp2
  have hN := texts_new w symsL 9
  have hB : Below w.heap.size w (w.alloc (.cells (symsL.map (fun l => Value.string ⟨l.toArray⟩)).toArray 9)) := (Below.refl _ _).alloc (Nat.le_refl _) _
  have hZ : w.heap.size < (w.alloc (.cells (symsL.map (fun l => Value.string ⟨l.toArray⟩)).toArray 9)).heap.size := by simp
  go_loopw [4] (fun i wr => ∃ k : Nat, k ≤ 13 ∧ i = .int .i64 k ∧ Texts w.heap.size symsL wr ∧ Below w.heap.size w wr ∧ w.heap.size < wr.heap.size ∧ Hid (symsL.find? (fun p => p.isPrefixOf s.data.toList) = (symsL.drop k).find? (fun p => p.isPrefixOf s.data.toList))) (fun i _ => 13 - (intOf i).toNat)
  case atStart => exact ⟨0, by omega, rfl, hN, hB, hZ, rfl⟩
  case round =>
    clear hN hB hZ
    obtain ⟨k, hk, rfl, hT, hb, hz, hfi⟩ := hrel
    by_cases hlt : k < 13
    · have hks : k < symsL.length := hlt
      have hc := hT k hks
      have HF := Lib.hid (find_from hks hfi.out)
      have hpx := prefix_extract s symsL[k]
      have hpl := prefix_long s symsL[k]
      have hv1 : (⟨symsL[k].toArray⟩ : ByteArray).toList = symsL[k] := by rw [Lib.toList_data]
      have hv2 : (⟨symsL[k].toArray⟩ : ByteArray).size = symsL[k].length := by show symsL[k].toArray.size = _; simp
      rw [← hv2] at hpx hpl
      have HT := Lib.hid hT
      have HV : Hid ((⟨symsL[k].toArray⟩ : ByteArray) = ⟨symsL[k].toArray⟩) := rfl
      generalize hvv : (⟨symsL[k].toArray⟩ : ByteArray) = v at *
      have HVV : Hid (⟨symsL[k].toArray⟩ = v) := hvv
      generalize symsL[k] = x at *
      clear hT hvv hv2 HV hks hfi
      have hk0 : (0 : Int) ≤ (k : Int) := by omega
      have hk13 : (k : Int) < 13 := by omega
      by_cases hle : v.size ≤ s.size
      · have hle' : ((v.size : Nat) : Int) ≤ (s.size : Int) := by omega
        have hle2 : decide (v.size ≤ s.size) = true := by simpa using hle
        by_cases hp : x.isPrefixOf s.data.toList = true
        · have hb2 : ((s.extract 0 v.size).toList == v.toList) = true := by rw [hv1, hpx, hp]
          have HE : Hid (symL s.data.toList = x) := HF.out.1 hp
          clear hpx hpl hp HF hv1
          go_wp2_with fail
          go_quiet (fail)
          go_wp2
          go_ret
          exact ⟨by rw [HE.out, HVV.out]; rfl, below_drewN hb _⟩
        · have hp' : x.isPrefixOf s.data.toList = false := Bool.eq_false_iff.2 hp
          have hb2 : ((s.extract 0 v.size).toList == v.toList) = false := by rw [hv1, hpx, hp']
          have HR : Hid (symsL.find? (fun p => p.isPrefixOf s.data.toList) = (symsL.drop (k + 1)).find? (fun p => p.isPrefixOf s.data.toList)) := HF.out.2 hp'
          clear hpx hpl hp hp' HF hv1
          go_wp2_with fail
          go_quiet (fail)
          go_wp2
          go_roundw
          case rel => exact ⟨k + 1, by omega, by go_num, HT.out, below_drewN hb _, hz, HR⟩
          case measure => simp [intOf]; omega
      · have hle2 : decide (v.size ≤ s.size) = false := by simpa using hle
        have hle3 : decide (((v.size : Nat) : Int) ≤ (s.size : Int)) = false := by simp; omega
        have HR : Hid (symsL.find? (fun p => p.isPrefixOf s.data.toList) = (symsL.drop (k + 1)).find? (fun p => p.isPrefixOf s.data.toList)) := HF.out.2 (hpl hle)
        clear hpx hpl HF hv1
        go_wp2_with fail
        go_quiet (fail)
        go_wp2
        go_roundw
        case rel => exact ⟨k + 1, by omega, by go_num, HT.out, below_drewN hb _, hz, HR⟩
        case measure => simp [intOf]; omega
    · obtain rfl : k = 13 := by omega
      have HE : Hid (symL s.data.toList = []) := by show symL _ = []; unfold symL; rw [hfi.out]; rfl
      go_wp2
      go_ret
      exact ⟨by rw [HE.out]; rfl, hb⟩
end Go.Proofs.YtbdfjboojokgdaaGreatDoor.Lx
namespace Go.Proofs.YtbdfjboojokgdaaGreatDoor.Lx

def textsL : List (List UInt8) := [[102], [120], [120, 115], [97], [84], [67, 111, 110, 115], [78, 105, 108], [100, 97, 116, 97], [99, 108, 97, 115, 115], [105, 110, 115, 116, 97, 110, 99, 101], [108, 101, 116], [105, 110], [99, 97, 115, 101], [111, 102], [45, 62], [61, 62], [92], [61], [124], [40], [41], [123], [125], [59], [58], [44], [95], [48], [55], [50, 49, 52, 55, 52, 56, 51, 54, 52, 55], [120, 39], [97, 95, 98], [99, 97, 115, 69], [105, 110, 49]]
def gapsL : List (List UInt8) := [[32], [10], [32, 32], [9], [32, 45, 45, 32, 97, 32, 98, 10], [45, 45, 10], [10, 10]]
def kindN (t : List UInt8) : Nat := match oneT t with | .ok (k, _, _) => k | .error _ => 0
def numN (t : List UInt8) : Nat := match oneT t with | .ok (_, _, n) => n | .error _ => 0
def srcL (ps : List (List UInt8 × List UInt8)) : List UInt8 := ps.flatMap (fun p => p.1 ++ p.2)
def toksOf : List (List UInt8 × List UInt8) → Nat → List Tok
  | [], _ => []
  | p :: r, i => ⟨kindN p.2, p.2, numN p.2, i + p.1.length⟩ :: toksOf r (i + p.1.length + p.2.length)

/-- Lexing, with as much fuel as there are bytes. -/
def lexA (l : List UInt8) (i : Nat) : Except (Nat × Nat) (List Tok) := lexF l.length l i
theorem lexA_nil (i : Nat) : lexA [] i = .ok [⟨6, [], 0, i⟩] := rfl
theorem lexA_blank {l : List UInt8} (i n : Nat) (h : blankN l = n) (hn : 0 < n) : lexA l i = lexA (l.drop n) (i + n) := by
  subst h
  have hl := blankN_le l
  have hne : l ≠ [] := by rintro rfl; exact absurd hn (by decide)
  obtain ⟨g, hg⟩ : ∃ g, l.length = g + 1 := ⟨l.length - 1, by omega⟩
  unfold lexA
  rw [hg]
  simp only [lexF, hne, if_false, hn, if_true]
  exact lexF_more _ _ _ _ (by simp; omega) (Nat.le_refl _)
theorem lexA_tok {l : List UInt8} (i k n : Nat) (x : List UInt8) (hb : blankN l = 0) (h : oneT l = .ok (k, x, n)) : lexA l i = (lexA (l.drop x.length) (i + x.length)).map (fun r => ⟨k, x, n, i⟩ :: r) := by
  have hl := oneT_len h
  have hne : l ≠ [] := by rintro rfl; have h1 := hl.1; have h2 : x.length ≤ 0 := hl.2; omega
  obtain ⟨g, hg⟩ : ∃ g, l.length = g + 1 := ⟨l.length - 1, by omega⟩
  unfold lexA
  rw [hg]
  simp only [lexF, hne, if_false, hb, Nat.lt_irrefl, h]
  rw [lexF_more g _ _ _ (by simp; omega) (Nat.le_refl _)]

/-- Blanks that may stand between tokens. -/
theorem lexA_gap (g x : List UInt8) (hg : g ∈ gapsL) (i : Nat) : lexA (g ++ x) i = lexA x (i + g.length) := by
  simp only [gapsL, List.mem_cons, List.not_mem_nil, or_false] at hg
  rcases hg with rfl | rfl | rfl | rfl | rfl | rfl | rfl
  · exact lexA_blank i 1 rfl (by decide)
  · exact lexA_blank i 1 rfl (by decide)
  · rw [lexA_blank i 1 rfl (by decide)]; exact lexA_blank (i + 1) 1 rfl (by decide)
  · exact lexA_blank i 1 rfl (by decide)
  · rw [lexA_blank i 1 rfl (by decide), lexA_blank (i + 1) 6 rfl (by decide)]; exact lexA_blank (i + 1 + 6) 1 rfl (by decide)
  · rw [lexA_blank i 2 rfl (by decide)]; exact lexA_blank (i + 2) 1 rfl (by decide)
  · rw [lexA_blank i 1 rfl (by decide)]; exact lexA_blank (i + 1) 1 rfl (by decide)

/-- What may stand behind a token: nothing, or a byte that goes on no token. -/
def Ends (x : List UInt8) : Prop := x = [] ∨ ∃ c y, x = c :: y ∧ (c = 32 ∨ c = 10 ∨ c = 9 ∨ c = 45)
theorem ends_gap (g x : List UInt8) (hg : g ∈ gapsL) : Ends (g ++ x) := by
  simp only [gapsL, List.mem_cons, List.not_mem_nil, or_false] at hg
  rcases hg with rfl | rfl | rfl | rfl | rfl | rfl | rfl
  all_goals exact .inr ⟨_, _, rfl, by decide⟩

set_option maxRecDepth 100000 in
theorem one_text (t x : List UInt8) (ht : t ∈ textsL) (hx : Ends x) : blankN (t ++ x) = 0 ∧ oneT (t ++ x) = .ok (kindN t, t, numN t) := by
  rcases hx with rfl | ⟨c, y, rfl, rfl | rfl | rfl | rfl⟩
  all_goals
    simp only [textsL, List.mem_cons, List.not_mem_nil, or_false] at ht
    rcases ht with rfl | rfl | rfl | rfl | rfl | rfl | rfl | rfl | rfl | rfl | rfl | rfl | rfl | rfl | rfl | rfl | rfl | rfl | rfl | rfl | rfl | rfl | rfl | rfl | rfl | rfl | rfl | rfl | rfl | rfl | rfl | rfl | rfl | rfl
    all_goals exact ⟨rfl, rfl⟩

/-- Texts of tokens, each with blanks ahead (the first may have none). -/
def Fine (ps : List (List UInt8 × List UInt8)) : Prop := ∀ p ∈ ps, p.1 ∈ gapsL ∧ p.2 ∈ textsL
theorem srcL_cons (p : List UInt8 × List UInt8) (r : List (List UInt8 × List UInt8)) : srcL (p :: r) = p.1 ++ (p.2 ++ srcL r) := by simp [srcL]
theorem ends_src (ps : List (List UInt8 × List UInt8)) (h : Fine ps) (tail : List UInt8) (ht : Ends tail) : Ends (srcL ps ++ tail) := by
  cases ps with
  | nil => exact ht
  | cons p r =>
    rw [srcL_cons, List.append_assoc]
    exact ends_gap _ _ (h p (List.mem_cons_self ..)).1
theorem except_map_ok {ε α β : Type} {x : Except ε α} {a : α} (f : α → β) (h : x = .ok a) : x.map f = .ok (f a) := by rw [h]; rfl
/-- A token's text, and what is behind. -/
theorem lexA_text (t x : List UInt8) (ht : t ∈ textsL) (hx : Ends x) (i : Nat) (r : List Tok) (h : lexA x (i + t.length) = .ok r) : lexA (t ++ x) i = .ok (⟨kindN t, t, numN t, i⟩ :: r) := by
  obtain ⟨h1, h2⟩ := one_text t x ht hx
  rw [lexA_tok i _ _ t h1 h2, List.drop_left]
  exact except_map_ok _ h
theorem lex_src (tail : List UInt8) (ht : Ends tail) (n : Nat) (hend : ∀ i, lexA tail i = .ok [⟨6, [], 0, i + n⟩]) :
    ∀ (ps : List (List UInt8 × List UInt8)) (_ : Fine ps) (i : Nat), lexA (srcL ps ++ tail) i = .ok (toksOf ps i ++ [⟨6, [], 0, i + (srcL ps).length + n⟩])
  | [], _, i => by simp [srcL, toksOf, hend]
  | p :: r, h, i => by
    have hp := h p (List.mem_cons_self ..)
    have hr : Fine r := fun q hq => h q (List.mem_cons_of_mem _ hq)
    have ih := lex_src tail ht n hend r hr (i + p.1.length + p.2.length)
    rw [srcL_cons, List.append_assoc, List.append_assoc, lexA_gap _ _ hp.1]
    rw [lexA_text p.2 _ hp.2 (ends_src r hr tail ht) _ _ ih]
    simp only [toksOf, List.cons_append, List.length_append]
    rw [show i + p.1.length + p.2.length + (srcL r).length + n = i + (p.1.length + (p.2.length + (srcL r).length)) + n by omega]
/-- The same where the first text has no blanks ahead. -/
theorem lex_src_bare (tail : List UInt8) (ht : Ends tail) (n : Nat) (hend : ∀ i, lexA tail i = .ok [⟨6, [], 0, i + n⟩]) (t : List UInt8) (htt : t ∈ textsL) (ps : List (List UInt8 × List UInt8)) (h : Fine ps) (i : Nat) :
    lexA (srcL (([], t) :: ps) ++ tail) i = .ok (toksOf (([], t) :: ps) i ++ [⟨6, [], 0, i + (srcL (([], t) :: ps)).length + n⟩]) := by
  have ih := lex_src tail ht n hend ps h (i + t.length)
  rw [srcL_cons, List.nil_append, List.append_assoc, lexA_text t _ htt (ends_src ps h tail ht) _ _ ih]
  simp only [toksOf, List.cons_append, List.length_append, List.length_nil, Nat.add_zero]
  rw [show i + t.length + (srcL ps).length + n = i + (t.length + (srcL ps).length) + n by omega]
theorem end_nil (i : Nat) : lexA [] i = .ok [⟨6, [], 0, i + 0⟩] := rfl
theorem end_remark (i : Nat) : lexA [10, 32, 45, 45, 32, 101, 110, 100] i = .ok [⟨6, [], 0, i + 8⟩] := by
  rw [lexA_blank i 1 rfl (by decide), lexA_blank (i + 1) 1 rfl (by decide), lexA_blank (i + 1 + 1) 6 rfl (by decide)]
  rfl
theorem toksOf_length : ∀ (ps : List (List UInt8 × List UInt8)) (i : Nat), (toksOf ps i).length = ps.length
  | [], _ => rfl
  | _ :: r, i => by simp [toksOf, toksOf_length r]
theorem toksOf_at : ∀ (ps : List (List UInt8 × List UInt8)) (i j : Nat) (h : j < ps.length), ∃ a, (toksOf ps i)[j]? = some ⟨kindN ps[j].2, ps[j].2, numN ps[j].2, a⟩
  | _ :: _, i, 0, _ => ⟨_, rfl⟩
  | p :: r, i, j + 1, h => by
    obtain ⟨a, ha⟩ := toksOf_at r (i + p.1.length + p.2.length) j (by simpa using h)
    exact ⟨a, by simpa [toksOf] using ha⟩
theorem texts_len (t : List UInt8) (h : t ∈ textsL) : 1 ≤ t.length ∧ t.length ≤ 10 := by
  have : ∀ x ∈ textsL, 1 ≤ x.length ∧ x.length ≤ 10 := by decide
  exact this t h
theorem gaps_len (t : List UInt8) (h : t ∈ gapsL) : 1 ≤ t.length ∧ t.length ≤ 8 := by
  have : ∀ x ∈ gapsL, 1 ≤ x.length ∧ x.length ≤ 8 := by decide
  exact this t h
theorem srcL_len : ∀ (ps : List (List UInt8 × List UInt8)), Fine ps → (srcL ps).length ≤ 18 * ps.length
  | [], _ => by simp [srcL]
  | p :: r, h => by
    have hp := h p (List.mem_cons_self ..)
    have h1 := texts_len _ hp.2
    have h2 := gaps_len _ hp.1
    have ih := srcL_len r (fun q hq => h q (List.mem_cons_of_mem _ hq))
    rw [srcL_cons]; simp; omega
/-- The lexer's answer to a source of texts and blanks. -/
theorem lexL_src (ps : List (List UInt8 × List UInt8)) (h : Fine ps) (hn : ps.length ≤ 200) : lexL (srcL ps) = .ok (toksOf ps 0 ++ [⟨6, [], 0, (srcL ps).length⟩]) := by
  have hl := srcL_len ps h
  unfold lexL
  rw [if_neg (by omega)]
  have := lex_src [] (.inl rfl) 0 end_nil ps h 0
  simp only [List.append_nil, Nat.zero_add, Nat.add_zero] at this
  exact this
end Go.Proofs.YtbdfjboojokgdaaGreatDoor.Lx
