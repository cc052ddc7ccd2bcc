/- What the walk of the law LexLimits needs: the tokens of blanks and of a long name; the document's Decimal (some short text); string(b) of bytes. No conditions but those that each theorem names. -/
import Derived.Test.YtcjojfclgbjapaaDoorKeys
import Derived.Laws.IdiomStrings
namespace Go.Proofs.YtcjojfclgbjapaaDoor
open Go.RowKit

theorem lexA_blanks : ∀ (n i : Nat), lexA (List.replicate n 32) i = .ok [⟨6, [], 0, i + n⟩]
  | 0, i => rfl
  | n + 1, i => by
    rw [List.replicate_succ, lexA_blank i 1 rfl (by decide)]
    show lexA (List.replicate n 32) (i + 1) = _
    rw [lexA_blanks n (i + 1), show i + 1 + n = i + (n + 1) by omega]
theorem long_res (n : Nat) : (4000 < n ∧ resC (lexL (List.replicate n 32)) = 2 ∧ resP (lexL (List.replicate n 32)) = 0) ∨ (n ≤ 4000 ∧ resC (lexL (List.replicate n 32)) = 0 ∧ resP (lexL (List.replicate n 32)) = 0) := by
  by_cases h : 4000 < n
  · left
    have e : lexL (List.replicate n 32) = .error (2, 0) := by unfold lexL; rw [if_pos (by simpa using h)]
    rw [e]; exact ⟨h, rfl, rfl⟩
  · right
    have e : lexL (List.replicate n 32) = .ok [⟨6, [], 0, n⟩] := by
      unfold lexL; rw [if_neg (by simpa using h)]
      have := lexA_blanks n 0
      rw [Nat.zero_add] at this
      exact this
    rw [e]; exact ⟨by omega, rfl, rfl⟩
theorem lexA_err {l : List UInt8} (i e : Nat) (hb : blankN l = 0) (hne : l ≠ []) (h : oneT l = .error e) : lexA l i = .error (e, i) := by
  obtain ⟨g, hg⟩ : ∃ g, l.length = g + 1 := ⟨l.length - 1, by have := List.length_pos_iff.2 hne; omega⟩
  unfold lexA
  rw [hg]
  simp only [lexF, hne, if_false, hb, Nat.lt_irrefl, h]
theorem tw_x (k : Nat) : (List.replicate k (120 : UInt8)).takeWhile sgnB = List.replicate k 120 := by
  induction k with
  | zero => rfl
  | succ k ih => rw [List.replicate_succ, List.takeWhile_cons, if_pos (by decide), ih]
theorem blank_x (k : Nat) : blankN (List.replicate k (120 : UInt8)) = 0 := by
  match k with
  | 0 => rfl
  | 1 => rfl
  | k + 2 => show blankN (120 :: 120 :: List.replicate k 120) = 0; simp only [blankN]; rw [if_neg (by decide), if_neg (by decide)]
theorem one_x (k : Nat) (hk : 1 ≤ k) : (32 < k ∧ oneT (List.replicate k 120) = .error 2) ∨ (k ≤ 32 ∧ ∃ K, oneT (List.replicate k 120) = .ok (K, List.replicate k 120, 0)) := by
  obtain ⟨j, rfl⟩ : ∃ j, k = j + 1 := ⟨k - 1, by omega⟩
  have htw := tw_x (j + 1)
  rw [List.replicate_succ] at htw ⊢
  have e : oneT (120 :: List.replicate j 120) = (if 32 < ((120 :: List.replicate j 120).takeWhile sgnB).length then .error 2
      else if (120 :: List.replicate j 120).takeWhile sgnB ∈ keysL then .ok (5, (120 :: List.replicate j 120).takeWhile sgnB, 0) else .ok (1, (120 :: List.replicate j 120).takeWhile sgnB, 0)) := by
    simp only [oneT]
    rw [if_neg (by decide), if_pos (by decide)]
    rfl
  rw [e, htw]
  have hl : (120 :: List.replicate j (120 : UInt8)).length = j + 1 := by simp
  rw [hl]
  by_cases h : 32 < j + 1
  · left; exact ⟨h, by rw [if_pos h]⟩
  · right
    refine ⟨by omega, ?_⟩
    rw [if_neg h]
    split
    · exact ⟨_, rfl⟩
    · exact ⟨_, rfl⟩
theorem name_res (k : Nat) (hk : 1 ≤ k) (hk' : k ≤ 100) : (32 < k ∧ resC (lexL (32 :: List.replicate k 120)) = 2 ∧ resP (lexL (32 :: List.replicate k 120)) = 1) ∨ (k ≤ 32 ∧ resC (lexL (32 :: List.replicate k 120)) = 0 ∧ resP (lexL (32 :: List.replicate k 120)) = 0) := by
  have e0 : lexL (32 :: List.replicate k 120) = lexA (List.replicate k 120) 1 := by
    unfold lexL
    rw [if_neg (by simp; omega)]
    have := lexA_blank (l := 32 :: List.replicate k 120) 0 1 rfl (by decide)
    exact this
  have hne : List.replicate k (120 : UInt8) ≠ [] := by
    intro h; have := congrArg List.length h; simp at this; omega
  rcases one_x k hk with ⟨h, e⟩ | ⟨h, K, e⟩
  · left
    have e1 := lexA_err 1 2 (blank_x k) hne e
    rw [e0, e1]; exact ⟨h, rfl, rfl⟩
  · right
    have e1 := lexA_tok 1 K 0 (List.replicate k 120) (blank_x k) e
    rw [List.drop_eq_nil_of_le (by simp), lexA_nil] at e1
    rw [e0, e1]
    exact ⟨h, rfl, rfl⟩

def bc (l : List UInt8) : List Value := l.map fun b => Value.int .u8 b.toNat
theorem bc_length (l : List UInt8) : (bc l).length = l.length := by simp [bc]
theorem Tryd.info5 : (Tryd.prog.info? 5).map (fun i => (i.zero, i.size, i.bytes)) = some (some (.int .u8 0), 1, 1) := by kernel_rfl
/-- string(b) of a row that the call owns. -/
theorem convert_own {w : World} {base : Nat} {v : Value} {n : Nat} {l : List UInt8} (h : w.ownsRow base 5 1 v n (bc l)) :
    (convert 48 9 v).run Tryd.prog w = .ok (.string ⟨l.toArray⟩) w := by
  have hlen : l.length = n := by have := h.1; rw [bc_length] at this; omega
  rcases h.2 with ⟨rfl, h0⟩ | ⟨g, cap, cur, rfl, _, _, _, _, _, _⟩
  · subst h0
    obtain rfl := List.eq_nil_of_length_eq_zero hlen
    have := run_convert_bytes_nil (P := Tryd.prog) (w := w) 48 5 Tryd.underlying48 Tryd.underlying5 0 0 9 Tryd.underlying9
    exact this
  · subst hlen
    refine run_convert_bytes_back w 48 9 5 ⟨g, 0, none⟩ cap l Tryd.underlying48 Tryd.underlying5 Tryd.underlying9 fun j hj => ?_
    exact h.cells (g := g) rfl j _ (by simp [bc, List.getElem?_eq_getElem hj])
theorem ofNat_toNat (n : Nat) (h : n < 256) : (UInt8.ofNat n).toNat = n := by simp [UInt8.toNat_ofNat']; omega
/-- string([]byte{x}). -/
theorem convert_one (w : World) (x : Int) (h0 : 0 ≤ x) (h1 : x < 256) :
    (convert 48 9 (.slice (some ⟨w.heap.size, 0, none⟩) 1 1)).run Tryd.prog (w.alloc (.cells #[.int .u8 x] 5)) = .ok (.string ⟨#[UInt8.ofNat x.toNat]⟩) (w.alloc (.cells #[.int .u8 x] 5)) := by
  have hx : (((UInt8.ofNat x.toNat).toNat : Nat) : Int) = x := by rw [ofNat_toNat _ (by omega)]; omega
  refine run_convert_bytes_back (w.alloc (.cells #[.int .u8 x] 5)) 48 9 5 ⟨w.heap.size, 0, none⟩ 1 [UInt8.ofNat x.toNat] Tryd.underlying48 Tryd.underlying5 Tryd.underlying9 fun j hj => ?_
  obtain rfl : j = 0 := by simpa using hj
  simp only [List.getElem_cons_zero]
  rw [hx]
  simp [Addr.add, go_sem]

/-- The call returned some text of at most m bytes, and made memory. -/
def SomeShortB (m : Nat) (w : World) (e : Ending) (w' : World) : Prop := ∃ t : ByteArray, t.size ≤ m ∧ e = .returned (.string t) ∧ Below w.heap.size w w'
set_option maxHeartbeats 400000 in
theorem decimal_short : ∀ (d n : Nat), n < 10 ^ (d + 1) → d ≤ 17 → ∀ (w : World), Calls Tryd.prog 22 #[.int .i64 n] w (SomeShortB (d + 1) w)
  | d, n, h, hd, w => by
    have hp : 10 ^ (d + 1) ≤ 10 ^ 18 := Nat.pow_le_pow_right (by omega) (by omega)
    have hn : n < 1000000000000000000 := Nat.lt_of_lt_of_le h hp
    clear hp
    have hcv := convert_one w (48 + (n : Int) % 10) (by omega) (by omega)
    by_cases h10 : n < 10
    · have b1 : decide ((n : Int) < 10) = true := by simp; omega
      have HD : Hid (1 ≤ d + 1) := by show _ ≤ _; omega
      clear h hd
      generalize UInt8.ofNat (48 + (n : Int) % 10).toNat = c at *
      go_enter Tryd.func22, Tryd.ntmps22
      go_wp2
      go_ret
      exact ⟨⟨#[c]⟩, HD.out, rfl, (Below.refl _ _).alloc (Nat.le_refl _) _⟩
    · obtain ⟨d', rfl⟩ : ∃ d', d = d' + 1 := by
        cases d with
        | zero => simp at h; omega
        | succ d' => exact ⟨d', rfl⟩
      have b1 : decide ((n : Int) < 10) = false := by simp; omega
      have IH := Lib.hid (decimal_short d' (n / 10) (by rw [Nat.pow_succ] at h; omega) (by omega))
      have hd19 : d' + 1 ≤ 18 := by omega
      clear h hd
      generalize UInt8.ofNat (48 + (n : Int) % 10).toNat = c at *
      go_enter Tryd.func22, Tryd.ntmps22
      go_wp2_with fail
      rw [show ((n : Int) / 10) = ((n / 10 : Nat) : Int) by simp]
      refine (IH.out _).mono ?_
      rintro e w1 ⟨t, ht, rfl, hb⟩
      have hsum := size_append2 t ⟨#[c]⟩
      have HSUM := Lib.hid hsum
      clear hsum
      go_wp2
      go_ret
      exact ⟨_, by rw [HSUM.out]; show t.size + 1 ≤ _; omega, rfl, ((Below.refl _ _).alloc (Nat.le_refl _) _).trans (hb.mono (by simp))⟩
termination_by d => d
end Go.Proofs.YtcjojfclgbjapaaDoor
