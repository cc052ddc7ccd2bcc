/- A queue of names in memory: what is put in behind and taken out in front. Conditions: those that each theorem names. -/
import Derived.Test.YtjfhncbfbhkhgaaSml
import Derived.ArgAppend
import Derived.Lib.AppendZeros
namespace Go.Proofs.Ytjfhncbfbhkhgaa
open Go.RowKit
/-- A slice of these names, at any place in a block that the call owns. -/
def QueS (B : Nat) (w : World) (v : Value) (ss : List ByteArray) : Prop :=
  (v = .slice none 0 0 ∧ ss = []) ∨ ∃ g off cap cur, v = .slice (some ⟨g, off, none⟩) ss.length cap ∧ B ≤ g ∧ w.heap[g]? = some (.cells cur 9) ∧ ss.length ≤ cap ∧ cap ≤ maxLen ∧ off + cap ≤ cur.size ∧ ∀ i (h : i < ss.length), cur[off + i]? = some (.string ss[i])
theorem QueS.form {B : Nat} {w : World} {v : Value} {ss : List ByteArray} (h : QueS B w v ss) : ∃ A c, v = .slice A ss.length c ∧ ss.length ≤ c ∧ c ≤ maxLen := by
  rcases h with ⟨rfl, rfl⟩ | ⟨g, off, cap, cur, rfl, _, _, h1, h2, _⟩
  · exact ⟨none, 0, rfl, Nat.le_refl _, Nat.zero_le _⟩
  · exact ⟨_, _, rfl, h1, h2⟩
theorem QueS.lt {B : Nat} {w : World} {v : Value} {ss : List ByteArray} (h : QueS B w v ss) : ∀ k, v.ownBlock = some k → B ≤ k ∧ k < w.heap.size := by
  rcases h with ⟨rfl, rfl⟩ | ⟨g, off, cap, cur, rfl, hb, hg, _⟩
  · intro k hk; cases hk
  · intro k hk; injection hk with hk; subst hk; exact ⟨hb, lt_of_block hg⟩
theorem QueS.type {B : Nat} {w : World} {v : Value} {ss : List ByteArray} (h : QueS B w v ss) {k : Nat} (hk : v.ownBlock = some k) : ∃ cur, w.heap[k]? = some (.cells cur 9) := by
  rcases h with ⟨rfl, rfl⟩ | ⟨g, off, cap, cur, rfl, hb, hg, _⟩
  · cases hk
  · injection hk with hk; subst hk; exact ⟨cur, hg⟩
theorem QueS.keep {B : Nat} {w w' : World} {v : Value} {ss : List ByteArray} (h : QueS B w v ss) (hb : ∀ k, v.ownBlock = some k → w'.heap[k]? = w.heap[k]?) : QueS B w' v ss := by
  rcases h with h | ⟨g, off, cap, cur, rfl, hB, hg, r⟩
  · exact .inl h
  · exact .inr ⟨g, off, cap, cur, rfl, hB, (hb g rfl).trans hg, r⟩
theorem QueS.on {B : Nat} {w w' : World} {v : Value} {ss : List ByteArray} (h : QueS B w v ss) (hb : Below w.heap.size w w') : QueS B w' v ss := h.keep (fun k hk => hb.block k (h.lt k hk).2)
theorem QueS.of_own {B n : Nat} {w : World} {v : Value} {ss : List ByteArray} (h : w.ownsRow B 9 1 v n (ss.map Value.string)) : QueS B w v ss := by
  have hl : ss.length = n := by have := h.1; simpa using this
  rcases h.2 with ⟨h1, h2⟩ | ⟨g, cap, cur, h1, h2, h3, h4, h5, h6, h7⟩
  · exact .inl ⟨h1, List.eq_nil_of_length_eq_zero (by omega)⟩
  · refine .inr ⟨g, 0, cap, cur, by rw [h1, hl], h2, h3, by omega, h5, by omega, fun i hi => ?_⟩
    have h8 : (cur.toList.take (n * 1))[i]? = some (.string ss[i]) := by rw [h7, List.getElem?_map, List.getElem?_eq_getElem hi]; rfl
    rw [List.getElem?_take_of_lt (by omega)] at h8
    rw [Nat.zero_add]; simpa using h8
theorem que_tail {B : Nat} {w : World} {z : ByteArray} {r : List ByteArray} {v : Value} (h : QueS B w v (z :: r)) : ∃ b off c, v = .slice (some ⟨b, off, none⟩) (r.length + 1) c ∧ r.length + 1 ≤ c ∧ c ≤ maxLen ∧ b < w.heap.size ∧ w.cell? ⟨b, off, none⟩ = some (.string z) ∧
    ∃ A9 : Addr, (if c = 1 then (some ⟨b, off, none⟩ : Option Addr) else some ⟨b, off + 1, none⟩) = some A9 ∧ A9.block = b ∧ QueS B w (.slice (some A9) r.length (c - 1)) r := by
  rcases h with ⟨_, h⟩ | ⟨g, off, cap, cur, rfl, hB, hg, h1, h2, h3, h4⟩
  · cases h
  · simp only [List.length_cons] at h1
    refine ⟨g, off, cap, rfl, h1, h2, lt_of_block hg, ?_, ?_⟩
    · have := h4 0 (by simp)
      simp only [Nat.add_zero, List.getElem_cons_zero] at this
      simp [World.cell?, hg, this]
    · by_cases hc1 : cap = 1
      · have hr0 : r = [] := List.eq_nil_of_length_eq_zero (by omega)
        subst hr0
        exact ⟨⟨g, off, none⟩, if_pos hc1, rfl, .inr ⟨g, off, cap - 1, cur, rfl, hB, hg, by simp, by omega, by omega, fun i hi => by simp at hi⟩⟩
      · refine ⟨⟨g, off + 1, none⟩, if_neg hc1, rfl, .inr ⟨g, off + 1, cap - 1, cur, rfl, hB, hg, by omega, by omega, by omega, fun i hi => ?_⟩⟩
        have := h4 (i + 1) (by simp only [List.length_cons]; omega)
        rw [show off + 1 + i = off + (i + 1) by omega, this]; rfl
/-- Something is appended to a queue. -/
theorem QueS.push {B : Nat} {w : World} {v : Value} {ss : List ByteArray} (h : QueS B w v ss) (hB : B ≤ w.heap.size) {ad : Addr} {x : ByteArray} (hx : ∀ j u, [Value.string x][j]? = some u → w.cell? (ad.add j) = some u) (hl : ss.length + 1 ≤ 1073741824) :
    ∃ v' w', (Builtin.append_ #[40, 40] 40 #[v, .slice (some ad) 1 1]).run Try.prog w = .ok v' w' ∧ QueS B w' v' (ss ++ [x]) ∧ w.grownBy w' v.ownBlock ∧ (v'.ownBlock = v.ownBlock ∨ ∃ k, v'.ownBlock = some k ∧ w.heap.size ≤ k) := by
  obtain ⟨i9, hi9, hz9, hs9, hb9⟩ := info_parts Try.info9
  have h63 : ss.length + 1 ≤ maxLen := by unfold maxLen; omega
  rcases h with ⟨rfl, rfl⟩ | ⟨g, off, cap, cur, rfl, hBg, hg, h1, h2, h3, h4⟩
  · obtain ⟨v', w', r1, r2, r3, _, r4⟩ := run_append_own_at (P := Try.prog) w B 40 40 9 i9 (.string ⟨#[]⟩) 1 16 Try.underlying40 hi9 hz9 hs9 hb9 rfl (by decide) (.slice none 0 0) 0 [] (World.ownsRow_nil w B 9 1) ad 1 1 [.string x] rfl hx (one_str x) (by unfold maxLen; omega) (by omega) hB
    exact ⟨v', w', r1, .of_own (n := 0 + 1) r2, r3, r4.imp id (fun e => ⟨_, e, Nat.le_refl _⟩)⟩
  · by_cases hr : ss.length + 1 ≤ cap
    · have hc : w.cell? ⟨g, off + ss.length, none⟩ = some (cur[off + ss.length]'(by omega)) := by simp [World.cell?, hg]
      have hrun := run_append_room_cells (P := Try.prog) w 40 40 9 i9 Try.underlying40 hi9 g off ss.length cap ad 1 1 [.string x] (by rw [hs9]; rfl) hx (one_str x) hr
        (fun j hj => by simp at hj; subst hj; rw [hs9, Nat.mul_one, Nat.add_zero, hc]; rfl) (fun j hj => by simp [World.frozen?, hg])
      rw [hs9, Nat.mul_one] at hrun
      refine ⟨_, _, hrun, .inr ⟨g, off, cap, cur.setIfInBounds (off + ss.length) (.string x), by rw [List.length_append]; rfl, hBg, heap_setCell_same w g (off + ss.length) cur 9 (.string x) hg, by rw [List.length_append]; exact hr, h2, by simpa using h3, fun i hi => ?_⟩, ⟨rfl, rfl, rfl, by show w.heap.size ≤ (w.setCell _ _).heap.size; simp, fun k _ hk => Below.heap_setCell _ _ _ _ (fun e => hk (by rw [e]; rfl))⟩, .inl rfl⟩
      rw [List.length_append, List.length_singleton] at hi
      by_cases e : i = ss.length
      · subst e
        simp [show off + ss.length < cur.size by omega]
      · rw [List.getElem_append_left (show i < ss.length by omega)]
        have := h4 i (by omega)
        rw [Array.getElem?_setIfInBounds_ne (by omega)]; exact this
    · obtain ⟨v', w', r1, r2, r3⟩ := run_append_arg_grows (P := Try.prog) w 40 40 9 i9 (.string ⟨#[]⟩) 1 16 Try.underlying40 hi9 hz9 hs9 hb9 rfl (by decide) ⟨g, off, none⟩ ss.length cap (ss.map Value.string) (by simp) (fun j u hj => by
        rw [List.getElem?_map] at hj
        obtain ⟨s, hs, rfl⟩ := Option.map_eq_some_iff.1 hj
        obtain ⟨hj2, rfl⟩ := List.getElem?_eq_some_iff.1 hs
        rw [Addr.add_lit]
        have := h4 j hj2
        simp [World.cell?, hg, this]) ad 1 1 [.string x] rfl hx (by omega) h63 (by omega)
      rw [show ss.map Value.string ++ [Value.string x] = (ss ++ [x]).map Value.string by simp] at r2
      have hq : QueS B w' v' (ss ++ [x]) := (QueS.of_own r2 : QueS w.heap.size w' v' _).elim .inl (fun ⟨g, off, cap, cur, e, hb, r⟩ => .inr ⟨g, off, cap, cur, e, Nat.le_trans hB hb, r⟩)
      refine ⟨v', w', r1, hq, ⟨r3.os, r3.tape, r3.output, r3.size, fun k hk _ => r3.block k hk (by simp)⟩, .inr ?_⟩
      rcases r2.2 with ⟨_, h9⟩ | ⟨g', cap', cur', e, hb', _⟩
      · omega
      · exact ⟨g', by rw [e]; rfl, hb'⟩
end Go.Proofs.Ytjfhncbfbhkhgaa
