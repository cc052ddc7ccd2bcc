/- The document's Above. Conditions: those that each theorem names. -/
import Derived.Test.YtjfhncbfbhkhgaaRf2
namespace Go.Proofs.Ytjfhncbfbhkhgaa
open Go.RowKit
theorem aboveF_inv {C : List Cls} : ∀ (n : Nat) (T : List ByteArray) (x : ByteArray), T.Nodup → (∀ y ∈ T, hasF C y = true) → (aboveF (supF C) (hasF C) n T x).Nodup ∧ ∀ y ∈ aboveF (supF C) (hasF C) n T x, hasF C y = true
  | 0, T, x, h1, h2 => ⟨h1, h2⟩
  | n + 1, T, x, h1, h2 => by
    unfold aboveF
    by_cases hc : hasF C x = true ∧ x ∉ T
    · rw [if_pos hc]
      have key : ∀ (l T : List ByteArray), T.Nodup → (∀ y ∈ T, hasF C y = true) → (l.foldl (fun t y => aboveF (supF C) (hasF C) n t y) T).Nodup ∧ ∀ y ∈ l.foldl (fun t y => aboveF (supF C) (hasF C) n t y) T, hasF C y = true := by
        intro l
        induction l with
        | nil => exact fun T h1 h2 => ⟨h1, h2⟩
        | cons a l ih =>
          intro T h1 h2
          obtain ⟨h3, h4⟩ := aboveF_inv n T a h1 h2
          exact ih _ h3 h4
      refine key _ _ ?_ ?_
      · rw [List.nodup_append]
        exact ⟨h1, by simp, fun a ha b hb e => by simp at hb; subst hb; subst e; exact hc.2 ha⟩
      · intro y hy
        rcases List.mem_append.1 hy with h | h
        · exact h2 y h
        · simp at h; subst h; exact hc.1
    · rw [if_neg hc]; exact ⟨h1, h2⟩
theorem fold_inv {C : List Cls} (n : Nat) : ∀ (l T : List ByteArray), T.Nodup → (∀ y ∈ T, hasF C y = true) → (l.foldl (fun t y => aboveF (supF C) (hasF C) n t y) T).Nodup ∧ ∀ y ∈ l.foldl (fun t y => aboveF (supF C) (hasF C) n t y) T, hasF C y = true := by
  intro l
  induction l with
  | nil => exact fun T h1 h2 => ⟨h1, h2⟩
  | cons a l ih =>
    intro T h1 h2
    obtain ⟨h3, h4⟩ := aboveF_inv n T a h1 h2
    exact ih _ h3 h4
theorem told_len {C : List Cls} (hC : OkC C) {T : List ByteArray} (h1 : T.Nodup) (h2 : ∀ y ∈ T, hasF C y = true) : T.length ≤ 1048576 := by
  have h3 := nodup_leS h1 (fun y hy => hasF_mem (h2 y hy))
  have h4 := hC.len
  unfold univ at h4
  simp at h3 h4; omega
/-- A row of names, told so far, in blocks from B on. -/
def Told (B : Nat) (w : World) (v : Value) (T : List ByteArray) : Prop := StrsAt (fun b => B ≤ b ∧ b < w.heap.size) w v T ∧ (T = [] → v = .slice none 0 0)
theorem Told.on {B : Nat} {w w' : World} {v : Value} {T : List ByteArray} (h : Told B w v T) (hb : Below w.heap.size w w') : Told B w' v T :=
  ⟨(h.1.on hb).mono (fun _ h => ⟨h.1, Nat.lt_of_lt_of_le h.2 hb.size⟩), h.2⟩
/-- A row of names, and one more, in new memory. -/
def appTwo (B : Nat) (w : World) (v : Value) (T : List ByteArray) (x : ByteArray) : Prop :=
  ∃ v1 w1, (Builtin.append_ #[40, 40] 40 #[.slice none 0 0, v]).run Try.prog w = .ok v1 w1 ∧ (∃ A n c, v1 = .slice A n c) ∧
    ∃ v2 w2, (Builtin.append_ #[40, 40] 40 #[v1, .slice (some ⟨w1.heap.size, 0, none⟩) 1 1]).run Try.prog (w1.alloc (.cells #[.string x] 9)) = .ok v2 w2 ∧ (∃ A c, v2 = .slice A (T.length + 1) c) ∧ Told B w2 v2 (T ++ [x]) ∧ Below w.heap.size w w2
theorem app_two {B : Nat} {w : World} {v : Value} {T : List ByteArray} (h : Told B w v T) (hB : B ≤ w.heap.size) (hl : T.length ≤ 1048576) (x : ByteArray) : appTwo B w v T x := by
  obtain ⟨i9, hi9, hz9, hs9, hb9⟩ := info_parts Try.info9
  have step : ∀ v1 w1, w1.ownsRow w.heap.size 9 1 v1 T.length (T.map Value.string) → Below w.heap.size w w1 → ∃ v2 w2, (Builtin.append_ #[40, 40] 40 #[v1, .slice (some ⟨w1.heap.size, 0, none⟩) 1 1]).run Try.prog (w1.alloc (.cells #[.string x] 9)) = .ok v2 w2 ∧ (∃ A c, v2 = .slice A (T.length + 1) c) ∧ Told B w2 v2 (T ++ [x]) ∧ Below w.heap.size w w2 := fun v1 w1 ho hb => by
    obtain ⟨v2, w2, r1, r2, r3, _, _⟩ := run_append_own_at (P := Try.prog) (w1.alloc (.cells #[.string x] 9)) w.heap.size 40 40 9 i9 (.string ⟨#[]⟩) 1 16 Try.underlying40 hi9 hz9 hs9 hb9 rfl (by decide) v1 T.length (T.map Value.string) (World.ownsRow.alloc ho _) ⟨w1.heap.size, 0, none⟩ 1 1 [.string x] rfl (one_new w1 (.string x) 9) (one_str x) (by unfold maxLen; omega) (by omega) (by have := hb.size; simp; omega)
    have ho2 : OwnS w.heap.size w2 v2 (T ++ [x]) := by
      show World.ownsRow w2 w.heap.size 9 1 v2 (T ++ [x]).length ((T ++ [x]).map Value.string)
      rw [List.length_append, List.length_singleton, List.map_append]; exact r2
    refine ⟨v2, w2, r1, ?_, ⟨(OwnS.strs ho2).mono (fun b h => ⟨Nat.le_trans hB h.1, (World.ownsRow.lt ho2 b h.2).2⟩), fun e => by simp at e⟩, ?_⟩
    · obtain ⟨A, c, e, _⟩ := own_form r2; exact ⟨A, c, e⟩
    · have hb2 := hb.trans ((below_new w1 (.cells #[.string x] 9)).mono hb.size)
      exact hb2.trans ⟨r3.os, r3.tape, r3.output, r3.size, fun k hk => r3.block k (by have := hb2.size; omega) (fun e => by have := (World.ownsRow.lt ho k e.symm).1; omega)⟩
  by_cases hT : T = []
  · subst hT
    have hv := h.2 rfl
    subst hv
    refine ⟨.slice none 0 0, w, ?_, ⟨_, _, _, rfl⟩, step _ _ (World.ownsRow_nil w _ 9 1) (Below.refl _ _)⟩
    simp [Builtin.append_, run_underlying Try.underlying40, sizeOf, typeInfo, hi9, Builtin.lenOf, Builtin.firstCells]
  · obtain ⟨A, c, rfl, h1, h2, h3 | ⟨b, off, rfl, hp, hlt, hc⟩⟩ := h.1
    · exact absurd h3 hT
    · obtain ⟨v1, w1, r1, r2, r3, _, _⟩ := run_append_own_at (P := Try.prog) w w.heap.size 40 40 9 i9 (.string ⟨#[]⟩) 1 16 Try.underlying40 hi9 hz9 hs9 hb9 rfl (by decide) (.slice none 0 0) 0 [] (World.ownsRow_nil w _ 9 1) ⟨b, off, none⟩ T.length c (T.map Value.string) (by simp) (fun j u hj => by
        rw [List.getElem?_map] at hj
        obtain ⟨s, hs, rfl⟩ := Option.map_eq_some_iff.1 hj
        obtain ⟨hj2, rfl⟩ := List.getElem?_eq_some_iff.1 hs
        rw [Addr.add_lit]; exact hc j hj2) (fun u hu => by obtain ⟨s, _, rfl⟩ := List.mem_map.1 hu; rfl) (by unfold maxLen; omega) (by omega) (Nat.le_refl _)
      rw [Nat.zero_add, List.nil_append] at r2
      obtain ⟨A1, c1, e1, _⟩ := own_form r2
      exact ⟨v1, w1, r1, ⟨A1, _, c1, e1⟩, step v1 w1 r2 ⟨r3.os, r3.tape, r3.output, r3.size, fun k hk => r3.block k hk (by simp [Value.ownBlock])⟩⟩
end Go.Proofs.Ytjfhncbfbhkhgaa
