/- The document's Around, Few. No conditions but those that each theorem names. -/
import Derived.Test.YthmnghngcbkjpaaOMa
import Derived.Deep.RegionLaw
namespace Go.Proofs.Ythmnghngcbkjpaa
open Go.RowKit
def aroundI (n m : Int) : Int := if n < 0 then -((n + 1).tmod m) else n % m
theorem aroundI_bd (n m : Int) (hm : 0 < m) : 0 ≤ aroundI n m ∧ aroundI n m < m := by
  unfold aroundI
  split
  · constructor
    · have h := Int.tmod_nonneg (a := -(n + 1)) m (by omega)
      rw [Int.neg_tmod] at h; exact h
    · have h := Int.tmod_lt_of_pos (-(n + 1)) hm
      rw [Int.neg_tmod] at h; exact h
  · exact ⟨Int.emod_nonneg _ (by omega), Int.emod_lt_of_pos _ hm⟩
set_option maxHeartbeats 400000 in
theorem around_is (n m : Int) (w : World) (h1 : -9223372036854775808 ≤ n) (h2 : n ≤ 9223372036854775807) (hm : 0 < m) (hm' : m ≤ 9223372036854775807) :
    Calls Try.prog 9 #[.int .i64 n, .int .i64 m] w fun e w' => e = .returned (.int .i64 (aroundI n m)) ∧ w = w' := by
  by_cases hn : n < 0
  · have HE : Hid (aroundI n m = -((n + 1).tmod m)) := by show _ = _; unfold aroundI; rw [if_pos hn]
    go_enter Try.func9, Try.ntmps9
    go_wp2
    go_ret
    exact ⟨ret_i64 HE.out.symm, rfl⟩
  · have HE : Hid (aroundI n m = n % m) := by show _ = _; unfold aroundI; rw [if_neg hn]
    have hn0 : 0 ≤ n := by omega
    go_enter Try.func9, Try.ntmps9
    go_wp2
    go_ret
    exact ⟨ret_i64 HE.out.symm, rfl⟩
/-- A number of things, out of any number. -/
theorem around_nat (n : Int) (m : Nat) (w : World) (h1 : -9223372036854775808 ≤ n) (h2 : n ≤ 9223372036854775807) (hm : 0 < m) (hm' : m ≤ 1000) :
    Calls Try.prog 9 #[.int .i64 n, .int .i64 m] w fun e w' => (∃ k : Nat, k < m ∧ e = .returned (.int .i64 (k : Int))) ∧ w = w' :=
  (around_is n m w h1 h2 (by omega) (by omega)).mono fun e w' ⟨he, hw⟩ => by
    have := aroundI_bd n m (by omega)
    exact ⟨⟨(aroundI n m).toNat, by omega, by rw [he, Int.toNat_of_nonneg this.1]⟩, hw⟩
def fewL (M : List (List Int)) : List (List Int) := (M.take 10).map (fun r => r.take 8)
theorem append_none (A : Option Addr) (c : Nat) (W : World) : (Builtin.append_ #[30, 30] 30 #[.slice none 0 0, .slice A 0 c]).run Try.prog W = .ok (.slice none 0 0) W := by
  obtain ⟨i3, hi3, hz3, hs3, hb3⟩ := info_parts Try.info3
  cases A <;> simp [Builtin.append_, run_underlying Try.underlying30, sizeOf, typeInfo, hi3, Builtin.lenOf, Builtin.firstCells, loadCells, loadCellsFrom]
def FewRes (M : List (List Int)) (w : World) (e : Ending) (w' : World) : Prop :=
  ∃ v vs, e = .returned v ∧ OMat w.heap.size (fun _ => True) w' v (fewL M) vs ∧ Below w.heap.size w w'
/-- One more row, whole. -/
theorem OMat.pushRow {B : Nat} {F : Nat → Prop} {w : World} {v : Value} {M : List (List Int)} {vs : List Value} (h : OMat B F w v M vs) {w' : World} {v' u : Value} {r : List Int} (hu : w.ownsRow B 3 1 u r.length (r.map intV)) (hnew : ∀ g, u.ownBlock = some g → F g ∧ ∀ x ∈ vs, x.ownBlock ≠ some g) (ho : w'.ownsRow B 30 1 v' (M.length + 1) (vs ++ [u])) (hg : w.grownBy w' v.ownBlock) (hat : v'.ownBlock = v.ownBlock ∨ ∃ k, v'.ownBlock = some k ∧ w.heap.size ≤ k) (hF : ∀ b, w.heap.size ≤ b → F b) :
    OMat B F w' v' (M ++ [r]) (vs ++ [u]) := by
  have hl := h.len
  have keep3 : ∀ {x : Value} {n : Nat} {xs : List Value}, w.ownsRow B 3 1 x n xs → w'.ownsRow B 3 1 x n xs := fun {x n xs} h1 => by
    refine h1.kept hg ?_
    cases hv : x.ownBlock with
    | none => exact .inl rfl
    | some q => exact .inr (fun e => own_apart h1 h.own (by decide) q hv e.symm)
  refine ⟨by simpa using ho, fun j a b => ?_, fun i j hi hj q hq hq' => ?_, fun g hgv => ?_, fun j a g hgv => ?_⟩
  · by_cases hj : j < M.length
    · rw [List.getElem_append_left (by omega), List.getElem_append_left hj]
      exact keep3 (h.rows j (by omega) hj)
    · have hj' : j = M.length := by simp at b; omega
      subst hj'
      have e1 : (vs ++ [u])[M.length]'a = u := by simp [← hl]
      have e2 : (M ++ [r])[M.length]'b = r := by simp
      rw [e1, e2]; exact keep3 hu
  · have key : ∀ k (hk : k < (vs ++ [u]).length), (k < vs.length ∧ (vs ++ [u])[k] ∈ vs) ∨ (k = vs.length ∧ (vs ++ [u])[k] = u) := by
      intro k hk
      rcases Nat.lt_or_ge k vs.length with h9 | h9
      · exact .inl ⟨h9, by rw [List.getElem_append_left h9]; exact List.getElem_mem h9⟩
      · have : k = vs.length := by simp at hk; omega
        subst this
        exact .inr ⟨rfl, by simp⟩
    rcases key i hi with ⟨i1, i2⟩ | ⟨i1, i2⟩
    · rcases key j hj with ⟨j1, j2⟩ | ⟨j1, j2⟩
      · rw [List.getElem_append_left i1] at hq
        rw [List.getElem_append_left j1] at hq'
        exact h.apart i j i1 j1 q hq hq'
      · rw [j2] at hq'
        exact absurd hq ((hnew q hq').2 _ i2)
    · rcases key j hj with ⟨j1, j2⟩ | ⟨j1, j2⟩
      · rw [i2] at hq
        exact absurd hq' ((hnew q hq).2 _ j2)
      · omega
  · rcases hat with e | ⟨k, e, hk⟩
    · rw [e] at hgv; exact h.foot g hgv
    · rw [e] at hgv; injection hgv with hgv; rw [← hgv]; exact hF k hk
  · rcases Nat.lt_or_ge j vs.length with h9 | h9
    · rw [List.getElem_append_left h9] at hgv; exact h.foots j h9 g hgv
    · have : j = vs.length := by simp at a; omega
      subst this
      have e1 : (vs ++ [u])[vs.length]'a = u := by simp
      rw [e1] at hgv; exact (hnew g hgv).1
end Go.Proofs.Ythmnghngcbkjpaa
