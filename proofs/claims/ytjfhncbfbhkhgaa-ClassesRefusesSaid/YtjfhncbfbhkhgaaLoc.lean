/- What is told of loops: just the classes that are above themselves; the document's example. No program; no conditions but those that each theorem names. -/
import Derived.Test.YtjfhncbfbhkhgaaPth
namespace Go.Proofs.Ytjfhncbfbhkhgaa
open Go.RowKit
/-- A class is above itself. -/
def Self (C : List Cls) (n : ByteArray) : Prop := ∃ y, y ∈ supF C n ∧ Way (supF C) y n
theorem mem_namesF {C : List Cls} {x : ByteArray} : x ∈ namesF C [] ↔ x ∈ C.map (·.name) := by rw [namesF_mem]; simp
theorem loop_mem {C : List Cls} {d : DS ByteArray (List ByteArray)} {S : List ByteArray} {G : List (List ByteArray)} (hw : Walks (leaveK (supF C)) ⟨[], [], []⟩ (namesF C []) d) (hd : Downs (belF (supF C) (namesF C [])) [] [] d.st.reverse S G) (p : Int × Int) :
    p ∈ loopL C G ↔ ∃ n, Self C n ∧ p = (35, atOf C n) := by
  have hbe : ∀ x y, x ∈ belF (supF C) (namesF C []) y ↔ y ∈ supF C x := fun x y => by
    rw [belF_mem]
    exact ⟨fun h => h.2, fun h => ⟨mem_namesF.2 (supF_mem h).2, h⟩⟩
  obtain ⟨h1, h2⟩ := groups_ok hbe (fun x y h => ((belF_mem _ _ _ _).1 h).1) hw hd
  constructor
  · intro hp
    obtain ⟨l, hl, hp⟩ := List.mem_flatten.1 hp
    obtain ⟨g, hg, rfl⟩ := List.mem_map.1 hl
    unfold loopG at hp
    by_cases hc : g.length = 1 ∧ ∀ y ∈ g, y ∉ supF C y
    · rw [if_pos hc] at hp; cases hp
    · rw [if_neg hc] at hp
      obtain ⟨n, hn, rfl⟩ := List.mem_map.1 hp
      exact ⟨n, ((h1 g hg).loop hn).1 hc, rfl⟩
  · rintro ⟨n, hs, rfl⟩
    obtain ⟨y, hy, _⟩ := id hs
    obtain ⟨g, hg, hn⟩ := h2 n (mem_namesF.2 (supF_mem hy).2)
    refine List.mem_flatten.2 ⟨loopG C g, List.mem_map.2 ⟨g, hg, rfl⟩, ?_⟩
    unfold loopG
    rw [if_neg (((h1 g hg).loop hn).2 hs)]
    exact List.mem_map.2 ⟨n, hn, rfl⟩
theorem loop_nil {C : List Cls} {d : DS ByteArray (List ByteArray)} {S : List ByteArray} {G : List (List ByteArray)} (hw : Walks (leaveK (supF C)) ⟨[], [], []⟩ (namesF C []) d) (hd : Downs (belF (supF C) (namesF C [])) [] [] d.st.reverse S G) :
    loopL C G = [] ↔ ∀ n, ¬ Self C n := by
  constructor
  · intro h n hs
    have := (loop_mem hw hd (35, atOf C n)).2 ⟨n, hs, rfl⟩
    rw [h] at this; cases this
  · intro h
    refine List.eq_nil_iff_forall_not_mem.2 (fun p hp => ?_)
    obtain ⟨n, hs, _⟩ := (loop_mem hw hd p).1 hp
    exact h n hs
theorem way_rank {C : List Cls} (r : ByteArray → Nat) (h : ∀ x y, y ∈ supF C x → r y < r x) {x y : ByteArray} (w : Way (supF C) x y) : r y ≤ r x := by
  induction w with
  | nil _ => exact Nat.le_refl _
  | cons _ e _ ih => have := h _ _ e; omega
theorem no_self {C : List Cls} (r : ByteArray → Nat) (h : ∀ x y, y ∈ supF C x → r y < r x) (n : ByteArray) : ¬ Self C n := fun ⟨y, hy, hw⟩ => by
  have h1 := h n y hy
  have h2 := way_rank r h hw
  omega
/-- The document's example. -/
def nA : ByteArray := ⟨#[65]⟩
def nB : ByteArray := ⟨#[66]⟩
def nC : ByteArray := ⟨#[67]⟩
def cls0 : List Cls := [⟨nA, 1, ⟨#[]⟩, [nB], []⟩, ⟨nB, 2, ⟨#[]⟩, [nC], []⟩, ⟨nC, 3, ⟨#[]⟩, [], []⟩]
def rank0 (x : ByteArray) : Nat := if x = nA then 2 else if x = nB then 1 else 0
theorem nAB : nA ≠ nB := by decide
theorem nAC : nA ≠ nC := by decide
theorem nBC : nB ≠ nC := by decide
theorem sup0 (x : ByteArray) : supF cls0 x = if x = nA then [nB] else if x = nB then [nC] else [] := by
  unfold supF cls0
  simp only [clsOf]
  by_cases h1 : x = nA
  · subst h1; simp
  · rw [if_neg (fun e => h1 e.symm), if_neg h1]
    by_cases h2 : x = nB
    · subst h2; simp
    · rw [if_neg (fun e => h2 e.symm), if_neg h2]
      by_cases h3 : nC = x
      · rw [if_pos h3]
      · rw [if_neg h3]
theorem self0 (n : ByteArray) : ¬ Self cls0 n := no_self rank0 (fun x y h => by
  rw [sup0] at h
  by_cases h1 : x = nA
  · rw [if_pos h1] at h
    have := List.mem_singleton.1 h
    subst this h1
    decide
  · rw [if_neg h1] at h
    by_cases h2 : x = nB
    · rw [if_pos h2] at h
      have := List.mem_singleton.1 h
      subst this h2
      decide
    · rw [if_neg h2] at h; cases h) n
theorem least0 : Least (supF cls0) nA nC [0, 0] := by
  refine ⟨?_, fun u hu => ?_⟩
  · simp [goW, sup0, Ne.symm nAB]
  · right
    have hN : ∀ {x : ByteArray}, supF cls0 x = [] → ∀ (u : List Nat) {z : ByteArray}, goW (supF cls0) x u = some z → u = [] := fun hx u z h => by
      cases u with
      | nil => rfl
      | cons j u => simp [goW, hx] at h
    cases u with
    | nil => injection hu with hu; exact absurd hu nAC
    | cons i u =>
      have h1 : supF cls0 nA = [nB] := by rw [sup0, if_pos rfl]
      cases i with
      | succ i => simp [goW, h1] at hu
      | zero =>
        have hu2 : goW (supF cls0) nB u = some nC := by simpa [goW, h1] using hu
        have h2 : supF cls0 nB = [nC] := by rw [sup0, if_neg (Ne.symm nAB), if_pos rfl]
        cases u with
        | nil => injection hu2 with hu2; exact absurd hu2 nBC
        | cons j u =>
          cases j with
          | succ j => simp [goW, h2] at hu2
          | zero =>
            have hu3 : goW (supF cls0) nC u = some nC := by simpa [goW, h2] using hu2
            have h3 : supF cls0 nC = [] := by rw [sup0, if_neg (Ne.symm nAC), if_neg (Ne.symm nBC)]
            rw [hN h3 u hu3]
theorem above0 : aboveF (supF cls0) (hasF cls0) 4 [] nA = [nA, nB, nC] := by decide
end Go.Proofs.Ytjfhncbfbhkhgaa
