/- below: of each name the classes that have it among their Supers. Conditions: those that each theorem names. -/
import Derived.Test.YtjfhncbfbhkhgaaAbA
namespace Go.Proofs.Ytjfhncbfbhkhgaa
open Go.RowKit
/-- What lies below a name: of some classes, and of some Supers of one more. -/
def belF (next : ByteArray → List ByteArray) : List ByteArray → ByteArray → List ByteArray
  | [], _ => []
  | n :: l, y => ((next n).filter (fun s => decide (s = y))).map (fun _ => n) ++ belF next l y
theorem belF_snoc (next : ByteArray → List ByteArray) (n y : ByteArray) : ∀ l : List ByteArray, belF next (l ++ [n]) y = belF next l y ++ ((next n).filter (fun s => decide (s = y))).map (fun _ => n)
  | [] => by simp [belF]
  | a :: l => by
    show _ ++ belF next (l ++ [n]) y = (_ ++ belF next l y) ++ _
    rw [belF_snoc next n y l, List.append_assoc]
theorem belF_mem (next : ByteArray → List ByteArray) (x y : ByteArray) : ∀ l : List ByteArray, x ∈ belF next l y ↔ x ∈ l ∧ y ∈ next x
  | [] => by simp [belF]
  | a :: l => by
    unfold belF
    rw [List.mem_append, belF_mem next x y l, List.mem_map]
    constructor
    · rintro (⟨s, h1, rfl⟩ | h1)
      · have h2 := List.mem_filter.1 h1
        exact ⟨List.mem_cons_self .., by have := of_decide_eq_true h2.2; rw [← this]; exact h2.1⟩
      · exact ⟨List.mem_cons_of_mem _ h1.1, h1.2⟩
    · rintro ⟨h1, h2⟩
      rcases List.mem_cons.1 h1 with rfl | h1
      · exact .inl ⟨y, List.mem_filter.2 ⟨h2, decide_eq_true rfl⟩, rfl⟩
      · exact .inr ⟨h1, h2⟩
/-- A map of names to rows of names. -/
structure BelAt (lo hi : Nat) (bel : ByteArray → List ByteArray) (T mb : Nat) (w : World) : Prop where
  ex : ∃ (sz : Nat) (f : ByteArray → Option Value) (r : ByteArray → Value), MapS Try.prog 9 w mb sz f ∧ sz ≤ T ∧ (∀ y, f y = if bel y = [] then none else some (r y)) ∧ (∀ y, bel y ≠ [] → OwnS lo w (r y) (bel y) ∧ ∀ g, (r y).ownBlock = some g → g < hi) ∧ (∀ y z, bel y ≠ [] → bel z ≠ [] → y ≠ z → ∀ g, (r y).ownBlock = some g → (r z).ownBlock ≠ some g)
  len : ∀ y, (bel y).length ≤ T
theorem BelAt.keep {lo hi : Nat} {bel : ByteArray → List ByteArray} {T mb : Nat} {w w' : World} (h : BelAt lo hi bel T mb w) (hb : ∀ k, (k = mb ∨ (lo ≤ k ∧ k < hi)) → w'.heap[k]? = w.heap[k]?) : BelAt lo hi bel T mb w' := by
  obtain ⟨⟨sz, f, r, h1, h2, h3, h4, h5⟩, h6⟩ := h
  exact ⟨⟨sz, f, r, h1.block (hb mb (.inl rfl)), h2, h3, fun y hy => ⟨own_keep (h4 y hy).1 (fun g hg => hb g (.inr ⟨(World.ownsRow.lt (h4 y hy).1 g hg).1, (h4 y hy).2 g hg⟩)), (h4 y hy).2⟩, h5⟩, h6⟩
theorem BelAt.mono {lo hi hi' : Nat} {bel : ByteArray → List ByteArray} {T T' mb : Nat} {w : World} (h : BelAt lo hi bel T mb w) (h1 : hi ≤ hi') (h2 : T ≤ T') : BelAt lo hi' bel T' mb w := by
  obtain ⟨⟨sz, f, r, a1, a2, a3, a4, a5⟩, h6⟩ := h
  exact ⟨⟨sz, f, r, a1, Nat.le_trans a2 h2, a3, fun y hy => ⟨(a4 y hy).1, fun g hg => Nat.lt_of_lt_of_le ((a4 y hy).2 g hg) h1⟩, a5⟩, fun y => Nat.le_trans (h6 y) h2⟩
theorem BelAt.lt {lo hi : Nat} {bel : ByteArray → List ByteArray} {T mb : Nat} {w : World} (h : BelAt lo hi bel T mb w) : mb < w.heap.size := by
  obtain ⟨⟨sz, f, r, h1, _⟩, _⟩ := h; exact h1.lt
theorem BelAt.congr {lo hi : Nat} {bel bel' : ByteArray → List ByteArray} {T mb : Nat} {w : World} (h : BelAt lo hi bel T mb w) (e : ∀ y, bel y = bel' y) : BelAt lo hi bel' T mb w := by
  have : bel = bel' := funext e
  rw [← this]; exact h
/-- What the map tells of a name: a row of names. -/
theorem BelAt.look {lo hi : Nat} {bel : ByteArray → List ByteArray} {T mb : Nat} {w : World} (h : BelAt lo hi bel T mb w) {y : ByteArray} (hy : y.size ≤ maxLen) : ∃ rv, (Instr.lookup 133 (.map (some mb)) (.string y) false).run Try.prog w = .ok rv w ∧ OwnS lo w rv (bel y) ∧ (∀ g, rv.ownBlock = some g → g < hi) := by
  obtain ⟨⟨sz, f, r, h1, h2, h3, h4, h5⟩, h6⟩ := h
  have k := h1.look (t := 133) (e := 40) Try.underlying9 Try.underlying133 zero40 hy
  rw [h3 y] at k
  by_cases hb : bel y = []
  · rw [if_pos hb] at k
    exact ⟨_, k, by rw [hb]; exact OwnS.nil _ _, fun g hg => by cases hg⟩
  · rw [if_neg hb] at k
    exact ⟨_, k, (h4 y hb).1, (h4 y hb).2⟩
/-- One more stands in the row of a name. -/
theorem BelAt.push {lo hi : Nat} {bel : ByteArray → List ByteArray} {T mb : Nat} {w : World} (h : BelAt lo hi bel T mb w) (hT : T < maxLen) {y : ByteArray} (hy : y.size ≤ maxLen) {rv : Value} (hk : (Instr.lookup 133 (.map (some mb)) (.string y) false).run Try.prog w = .ok rv w) {x : ByteArray} {v' : Value} {w3 : World}
    (ho : w3.ownsRow lo 9 1 v' ((bel y).length + 1) ((bel y).map Value.string ++ [.string x])) (hg : (w.alloc (.cells #[.string x] 9)).grownBy w3 rv.ownBlock) (hat : v'.ownBlock = rv.ownBlock ∨ v'.ownBlock = some (w.alloc (.cells #[.string x] 9)).heap.size) :
    ∃ w4, (Instr.mapUpdate 133 (.map (some mb)) (.string y) v').run Try.prog w3 = .ok () w4 ∧ BelAt lo (w4.heap.size) (fun z => if z = y then bel z ++ [x] else bel z) (T + 1) mb w4 ∧ (∀ k, k < lo → k < w.heap.size → k ≠ mb → w4.heap[k]? = w.heap[k]?) ∧ w4.os = w.os ∧ w4.tape = w.tape ∧ w4.output = w.output ∧ w.heap.size ≤ w4.heap.size := by
  obtain ⟨⟨sz, f, r, h1, h2, h3, h4, h5⟩, h6⟩ := h
  have k := h1.look (t := 133) (e := 40) Try.underlying9 Try.underlying133 zero40 hy
  rw [hk, h3 y] at k
  have hrv : rv = (if bel y = [] then none else some (r y)).getD (.slice none 0 0) := by injection k with k _
  have hba := below_new w (.cells #[.string x] 9)
  have hsa : (w.alloc (.cells #[.string x] 9)).heap.size = w.heap.size + 1 := by simp
  have hmbl := h1.lt
  have hrvlt : ∀ g, rv.ownBlock = some g → bel y ≠ [] ∧ (r y).ownBlock = some g := fun g hgo => by
    by_cases hb : bel y = []
    · rw [hrv, if_pos hb] at hgo; cases hgo
    · rw [hrv, if_neg hb] at hgo; exact ⟨hb, hgo⟩
  have hrvb : ∀ g, rv.ownBlock = some g → lo ≤ g ∧ g < w.heap.size := fun g hgo => by
    obtain ⟨hb, hgo⟩ := hrvlt g hgo
    exact World.ownsRow.lt (h4 y hb).1 g hgo
  have hrvm : rv.ownBlock ≠ some mb := fun e => by
    obtain ⟨hb, e⟩ := hrvlt mb e
    obtain ⟨cur, hc⟩ := own_type (h4 y hb).1 e
    obtain ⟨D, ⟨es, clock, hm, _⟩, _⟩ := h1
    rw [hm] at hc; injection hc with hc; cases hc
  have hold : ∀ k, k < w.heap.size → rv.ownBlock ≠ some k → w3.heap[k]? = w.heap[k]? := fun k hk hn => (hg.block k (by rw [hsa]; omega) (fun e => hn e.symm)).trans (hba.block k hk)
  have h13 := h1.block (hold mb hmbl hrvm)
  obtain ⟨w4, r1, r2, r3⟩ := h13.store (t := 133) (e := 40) Try.underlying9 Try.underlying133 (by omega) v' hy
  have hs3 := hg.size
  rw [hsa] at hs3
  have hm4 : ∀ k, k < w3.heap.size → k ≠ mb → w4.heap[k]? = w3.heap[k]? := fun k hk hn => r3.block k hk (fun e => by injection e with e; exact hn e)
  have hvb : ∀ g, v'.ownBlock = some g → g < w3.heap.size := fun g hgo => (World.ownsRow.lt ho g hgo).2
  have hvm : ∀ g, v'.ownBlock = some g → g ≠ mb := fun g hgo e => by
    subst e
    rcases hat with h9 | h9
    · exact hrvm (by rw [← h9]; exact hgo)
    · rw [h9, hsa] at hgo; injection hgo with hgo; omega
  have hs4 := r3.size
  refine ⟨w4, r1, ⟨⟨_, _, fun z => if z = y then v' else r z, r2, ?_, fun z => ?_, fun z hz => ?_, fun z u hz hu hzu g hgz hgu => ?_⟩, fun z => ?_⟩, fun k hk hkw hkm => ?_, r3.os.trans hg.os, r3.tape.trans hg.tape, r3.output.trans hg.output, by omega⟩
  · split <;> omega
  · unfold setS
    by_cases e : z = y
    · subst e
      rw [if_pos rfl]; simp
    · rw [if_neg e]; simp only [if_neg e]; exact h3 z
  · by_cases e : z = y
    · subst e
      simp only [if_true]
      refine ⟨?_, fun g hgo => by have := hvb g hgo; omega⟩
      show World.ownsRow w4 lo 9 1 v' (bel z ++ [x]).length ((bel z ++ [x]).map Value.string)
      rw [List.length_append, List.length_singleton, List.map_append]
      exact own_keep ho (fun g hgo => hm4 g (hvb g hgo) (hvm g hgo))
    · simp only [if_neg e] at hz ⊢
      refine ⟨own_keep (h4 z hz).1 (fun g hgo => ?_), fun g hgo => ?_⟩
      · have hgl := (World.ownsRow.lt (h4 z hz).1 g hgo).2
        have hgm : g ≠ mb := fun e9 => by
          subst e9
          obtain ⟨cur, hc⟩ := own_type (h4 z hz).1 hgo
          obtain ⟨D, ⟨es, clock, hm, _⟩, _⟩ := h1
          rw [hm] at hc; injection hc with hc; cases hc
        exact (hm4 g (by omega) hgm).trans (hold g hgl (fun e9 => by obtain ⟨hb, e9⟩ := hrvlt g e9; exact h5 z y hz hb e g hgo e9))
      · have := (World.ownsRow.lt (h4 z hz).1 g hgo).2; omega
  · have hnew : ∀ q, q ≠ y → bel q ≠ [] → ∀ g, (r q).ownBlock = some g → v'.ownBlock ≠ some g := fun q hq hb g hgo e9 => by
      rcases hat with h9 | h9
      · rw [h9] at e9
        obtain ⟨hb2, e9⟩ := hrvlt g e9
        exact h5 q y hb hb2 hq g hgo e9
      · rw [h9, hsa] at e9; injection e9 with e9
        have := (World.ownsRow.lt (h4 q hb).1 g hgo).2; omega
    by_cases e1 : z = y
    · have e2 : u ≠ y := fun e2 => hzu (e1.trans e2.symm)
      simp only [if_pos e1] at hgz
      simp only [if_neg e2] at hu hgu
      exact hnew u e2 hu g hgu hgz
    · simp only [if_neg e1] at hz hgz
      by_cases e2 : u = y
      · simp only [if_pos e2] at hgu
        exact hnew z e1 hz g hgz hgu
      · simp only [if_neg e2] at hu hgu
        exact h5 z u hz hu hzu g hgz hgu
  · have := h6 z
    by_cases e : z = y
    · simp only [if_pos e, List.length_append, List.length_singleton]; omega
    · simp only [if_neg e]; omega
  · exact (hm4 k (by omega) hkm).trans (hold k hkw (fun e => by have := (hrvb k e).1; omega))
end Go.Proofs.Ytjfhncbfbhkhgaa
