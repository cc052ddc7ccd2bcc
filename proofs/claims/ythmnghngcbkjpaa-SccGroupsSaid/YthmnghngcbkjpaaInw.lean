/- inRow: the groups in their row. No conditions but those that each theorem names. -/
import Derived.Test.YthmnghngcbkjpaaInm
import Derived.Test.YthmnghngcbkjpaaCom
namespace Go.Proofs.Ythmnghngcbkjpaa
open Go.RowKit
theorem make_rows0 (m : Nat) (hm : m ≤ 1099511627776) (W : World) : (Instr.makeSlice 22 (.int .i64 0) (.int .i64 (m : Int))).run Try.prog W = .ok (.slice (some ⟨W.heap.size, 0, none⟩) 0 m) (W.alloc (.cells (rowA m (fun _ => .slice none 0 0)) 30)) := by
  obtain ⟨i30, hi30, hz30, hs30, hb30⟩ := info_parts Try.info30
  have h := run_make (P := Try.prog) W 22 30 i30 (.slice none 0 0) Try.underlying22 hi30 hz30 .i64 .i64 0 (m : Int) (by omega) (by omega) (by rw [hb30]; omega) (by omega)
  rw [hs30] at h
  have e : madeCells (Value.cells (.slice none 0 0)) ((m : Int).toNat * 1) = rowA m (fun _ => .slice none 0 0) := by
    rw [Int.toNat_natCast, Nat.mul_one]
    exact made_row m (.slice none 0 0)
  rw [e] at h
  exact h
theorem make_bools (m : Nat) (hm : m ≤ 1099511627776) (W : World) : (Instr.makeSlice 41 (.int .i64 (m : Int)) (.int .i64 (m : Int))).run Try.prog W = .ok (.slice (some ⟨W.heap.size, 0, none⟩) m m) (W.alloc (.cells (rowA m (fun _ => .bool false)) 4)) := by
  have h := run_make_row' (P := Try.prog) 41 4 (.bool false) 1 Try.underlying41 Try.info4 rfl .i64 .i64 m (by omega) (by omega) W
  rw [made_row] at h
  exact h
def InRes (m : Nat) (gs : List (List Nat)) (U : Nat → List Nat) (B uo : Nat) (w : World) (e : Ending) (w' : World) : Prop :=
  ∃ ord t v, e = .returned v ∧ ToldG m U t ord ∧ nextG m U t = none ∧ MatAt (fun b => B ≤ b ∧ b < w'.heap.size) w' v (toI (ord.map (fun g => gs.getD g []))) ∧ Fr (fun b => b = uo) w w'
/-- The memory when inRow begins to ask. -/
def inWorld (w : World) (m uo cu : Nat) : World :=
  ((((((w.alloc (.cells #[.slice (some ⟨uo, 0, none⟩) m cu] 22)).alloc (.cells (rowA m fun _ => .slice none 0 0) 30)).alloc (.cells (rowA m fun _ => .bool false) 4)).alloc (.cells #[.slice (some ⟨w.heap.size + 1 + 1, 0, none⟩) m m] 41)).alloc (.cells (rowA m fun _ => .slice none 0 0) 30)).alloc
      (.cells #[.slice (some ⟨w.heap.size + 1 + 1 + 1 + 1, 0, none⟩) m m] 22)).alloc (.cells #[.slice none 0 0] 52)
theorem inWorld_get (w : World) (m uo cu k : Nat) : (inWorld w m uo cu).heap[k]? = if k = w.heap.size + 1 + 1 + 1 + 1 + 1 + 1 then some (.cells #[.slice none 0 0] 52) else if k = w.heap.size + 1 + 1 + 1 + 1 + 1 then some (.cells #[.slice (some ⟨w.heap.size + 1 + 1 + 1 + 1, 0, none⟩) m m] 22) else if k = w.heap.size + 1 + 1 + 1 + 1 then some (.cells (rowA m fun _ => .slice none 0 0) 30) else
    if k = w.heap.size + 1 + 1 + 1 then some (.cells #[.slice (some ⟨w.heap.size + 1 + 1, 0, none⟩) m m] 41) else if k = w.heap.size + 1 + 1 then some (.cells (rowA m fun _ => .bool false) 4) else if k = w.heap.size + 1 then some (.cells (rowA m fun _ => .slice none 0 0) 30) else if k = w.heap.size then some (.cells #[.slice (some ⟨uo, 0, none⟩) m cu] 22) else w.heap[k]? := by
  unfold inWorld
  rw [alloc_get, alloc_get, alloc_get, alloc_get, alloc_get, alloc_get, alloc_get]
  simp
theorem inWorld_size (w : World) (m uo cu : Nat) : (inWorld w m uo cu).heap.size = w.heap.size + 1 + 1 + 1 + 1 + 1 + 1 + 1 := by simp [inWorld]
theorem inWorld_below (w : World) (m uo cu : Nat) : Below w.heap.size w (inWorld w m uo cu) :=
  (((((((Below.refl _ _).alloc (Nat.le_refl _) _).alloc (by simp) _).alloc (by simp; omega) _).alloc (by simp; omega) _).alloc (by simp; omega) _).alloc (by simp; omega) _).alloc (by simp; omega) _
theorem in_start (m : Nat) (gs : List (List Nat)) (U : Nat → List Nat) (B uo cu : Nat) (uvs : List Value) (w : World) (huo : w.ownsRow 0 30 1 (.slice (some ⟨uo, 0, none⟩) m cu) m uvs) (hur : ∀ j (h : j < uvs.length), IntsAt (fun b => b < w.heap.size ∧ b ≠ uo) w uvs[j] (natL (U j))) (hB : B ≤ uo) (hm : m ≤ 1000) :
    InMem B w.heap.size m uo cu gs (fun _ => false) [] [] (fun _ => []) U (fun _ => False) uvs (List.replicate m (.slice none 0 0)) [] (.slice none 0 0) (.slice (some ⟨w.heap.size + 1, 0, none⟩) 0 m) w (inWorld w m uo cu) := by
  have hlt := (huo.lt uo rfl).2
  have hb := inWorld_below w m uo cu
  have hsz := inWorld_size w m uo cu
  have g := inWorld_get w m uo cu
  refine ⟨⟨?_, own_on huo hb, fun j a => (hur j a).on hb, ?_, ?_, ?_, ?_, hB, ?_⟩, ⟨?_, World.ownsRow_nil _ _ _ _, by omega⟩, fun b hb => by simp [Value.ownBlock] at hb, ⟨by simp, .inr ⟨w.heap.size + 1, m, rowA m (fun _ => .slice none 0 0), rfl, by omega, ?_, Nat.zero_le _, by unfold maxLen; omega, by simp [rowA_size], by simp⟩⟩, fun b hb => by simp [Value.ownBlock] at hb; exact .inl hb.symm, fun i h => by simp at h, by omega, .of_below hb, rfl⟩
  · rw [g]
    (repeat' split) <;> first | rfl | omega
  · rw [g]
    (repeat' split) <;> first | rfl | omega
  · show _ = _
    rw [g]
    (repeat' split) <;> first | rfl | omega
  · rw [g]
    (repeat' split) <;> first | rfl | omega
  · have h9 := omat_made (w := inWorld w m uo cu) (B := B) (F := fun b => b = w.heap.size + 1 + 1 + 1 + 1 ∨ (w.heap.size + 1 + 1 + 1 + 1 + 1 + 1 + 1 ≤ b ∧ False)) (b := w.heap.size + 1 + 1 + 1 + 1) (m := m) (by rw [g]; (repeat' split) <;> first | rfl | omega) (by omega) (by unfold maxLen; omega) (.inl rfl)
    have e : (List.range m).map (fun _ => natL []) = List.replicate m [] := List.ext_getElem (by simp) (fun i h1 h2 => by simp [natL])
    rw [e]
    exact h9
  · refine ⟨by omega, fun e => e.2 rfl, ?_, ?_, ?_, ?_, ?_, ?_⟩
    · rintro (e | e)
      · omega
      · exact e.2
    · rintro (e | e)
      · omega
      · exact e.2
    · rintro (e | e)
      · omega
      · exact e.2
    · rintro (e | e)
      · omega
      · exact e.2
    · rintro (e | e)
      · omega
      · exact e.2
    · rintro b hb (e | e)
      · omega
      · exact e.2
  · rw [g]
    (repeat' split) <;> first | rfl | omega
  · rw [g]
    (repeat' split) <;> first | rfl | omega
theorem RowInv.waitle {m : Nat} {U : Nat → List Nat} {told : Nat → Bool} {ord ask : List Nat} {wait left : Nat → List Nat} (h : RowInv m U told ord ask wait left) {o : Nat} (ho : o < m) (ht : told o = false) : (wait o).length ≤ m := by
  have h1 := h.len
  have h2 := (pend_drop ho ht wait).length_eq
  rw [List.length_append] at h2
  omega
/-- What inRow knows. -/
def InRel (B N m uo cu : Nat) (gs : List (List Nat)) (U : Nat → List Nat) (w : World) (L k : Nat) (rv : Value) (wr : World) : Prop :=
  ∃ told ord ask wait left Q uvs wvs rvs av, RowInv m U told ord ask wait left ∧ Heap ask ask.length ∧ InMem B N m uo cu gs told ord ask wait left Q uvs wvs rvs av rv w wr ∧ (∀ o, (wait o).length ≤ m) ∧ m - ord.length = L ∧ ask.length = k
end Go.Proofs.Ythmnghngcbkjpaa
