/- What lies in memory while groups are told. No conditions but those that each theorem names. -/
import Derived.Test.YthmnghngcbkjpaaBet
import Derived.Test.YthmnghngcbkjpaaPop
namespace Go.Proofs.Ythmnghngcbkjpaa
open Go.RowKit
def natL (l : List Nat) : List Int := l.map (fun x : Nat => (x : Int))
/-- Which each is still to ask for ('left'), who waits for whom ('wait'), who is told. -/
structure RowMem (B m ub uo cu tb tr wb wo : Nat) (Fu Fw : Nat → Prop) (left wait : Nat → List Nat) (told : Nat → Bool) (uvs wvs : List Value) (w : World) : Prop where
  ubox : w.heap[ub]? = some (.cells #[.slice (some ⟨uo, 0, none⟩) m cu] 22)
  uown : w.ownsRow 0 30 1 (.slice (some ⟨uo, 0, none⟩) m cu) m uvs
  urows : ∀ j (h : j < uvs.length), IntsAt Fu w uvs[j] (natL (left j))
  tbox : w.heap[tb]? = some (.cells #[.slice (some ⟨tr, 0, none⟩) m m] 41)
  trow : RowAt w tr 4 m (fun i => .bool (told i))
  wbox : w.heap[wb]? = some (.cells #[.slice (some ⟨wo, 0, none⟩) m m] 22)
  wmat : OMat B Fw w (.slice (some ⟨wo, 0, none⟩) m m) ((List.range m).map (fun j => natL (wait j))) wvs
  le : B ≤ uo
  sep : uo ≠ wo ∧ ¬ Fu uo ∧ ¬ Fw uo ∧ ¬ Fw ub ∧ ¬ Fw tb ∧ ¬ Fw tr ∧ ¬ Fw wb ∧ ∀ b, Fu b → ¬ Fw b
section
variable {B m ub uo cu tb tr wb wo : Nat} {Fu Fw : Nat → Prop} {left wait : Nat → List Nat} {told : Nat → Bool} {uvs wvs : List Value} {w : World}
/-- Nothing of it has changed. -/
theorem RowMem.keep (h : RowMem B m ub uo cu tb tr wb wo Fu Fw left wait told uvs wvs w) {w' : World} (hs : w.heap.size ≤ w'.heap.size) (hb : ∀ b, b < w.heap.size → (b = ub ∨ b = uo ∨ b = tb ∨ b = tr ∨ b = wb ∨ Fu b ∨ Fw b) → w'.heap[b]? = w.heap[b]?) : RowMem B m ub uo cu tb tr wb wo Fu Fw left wait told uvs wvs w' :=
  ⟨(hb ub (lt_of_block h.ubox) (.inl rfl)).trans h.ubox, own_keep h.uown (fun g hg => hb g (h.uown.lt g hg).2 (.inr (.inl (by simp only [Value.ownBlock, Option.some.injEq] at hg; exact hg.symm)))), fun j a => (h.urows j a).keepB hs (fun b hF hl => hb b hl (.inr (.inr (.inr (.inr (.inr (.inl hF))))))),
    (hb tb (lt_of_block h.tbox) (.inr (.inr (.inl rfl)))).trans h.tbox, h.trow.block (hb tr h.trow.lt (.inr (.inr (.inr (.inl rfl))))), (hb wb (lt_of_block h.wbox) (.inr (.inr (.inr (.inr (.inl rfl)))))).trans h.wbox,
    h.wmat.keep (fun b hF hl => hb b hl (.inr (.inr (.inr (.inr (.inr (.inr hF))))))), h.le, h.sep⟩
theorem RowMem.on (h : RowMem B m ub uo cu tb tr wb wo Fu Fw left wait told uvs wvs w) {w' : World} (hb : Below w.heap.size w w') : RowMem B m ub uo cu tb tr wb wo Fu Fw left wait told uvs wvs w' := h.keep hb.size (fun b hl _ => hb.block b hl)
/-- More blocks may be the waiting ones'. -/
theorem RowMem.mono (h : RowMem B m ub uo cu tb tr wb wo Fu Fw left wait told uvs wvs w) {Fw' : Nat → Prop} (h1 : ∀ b, Fw b → b < w.heap.size → Fw' b) (h2 : uo ≠ wo ∧ ¬ Fu uo ∧ ¬ Fw' uo ∧ ¬ Fw' ub ∧ ¬ Fw' tb ∧ ¬ Fw' tr ∧ ¬ Fw' wb ∧ ∀ b, Fu b → ¬ Fw' b) : RowMem B m ub uo cu tb tr wb wo Fu Fw' left wait told uvs wvs w :=
  ⟨h.ubox, h.uown, h.urows, h.tbox, h.trow, h.wbox, h.wmat.mono h1, h.le, h2⟩
/-- One is told. -/
theorem RowMem.tell (h : RowMem B m ub uo cu tb tr wb wo Fu Fw left wait told uvs wvs w) (hFt : ¬ Fu tr) (g : Nat) : RowMem B m ub uo cu tb tr wb wo Fu Fw left wait (upd told g true) uvs wvs (w.setCell ⟨tr, g, none⟩ (.bool true)) := by
  have hne : ∀ {b : Nat} {cs : Array Value} {t : TypeId}, w.heap[b]? = some (.cells cs t) → t ≠ 4 → b ≠ tr := fun hb ht e => by
    have := h.trow
    unfold RowAt at this
    rw [e, this] at hb
    injection hb with hb
    injection hb with _ hb
    exact ht hb.symm
  have hoth : ∀ k, k ≠ tr → (w.setCell ⟨tr, g, none⟩ (.bool true)).heap[k]? = w.heap[k]? := fun k hk => Below.heap_setCell _ _ _ _ hk
  have huo : uo ≠ tr := by obtain ⟨cur, hc⟩ := own_type h.uown (g := uo) rfl; exact hne hc (by decide)
  refine ⟨(hoth _ (hne h.ubox (by decide))).trans h.ubox, own_keep h.uown (fun q hq => hoth q (fun e => huo (by simp only [Value.ownBlock, Option.some.injEq] at hq; omega))), fun j a => (h.urows j a).keepB (by simp) (fun b hF _ => hoth b (fun e => hFt (by rw [← e]; exact hF))), (hoth _ (hne h.tbox (by decide))).trans h.tbox, ?_, (hoth _ (hne h.wbox (by decide))).trans h.wbox,
    h.wmat.keep (fun b hF _ => hoth b (fun e => h.sep.2.2.2.2.2.1 (by rw [← e]; exact hF))), h.le, h.sep⟩
  show RowAt _ tr 4 m (fun i => .bool (upd told g true i))
  rw [upd_comp]
  exact h.trow.set g (.bool true)
theorem RowMem.cells (h : RowMem B m ub uo cu tb tr wb wo Fu Fw left wait told uvs wvs w) : w.cell? ⟨ub, 0, none⟩ = some (.slice (some ⟨uo, 0, none⟩) m cu) ∧ w.cell? ⟨tb, 0, none⟩ = some (.slice (some ⟨tr, 0, none⟩) m m) ∧ w.cell? ⟨wb, 0, none⟩ = some (.slice (some ⟨wo, 0, none⟩) m m) := by
  have h1 := h.ubox
  have h2 := h.tbox
  have h3 := h.wbox
  simp [World.cell?, h1, h2, h3]
theorem RowMem.ulen (h : RowMem B m ub uo cu tb tr wb wo Fu Fw left wait told uvs wvs w) : uvs.length = m := by have := h.uown.1; omega
/-- One's row is cut. -/
theorem RowMem.cut (h : RowMem B m ub uo cu tb tr wb wo Fu Fw left wait told uvs wvs w) (g : Nat) {l : List Nat} {v : Value} (hv : IntsAt Fu w v (natL l)) : RowMem B m ub uo cu tb tr wb wo Fu Fw (upd left g l) wait told (uvs.set g v) wvs (w.setCell ⟨uo, g, none⟩ v) := by
  have hne : ∀ {b : Nat} {cs : Array Value} {t : TypeId}, w.heap[b]? = some (.cells cs t) → t ≠ 30 → b ≠ uo := fun hb ht e => by
    obtain ⟨cur, hc⟩ := own_type h.uown (g := uo) rfl
    rw [e, hc] at hb
    injection hb with hb
    injection hb with _ hb
    exact ht hb.symm
  have hoth : ∀ k, k ≠ uo → (w.setCell ⟨uo, g, none⟩ v).heap[k]? = w.heap[k]? := fun k hk => Below.heap_setCell _ _ _ _ hk
  have hFu : ∀ b, Fu b → b < w.heap.size → (w.setCell ⟨uo, g, none⟩ v).heap[b]? = w.heap[b]? := fun b hF _ => hoth b (fun e => h.sep.2.1 (by rw [← e]; exact hF))
  refine ⟨(hoth _ (hne h.ubox (by decide))).trans h.ubox, own_set h.uown g v, fun j a => ?_, (hoth _ (hne h.tbox (by decide))).trans h.tbox, h.trow.block (hoth _ (hne h.trow (by decide))), (hoth _ (hne h.wbox (by decide))).trans h.wbox,
    h.wmat.keep (fun b hF _ => hoth b (fun e => h.sep.2.2.1 (by rw [← e]; exact hF))), h.le, h.sep⟩
  have ha : j < uvs.length := by simpa using a
  by_cases e : j = g
  · subst e
    rw [List.getElem_set_self, upd_same]
    exact hv.keepB (by simp) hFu
  · rw [List.getElem_set_ne (fun e' => e e'.symm), upd_other _ e]
    exact (h.urows j ha).keepB (by simp) hFu
/-- One more waits. -/
theorem RowMem.await (h : RowMem B m ub uo cu tb tr wb wo Fu Fw left wait told uvs wvs w) {w' : World} (o g : Nat) (ho : o < m) (hlw : o < wvs.length) {u' : Value} (h1 : w'.ownsRow B 3 1 u' ((wait o).length + 1) ((natL (wait o)).map intV ++ [.int .i64 (g : Int)])) (hg : w.grownBy w' wvs[o].ownBlock) (hat : u'.ownBlock = wvs[o].ownBlock ∨ u'.ownBlock = none ∨ ∃ k, u'.ownBlock = some k ∧ w.heap.size ≤ k) (hF : ∀ b, w.heap.size ≤ b → Fw b) :
    RowMem B m ub uo cu tb tr wb wo Fu Fw left (upd wait o (wait o ++ [g])) told uvs (wvs.set o u') (w'.setCell ⟨wo, o, none⟩ u') := by
  have hlen : ((List.range m).map (fun j => natL (wait j))).length = m := by simp
  have hot : o < ((List.range m).map (fun j => natL (wait j))).length := by rw [hlen]; exact ho
  have eo : ((List.range m).map (fun j => natL (wait j)))[o] = natL (wait o) := by simp
  have ht := h.wmat.turn (w' := w') (g0 := wo) (c := m) (by rw [hlen]) o hot hlw (u' := u') (r := natL (wait o) ++ [(g : Int)]) (by
    rw [List.length_append, List.length_singleton, List.map_append]
    have : (natL (wait o)).length = (wait o).length := by simp [natL]
    rw [this]; exact h1) hg hat hF
  have hB := h.wmat.turnB (w' := w') (g0 := wo) (c := m) (by rw [hlen]) o hlw (u' := u') hg
  have hsz : w.heap.size ≤ (w'.setCell ⟨wo, o, none⟩ u').heap.size := by have := hg.size; simpa using this
  have s := h.sep
  refine ⟨(hB _ (lt_of_block h.ubox) s.2.2.2.1).trans h.ubox, own_keep h.uown (fun q hq => ?_), fun j a => (h.urows j a).keepB hsz (fun b hFb hl => hB b hl (s.2.2.2.2.2.2.2 b hFb)), (hB _ (lt_of_block h.tbox) s.2.2.2.2.1).trans h.tbox, h.trow.block (hB _ h.trow.lt s.2.2.2.2.2.1), (hB _ (lt_of_block h.wbox) s.2.2.2.2.2.2.1).trans h.wbox, ?_, h.le, s⟩
  · simp only [Value.ownBlock, Option.some.injEq] at hq
    subst hq
    exact hB _ (h.uown.lt uo rfl).2 s.2.2.1
  · have e2 : (List.range m).map (fun j => natL (upd wait o (wait o ++ [g]) j)) = ((List.range m).map (fun j => natL (wait j))).set o (natL (wait o) ++ [(g : Int)]) := by
      apply List.ext_getElem
      · simp
      · intro i a b
        rw [List.getElem_set]
        by_cases e : o = i
        · subst e; simp [upd_same, natL]
        · rw [if_neg e]
          simp [upd_other wait (fun e' : i = o => e e'.symm)]
    rw [e2]
    exact ht
end
end Go.Proofs.Ythmnghngcbkjpaa
