/- A type's layout in memory (types' layout of chapter 4): where variables stand, and the ends of types for all. No conditions but those that each theorem names. -/
import Derived.Test.YtbdfjboojokgdaaDoorJU18
import Derived.Laws.OwnMore
import Derived.Deep.RegionLaw
namespace Go.Proofs.YtbdfjboojokgdaaDoor
open Go.RowKit

def spotC (p : ByteArray × Int) : List Value := [.string p.1, .int .i64 p.2]
def spotCells (vs : List (ByteArray × Int)) : List Value := vs.flatMap spotC
theorem spotCells_snoc (vs : List (ByteArray × Int)) (p : ByteArray × Int) : spotCells (vs ++ [p]) = spotCells vs ++ spotC p := by simp [spotCells]
def OwnV (base : Nat) (w : World) (v : Value) (vs : List (ByteArray × Int)) : Prop := w.ownsRow base 93 2 v vs.length (spotCells vs)
theorem two_put0 {w : World} {b : Nat} {v1 v2 u : Value} {t : TypeId} (h : w.heap[b]? = some (.cells #[v1, v2] t)) : (w.setCell ⟨b, 0, none⟩ u).heap[b]? = some (.cells #[u, v2] t) := by
  have hlt := lt_of_block h
  have h' : w.heap[b] = .cells #[v1, v2] t := by simpa [Array.getElem?_eq_getElem hlt] using h
  show (w.heap.modify b _)[b]? = _
  rw [Array.getElem?_eq_getElem (by simpa using hlt), Array.getElem_modify_self, h']
  rfl
theorem two_put1 {w : World} {b : Nat} {v1 v2 u : Value} {t : TypeId} (h : w.heap[b]? = some (.cells #[v1, v2] t)) : (w.setCell ⟨b, 1, none⟩ u).heap[b]? = some (.cells #[v1, u] t) := by
  have hlt := lt_of_block h
  have h' : w.heap[b] = .cells #[v1, v2] t := by simpa [Array.getElem?_eq_getElem hlt] using h
  show (w.heap.modify b _)[b]? = _
  rw [Array.getElem?_eq_getElem (by simpa using hlt), Array.getElem_modify_self, h']
  rfl
theorem two_cells {w : World} {b : Nat} {v1 v2 : Value} {t : TypeId} (h : w.heap[b]? = some (.cells #[v1, v2] t)) : w.cell? ⟨b, 0, none⟩ = some v1 ∧ w.cell? ⟨b, 1, none⟩ = some v2 ∧ w.frozen? ⟨b, 0, none⟩ = false ∧ w.frozen? ⟨b, 1, none⟩ = false ∧ b < w.heap.size :=
  ⟨by simp [World.cell?, h], by simp [World.cell?, h], by simp [World.frozen?, h], by simp [World.frozen?, h], lt_of_block h⟩
/-- The layout's block, its two rows. -/
def LayB (base lb : Nat) (v1 v2 : Value) (vs : List (ByteArray × Int)) (es : List Int) (w : World) : Prop := w.heap[lb]? = some (.cells #[v1, v2] 89) ∧ OwnV base w v1 vs ∧ OwnI base w v2 es
structure LaySt (base lb gb : Nat) (g : ByteArray → Int) (N : Nat) (vs : List (ByteArray × Int)) (es : List Int) (w : World) : Prop where
  bs : base ≤ lb ∧ base ≤ gb
  hm : MapG w gb g N
  hl : ∃ v1 v2, LayB base lb v1 v2 vs es w
def LayM (lb gb : Nat) (w : World) (k : Nat) : Prop := k = lb ∨ k = gb ∨ ∃ v1 v2, w.heap[lb]? = some (.cells #[v1, v2] 89) ∧ (v1.ownBlock = some k ∨ v2.ownBlock = some k)
theorem LayB.lt {base lb : Nat} {v1 v2 : Value} {vs : List (ByteArray × Int)} {es : List Int} {w : World} (h : LayB base lb v1 v2 vs es w) {k : Nat} (hk : v1.ownBlock = some k ∨ v2.ownBlock = some k) : base ≤ k ∧ k < w.heap.size := by
  rcases hk with hk | hk
  · exact World.ownsRow.lt h.2.1 k hk
  · exact World.ownsRow.lt h.2.2 k hk
theorem LayB.inj {w : World} {lb : Nat} {v1 v2 u1 u2 : Value} (h : w.heap[lb]? = some (.cells #[v1, v2] 89)) (h' : w.heap[lb]? = some (.cells #[u1, u2] 89)) : u1 = v1 ∧ u2 = v2 := by
  rw [h] at h'; injection h' with h'; injection h' with h'; simp at h'; exact ⟨h'.1.symm, h'.2.symm⟩
theorem LaySt.lt {base lb gb : Nat} {g : ByteArray → Int} {N : Nat} {vs : List (ByteArray × Int)} {es : List Int} {w : World} (h : LaySt base lb gb g N vs es w) {k : Nat} (hk : LayM lb gb w k) : base ≤ k ∧ k < w.heap.size := by
  obtain ⟨v1, v2, hl⟩ := h.hl
  rcases hk with rfl | rfl | ⟨u1, u2, h3, h4⟩
  · exact ⟨h.bs.1, lt_of_block hl.1⟩
  · exact ⟨h.bs.2, h.hm.lt⟩
  · obtain ⟨rfl, rfl⟩ := LayB.inj hl.1 h3
    exact hl.lt h4
theorem LaySt.keep {base lb gb : Nat} {g : ByteArray → Int} {N : Nat} {vs : List (ByteArray × Int)} {es : List Int} {w w' : World} (h : LaySt base lb gb g N vs es w) (hb : ∀ k, LayM lb gb w k → w'.heap[k]? = w.heap[k]?) : LaySt base lb gb g N vs es w' := by
  obtain ⟨v1, v2, h1, h2, h3⟩ := h.hl
  exact ⟨h.bs, h.hm.block (hb gb (.inr (.inl rfl))), v1, v2, (hb lb (.inl rfl)).trans h1, own_keep h2 (fun k hk => hb k (.inr (.inr ⟨v1, v2, h1, .inl hk⟩))), own_keep h3 (fun k hk => hb k (.inr (.inr ⟨v1, v2, h1, .inr hk⟩)))⟩
theorem LaySt.on {base lb gb : Nat} {g : ByteArray → Int} {N : Nat} {vs : List (ByteArray × Int)} {es : List Int} {w w' : World} (h : LaySt base lb gb g N vs es w) (hb : Below w.heap.size w w') : LaySt base lb gb g N vs es w' := h.keep (fun k hk => hb.block k (h.lt hk).2)
theorem LaySt.lb_lt {base lb gb : Nat} {g : ByteArray → Int} {N : Nat} {vs : List (ByteArray × Int)} {es : List Int} {w : World} (h : LaySt base lb gb g N vs es w) : lb < w.heap.size := (h.lt (.inl rfl)).2
theorem LaySt.more {base lb gb : Nat} {g : ByteArray → Int} {N N' : Nat} {vs : List (ByteArray × Int)} {es : List Int} {w : World} (h : LaySt base lb gb g N vs es w) (hn : N ≤ N') : LaySt base lb gb g N' vs es w := ⟨h.bs, h.hm.more hn, h.hl⟩
/-- A frame over new blocks alone. -/
theorem lay_below {base lb gb : Nat} {g : ByteArray → Int} {N : Nat} {vs : List (ByteArray × Int)} {es : List Int} {w w' : World} (h : LaySt base lb gb g N vs es w) (hb : Below w.heap.size w w') : FrM (LayM lb gb) w w' :=
  FrM.of_below hb (fun k _ hk => by
    have := hb.block lb h.lb_lt
    unfold LayM at hk; rw [this] at hk; exact hk)
theorem lay_keeps {base lb gb : Nat} {g : ByteArray → Int} {N : Nat} {vs : List (ByteArray × Int)} {es : List Int} {w w' : World} (h : LaySt base lb gb g N vs es w) (hf : FrM (LayM lb gb) w w') : Keeps (fun b => b < base) w w' :=
  ⟨hf.size, fun b off hb hlt => World.cell?_of_block (a := ⟨b, off, none⟩) (hf.block b hlt (fun hm => by have := (h.lt hm).1; omega))⟩
theorem map_notCells {w : World} {b : Nat} {g : ByteArray → Int} {N : Nat} (h : MapG w b g N) {c : Nat} {cs : Array Value} {t : TypeId} (hb : w.heap[c]? = some (.cells cs t)) : c ≠ b := fun e => by
  subst e
  obtain ⟨sz, f, ⟨D, ⟨es, clock, hb', _⟩, _⟩, _⟩ := h
  rw [hb] at hb'; cases hb'
/-- One variable more. -/
theorem LaySt.pushV {base lb gb : Nat} {g : ByteArray → Int} {N : Nat} {vs : List (ByteArray × Int)} {es : List Int} {w Y w2 : World} {v1 v2 : Value} {gg cap : Nat} {p : ByteArray × Int} (h : LaySt base lb gb g N vs es w) (hl : w.heap[lb]? = some (.cells #[v1, v2] 89)) (hY : Below w.heap.size w Y)
    (h2 : w2.ownsRow base 93 2 (.slice (some ⟨gg, 0, none⟩) (vs.length + 1) cap) (vs.length + 1) (spotCells vs ++ spotC p)) (g2 : Y.grownBy w2 v1.ownBlock) (hat : v1.ownBlock = some gg ∨ w.heap.size ≤ gg) :
    w2.heap[lb]? = some (.cells #[v1, v2] 89) ∧ LaySt base lb gb g N (vs ++ [p]) es (w2.setCell ⟨lb, 0, none⟩ (.slice (some ⟨gg, 0, none⟩) (vs.length + 1) cap)) ∧ FrM (LayM lb gb) w (w2.setCell ⟨lb, 0, none⟩ (.slice (some ⟨gg, 0, none⟩) (vs.length + 1) cap)) := by
  obtain ⟨u1, u2, hl1, ho1, ho2⟩ := h.hl
  obtain ⟨rfl, rfl⟩ := LayB.inj hl hl1
  have hz := hY.size
  have hz2 := g2.size
  have hlb := lt_of_block hl
  have hgb := h.hm.lt
  have hne1 : u1.ownBlock ≠ some lb := own_not ho1 hl (by decide)
  have hne2 : u2.ownBlock ≠ some lb := own_not ho2 hl (by decide)
  have hgl : gb ≠ lb := fun e => map_notCells h.hm hl e.symm
  have hg1 : u1.ownBlock ≠ some gb := fun e => by obtain ⟨cur, hc⟩ := own_type ho1 e; exact map_notCells h.hm hc rfl
  have h12 : ∀ k, u2.ownBlock = some k → u1.ownBlock ≠ some k := fun k hk => by obtain ⟨cur, hc⟩ := own_type ho2 hk; exact own_not ho1 hc (by decide)
  have hw2 : ∀ k, k < w.heap.size → u1.ownBlock ≠ some k → w2.heap[k]? = w.heap[k]? := fun k hk hn => (g2.block k (by omega) (fun e => hn e.symm)).trans (hY.block k hk)
  have hb2 : w2.heap[lb]? = some (.cells #[u1, u2] 89) := (hw2 lb hlb hne1).trans hl
  have hset : ∀ k, k ≠ lb → (w2.setCell ⟨lb, 0, none⟩ (.slice (some ⟨gg, 0, none⟩) (vs.length + 1) cap)).heap[k]? = w2.heap[k]? := fun k hk => Below.heap_setCell _ _ _ _ hk
  have hnew := two_put0 (u := .slice (some ⟨gg, 0, none⟩) (vs.length + 1) cap) hb2
  refine ⟨hb2, ⟨h.bs, h.hm.block ((hset gb hgl).trans (hw2 gb hgb hg1)), _, _, hnew, ?_, ?_⟩, ⟨?_, ?_, ?_, ?_, ?_, ?_⟩⟩
  · unfold OwnV; rw [spotCells_snoc, List.length_append]
    exact ownsRow_setCell_other h2 (own_not h2 hb2 (by decide)) _
  · exact own_keep ho2 (fun k hk => (hset k (fun e => hne2 (e ▸ hk))).trans (hw2 k (World.ownsRow.lt ho2 k hk).2 (h12 k hk)))
  · exact g2.os.trans hY.os
  · exact g2.tape.trans hY.tape
  · exact g2.output.trans hY.output
  · simp; omega
  · intro k hk hm
    exact (hset k (fun e => hm (.inl e))).trans (hw2 k hk (fun e => hm (.inr (.inr ⟨_, _, hl, .inl e⟩))))
  · intro k hk hm
    rcases hm with e | e | ⟨x1, x2, e1, e2⟩
    · exact .inl e
    · exact .inr (.inl e)
    · obtain ⟨rfl, rfl⟩ := LayB.inj hnew e1
      rcases e2 with e2 | e2
      · have e3 : gg = k := by simpa [Value.ownBlock] using e2
        subst e3
        rcases hat with h9 | h9
        · exact .inr (.inr ⟨_, _, hl, .inl h9⟩)
        · omega
      · exact .inr (.inr ⟨_, _, hl, .inr e2⟩)
/-- One end more. -/
theorem LaySt.pushE {base lb gb : Nat} {g : ByteArray → Int} {N : Nat} {vs : List (ByteArray × Int)} {es : List Int} {w Y w2 : World} {v1 v2 : Value} {gg cap : Nat} {x : Int} (h : LaySt base lb gb g N vs es w) (hl : w.heap[lb]? = some (.cells #[v1, v2] 89)) (hY : Below w.heap.size w Y)
    (h2 : w2.ownsRow base 3 1 (.slice (some ⟨gg, 0, none⟩) (es.length + 1) cap) (es.length + 1) (es.map (Value.int .i64) ++ [.int .i64 x])) (g2 : Y.grownBy w2 v2.ownBlock) (hat : v2.ownBlock = some gg ∨ w.heap.size ≤ gg) :
    w2.heap[lb]? = some (.cells #[v1, v2] 89) ∧ LaySt base lb gb g N vs (es ++ [x]) (w2.setCell ⟨lb, 1, none⟩ (.slice (some ⟨gg, 0, none⟩) (es.length + 1) cap)) ∧ FrM (LayM lb gb) w (w2.setCell ⟨lb, 1, none⟩ (.slice (some ⟨gg, 0, none⟩) (es.length + 1) cap)) ∧ (w2.setCell ⟨lb, 1, none⟩ (.slice (some ⟨gg, 0, none⟩) (es.length + 1) cap)).heap[lb]? = some (.cells #[v1, .slice (some ⟨gg, 0, none⟩) (es.length + 1) cap] 89) := by
  obtain ⟨u1, u2, hl1, ho1, ho2⟩ := h.hl
  obtain ⟨rfl, rfl⟩ := LayB.inj hl hl1
  have hz := hY.size
  have hz2 := g2.size
  have hlb := lt_of_block hl
  have hgb := h.hm.lt
  have hne1 : u1.ownBlock ≠ some lb := own_not ho1 hl (by decide)
  have hne2 : u2.ownBlock ≠ some lb := own_not ho2 hl (by decide)
  have hgl : gb ≠ lb := fun e => map_notCells h.hm hl e.symm
  have hg1 : u2.ownBlock ≠ some gb := fun e => by obtain ⟨cur, hc⟩ := own_type ho2 e; exact map_notCells h.hm hc rfl
  have h12 : ∀ k, u1.ownBlock = some k → u2.ownBlock ≠ some k := fun k hk => by obtain ⟨cur, hc⟩ := own_type ho1 hk; exact own_not ho2 hc (by decide)
  have hw2 : ∀ k, k < w.heap.size → u2.ownBlock ≠ some k → w2.heap[k]? = w.heap[k]? := fun k hk hn => (g2.block k (by omega) (fun e => hn e.symm)).trans (hY.block k hk)
  have hb2 : w2.heap[lb]? = some (.cells #[u1, u2] 89) := (hw2 lb hlb hne2).trans hl
  have hset : ∀ k, k ≠ lb → (w2.setCell ⟨lb, 1, none⟩ (.slice (some ⟨gg, 0, none⟩) (es.length + 1) cap)).heap[k]? = w2.heap[k]? := fun k hk => Below.heap_setCell _ _ _ _ hk
  have hnew := two_put1 (u := .slice (some ⟨gg, 0, none⟩) (es.length + 1) cap) hb2
  refine ⟨hb2, ⟨h.bs, h.hm.block ((hset gb hgl).trans (hw2 gb hgb hg1)), _, _, hnew, ?_, ?_⟩, ⟨?_, ?_, ?_, ?_, ?_, ?_⟩, hnew⟩
  · exact own_keep ho1 (fun k hk => (hset k (fun e => hne1 (e ▸ hk))).trans (hw2 k (World.ownsRow.lt ho1 k hk).2 (h12 k hk)))
  · unfold OwnI; rw [List.map_append, List.length_append]
    exact ownsRow_setCell_other h2 (own_not h2 hb2 (by decide)) _
  · exact g2.os.trans hY.os
  · exact g2.tape.trans hY.tape
  · exact g2.output.trans hY.output
  · simp; omega
  · intro k hk hm
    exact (hset k (fun e => hm (.inl e))).trans (hw2 k hk (fun e => hm (.inr (.inr ⟨_, _, hl, .inr e⟩))))
  · intro k hk hm
    rcases hm with e | e | ⟨x1, x2, e1, e2⟩
    · exact .inl e
    · exact .inr (.inl e)
    · obtain ⟨rfl, rfl⟩ := LayB.inj hnew e1
      rcases e2 with e2 | e2
      · exact .inr (.inr ⟨_, _, hl, .inl e2⟩)
      · have e3 : gg = k := by simpa [Value.ownBlock] using e2
        subst e3
        rcases hat with h9 | h9
        · exact .inr (.inr ⟨_, _, hl, .inr h9⟩)
        · omega
/-- A store into the map. -/
theorem LaySt.map {base lb gb : Nat} {g g' : ByteArray → Int} {N N' : Nat} {vs : List (ByteArray × Int)} {es : List Int} {w w' : World} (h : LaySt base lb gb g N vs es w) (hm : MapG w' gb g' N') (hg : w.grownBy w' (some gb)) : LaySt base lb gb g' N' vs es w' ∧ FrM (LayM lb gb) w w' := by
  obtain ⟨v1, v2, hl, h2, h3⟩ := h.hl
  have hb : ∀ k, k < w.heap.size → k ≠ gb → w'.heap[k]? = w.heap[k]? := fun k hk hn => hg.block k hk (fun e => by injection e with e; exact hn e)
  have hlg : lb ≠ gb := map_notCells h.hm hl
  have hlb := (hb lb (lt_of_block hl) hlg).trans hl
  refine ⟨⟨h.bs, hm, v1, v2, hlb, own_keep h2 (fun k hk => hb k (World.ownsRow.lt h2 k hk).2 (fun e => ?_)), own_keep h3 (fun k hk => hb k (World.ownsRow.lt h3 k hk).2 (fun e => ?_))⟩, ⟨hg.os, hg.tape, hg.output, hg.size, fun k hk hn => hb k hk (fun e => hn (.inr (.inl e))), fun k hk hm => ?_⟩⟩
  · obtain ⟨cur, hc⟩ := own_type h2 hk; exact map_notCells h.hm hc e
  · obtain ⟨cur, hc⟩ := own_type h3 hk; exact map_notCells h.hm hc e
  · rcases hm with e | e | ⟨x1, x2, e1, e2⟩
    · exact .inl e
    · exact .inr (.inl e)
    · obtain ⟨rfl, rfl⟩ := LayB.inj hlb e1
      exact .inr (.inr ⟨_, _, hl, e2⟩)
/-- An end is told. -/
theorem LaySt.putE {base lb gb : Nat} {g : ByteArray → Int} {N : Nat} {vs : List (ByteArray × Int)} {es : List Int} {w : World} (h : LaySt base lb gb g N vs es w) {v1 : Value} {gg cap : Nat} (hl : w.heap[lb]? = some (.cells #[v1, .slice (some ⟨gg, 0, none⟩) es.length cap] 89)) (i : Nat) (x : Int) :
    LaySt base lb gb g N vs (es.set i x) (w.setCell ⟨gg, i, none⟩ (.int .i64 x)) ∧ FrM (LayM lb gb) w (w.setCell ⟨gg, i, none⟩ (.int .i64 x)) := by
  obtain ⟨u1, u2, hl1, ho1, ho2⟩ := h.hl
  obtain ⟨rfl, rfl⟩ := LayB.inj hl hl1
  have hne : gg ≠ lb := fun e => own_not ho2 hl (by decide) (by rw [← e]; rfl)
  have hgg : gg ≠ gb := fun e => by obtain ⟨cur, hc⟩ := own_type ho2 (g := gg) rfl; exact map_notCells h.hm hc e
  have h1g : u1.ownBlock ≠ some gg := by obtain ⟨cur, hc⟩ := own_type ho2 (g := gg) rfl; exact own_not ho1 hc (by decide)
  have hset : ∀ k, k ≠ gg → (w.setCell ⟨gg, i, none⟩ (.int .i64 x)).heap[k]? = w.heap[k]? := fun k hk => Below.heap_setCell _ _ _ _ hk
  have hlb := (hset lb (Ne.symm hne)).trans hl
  refine ⟨⟨h.bs, h.hm.block (hset gb (Ne.symm hgg)), _, _, hlb, own_keep ho1 (fun k hk => hset k (fun e => h1g (e ▸ hk))), ?_⟩, ⟨rfl, rfl, rfl, by simp, fun k hk hn => hset k (fun e => hn (.inr (.inr ⟨_, _, hl, .inr (by rw [e]; rfl)⟩))), fun k hk hm => ?_⟩⟩
  · have h9 := World.ownsRow.stored ho2 i (.int .i64 x)
    unfold OwnI
    rw [List.length_set, List.map_set]
    exact h9.1
  · rcases hm with e | e | ⟨x1, x2, e1, e2⟩
    · exact .inl e
    · exact .inr (.inl e)
    · obtain ⟨rfl, rfl⟩ := LayB.inj hlb e1
      exact .inr (.inr ⟨_, _, hl, e2⟩)
end Go.Proofs.YtbdfjboojokgdaaDoor
