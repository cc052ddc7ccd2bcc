/- A type's layout in memory (types' layout of chapter 4): where variables stand, and the ends of types for all. No conditions but those that each theorem names. The contracts of a layout's add and addAll (types of chapter 4). Condition: names are of at most 2^40 bytes, the type has at most 2^40 nodes. The contract of a layout's add (types of chapter 4), at each type. Condition: names are of at most 2^40 bytes, the type has at most 2^38 nodes. -/
import Derived.Test.YtbdfjboojokgdaaDoorJV24
import Derived.Laws.OwnMore
import Derived.Deep.RegionLaw
namespace Go.Proofs.YtbdfjboojokgdaaDoor
open Go.RowKit

def spotC (p : ByteArray × Int) : List Value := [.string p.1, .int .i64 p.2]
def spotCells (vs : List (ByteArray × Int)) : List Value := vs.flatMap spotC
theorem spotCells_snoc (vs : List (ByteArray × Int)) (p : ByteArray × Int) : spotCells (vs ++ [p]) = spotCells vs ++ spotC p := by simp [spotCells]
def OwnV (base : Nat) (w : World) (v : Value) (vs : List (ByteArray × Int)) : Prop := w.ownsRow base 93 2 v vs.length (spotCells vs)
theorem two_put0 {w : World} {b : Nat} {v1 v2 u : Value} {t : TypeId} (h : w.heap[b]? = some (.cells #[v1, v2] t)) : (w.setCell ⟨b, 0, none⟩ u).heap[b]? = some (.cells #[u, v2] t) := by
  have hlt := lt_of_block h
  have h' : w.heap[b] = .cells #[v1, v2] t := by simpa [Array.getElem?_eq_getElem hlt] using h
  show (w.heap.modify b _)[b]? = _
  rw [Array.getElem?_eq_getElem (by simpa using hlt), Array.getElem_modify_self, h']
  rfl
theorem two_put1 {w : World} {b : Nat} {v1 v2 u : Value} {t : TypeId} (h : w.heap[b]? = some (.cells #[v1, v2] t)) : (w.setCell ⟨b, 1, none⟩ u).heap[b]? = some (.cells #[v1, u] t) := by
  have hlt := lt_of_block h
  have h' : w.heap[b] = .cells #[v1, v2] t := by simpa [Array.getElem?_eq_getElem hlt] using h
  show (w.heap.modify b _)[b]? = _
  rw [Array.getElem?_eq_getElem (by simpa using hlt), Array.getElem_modify_self, h']
  rfl
theorem two_cells {w : World} {b : Nat} {v1 v2 : Value} {t : TypeId} (h : w.heap[b]? = some (.cells #[v1, v2] t)) : w.cell? ⟨b, 0, none⟩ = some v1 ∧ w.cell? ⟨b, 1, none⟩ = some v2 ∧ w.frozen? ⟨b, 0, none⟩ = false ∧ w.frozen? ⟨b, 1, none⟩ = false ∧ b < w.heap.size :=
  ⟨by simp [World.cell?, h], by simp [World.cell?, h], by simp [World.frozen?, h], by simp [World.frozen?, h], lt_of_block h⟩
/-- The layout's block, its two rows. -/
def LayB (base lb : Nat) (v1 v2 : Value) (vs : List (ByteArray × Int)) (es : List Int) (w : World) : Prop := w.heap[lb]? = some (.cells #[v1, v2] 89) ∧ OwnV base w v1 vs ∧ OwnI base w v2 es
structure LaySt (base lb gb : Nat) (g : ByteArray → Int) (N : Nat) (vs : List (ByteArray × Int)) (es : List Int) (w : World) : Prop where
  bs : base ≤ lb ∧ base ≤ gb
  hm : MapG w gb g N
  hl : ∃ v1 v2, LayB base lb v1 v2 vs es w
def LayM (lb gb : Nat) (w : World) (k : Nat) : Prop := k = lb ∨ k = gb ∨ ∃ v1 v2, w.heap[lb]? = some (.cells #[v1, v2] 89) ∧ (v1.ownBlock = some k ∨ v2.ownBlock = some k)
theorem LayB.lt {base lb : Nat} {v1 v2 : Value} {vs : List (ByteArray × Int)} {es : List Int} {w : World} (h : LayB base lb v1 v2 vs es w) {k : Nat} (hk : v1.ownBlock = some k ∨ v2.ownBlock = some k) : base ≤ k ∧ k < w.heap.size := by
  rcases hk with hk | hk
  · exact World.ownsRow.lt h.2.1 k hk
  · exact World.ownsRow.lt h.2.2 k hk
theorem LayB.inj {w : World} {lb : Nat} {v1 v2 u1 u2 : Value} (h : w.heap[lb]? = some (.cells #[v1, v2] 89)) (h' : w.heap[lb]? = some (.cells #[u1, u2] 89)) : u1 = v1 ∧ u2 = v2 := by
  rw [h] at h'; injection h' with h'; injection h' with h'; simp at h'; exact ⟨h'.1.symm, h'.2.symm⟩
theorem LaySt.lt {base lb gb : Nat} {g : ByteArray → Int} {N : Nat} {vs : List (ByteArray × Int)} {es : List Int} {w : World} (h : LaySt base lb gb g N vs es w) {k : Nat} (hk : LayM lb gb w k) : base ≤ k ∧ k < w.heap.size := by
  obtain ⟨v1, v2, hl⟩ := h.hl
  rcases hk with rfl | rfl | ⟨u1, u2, h3, h4⟩
  · exact ⟨h.bs.1, lt_of_block hl.1⟩
  · exact ⟨h.bs.2, h.hm.lt⟩
  · obtain ⟨rfl, rfl⟩ := LayB.inj hl.1 h3
    exact hl.lt h4
theorem LaySt.keep {base lb gb : Nat} {g : ByteArray → Int} {N : Nat} {vs : List (ByteArray × Int)} {es : List Int} {w w' : World} (h : LaySt base lb gb g N vs es w) (hb : ∀ k, LayM lb gb w k → w'.heap[k]? = w.heap[k]?) : LaySt base lb gb g N vs es w' := by
  obtain ⟨v1, v2, h1, h2, h3⟩ := h.hl
  exact ⟨h.bs, h.hm.block (hb gb (.inr (.inl rfl))), v1, v2, (hb lb (.inl rfl)).trans h1, own_keep h2 (fun k hk => hb k (.inr (.inr ⟨v1, v2, h1, .inl hk⟩))), own_keep h3 (fun k hk => hb k (.inr (.inr ⟨v1, v2, h1, .inr hk⟩)))⟩
theorem LaySt.on {base lb gb : Nat} {g : ByteArray → Int} {N : Nat} {vs : List (ByteArray × Int)} {es : List Int} {w w' : World} (h : LaySt base lb gb g N vs es w) (hb : Below w.heap.size w w') : LaySt base lb gb g N vs es w' := h.keep (fun k hk => hb.block k (h.lt hk).2)
theorem LaySt.lb_lt {base lb gb : Nat} {g : ByteArray → Int} {N : Nat} {vs : List (ByteArray × Int)} {es : List Int} {w : World} (h : LaySt base lb gb g N vs es w) : lb < w.heap.size := (h.lt (.inl rfl)).2
theorem LaySt.more {base lb gb : Nat} {g : ByteArray → Int} {N N' : Nat} {vs : List (ByteArray × Int)} {es : List Int} {w : World} (h : LaySt base lb gb g N vs es w) (hn : N ≤ N') : LaySt base lb gb g N' vs es w := ⟨h.bs, h.hm.more hn, h.hl⟩
/-- A frame over new blocks alone. -/
theorem lay_below {base lb gb : Nat} {g : ByteArray → Int} {N : Nat} {vs : List (ByteArray × Int)} {es : List Int} {w w' : World} (h : LaySt base lb gb g N vs es w) (hb : Below w.heap.size w w') : FrM (LayM lb gb) w w' :=
  FrM.of_below hb (fun k _ hk => by
    have := hb.block lb h.lb_lt
    unfold LayM at hk; rw [this] at hk; exact hk)
theorem lay_keeps {base lb gb : Nat} {g : ByteArray → Int} {N : Nat} {vs : List (ByteArray × Int)} {es : List Int} {w w' : World} (h : LaySt base lb gb g N vs es w) (hf : FrM (LayM lb gb) w w') : Keeps (fun b => b < base) w w' :=
  ⟨hf.size, fun b off hb hlt => World.cell?_of_block (a := ⟨b, off, none⟩) (hf.block b hlt (fun hm => by have := (h.lt hm).1; omega))⟩
theorem map_notCells {w : World} {b : Nat} {g : ByteArray → Int} {N : Nat} (h : MapG w b g N) {c : Nat} {cs : Array Value} {t : TypeId} (hb : w.heap[c]? = some (.cells cs t)) : c ≠ b := fun e => by
  subst e
  obtain ⟨sz, f, ⟨D, ⟨es, clock, hb', _⟩, _⟩, _⟩ := h
  rw [hb] at hb'; cases hb'
/-- One variable more. -/
theorem LaySt.pushV {base lb gb : Nat} {g : ByteArray → Int} {N : Nat} {vs : List (ByteArray × Int)} {es : List Int} {w Y w2 : World} {v1 v2 : Value} {gg cap : Nat} {p : ByteArray × Int} (h : LaySt base lb gb g N vs es w) (hl : w.heap[lb]? = some (.cells #[v1, v2] 89)) (hY : Below w.heap.size w Y)
    (h2 : w2.ownsRow base 93 2 (.slice (some ⟨gg, 0, none⟩) (vs.length + 1) cap) (vs.length + 1) (spotCells vs ++ spotC p)) (g2 : Y.grownBy w2 v1.ownBlock) (hat : v1.ownBlock = some gg ∨ w.heap.size ≤ gg) :
    w2.heap[lb]? = some (.cells #[v1, v2] 89) ∧ LaySt base lb gb g N (vs ++ [p]) es (w2.setCell ⟨lb, 0, none⟩ (.slice (some ⟨gg, 0, none⟩) (vs.length + 1) cap)) ∧ FrM (LayM lb gb) w (w2.setCell ⟨lb, 0, none⟩ (.slice (some ⟨gg, 0, none⟩) (vs.length + 1) cap)) := by
  obtain ⟨u1, u2, hl1, ho1, ho2⟩ := h.hl
  obtain ⟨rfl, rfl⟩ := LayB.inj hl hl1
  have hz := hY.size
  have hz2 := g2.size
  have hlb := lt_of_block hl
  have hgb := h.hm.lt
  have hne1 : u1.ownBlock ≠ some lb := own_not ho1 hl (by decide)
  have hne2 : u2.ownBlock ≠ some lb := own_not ho2 hl (by decide)
  have hgl : gb ≠ lb := fun e => map_notCells h.hm hl e.symm
  have hg1 : u1.ownBlock ≠ some gb := fun e => by obtain ⟨cur, hc⟩ := own_type ho1 e; exact map_notCells h.hm hc rfl
  have h12 : ∀ k, u2.ownBlock = some k → u1.ownBlock ≠ some k := fun k hk => by obtain ⟨cur, hc⟩ := own_type ho2 hk; exact own_not ho1 hc (by decide)
  have hw2 : ∀ k, k < w.heap.size → u1.ownBlock ≠ some k → w2.heap[k]? = w.heap[k]? := fun k hk hn => (g2.block k (by omega) (fun e => hn e.symm)).trans (hY.block k hk)
  have hb2 : w2.heap[lb]? = some (.cells #[u1, u2] 89) := (hw2 lb hlb hne1).trans hl
  have hset : ∀ k, k ≠ lb → (w2.setCell ⟨lb, 0, none⟩ (.slice (some ⟨gg, 0, none⟩) (vs.length + 1) cap)).heap[k]? = w2.heap[k]? := fun k hk => Below.heap_setCell _ _ _ _ hk
  have hnew := two_put0 (u := .slice (some ⟨gg, 0, none⟩) (vs.length + 1) cap) hb2
  refine ⟨hb2, ⟨h.bs, h.hm.block ((hset gb hgl).trans (hw2 gb hgb hg1)), _, _, hnew, ?_, ?_⟩, ⟨?_, ?_, ?_, ?_, ?_, ?_⟩⟩
  · unfold OwnV; rw [spotCells_snoc, List.length_append]
    exact ownsRow_setCell_other h2 (own_not h2 hb2 (by decide)) _
  · exact own_keep ho2 (fun k hk => (hset k (fun e => hne2 (e ▸ hk))).trans (hw2 k (World.ownsRow.lt ho2 k hk).2 (h12 k hk)))
  · exact g2.os.trans hY.os
  · exact g2.tape.trans hY.tape
  · exact g2.output.trans hY.output
  · simp; omega
  · intro k hk hm
    exact (hset k (fun e => hm (.inl e))).trans (hw2 k hk (fun e => hm (.inr (.inr ⟨_, _, hl, .inl e⟩))))
  · intro k hk hm
    rcases hm with e | e | ⟨x1, x2, e1, e2⟩
    · exact .inl e
    · exact .inr (.inl e)
    · obtain ⟨rfl, rfl⟩ := LayB.inj hnew e1
      rcases e2 with e2 | e2
      · have e3 : gg = k := by simpa [Value.ownBlock] using e2
        subst e3
        rcases hat with h9 | h9
        · exact .inr (.inr ⟨_, _, hl, .inl h9⟩)
        · omega
      · exact .inr (.inr ⟨_, _, hl, .inr e2⟩)
/-- One end more. -/
theorem LaySt.pushE {base lb gb : Nat} {g : ByteArray → Int} {N : Nat} {vs : List (ByteArray × Int)} {es : List Int} {w Y w2 : World} {v1 v2 : Value} {gg cap : Nat} {x : Int} (h : LaySt base lb gb g N vs es w) (hl : w.heap[lb]? = some (.cells #[v1, v2] 89)) (hY : Below w.heap.size w Y)
    (h2 : w2.ownsRow base 3 1 (.slice (some ⟨gg, 0, none⟩) (es.length + 1) cap) (es.length + 1) (es.map (Value.int .i64) ++ [.int .i64 x])) (g2 : Y.grownBy w2 v2.ownBlock) (hat : v2.ownBlock = some gg ∨ w.heap.size ≤ gg) :
    w2.heap[lb]? = some (.cells #[v1, v2] 89) ∧ LaySt base lb gb g N vs (es ++ [x]) (w2.setCell ⟨lb, 1, none⟩ (.slice (some ⟨gg, 0, none⟩) (es.length + 1) cap)) ∧ FrM (LayM lb gb) w (w2.setCell ⟨lb, 1, none⟩ (.slice (some ⟨gg, 0, none⟩) (es.length + 1) cap)) ∧ (w2.setCell ⟨lb, 1, none⟩ (.slice (some ⟨gg, 0, none⟩) (es.length + 1) cap)).heap[lb]? = some (.cells #[v1, .slice (some ⟨gg, 0, none⟩) (es.length + 1) cap] 89) := by
  obtain ⟨u1, u2, hl1, ho1, ho2⟩ := h.hl
  obtain ⟨rfl, rfl⟩ := LayB.inj hl hl1
  have hz := hY.size
  have hz2 := g2.size
  have hlb := lt_of_block hl
  have hgb := h.hm.lt
  have hne1 : u1.ownBlock ≠ some lb := own_not ho1 hl (by decide)
  have hne2 : u2.ownBlock ≠ some lb := own_not ho2 hl (by decide)
  have hgl : gb ≠ lb := fun e => map_notCells h.hm hl e.symm
  have hg1 : u2.ownBlock ≠ some gb := fun e => by obtain ⟨cur, hc⟩ := own_type ho2 e; exact map_notCells h.hm hc rfl
  have h12 : ∀ k, u1.ownBlock = some k → u2.ownBlock ≠ some k := fun k hk => by obtain ⟨cur, hc⟩ := own_type ho1 hk; exact own_not ho2 hc (by decide)
  have hw2 : ∀ k, k < w.heap.size → u2.ownBlock ≠ some k → w2.heap[k]? = w.heap[k]? := fun k hk hn => (g2.block k (by omega) (fun e => hn e.symm)).trans (hY.block k hk)
  have hb2 : w2.heap[lb]? = some (.cells #[u1, u2] 89) := (hw2 lb hlb hne2).trans hl
  have hset : ∀ k, k ≠ lb → (w2.setCell ⟨lb, 1, none⟩ (.slice (some ⟨gg, 0, none⟩) (es.length + 1) cap)).heap[k]? = w2.heap[k]? := fun k hk => Below.heap_setCell _ _ _ _ hk
  have hnew := two_put1 (u := .slice (some ⟨gg, 0, none⟩) (es.length + 1) cap) hb2
  refine ⟨hb2, ⟨h.bs, h.hm.block ((hset gb hgl).trans (hw2 gb hgb hg1)), _, _, hnew, ?_, ?_⟩, ⟨?_, ?_, ?_, ?_, ?_, ?_⟩, hnew⟩
  · exact own_keep ho1 (fun k hk => (hset k (fun e => hne1 (e ▸ hk))).trans (hw2 k (World.ownsRow.lt ho1 k hk).2 (h12 k hk)))
  · unfold OwnI; rw [List.map_append, List.length_append]
    exact ownsRow_setCell_other h2 (own_not h2 hb2 (by decide)) _
  · exact g2.os.trans hY.os
  · exact g2.tape.trans hY.tape
  · exact g2.output.trans hY.output
  · simp; omega
  · intro k hk hm
    exact (hset k (fun e => hm (.inl e))).trans (hw2 k hk (fun e => hm (.inr (.inr ⟨_, _, hl, .inr e⟩))))
  · intro k hk hm
    rcases hm with e | e | ⟨x1, x2, e1, e2⟩
    · exact .inl e
    · exact .inr (.inl e)
    · obtain ⟨rfl, rfl⟩ := LayB.inj hnew e1
      rcases e2 with e2 | e2
      · exact .inr (.inr ⟨_, _, hl, .inl e2⟩)
      · have e3 : gg = k := by simpa [Value.ownBlock] using e2
        subst e3
        rcases hat with h9 | h9
        · exact .inr (.inr ⟨_, _, hl, .inr h9⟩)
        · omega
/-- A store into the map. -/
theorem LaySt.map {base lb gb : Nat} {g g' : ByteArray → Int} {N N' : Nat} {vs : List (ByteArray × Int)} {es : List Int} {w w' : World} (h : LaySt base lb gb g N vs es w) (hm : MapG w' gb g' N') (hg : w.grownBy w' (some gb)) : LaySt base lb gb g' N' vs es w' ∧ FrM (LayM lb gb) w w' := by
  obtain ⟨v1, v2, hl, h2, h3⟩ := h.hl
  have hb : ∀ k, k < w.heap.size → k ≠ gb → w'.heap[k]? = w.heap[k]? := fun k hk hn => hg.block k hk (fun e => by injection e with e; exact hn e)
  have hlg : lb ≠ gb := map_notCells h.hm hl
  have hlb := (hb lb (lt_of_block hl) hlg).trans hl
  refine ⟨⟨h.bs, hm, v1, v2, hlb, own_keep h2 (fun k hk => hb k (World.ownsRow.lt h2 k hk).2 (fun e => ?_)), own_keep h3 (fun k hk => hb k (World.ownsRow.lt h3 k hk).2 (fun e => ?_))⟩, ⟨hg.os, hg.tape, hg.output, hg.size, fun k hk hn => hb k hk (fun e => hn (.inr (.inl e))), fun k hk hm => ?_⟩⟩
  · obtain ⟨cur, hc⟩ := own_type h2 hk; exact map_notCells h.hm hc e
  · obtain ⟨cur, hc⟩ := own_type h3 hk; exact map_notCells h.hm hc e
  · rcases hm with e | e | ⟨x1, x2, e1, e2⟩
    · exact .inl e
    · exact .inr (.inl e)
    · obtain ⟨rfl, rfl⟩ := LayB.inj hlb e1
      exact .inr (.inr ⟨_, _, hl, e2⟩)
/-- An end is told. -/
theorem LaySt.putE {base lb gb : Nat} {g : ByteArray → Int} {N : Nat} {vs : List (ByteArray × Int)} {es : List Int} {w : World} (h : LaySt base lb gb g N vs es w) {v1 : Value} {gg cap : Nat} (hl : w.heap[lb]? = some (.cells #[v1, .slice (some ⟨gg, 0, none⟩) es.length cap] 89)) (i : Nat) (x : Int) :
    LaySt base lb gb g N vs (es.set i x) (w.setCell ⟨gg, i, none⟩ (.int .i64 x)) ∧ FrM (LayM lb gb) w (w.setCell ⟨gg, i, none⟩ (.int .i64 x)) := by
  obtain ⟨u1, u2, hl1, ho1, ho2⟩ := h.hl
  obtain ⟨rfl, rfl⟩ := LayB.inj hl hl1
  have hne : gg ≠ lb := fun e => own_not ho2 hl (by decide) (by rw [← e]; rfl)
  have hgg : gg ≠ gb := fun e => by obtain ⟨cur, hc⟩ := own_type ho2 (g := gg) rfl; exact map_notCells h.hm hc e
  have h1g : u1.ownBlock ≠ some gg := by obtain ⟨cur, hc⟩ := own_type ho2 (g := gg) rfl; exact own_not ho1 hc (by decide)
  have hset : ∀ k, k ≠ gg → (w.setCell ⟨gg, i, none⟩ (.int .i64 x)).heap[k]? = w.heap[k]? := fun k hk => Below.heap_setCell _ _ _ _ hk
  have hlb := (hset lb (Ne.symm hne)).trans hl
  refine ⟨⟨h.bs, h.hm.block (hset gb (Ne.symm hgg)), _, _, hlb, own_keep ho1 (fun k hk => hset k (fun e => h1g (e ▸ hk))), ?_⟩, ⟨rfl, rfl, rfl, by simp, fun k hk hn => hset k (fun e => hn (.inr (.inr ⟨_, _, hl, .inr (by rw [e]; rfl)⟩))), fun k hk hm => ?_⟩⟩
  · have h9 := World.ownsRow.stored ho2 i (.int .i64 x)
    unfold OwnI
    rw [List.length_set, List.map_set]
    exact h9.1
  · rcases hm with e | e | ⟨x1, x2, e1, e2⟩
    · exact .inl e
    · exact .inr (.inl e)
    · obtain ⟨rfl, rfl⟩ := LayB.inj hlb e1
      exact .inr (.inr ⟨_, _, hl, e2⟩)
end Go.Proofs.YtbdfjboojokgdaaDoor
namespace Go.Proofs.YtbdfjboojokgdaaDoor
open Go.RowKit

theorem Tryd.info93 : (Tryd.prog.info? 93).map (fun i => (i.zero, i.size, i.bytes)) = some (some (.agg #[.string ⟨#[]⟩, .int .i64 0]), 2, 24) := by kernel_rfl
theorem news_two (w : World) (u1 u2 : Value) (t : TypeId) : ∀ j x, [u1, u2][j]? = some x → (w.alloc (.cells #[u1, u2] t)).cell? ((⟨w.heap.size, 0, none⟩ : Addr).add j) = some x := by
  intro j x hj
  match j with
  | 0 => simp at hj; subst hj; simp [go_sem, Addr.add]
  | 1 => simp at hj; subst hj; simp [go_sem, Addr.add]
  | j + 2 => simp at hj
theorem one_spot (s : ByteArray) (n : Int) : ∀ u ∈ spotC (s, n), u.oneCell' = true := by intro u hu; simp [spotC] at hu; rcases hu with rfl | rfl <;> rfl
/-- What add tells. -/
def AddRes (base lb gb : Nat) (g : ByteArray → Int) (N : Nat) (vs : List (ByteArray × Int)) (es : List Int) (w : World) (e : Ending) (w' : World) : Prop := e = .returned (.tuple #[]) ∧ LaySt base lb gb g N vs es w' ∧ FrM (LayM lb gb) w w'
set_option maxRecDepth 100000 in
set_option maxHeartbeats 1000000 in
theorem add_var (base lb gb : Nat) (g : ByteArray → Int) (N : Nat) (vs : List (ByteArray × Int)) (es : List Int) (t : Ty) (v : Value) (d : Int) (w : World) (h : TyAt (fun b => b < base) w t v) (hs : LaySt base lb gb g N vs es w) (hba : base ≤ w.heap.size) (hsh : t.short) (hf : t.form = 2) (hz : vs.length ≤ 1099511627776) :
    Calls Tryd.prog 101 #[.pointer (some ⟨lb, 0, none⟩), v, .map (some gb), .int .i64 d] w (AddRes base lb gb g N (vs ++ layV g d t) (es ++ layE vs.length t) w) := by
  obtain ⟨A, c, rfl, _, _⟩ := h.form
  rw [layV_var hf, layE_var hf, List.append_nil]
  have hnm := Ty.short_name hsh
  obtain ⟨W, eW, q1, b1, z1⟩ := one_box w (.int .i64 t.form) (.int .i64 t.num) (.string t.name) (.slice A t.args.length c) 25
  have HEW := Lib.hid eW
  have hsW := hs.on b1
  obtain ⟨v1, v2, hl, ho1, ho2⟩ := hs.hl
  have hlW : W.heap[lb]? = some (.cells #[v1, v2] 89) := (b1.block lb hs.lb_lt).trans hl
  obtain ⟨A1, c1, rfl⟩ := own_form ho1
  obtain ⟨p0, p1, p2, p3, p4⟩ := two_cells hlW
  have hlk := hsW.hm.look hnm
  have hlkd := (hsW.hm.on (Below.refl _ W).drew).look hnm
  obtain ⟨x0, x1, x2, x3, x4, _⟩ := q1
  obtain ⟨i0, hi, hz0, hzs, hzb⟩ := info_parts' Tryd.info93
  have HOWN : Hid (W.ownsRow base 93 2 (.slice A1 vs.length c1) vs.length (spotCells vs)) := own_below ho1 b1
  have HNEW := Lib.hid (news_two W (.string t.name) (.int .i64 (g t.name)) 93)
  have HNEWD := Lib.hid (news_two W.drew (.string t.name) (.int .i64 (g t.name)) 93)
  have HONE := Lib.hid (one_spot t.name (g t.name))
  have HST : Hid (∀ (Y w2 : World) (gg cap : Nat), Below W.heap.size W Y → w2.ownsRow base 93 2 (.slice (some ⟨gg, 0, none⟩) (vs.length + 1) cap) (vs.length + 1) (spotCells vs ++ [.string t.name, .int .i64 (g t.name)]) → Y.grownBy w2 (Value.slice A1 vs.length c1).ownBlock → ((Value.slice A1 vs.length c1).ownBlock = some gg ∨ gg = W.heap.size + 1) →
      w2.heap[lb]? = some (.cells #[.slice A1 vs.length c1, v2] 89) ∧ AddRes base lb gb g N (vs ++ [(t.name, g t.name)]) es w (.returned (.tuple #[])) (w2.setCell ⟨lb, 0, none⟩ (.slice (some ⟨gg, 0, none⟩) (vs.length + 1) cap))) := fun Y w2 gg cap hY h2 g2 hat => by
    obtain ⟨r1, r2, r3⟩ := hs.pushV (p := (t.name, g t.name)) hl (b1.trans (hY.mono b1.size)) h2 g2 (by rcases hat with h9 | h9; (· exact .inl h9); exact .inr (by omega))
    exact ⟨r1, rfl, r2, r3⟩
  have HS1 := Lib.hid (fun w2 gg cap => HST.out _ w2 gg cap (below_new W (.cells #[.string t.name, .int .i64 (g t.name)] 93)))
  have HS2 := Lib.hid (fun w2 gg cap => HST.out _ w2 gg cap (below_new W (.cells #[.string t.name, .int .i64 (g t.name)] 93)).drew)
  have hbW : base ≤ W.heap.size := by omega
  have HZ1 := Lib.hid z1
  clear HST
  clear z1 eW h hs b1 hsW hl hlW ho1 ho2 hsh hnm
  generalize t.form = ff at *
  subst hf
  generalize t.name = nn at *
  generalize g nn = gn at *
  go_enter Tryd.func101, Tryd.ntmps101
  go_wp2_with fail
  rw [HEW.out]
  go_wp2_with fail
  have HOWN2 := Lib.hid (own_below HOWN.out (below_new W (.cells #[.string nn, .int .i64 gn] 93)))
  go_region_law (refine step_append_lies _ rfl (.tmp 24) (.tmp 32) 87 rfl base 93 i0 (.agg #[.string ⟨#[]⟩, .int .i64 0]) 2 24 Tryd.underlying87 hi hz0 hzs hzb rfl (by decide) (.slice A1 vs.length c1) vs.length (spotCells vs) rfl HOWN2.out ⟨W.heap.size, 0, none⟩ 1 1 [.string nn, .int .i64 gn] rfl rfl HNEW.out HONE.out (by omega) (by unfold maxLen; omega) (by omega) (by simp; omega) (W.heap.size + 1) (by simp) ?_; intro gg cap w2 h2 g2 hat _; (first | have r9 := HS1.out w2 gg cap h2 g2 hat | have r9 := HS2.out w2 gg cap h2 g2 hat); have HR := Lib.hid r9.2; obtain ⟨k0, k1, k2, k3, k4⟩ := two_cells r9.1; clear r9 h2 g2 hat)
  all_goals (go_wp2; go_end0; exact HR.out)
def AddIs (base lb gb n : Nat) : Prop := ∀ (t : Ty) (v : Value) (g : ByteArray → Int) (d : Int) (N : Nat) (vs : List (ByteArray × Int)) (es : List Int) (w : World), t.sz ≤ n → TyAt (fun b => b < base) w t v → t.short → LaySt base lb gb g N vs es w → base ≤ w.heap.size → N + 2 * t.sz ≤ 1099511627776 → vs.length + t.sz ≤ 1099511627776 → es.length + t.sz ≤ 1099511627776 → 0 ≤ d → d + t.sz ≤ 1099511627776 →
    Calls Tryd.prog 101 #[.pointer (some ⟨lb, 0, none⟩), v, .map (some gb), .int .i64 d] w (AddRes base lb gb g (N + 2 * t.sz) (vs ++ layV g d t) (es ++ layE vs.length t) w)
set_option maxRecDepth 100000 in
set_option maxHeartbeats 1000000 in
theorem addAll_of (base lb gb n : Nat) (ih : AddIs base lb gb n) (ts : List Ty) (v : Value) (g : ByteArray → Int) (d : Int) (N : Nat) (vs : List (ByteArray × Int)) (es : List Int) (w : World) (hn : ∀ x ∈ ts, x.sz ≤ n) (h : TysAt (fun b => b < base) w ts v) (hsh : ∀ x ∈ ts, x.short) (hs : LaySt base lb gb g N vs es w) (hba : base ≤ w.heap.size)
    (hN : N + 2 * sumSz ts ≤ 1099511627776) (hv : vs.length + sumSz ts ≤ 1099511627776) (he : es.length + sumSz ts ≤ 1099511627776) (hd0 : 0 ≤ d) (hd : d + sumSz ts ≤ 1099511627776) (hl2 : ts.length ≤ 2) :
    Calls Tryd.prog 133 #[.pointer (some ⟨lb, 0, none⟩), v, .map (some gb), .int .i64 d] w (AddRes base lb gb g (N + 2 * sumSz ts) (vs ++ layVL g d ts) (es ++ layEL vs.length ts) w) := by
  obtain ⟨A, c, rfl, hc, hm⟩ := h.form
  have HI := Lib.hid ih
  have HN := Lib.hid hn
  have HSH := Lib.hid hsh
  have HT := Lib.hid h
  have HS0 := Lib.hid hs
  clear ih hn hsh h hs
  go_enter Tryd.func133, Tryd.ntmps133
  go_wp2_with fail
  go_loopw [12] (fun i wr => ∃ k : Nat, k ≤ ts.length ∧ i = .int .i64 k ∧ LaySt base lb gb g (N + 2 * sumSz (ts.take k)) (vs ++ layVL g d (ts.take k)) (es ++ layEL vs.length (ts.take k)) wr ∧ FrM (LayM lb gb) w wr) (fun i _ => ts.length - (intOf i).toNat)
  case atStart => exact ⟨0, Nat.zero_le _, rfl, by simpa [layVL, layEL, sumSz] using HS0.out, ⟨rfl, rfl, rfl, Nat.le_refl _, fun _ _ _ => rfl, fun _ _ h => h⟩⟩
  case round =>
    obtain ⟨k, hk, rfl, hsk, hfk⟩ := hrel
    have HSK := Lib.hid hsk
    have HFK := Lib.hid hfk
    have hzk := hfk.size
    by_cases hlt : k < ts.length
    · obtain ⟨gq, off, A3, c3, e3, hgb, hg, m0, m1, m2, m3, hx⟩ := (HT.out.keep (lay_keeps HS0.out hfk)).at k hlt
      subst e3
      have hmem : ts[k] ∈ ts := List.getElem_mem hlt
      obtain ⟨V, eV, q2, b2, z2⟩ := one_box wr (.int .i64 ts[k].form) (.int .i64 ts[k].num) (.string ts[k].name) (.slice A3 ts[k].args.length c3) 25
      have hso := sumSz_one hlt
      have htk := sumSz_take hlt
      have hvl := layVL_len g d (ts.take k)
      have hvv := varsL_le (ts.take k)
      have hel := layEL_le vs.length (ts.take k)
      have hcal := HI.out ts[k] _ g d (N + 2 * sumSz (ts.take k)) (vs ++ layVL g d (ts.take k)) (es ++ layEL vs.length (ts.take k)) V (HN.out _ hmem) (hx.on b2) (HSH.out _ hmem) (hsk.on b2) (by omega) (by omega) (by simp; omega) (by simp; omega) hd0 (by omega)
      rw [List.append_assoc, List.append_assoc, ← layVL_take hlt, List.length_append, hvl, ← layEL_take hlt, Nat.add_assoc, ← Nat.mul_add, ← htk] at hcal
      have HC := Lib.hid hcal
      have HFV := Lib.hid (hfk.trans (lay_below hsk b2))
      have HEV := Lib.hid eV
      have hki : (k : Int) < (ts.length : Int) := by omega
      have hk0 : (0 : Int) ≤ (k : Int) := by omega
      obtain ⟨u0, u1, u2, u3, u4, _⟩ := q2
      clear hx hsk hfk eV b2 hcal hso htk hvl hvv hel
      generalize ts[k] = x at *
      generalize x.form = xf, x.num = xn, x.name = xs, x.args.length = xl at *
      go_wp2_with fail
      rw [HEV.out]
      go_wp2_with fail
      refine HC.out.mono ?_
      rintro e w2 ⟨rfl, hs2, hf2⟩
      have HS2 := Lib.hid hs2
      have HF2 := Lib.hid (HFV.out.trans hf2)
      clear hs2 hf2
      go_wp2
      go_roundw
      case rel => exact ⟨k + 1, by omega, by go_num, HS2.out, HF2.out⟩
      case measure => simp [intOf]; omega
    · have hdk : decide (k < ts.length) = false := by simpa using hlt
      have hkl : ts.take k = ts := List.take_of_length_le (by omega)
      rw [hkl] at HSK
      clear hkl hsk hfk
      go_wp2
      go_end0
      exact ⟨rfl, HSK.out, HFK.out⟩
end Go.Proofs.YtbdfjboojokgdaaDoor
namespace Go.Proofs.YtbdfjboojokgdaaDoor
open Go.RowKit

set_option maxRecDepth 100000 in
set_option maxHeartbeats 1000000 in
theorem add_else (base lb gb n : Nat) (ih : AddIs base lb gb n) (t : Ty) (v : Value) (g : ByteArray → Int) (d : Int) (N : Nat) (vs : List (ByteArray × Int)) (es : List Int) (w : World) (hn : t.sz ≤ n + 1) (h : TyAt (fun b => b < base) w t v) (hsh : t.short) (hs : LaySt base lb gb g N vs es w) (hba : base ≤ w.heap.size)
    (hN : N + 2 * t.sz ≤ 1099511627776) (hv : vs.length + t.sz ≤ 1099511627776) (he : es.length + t.sz ≤ 1099511627776) (hd0 : 0 ≤ d) (hd : d + t.sz ≤ 1099511627776) (h2 : t.form ≠ 2) (h5 : t.form ≠ 5) :
    Calls Tryd.prog 101 #[.pointer (some ⟨lb, 0, none⟩), v, .map (some gb), .int .i64 d] w (AddRes base lb gb g (N + 2 * t.sz) (vs ++ layV g d t) (es ++ layE vs.length t) w) := by
  rw [layV_else h2 h5, layE_else h2 h5]
  obtain ⟨sv, rfl, hts⟩ := h.tys
  obtain ⟨A, c, rfl, hc, hm⟩ := hts.form
  obtain ⟨W, eW, q1, b1, z1⟩ := one_box w (.int .i64 t.form) (.int .i64 t.num) (.string t.name) (.slice A t.args.length c) 25
  have hsa := sumSz_args t
  have HC := Lib.hid (addAll_of base lb gb n ih t.args _ g d N vs es W (fun x hx => by have := Ty.arg_sz hx; omega) (hts.on b1) (fun x hx => Ty.short_arg hsh hx) (hs.on b1) (by omega) (by omega) (by omega) (by omega) hd0 (by omega) t.args_le)
  have HEW := Lib.hid eW
  have HF := Lib.hid (lay_below hs b1)
  obtain ⟨x0, x1, x2, x3, x4, _⟩ := q1
  clear eW h hs b1 ih hts hsh
  generalize t.form = ff at *
  have hff : (ff == 2) = false := by simpa using h2
  have hff5 : (ff == 5) = false := by simpa using h5
  go_enter Tryd.func101, Tryd.ntmps101
  go_wp2_with fail
  rw [HEW.out]
  go_wp2_with fail
  refine HC.out.mono ?_
  rintro e w2 ⟨rfl, hs2, hf2⟩
  have HR : Hid (AddRes base lb gb g (N + 2 * t.sz) (vs ++ layVL g d t.args) (es ++ layEL vs.length t.args) w (.returned (.tuple #[])) w2) := ⟨rfl, hs2.more (by omega), HF.out.trans hf2⟩
  clear hs2 hf2
  go_wp2
  go_end0
  exact HR.out
theorem set_mid (es : List Int) (x y : Int) (r : List Int) : ((es ++ [x]) ++ r).set es.length y = es ++ y :: r := by
  rw [List.append_assoc, List.set_append_right _ _ (Nat.le_refl _)]; simp
set_option maxRecDepth 100000 in
set_option maxHeartbeats 1000000 in
theorem add_all (base lb gb n : Nat) (ih : AddIs base lb gb n) (t : Ty) (v : Value) (g : ByteArray → Int) (d : Int) (N : Nat) (vs : List (ByteArray × Int)) (es : List Int) (w : World) (hn : t.sz ≤ n + 1) (h : TyAt (fun b => b < base) w t v) (hsh : t.short) (hs : LaySt base lb gb g N vs es w) (hba : base ≤ w.heap.size)
    (hN : N + 2 * t.sz ≤ 1099511627776) (hv : vs.length + t.sz ≤ 1099511627776) (he : es.length + t.sz ≤ 1099511627776) (hd0 : 0 ≤ d) (hd : d + t.sz ≤ 1099511627776) (h5 : t.form = 5) :
    Calls Tryd.prog 101 #[.pointer (some ⟨lb, 0, none⟩), v, .map (some gb), .int .i64 d] w (AddRes base lb gb g (N + 2 * t.sz) (vs ++ layV g d t) (es ++ layE vs.length t) w) := by
  rw [layV_all h5, layE_all h5]
  obtain ⟨sv, rfl, hts⟩ := h.tys
  obtain ⟨A, c, rfl, hc, hm⟩ := hts.form
  obtain ⟨W, eW, q1, b1, z1⟩ := one_box w (.int .i64 t.form) (.int .i64 t.num) (.string t.name) (.slice A t.args.length c) 25
  have hsa := sumSz_args t
  have hnm := Ty.short_name hsh
  have HEW := Lib.hid eW
  have hsW := hs.on b1
  obtain ⟨v1, v2, hl, ho1, ho2⟩ := hsW.hl
  obtain ⟨A1, c1, rfl⟩ := own_form ho1
  obtain ⟨A2, c2, rfl⟩ := own_form ho2
  obtain ⟨p0, p1, p2, p3, p4⟩ := two_cells hl
  have hlk := hsW.hm.look hnm
  have hlkd := (hsW.hm.on (Below.refl _ W).drew).look hnm
  have HQ := Lib.hid q1
  have HSW := Lib.hid hsW
  have HL := Lib.hid hl
  have HFW := Lib.hid (lay_below hs b1)
  have HTS := Lib.hid (hts.on b1)
  have HIH := Lib.hid ih
  have HSHA := Lib.hid (fun x hx => Ty.short_arg (x := x) hsh hx)
  have HOWN : Hid (OwnI base W (.slice A2 es.length c2) es) := ho2
  obtain ⟨x0, x1, x2, x3, x4, _⟩ := q1
  obtain ⟨i0, hi, hz0, hzs, hzb⟩ := info_parts' Tryd.info3
  have hbW : base ≤ W.heap.size := by omega
  have hnl : ∀ x ∈ t.args, x.sz ≤ n := fun x hx => by have := Ty.arg_sz hx; omega
  have HNL := Lib.hid hnl
  have hl2 := t.args_le
  have hFWno : ∀ k, LayM lb gb W k → k < w.heap.size := fun k hk => by
    have hb := b1.block lb hs.lb_lt
    unfold LayM at hk; rw [hb] at hk
    exact (hs.lt hk).2
  have HZ1 := Lib.hid z1
  clear z1 eW h hs b1 ih hts hsh hsW hl ho1 ho2 hnl
  -- behind the first region that draws
  have hsV : LaySt base lb gb g N vs es W.drew := HSW.out.on (Below.refl _ W).drew
  have hlV : W.drew.heap[lb]? = some (.cells #[.slice A1 vs.length c1, .slice A2 es.length c2] 89) := HL.out
  have HOWN2 : Hid ((W.drew.alloc (.cells #[.int .i64 0] 3)).ownsRow base 3 1 (.slice A2 es.length c2) es.length (es.map (Value.int .i64))) := own_below (w := W.drew) (HOWN.out : OwnI base W.drew _ es) (below_new W.drew _)
  have HNEW := Lib.hid (news_one W.drew (.int .i64 0) 3)
  have HONE := Lib.hid (one_int 0)
  have HX4 : Hid (∀ y : World, FrM (LayM lb gb) W y → Box4 y w.heap.size (.int .i64 t.form) (.int .i64 t.num) (.string t.name) (.slice A t.args.length c) ∧ TysAt (fun b => b < base) y t.args (.slice A t.args.length c)) := fun y hf =>
    ⟨HQ.out.frM hf (fun hm => by have := (HSW.out.lt hm); have h9 := hFWno _ hm; omega), HTS.out.keep (lay_keeps HSW.out hf)⟩
  have HST : Hid (∀ (w2 : World) (gg cap : Nat), w2.ownsRow base 3 1 (.slice (some ⟨gg, 0, none⟩) (es.length + 1) cap) (es.length + 1) (es.map (Value.int .i64) ++ [.int .i64 0]) → (W.drew.alloc (.cells #[.int .i64 0] 3)).grownBy w2 (Value.slice A2 es.length c2).ownBlock → ((Value.slice A2 es.length c2).ownBlock = some gg ∨ gg = W.heap.size + 1) →
      (w2.heap[lb]? = some (.cells #[.slice A1 vs.length c1, .slice A2 es.length c2] 89)) ∧ ∃ W1 w3, w2.setCell ⟨lb, 1, none⟩ (.slice (some ⟨gg, 0, none⟩) (es.length + 1) cap) = W1 ∧ Box4 W1 w.heap.size (.int .i64 t.form) (.int .i64 t.num) (.string t.name) (.slice A t.args.length c) ∧ (Instr.mapUpdate 105 (.map (some gb)) (.string t.name) (.int .i64 (d + 1))).run Tryd.prog W1 = .ok () w3 ∧ Box4 w3 w.heap.size (.int .i64 t.form) (.int .i64 t.num) (.string t.name) (.slice A t.args.length c) ∧ FrM (LayM lb gb) W w3 ∧
        Calls Tryd.prog 133 #[.pointer (some ⟨lb, 0, none⟩), .slice A t.args.length c, .map (some gb), .int .i64 (d + 1)] w3 (AddRes base lb gb (updG g t.name (d + 1)) (N + 1 + 2 * sumSz t.args) (vs ++ layVL (updG g t.name (d + 1)) (d + 1) t.args) ((es ++ [0]) ++ layEL vs.length t.args) w3)) := fun w2 gg cap h2 g2 hat => by
    obtain ⟨r1, r2, r3, r4⟩ := hsV.pushE hlV (below_new _ _) h2 g2 (by rcases hat with h9 | h9; (· exact .inl h9); exact .inr (by show W.heap.size ≤ gg; omega))
    have f1 : FrM (LayM lb gb) W (w2.setCell ⟨lb, 1, none⟩ (.slice (some ⟨gg, 0, none⟩) (es.length + 1) cap)) := (lay_below HSW.out (Below.refl _ W).drew).trans r3
    obtain ⟨w3, m1, m2, m3⟩ := r2.hm.store hnm (d + 1) (by omega)
    obtain ⟨s3, f3⟩ := r2.map m2 m3
    have f4 := f1.trans f3
    have hz := f4.size
    refine ⟨r1, _, w3, rfl, (HX4.out _ f1).1, m1, (HX4.out _ f4).1, f4, addAll_of base lb gb n HIH.out t.args _ (updG g t.name (d + 1)) (d + 1) (N + 1) vs (es ++ [0]) w3 HNL.out (HX4.out _ f4).2 HSHA.out s3 (by omega) (by omega) (by omega) (by simp; omega) (by omega) (by omega) hl2⟩
  have HBACK : Hid (∀ w3 w4 : World, FrM (LayM lb gb) W w3 → AddRes base lb gb (updG g t.name (d + 1)) (N + 1 + 2 * sumSz t.args) (vs ++ layVL (updG g t.name (d + 1)) (d + 1) t.args) ((es ++ [0]) ++ layEL vs.length t.args) w3 (.returned (.tuple #[])) w4 →
      Box4 w4 w.heap.size (.int .i64 t.form) (.int .i64 t.num) (.string t.name) (.slice A t.args.length c) ∧ ∃ w5, (Instr.mapUpdate 105 (.map (some gb)) (.string t.name) (.int .i64 (g t.name))).run Tryd.prog w4 = .ok () w5 ∧ ∃ (B1 : Option Addr) (k1 g2 k2 L M : Nat), es.length < L ∧ w5.drew.heap[lb]? = some (.cells #[.slice B1 M k1, .slice (some ⟨g2, 0, none⟩) L k2] 89) ∧ w5.heap[lb]? = some (.cells #[.slice B1 M k1, .slice (some ⟨g2, 0, none⟩) L k2] 89) ∧ (∃ u, w5.drew.cell? ⟨g2, es.length, none⟩ = some u) ∧ w5.drew.frozen? ⟨g2, es.length, none⟩ = false ∧
        AddRes base lb gb g (N + 2 * t.sz) (vs ++ layVL (updG g t.name (d + 1)) (d + 1) t.args) (es ++ ((vs.length + varsL t.args : Nat) : Int) :: layEL vs.length t.args) w (.returned (.tuple #[])) (w5.drew.setCell ⟨g2, es.length, none⟩ (.int .i64 (M : Int)))) := fun w3 w4 hf3 hr => by
    obtain ⟨_, s4, f4⟩ := hr
    have f5 := hf3.trans f4
    obtain ⟨w5, m1, m2, m3⟩ := s4.hm.store hnm (g t.name) (by omega)
    rw [upd_back] at m2
    obtain ⟨s5, f6⟩ := s4.map m2 m3
    refine ⟨(HX4.out _ f5).1, w5, m1, ?_⟩
    have s5d := s5.on (Below.refl _ w5).drew
    have f7 := (f5.trans f6).trans (lay_below s5 (Below.refl _ w5).drew)
    obtain ⟨u1, u2, l1, l2, l3⟩ := s5d.hl
    obtain ⟨B1, k1, rfl⟩ := own_form l2
    have hL : es.length < ((es ++ [0]) ++ layEL vs.length t.args).length := by simp only [List.length_append, List.length_cons, List.length_nil]; omega
    obtain ⟨g2, k2, rfl, _, _⟩ := World.ownsRow.form l3 (by omega)
    have hM : (vs ++ layVL (updG g t.name (d + 1)) (d + 1) t.args).length = vs.length + varsL t.args := by rw [List.length_append, layVL_len]
    obtain ⟨s8, f8⟩ := s5d.putE l1 es.length (((vs ++ layVL (updG g t.name (d + 1)) (d + 1) t.args).length : Nat) : Int)
    refine ⟨B1, k1, g2, k2, _, _, hL, l1, l1, ?_, World.ownsRow.frozenAt l3 _, rfl, ?_, (HFW.out.trans f7).trans f8⟩
    · rw [World.ownsRow.cellAt l3 _ (by omega)]
      rw [List.getElem?_map, List.getElem?_eq_getElem hL]
      exact ⟨_, rfl⟩
    · rw [set_mid, hM] at s8
      rw [hM]
      exact s8.more (by omega)
  clear HX4 hsV hlV HSW HL HFW HTS HIH HSHA HNL hnm
  generalize t.form = ff at *
  subst h5
  generalize hnn : t.name = nn at *
  clear hnn
  generalize g nn = gn at *
  generalize layVL (updG g nn (d + 1)) (d + 1) t.args = lv at *
  generalize updG g nn (d + 1) = ug at *
  go_enter Tryd.func101, Tryd.ntmps101
  go_wp2_with fail
  rw [HEW.out]
  go_wp2_with fail
  go_region
  go_upto_region 9 with (at_builtin; refine wpList_append_lies _ rfl (.tmp 53) (.tmp 54) 22 rfl base 3 i0 (.int .i64 0) 1 8 Tryd.underlying22 hi hz0 hzs hzb rfl (by decide) (.slice A2 es.length c2) es.length (es.map (Value.int .i64)) rfl HOWN2.out ⟨W.heap.size, 0, none⟩ 1 1 [.int .i64 0] rfl rfl HNEW.out HONE.out (by omega) (by unfold maxLen; omega) (by omega) (by simp; omega) (W.heap.size + 1) (by simp) ?_; intro gg cap w2 h2 g2 hat _; have r9 := HST.out w2 gg cap h2 g2 hat; obtain ⟨k0, k1, k2, k3, k4⟩ := two_cells r9.1; have HR9 := Lib.hid r9.2; clear r9 h2 g2 hat)
  refine Exists.elim HR9.out (fun W1 hw1 => Exists.elim hw1 (fun w3 hw3 => ?_))
  have HC := Lib.hid hw3.2.2.2.2.2
  have HF3 := Lib.hid hw3.2.2.2.2.1
  obtain ⟨u0, u1, u2, u3, u4, _⟩ := hw3.2.1
  obtain ⟨y0, y1, y2, y3, y4, _⟩ := hw3.2.2.2.1
  have hm1 := hw3.2.2.1
  rw [hw3.1]
  clear hw1 hw3 HR9 k0 k1 k2 k3 k4 p0 p1 p2 p3 p4 x0 x1 x2 x3 x4 hlk hlkd HOWN HOWN2 HNEW HONE HST
  go_wp2_with fail
  (with_reducible refine HC.out.mono ?_)
  intro e w4 h4
  refine Exists.elim (HBACK.out w3 w4 HF3.out (h4.1 ▸ h4)).2 (fun w5 h5 => ?_)
  obtain ⟨z0, z1, z2, z3, z4, _⟩ := (HBACK.out w3 w4 HF3.out (h4.1 ▸ h4)).1
  have hm2 := h5.1
  obtain ⟨B1, k1, g2, k2, L, M, hL, l1, l2, ⟨uu, l3⟩, l4, l5⟩ := h5.2
  have HRES := Lib.hid l5
  have he := h4.1
  subst he
  obtain ⟨a0, a1, a2, a3, a4⟩ := two_cells l1
  obtain ⟨b0, b1, b2, b3, b4⟩ := two_cells l2
  have hL0 : (es.length : Int) < (L : Int) := by omega
  have hL1 : (0 : Int) ≤ (es.length : Int) := by omega
  clear h4 h5 l1 l2 l5 HC HBACK hm1 u0 u1 u2 u3 u4 y0 y1 y2 y3 y4 HF3
  go_wp2_with fail
  go_region
  all_goals (go_wp2; go_end0; exact HRES.out)
theorem addIs (base lb gb : Nat) : ∀ n, AddIs base lb gb n := by
  intro n
  induction n with
  | zero => intro t v g d N vs es w hn; cases t <;> simp [Ty.sz] at hn
  | succ n ih =>
    intro t v g d N vs es w hn h hsh hs hba hN hv he hd0 hd
    by_cases h2 : t.form = 2
    · exact (add_var base lb gb g N vs es t v d w h hs hba hsh h2 (by omega)).mono (fun e w' hr => ⟨hr.1, hr.2.1.more (by omega), hr.2.2⟩)
    · by_cases h5 : t.form = 5
      · exact add_all base lb gb n ih t v g d N vs es w hn h hsh hs hba hN hv he hd0 hd h5
      · exact add_else base lb gb n ih t v g d N vs es w hn h hsh hs hba hN hv he hd0 hd h2 h5
end Go.Proofs.YtbdfjboojokgdaaDoor
