/- groups: the classes that are above one another. Conditions: those that each theorem names. -/
import Derived.Test.YtjfhncbfbhkhgaaGrA
import Derived.Test.YtjfhncbfbhkhgaaBack
import Derived.Maps.OwnIn
namespace Go.Proofs.Ytjfhncbfbhkhgaa
open Go.RowKit Go.Shelf
attribute [local go_sem] Oper.semAt_some
/-- Groups in memory: a row of rows of names, in blocks from a number on. -/
def GrsAt (P : Nat → Prop) (w : World) (v : Value) (G : List (List ByteArray)) : Prop :=
  ∃ A c, v = .slice A G.length c ∧ G.length ≤ c ∧ c ≤ maxLen ∧ (G = [] ∨ ∃ b, A = some ⟨b, 0, none⟩ ∧ P b ∧ b < w.heap.size ∧ ∀ i (h : i < G.length), ∃ rv, w.cell? ⟨b, i, none⟩ = some rv ∧ StrsAt P w rv G[i])
/-- What holds in the first loop: all ways up from some names are gone. -/
structure UpAt (Q : Nat → Prop) (C : List Cls) (M : ByteArray → Option (ByteArray × Nat)) (I : List Ins) (H : HKey → Option Nat) (eb cb mb pb : Nat) (iv : Value) (w : World) (N : Nat) (names : List ByteArray) (k : Nat) (wr : World) : Prop where
  ex : ∃ d F, Walks (leaveK (supF C)) ⟨[], [], []⟩ (names.take k) d ∧ d.path = [] ∧ GoodD (leaveK (supF C)) (univ C) (fun d => d.st.length + d.path.length ≤ d.seen.length) d ∧ BoxS N N d.st F wr ∧ SeenAt wr (N + 1) d.seen ∧ ∀ j, F j → j = N ∨ N + 3 ≤ j
  env : EnvAt Q C M I H eb cb mb pb iv wr
  obj : wr.heap[N + 2]? = some (.cells #[.func (.func 48) #[.pointer (some ⟨eb, 0, none⟩)] #[], .func (.func 61) #[] #[], .func (.func 62) #[] #[.pointer (some ⟨N, 0, none⟩)], .map (some (N + 1))] 113)
  below : Below N w wr
  size : N + 3 ≤ wr.heap.size
/-- A row's name at a place; behind the row its first one. -/
def nameAt (L : List ByteArray) (i : Nat) : ByteArray := (L[i]?).getD (L.headD ⟨#[]⟩)
theorem nameAt_mem {L : List ByteArray} (h : L ≠ []) (i : Nat) : nameAt L i ∈ L := by
  unfold nameAt
  cases hi : L[i]? with
  | some x => exact List.mem_of_getElem? hi
  | none =>
    cases L with
    | nil => exact absurd rfl h
    | cons a l => exact List.mem_cons_self ..
/-- What holds in the second loop: all ways down from some names are gone. -/
structure DnAt (C : List Cls) (names : List ByteArray) (N : Nat) (w3 : World) (z lo hi T Xs : Nat) (left : Value) (L : List ByteArray) (pre : List Nat) (W : World) : Prop where
  ex : ∃ S G gv, ∃ rvs : List Value, ∃ F : Nat → Prop, Downs (belF (supF C) names) [] [] (pre.map (nameAt L)) S G ∧ SeenAt W (hi + 1) S ∧ GoodD (comeK (belF (supF C) names)) (univ C) (fun d => d.st.length ≤ d.seen.length) ⟨S, [], []⟩ ∧ W.heap[z]? = some (.cells #[gv] 120) ∧ W.ownsRow Xs 40 1 gv G.length rvs ∧ (∀ i (h : i < rvs.length) (h' : i < G.length), StrsAt (fun b => Xs ≤ b ∧ ¬ F b ∧ gv.ownBlock ≠ some b) W rvs[i] G[i]) ∧ G.length ≤ pre.length ∧ BoxS N (z + 1) [] F W ∧ (∀ k, F k → k = z + 1 ∨ Xs ≤ k) ∧ ∀ g, gv.ownBlock = some g → ¬ F g
  bel : BelAt lo hi (belF (supF C) names) T lo W
  xb : W.heap[hi]? = some (.cells #[.map (some lo)] 133)
  obj : W.heap[hi + 2]? = some (.cells #[.func (.func 64) #[] #[.pointer (some ⟨hi, 0, none⟩)], .func (.func 65) #[] #[.pointer (some ⟨z + 1, 0, none⟩)], .func (.func 66) #[] #[], .map (some (hi + 1))] 113)
  box : W.heap[hi + 3]? = some (.cells #[left] 40)
  below : Below z w3 W
  size : Xs ≤ W.heap.size
theorem StrsAt.bounded {P R : Nat → Prop} {w w' : World} {v : Value} {zs : List ByteArray} (h : StrsAt P w' v zs) (hpr : ∀ b, P b → b < w.heap.size → R b) (_ : w.heap.size ≤ w'.heap.size) (h0 : StrsAt P w v zs) : StrsAt R w' v zs := by
  obtain ⟨A, c, e, h1, h2, hr⟩ := h
  obtain ⟨A0, c0, e0, _, _, hr0⟩ := h0
  rw [e0] at e
  injection e with e1 e2 e3
  subst e1 e3
  refine ⟨A0, c0, e0, h1, h2, ?_⟩
  rcases hr with hr | ⟨b, off, ea, hp, hlt, hc⟩
  · exact .inl hr
  · rcases hr0 with hr0 | ⟨b0, off0, ea0, hp0, hlt0, _⟩
    · exact .inl hr0
    · rw [ea] at ea0; injection ea0 with ea0; injection ea0 with ea0 ea1; subst ea0
      exact .inr ⟨b, off, ea, hpr b hp hlt0, hlt, hc⟩
theorem StrsAt.cellsKept {P : Nat → Prop} {w w' : World} {v : Value} {zs : List ByteArray} (h : StrsAt P w v zs) (hs : w.heap.size ≤ w'.heap.size) (hc : ∀ b off u, P b → w.cell? ⟨b, off, none⟩ = some u → w'.cell? ⟨b, off, none⟩ = some u) : StrsAt P w' v zs := by
  obtain ⟨A, c, e, h1, h2, hr⟩ := h
  refine ⟨A, c, e, h1, h2, ?_⟩
  rcases hr with hr | ⟨b, off, e, hp, hlt, hcell⟩
  · exact .inl hr
  · exact .inr ⟨b, off, e, hp, Nat.lt_of_lt_of_le hlt hs, fun i hi => hc b _ _ hp (hcell i hi)⟩
theorem BoxS.cells {B lb : Nat} {st : List ByteArray} {F : Nat → Prop} {w : World} (h : BoxS B lb st F w) {k : Nat} (hk : F k) : ∃ cs t, w.heap[k]? = some (.cells cs t (0, 0)) := by
  obtain ⟨rv, h1, h2, h3⟩ := h
  rcases (h3 k).1 hk with rfl | e
  · exact ⟨_, _, h1⟩
  · obtain ⟨cur, hc⟩ := own_type h2 e; exact ⟨_, _, hc⟩
theorem DnAt.own {C : List Cls} {names : List ByteArray} {N : Nat} {w3 : World} {z lo hi T Xs : Nat} {left : Value} {L : List ByteArray} (h1 : z + 1 < lo) (h2 : lo < hi) (h3 : hi + 3 < Xs) : OwnFrom Xs (fun pre W => DnAt C names N w3 z lo hi T Xs left L pre W) := by
  intro pre W W' row h hg hr
  have hne : ∀ k, k < Xs → some k ≠ row := fun k hk e => by have := (hr k e.symm).1; omega
  have hb : ∀ k, k < Xs → W'.heap[k]? = W.heap[k]? := fun k hk => hg.block k (by have := h.size; omega) (hne k hk)
  have hcells : ∀ k (cs : Array Value) (t : TypeId), W.heap[k]? = some (Obj.cells cs t (0, 0)) → W'.heap[k]? = W.heap[k]? := fun k cs t hk => hg.block k (lt_of_block hk) (fun e => by
    obtain ⟨o, ho, hc⟩ := (hr k e.symm).2
    rw [ho] at hk; injection hk with hk; subst hk; cases hc)
  obtain ⟨S, G, gv, rvs, F, a1, a2, a3, a4, a5, a6, a7, a8, a9, a10⟩ := h.ex
  refine ⟨⟨S, G, gv, rvs, F, a1, a2.block (hb _ (by omega)), a3, (hb _ (by omega)).trans a4, own_keep a5 (fun g hgo => ?_), fun i b c => (a6 i b c).cellsKept hg.size (fun q off u _ hu => cell_kept hu hg (fun r e => (hr r e).2)), a7, a8.keep (fun k hk => ?_), a9, a10⟩, h.bel.keep (fun k hk => hb k (by rcases hk with rfl | hk <;> omega)), (hb _ (by omega)).trans h.xb, (hb _ (by omega)).trans h.obj, (hb _ (by omega)).trans h.box, ⟨hg.os.trans h.below.os, hg.tape.trans h.below.tape, hg.output.trans h.below.output, Nat.le_trans h.below.size hg.size, fun k hk => (hb k (by omega)).trans (h.below.block k hk)⟩, Nat.le_trans h.size hg.size⟩
  · obtain ⟨cur, hcur⟩ := own_type a5 hgo
    exact hcells g _ _ hcur
  · obtain ⟨cs, t, hc⟩ := a8.cells hk
    exact hcells k _ _ hc
/-- What the loop's body leaves: what it keeps for the loop, what it keeps for the row, and what holds then. -/
def DnPost (C : List Cls) (names : List ByteArray) (N : Nat) (w3 : World) (z lo hi T Xs : Nat) (left : Value) (L : List ByteArray) (pre : List Nat) (W W' : World) : Prop :=
  KeepsFrom Xs W W' ∧ KB z (hi + 3) W W' ∧ DnAt C names N w3 z lo hi T Xs left L pre W'
section
variable {C : List Cls} {names : List ByteArray} {N : Nat} {w3 : World} {z lo hi T Xs : Nat} {left : Value} {L : List ByteArray} {pre : List Nat} {x : Nat} {W W' : World}
/-- The walk down from a name comes to nothing new. -/
theorem dn_none {S : List ByteArray} {G : List (List ByteArray)} {gv : Value} {rvs : List Value} {F : Nat → Prop} (h1 : z + 1 < lo) (h2 : lo < hi) (h3 : hi + 3 < Xs) (h : DnAt C names N w3 z lo hi T Xs left L pre W)
    (a1 : Downs (belF (supF C) names) [] [] (pre.map (nameAt L)) S G) (a4 : W.heap[z]? = some (.cells #[gv] 120)) (a5 : W.ownsRow Xs 40 1 gv G.length rvs) (a6 : ∀ i (h : i < rvs.length) (h' : i < G.length), StrsAt (fun b => Xs ≤ b ∧ ¬ F b ∧ gv.ownBlock ≠ some b) W rvs[i] G[i]) (a7 : G.length ≤ pre.length) (a8 : BoxS N (z + 1) [] F W) (a9 : ∀ k, F k → k = z + 1 ∨ Xs ≤ k) (a10 : ∀ g, gv.ownBlock = some g → ¬ F g)
    {d' : DS ByteArray (List ByteArray)} {F' : Nat → Prop} (b1 : Walked (comeK (belF (supF C) names)) ⟨S, [], []⟩ (nameAt L x) d') (b2 : GoodD (comeK (belF (supF C) names)) (univ C) (fun d => d.st.length ≤ d.seen.length) d') (b3 : BoxS N (z + 1) d'.st F' W') (b5 : SeenAt W' (hi + 1) d'.seen) (b6 : FrW W.heap.size (hi + 1) F W F' W') (hst : d'.st = []) :
    DnPost C names N w3 z lo hi T Xs left L (pre ++ [x]) W W' := by
  have hs := h.size
  have hoth : ∀ k, k < W.heap.size → ¬ F k → k ≠ hi + 1 → W'.heap[k]? = W.heap[k]? := fun k hk hn hne => b6.block k hk hn hne
  have hlow : ∀ k, k < Xs → k ≠ z + 1 → k ≠ hi + 1 → W'.heap[k]? = W.heap[k]? := fun k hk hz hh => hoth k (by omega) (fun hf => by rcases a9 k hf with e | e <;> omega) hh
  have hbelow : ∀ k, k < z → W'.heap[k]? = W.heap[k]? := fun k hk => hlow k (by omega) (by omega) (by omega)
  have hF' : ∀ k, F' k → k < W.heap.size → F k := fun k hk hl => (b6.own k hk).resolve_right (fun e => by omega)
  have hG2 : GoodD (comeK (belF (supF C) names)) (univ C) (fun d => d.st.length ≤ d.seen.length) ⟨d'.seen, [], []⟩ := ⟨b2.nodup, b2.sub, Nat.zero_le _, ⟨b2.inu.closed, fun e he => by cases he⟩, Nat.zero_le _⟩
  refine ⟨⟨b6.size, fun k o hk ho hc => ?_⟩, ⟨⟨b6.os, b6.tape, b6.output, b6.size, hbelow⟩, hlow _ (by omega) (by omega) (by omega)⟩, ?_⟩
  · refine (hoth k (lt_of_block ho) (fun hf => ?_) (by omega)).trans ho
    obtain ⟨cs, t, e⟩ := a8.cells hf
    rw [ho] at e; injection e with e; subst e; cases hc
  · refine ⟨⟨d'.seen, G, gv, rvs, F', ?_, b5, hG2, (hlow _ (by omega) (by omega) (by omega)).trans a4, own_keep a5 (fun g hgo => ?_), fun i p q => ?_, by rw [List.length_append]; omega, by rw [hst] at b3; exact b3, fun k hk => ?_, fun g hgo hf => ?_⟩, h.bel.keep (fun k hk => hlow k (by rcases hk with rfl | hk <;> omega) (by rcases hk with rfl | hk <;> omega) (by rcases hk with rfl | hk <;> omega)), (hlow _ (by omega) (by omega) (by omega)).trans h.xb, (hlow _ (by omega) (by omega) (by omega)).trans h.obj, (hlow _ (by omega) (by omega) (by omega)).trans h.box, ⟨b6.os.trans h.below.os, b6.tape.trans h.below.tape, b6.output.trans h.below.output, Nat.le_trans h.below.size b6.size, fun k hk => (hbelow k hk).trans (h.below.block k hk)⟩, Nat.le_trans hs b6.size⟩
    · rw [List.map_append]
      have h9 := a1.snoc b1
      rw [if_pos hst] at h9
      exact h9
    · have hgl := World.ownsRow.lt a5 g hgo
      exact hoth g hgl.2 (a10 g hgo) (by omega)
    · exact ((a6 i p q).keepB b6.size (fun b hb hl => hoth b hl hb.2.1 (by omega))).bounded (fun b hb hl => ⟨hb.1, fun hf => hb.2.1 (hF' b hf hl), hb.2.2⟩) b6.size (a6 i p q)
    · rcases b6.own k hk with e | e
      · exact a9 k e
      · exact .inr (by omega)
    · exact a10 g hgo (hF' g hf (World.ownsRow.lt a5 g hgo).2)
/-- The walk down from a name comes to a group. -/
theorem dn_some {S : List ByteArray} {G : List (List ByteArray)} {gv : Value} {rvs : List Value} {F : Nat → Prop} (h1 : z + 1 < lo) (h2 : lo < hi) (h3 : hi + 3 < Xs) (h : DnAt C names N w3 z lo hi T Xs left L pre W)
    (a1 : Downs (belF (supF C) names) [] [] (pre.map (nameAt L)) S G) (a4 : W.heap[z]? = some (.cells #[gv] 120)) (a5 : W.ownsRow Xs 40 1 gv G.length rvs) (a6 : ∀ i (h : i < rvs.length) (h' : i < G.length), StrsAt (fun b => Xs ≤ b ∧ ¬ F b ∧ gv.ownBlock ≠ some b) W rvs[i] G[i]) (a7 : G.length ≤ pre.length) (a8 : BoxS N (z + 1) [] F W) (a9 : ∀ k, F k → k = z + 1 ∨ Xs ≤ k) (a10 : ∀ g, gv.ownBlock = some g → ¬ F g)
    {d' : DS ByteArray (List ByteArray)} {F' : Nat → Prop} (b1 : Walked (comeK (belF (supF C) names)) ⟨S, [], []⟩ (nameAt L x) d') (b2 : GoodD (comeK (belF (supF C) names)) (univ C) (fun d => d.st.length ≤ d.seen.length) d') {rv : Value} (r1 : W'.heap[z + 1]? = some (.cells #[rv] 40)) (r2 : OwnS N W' rv d'.st) (r3 : ∀ k, F' k ↔ k = z + 1 ∨ rv.ownBlock = some k) (b5 : SeenAt W' (hi + 1) d'.seen) (b6 : FrW W.heap.size (hi + 1) F W F' W') (hst : d'.st ≠ [])
    {gv' : Value} {w5 : World} (ho : w5.ownsRow Xs 40 1 gv' (G.length + 1) (rvs ++ [rv])) (hg : (W'.alloc (.cells #[rv] 40)).grownBy w5 gv.ownBlock) (hat : gv'.ownBlock = gv.ownBlock ∨ gv'.ownBlock = some (W'.alloc (.cells #[rv] 40)).heap.size) :
    DnPost C names N w3 z lo hi T Xs left L (pre ++ [x]) W ((w5.setCell ⟨z, 0, none⟩ gv').setCell ⟨z + 1, 0, none⟩ (.slice none 0 0)) ∧ w5.cell? ⟨z, 0, none⟩ = some gv ∧ w5.frozen? ⟨z, 0, none⟩ = false ∧ (w5.setCell ⟨z, 0, none⟩ gv').cell? ⟨z + 1, 0, none⟩ = some rv ∧ (w5.setCell ⟨z, 0, none⟩ gv').frozen? ⟨z + 1, 0, none⟩ = false := by
  have hs := h.size
  have hs6 := b6.size
  have hba := below_new W' (.cells #[rv] 40)
  have hsa : (W'.alloc (.cells #[rv] 40)).heap.size = W'.heap.size + 1 := by simp
  have hs5 := hg.size
  rw [hsa] at hs5 hat
  have hgvl := fun g hgo => World.ownsRow.lt a5 g hgo
  have h5 : ∀ k, k < W'.heap.size → gv.ownBlock ≠ some k → w5.heap[k]? = W'.heap[k]? := fun k hk hn => (hg.block k (by rw [hsa]; omega) (fun e => hn e.symm)).trans (hba.block k hk)
  have hfin : ∀ k, k ≠ z → k ≠ z + 1 → ((w5.setCell ⟨z, 0, none⟩ gv').setCell ⟨z + 1, 0, none⟩ (.slice none 0 0)).heap[k]? = w5.heap[k]? := fun k hz hz1 => (Below.heap_setCell _ _ _ _ hz1).trans (Below.heap_setCell _ _ _ _ hz)
  have hoth : ∀ k, k < W.heap.size → ¬ F k → k ≠ hi + 1 → W'.heap[k]? = W.heap[k]? := fun k hk hn hne => b6.block k hk hn hne
  have hlow' : ∀ k, k < Xs → k ≠ z + 1 → k ≠ hi + 1 → W'.heap[k]? = W.heap[k]? := fun k hk hz hh => hoth k (by omega) (fun hf => by rcases a9 k hf with e | e <;> omega) hh
  have hlow5 : ∀ k, k < Xs → w5.heap[k]? = W'.heap[k]? := fun k hk => h5 k (by omega) (fun e => by have := (hgvl k e).1; omega)
  have hlow : ∀ k, k < Xs → k ≠ z → k ≠ z + 1 → k ≠ hi + 1 → ((w5.setCell ⟨z, 0, none⟩ gv').setCell ⟨z + 1, 0, none⟩ (.slice none 0 0)).heap[k]? = W.heap[k]? := fun k hk hz hz1 hh => (hfin k hz hz1).trans ((hlow5 k hk).trans (hlow' k hk hz1 hh))
  have hzz : w5.heap[z]? = some (.cells #[gv] 120) := (hlow5 z (by omega)).trans ((hlow' z (by omega) (by omega) (by omega)).trans a4)
  have hz1 : w5.heap[z + 1]? = some (.cells #[rv] 40) := (hlow5 (z + 1) (by omega)).trans r1
  have hz2 : (w5.setCell ⟨z, 0, none⟩ gv').heap[z + 1]? = some (.cells #[rv] 40) := (Below.heap_setCell _ _ _ _ (show z + 1 ≠ z by omega)).trans hz1
  have hF' : ∀ k, F' k → k < W.heap.size → F k := fun k hk hl => (b6.own k hk).resolve_right (fun e => by omega)
  have hrvb : ∀ g, rv.ownBlock = some g → Xs ≤ g ∧ g < W'.heap.size ∧ gv.ownBlock ≠ some g := fun g hgo => by
    have hgl := World.ownsRow.lt r2 g hgo
    have hnz : g ≠ z + 1 := fun e => own_not r2 r1 (by decide) (by rw [← e]; exact hgo)
    have hx : Xs ≤ g := by
      rcases b6.own g ((r3 g).2 (.inr hgo)) with e | e
      · rcases a9 g e with e | e
        · exact absurd e hnz
        · exact e
      · omega
    refine ⟨hx, hgl.2, fun e => ?_⟩
    obtain ⟨cur, hc⟩ := own_type r2 hgo
    obtain ⟨cur2, hc2⟩ := own_type a5 e
    rw [(hoth g (hgvl g e).2 (a10 g e) (by omega))] at hc
    rw [hc2] at hc; injection hc with hc; injection hc with _ hc; cases hc
  have hgv' : ∀ g, gv'.ownBlock = some g → Xs ≤ g ∧ (gv.ownBlock = some g ∨ W'.heap.size < g) := fun g hgo => by
    refine ⟨(World.ownsRow.lt ho g hgo).1, ?_⟩
    rcases hat with e | e
    · exact .inl (by rw [← e]; exact hgo)
    · rw [e] at hgo; injection hgo with hgo; exact .inr (by omega)
  have hG2 : GoodD (comeK (belF (supF C) names)) (univ C) (fun d => d.st.length ≤ d.seen.length) ⟨d'.seen, [], []⟩ := ⟨b2.nodup, b2.sub, Nat.zero_le _, ⟨b2.inu.closed, fun e he => by cases he⟩, Nat.zero_le _⟩
  have hszf : w5.heap.size = ((w5.setCell ⟨z, 0, none⟩ gv').setCell ⟨z + 1, 0, none⟩ (.slice none 0 0)).heap.size := by simp
  have hlen : rvs.length = G.length := by have := a5.1; simpa using this
  refine ⟨⟨⟨by omega, fun k o hk hk2 hc => ?_⟩, ⟨⟨hg.os.trans b6.os, hg.tape.trans b6.tape, hg.output.trans b6.output, by omega, fun k hk => hlow k (by omega) (by omega) (by omega) (by omega)⟩, hlow _ (by omega) (by omega) (by omega) (by omega)⟩, ?_⟩, by simp [World.cell?, hzz], by simp [World.frozen?, hzz], by simp [World.cell?, hz2], by simp [World.frozen?, hz2]⟩
  · have hkl := lt_of_block hk2
    have hnF : ¬ F k := fun hf => by
      obtain ⟨cs, t, e⟩ := a8.cells hf
      rw [hk2] at e; injection e with e; subst e; cases hc
    have hng : gv.ownBlock ≠ some k := fun e => by
      obtain ⟨cur, hcur⟩ := own_type a5 e
      rw [hk2] at hcur; injection hcur with hcur; subst hcur; cases hc
    exact (hfin k (by omega) (by omega)).trans ((h5 k (by omega) hng).trans ((hoth k hkl hnF (by omega)).trans hk2))
  · refine ⟨⟨d'.seen, G ++ [d'.st], gv', rvs ++ [rv], fun k => k = z + 1, ?_, b5.block ((hfin _ (by omega) (by omega)).trans (hlow5 _ (by omega))), hG2, ?_, ?_, fun i p q => ?_, by rw [List.length_append, List.length_append]; simp; omega, ⟨.slice none 0 0, ?_, OwnS.nil _ _, fun k => ⟨fun e => .inl e, fun e => e.elim id (fun e => by cases e)⟩⟩, fun k hk => .inl hk, fun g hgo hf => by have := (hgv' g hgo).1; omega⟩, h.bel.keep (fun k hk => hlow k (by rcases hk with rfl | hk <;> omega) (by rcases hk with rfl | hk <;> omega) (by rcases hk with rfl | hk <;> omega) (by rcases hk with rfl | hk <;> omega)), (hlow _ (by omega) (by omega) (by omega) (by omega)).trans h.xb, (hlow _ (by omega) (by omega) (by omega) (by omega)).trans h.obj, (hlow _ (by omega) (by omega) (by omega) (by omega)).trans h.box, ⟨hg.os.trans (b6.os.trans h.below.os), hg.tape.trans (b6.tape.trans h.below.tape), hg.output.trans (b6.output.trans h.below.output), Nat.le_trans h.below.size (by omega), fun k hk => (hlow k (by omega) (by omega) (by omega) (by omega)).trans (h.below.block k hk)⟩, by omega⟩
    · rw [List.map_append]
      have h9 := a1.snoc b1
      rw [if_neg hst] at h9
      exact h9
    · rw [Below.heap_setCell _ _ _ _ (show z ≠ z + 1 by omega)]
      exact heap_setCell_same w5 z 0 _ 120 _ hzz
    · rw [List.length_append, List.length_singleton]
      exact own_keep ho (fun g hgo => hfin g (by have := (hgv' g hgo).1; omega) (by have := (hgv' g hgo).1; omega))
    · rw [List.length_append, List.length_singleton] at p q
      by_cases hi' : i < rvs.length
      · have hq : i < G.length := by omega
        rw [List.getElem_append_left hi', List.getElem_append_left hq]
        refine ((a6 i hi' hq).keepB (w' := (w5.setCell ⟨z, 0, none⟩ gv').setCell ⟨z + 1, 0, none⟩ (.slice none 0 0)) (by omega) (fun b hb hl => ?_)).bounded (fun b hb hl => ⟨hb.1, by omega, fun e => ?_⟩) (by omega) (a6 i hi' hq)
        · exact (hfin b (by omega) (by omega)).trans ((h5 b (by omega) hb.2.2).trans (hoth b hl hb.2.1 (by omega)))
        · rcases (hgv' b e).2 with e2 | e2
          · exact hb.2.2 e2
          · omega
      · have hie : i = rvs.length := by omega
        have hie2 : i = G.length := by omega
        have e1 : (rvs ++ [rv])[i]'(by rw [List.length_append, List.length_singleton]; exact p) = rv := by simp [hie]
        have e2 : (G ++ [d'.st])[i]'(by rw [List.length_append, List.length_singleton]; exact q) = d'.st := by simp [hie2]
        rw [e1, e2]
        have h9 : StrsAt (fun b => Xs ≤ b ∧ ¬ b = z + 1 ∧ gv'.ownBlock ≠ some b) W' rv d'.st := (OwnS.strs r2).mono (fun b hb => by
          obtain ⟨c1, c2, c3⟩ := hrvb b hb.2
          refine ⟨c1, by omega, fun e => ?_⟩
          rcases (hgv' b e).2 with e2 | e2
          · exact c3 e2
          · omega)
        refine ((OwnS.strs r2).keepB (w' := (w5.setCell ⟨z, 0, none⟩ gv').setCell ⟨z + 1, 0, none⟩ (.slice none 0 0)) (by omega) (fun b hb hl => ?_)).mono (fun b hb => by
          obtain ⟨c1, c2, c3⟩ := hrvb b hb.2
          refine ⟨c1, by omega, fun e => ?_⟩
          rcases (hgv' b e).2 with e2 | e2
          · exact c3 e2
          · omega)
        obtain ⟨c1, c2, c3⟩ := hrvb b hb.2
        exact (hfin b (by omega) (by omega)).trans (h5 b c2 c3)
    · have := heap_setCell_same (w5.setCell ⟨z, 0, none⟩ gv') (z + 1) 0 _ 40 (.slice none 0 0) hz2
      rw [this]; rfl
end
theorem dn_rev (L : List ByteArray) : (dn L.length L.length).map (nameAt L) = L.reverse := by
  apply List.ext_getElem
  · simp [dn]
  · intro i h1 h2
    have hi : i < L.length := by simpa [dn] using h1
    simp only [dn, List.map_map, List.getElem_map, List.getElem_range, Function.comp, List.getElem_reverse, nameAt]
    rw [List.getElem?_eq_getElem (by omega)]
    rfl
def GroupsRes (C : List Cls) (names : List ByteArray) (w : World) (e : Ending) (w' : World) : Prop :=
  ∃ gv G d S, e = .returned gv ∧ GrsAt (fun b => w.heap.size ≤ b) w' gv G ∧ Walks (leaveK (supF C)) ⟨[], [], []⟩ names d ∧ Downs (belF (supF C) names) [] [] d.st.reverse S G ∧ Below w.heap.size w w'
set_option maxRecDepth 100000 in
set_option maxHeartbeats 4000000 in
theorem groups_any {Q : Nat → Prop} {C : List Cls} {M : ByteArray → Option (ByteArray × Nat)} {I : List Ins} {H : HKey → Option Nat} {eb cb mb pb : Nat} {iv : Value} {w : World} (h : EnvAt Q C M I H eb cb mb pb iv w) (hQ : ∀ b, Q b → b < w.heap.size) (hC : OkC C) {nv : Value} {names : List ByteArray} (hn : StrsAt (fun b => b < w.heap.size) w nv names) (hnl : names.length ≤ 1048576) (hns : ∀ x ∈ names, x ∈ univ C) :
    Calls Try.prog 53 #[.pointer (some ⟨eb, 0, none⟩), nv] w (GroupsRes C names w) := by
  obtain ⟨An, cn, rfl, hcn, hcm⟩ := hn.form
  obtain ⟨l1, l2, l3, l4⟩ := h.lts
  have hup := up_clos (M := M) (I := I) (H := H) (iv := iv) hC w.heap.size w.heap.size hQ ⟨l1, l2, l3, l4⟩
  have hmm : ∀ y : World, (Instr.makeMap 111 none).run Try.prog y = .ok (.map (some y.heap.size)) (y.alloc (.map #[] 0)) := fun y => rfl
  unfold maxLen at hcm
  obtain ⟨W, eW⟩ : ∃ W, W = ((w.alloc (.cells #[.slice none 0 0] 40)).alloc (.map #[] 0)).alloc (.cells #[.func (.func 48) #[.pointer (some ⟨eb, 0, none⟩)] #[], .func (.func 61) #[] #[], .func (.func 62) #[] #[.pointer (some ⟨w.heap.size, 0, none⟩)], .map (some (w.heap.size + 1))] 113) := ⟨_, rfl⟩
  have hb1 : Below w.heap.size w W := by rw [eW]; exact ((below_new w _).alloc (by simp) _).alloc (by simp; omega) _
  have hsz : W.heap.size = w.heap.size + 3 := by rw [eW]; simp
  have HU0 : Hid (UpAt Q C M I H eb cb mb pb iv w w.heap.size names 0 W) := by
    refine Lib.hid ⟨⟨⟨[], [], []⟩, fun k => k = w.heap.size, .nil, rfl, ?_, ?_, ?_, fun j hj => .inl hj⟩, h.on hb1, ?_, hb1, by omega⟩
    · exact ⟨List.nodup_nil, fun u hu => (by cases hu), Nat.le_refl _, ⟨fun u _ y hy => (supF_mem hy).1, fun e he => (by cases he)⟩, Nat.le_refl _⟩
    · exact ⟨.slice none 0 0, by rw [eW, alloc_get, if_neg (by simp; omega), alloc_get, if_neg (by simp), alloc_get, if_pos rfl], OwnS.nil _ _, fun k => ⟨fun e => .inl e, fun e => e.elim id (fun e => by cases e)⟩⟩
    · have h9 := SeenAt.made (w.alloc (.cells #[.slice none 0 0] 40))
      rw [show (w.alloc (.cells #[.slice none 0 0] 40)).heap.size = w.heap.size + 1 by simp] at h9
      rw [eW]; exact h9.block ((below_new _ _).block _ (by simp))
    · rw [eW, alloc_get, if_pos (by simp)]
  have HE := Lib.hid h
  have HN := Lib.hid hn
  have HC := Lib.hid hC
  have HNS := Lib.hid hns
  have HQ := Lib.hid hQ
  have HUP := Lib.hid hup
  have HEW := Lib.hid eW
  clear h hn hC hns hQ hup eW hb1 hsz l1 l2 l3 l4
  refine (callsIn_wide (n := 3)).1 ?_
  refine callsIn_of_wp_marks Try.func53 rfl trivial ?_ rfl
  simp only [Try.ntmps53, List.size_toArray, List.length_cons, List.length_nil, Nat.reduceAdd, Nat.reduceSub, Array.replicate_succ, Array.replicate_zero, List.push_toArray, List.append_toArray, List.nil_append, List.cons_append]
  gi_wp2_with fail
  rw [← HEW.out]
  gi_loopw [22] (fun i wr => ∃ k : Nat, k ≤ names.length ∧ i = .int .i64 k ∧ UpAt Q C M I H eb cb mb pb iv w w.heap.size names k wr) (fun i _ => names.length - (intOf i).toNat)
  case atStart => exact ⟨0, Nat.zero_le _, rfl, HU0.out⟩
  case round =>
    obtain ⟨k, hk, rfl, hU⟩ := hrel
    by_cases hlt : k < names.length
    · obtain ⟨n, hn⟩ : ∃ n, names[k]? = some n := ⟨_, List.getElem?_eq_getElem hlt⟩
      obtain ⟨b0, o0, e0, hb0, q0⟩ := (HN.out.on hU.below).at k hlt
      have en : names[k] = n := by have := List.getElem?_eq_getElem hlt; rw [hn] at this; injection this with this; exact this.symm
      rw [en] at q0
      subst e0
      have hki : (k : Int) < (names.length : Int) := by omega
      have hk0 : (0 : Int) ≤ (k : Int) := by omega
      obtain ⟨⟨d, F, hw, hp, hG, hbx, hse, hF⟩, henv, hobj, hbel, hsz⟩ := hU
      have hBz : w.heap.size ≤ wr.heap.size := by omega
      have HFR := Lib.hid (from_any HUP.out (sb := w.heap.size + 1) (d := d) (F := F) (w := wr) hp hG hbx ⟨henv, hBz⟩ hse (fun j hj => ⟨by have : j < w.heap.size := hj; omega, by have : j < w.heap.size := hj; omega, fun hf => by have : j < w.heap.size := hj; have := hF j hf; omega⟩) (fun hf => by have := hF _ hf; omega) n (HNS.out n (List.mem_of_getElem? hn)))
      have c0 : wr.cell? ⟨w.heap.size + 1 + 1, 0, none⟩ = some (.func (.func 48) #[.pointer (some ⟨eb, 0, none⟩)] #[]) ∧ wr.cell? ⟨w.heap.size + 1 + 1, 1, none⟩ = some (.func (.func 61) #[] #[]) ∧ wr.cell? ⟨w.heap.size + 1 + 1, 2, none⟩ = some (.func (.func 62) #[] #[.pointer (some ⟨w.heap.size, 0, none⟩)]) ∧ wr.cell? ⟨w.heap.size + 1 + 1, 3, none⟩ = some (.map (some (w.heap.size + 1))) := by
        have h9 : wr.heap[w.heap.size + 1 + 1]? = _ := hobj
        simp [World.cell?, h9]
      obtain ⟨x0, x1, x2, x3⟩ := c0
      have HREL : Hid (∀ w' d' F', Walked (leaveK (supF C)) d n d' → GoodD (leaveK (supF C)) (univ C) (fun d => d.st.length + d.path.length ≤ d.seen.length) d' → BoxS w.heap.size w.heap.size d'.st F' w' → EnvAt Q C M I H eb cb mb pb iv w' → SeenAt w' (w.heap.size + 1) d'.seen → FrW wr.heap.size (w.heap.size + 1) F wr F' w' → UpAt Q C M I H eb cb mb pb iv w w.heap.size names (k + 1) w') := Lib.hid fun w' d' F' a1 a2 a3 a4 a5 a6 => by
        refine ⟨⟨d', F', ?_, a1.2, a2, a3, a5, fun j hj => ?_⟩, a4, ?_, ⟨a6.os.trans hbel.os, a6.tape.trans hbel.tape, a6.output.trans hbel.output, Nat.le_trans hbel.size a6.size, fun j hj => ?_⟩, by have := a6.size; omega⟩
        · rw [List.take_add_one, hn]; exact hw.snoc a1
        · rcases a6.own j hj with h9 | h9
          · exact hF j h9
          · exact .inr (by omega)
        · exact (a6.block _ (by omega) (fun hf => by have := hF _ hf; omega) (by omega)).trans hobj
        · exact (a6.block j (by omega) (fun hf => by have := hF _ hf; omega) (by omega)).trans (hbel.block j hj)
      clear hw hp hG hbx hse hF henv hobj hbel hsz en hn
      gi_wp2_with fail
      refine ⟨trivial, (callsIn_wide.2 HFR.out).mono ?_⟩
      rintro e w' ⟨rfl, d', F', a1, a2, a3, a4, a5, a6, _⟩
      have HU2 := Lib.hid (HREL.out w' d' F' a1 a2 a3 a4.1 a5 a6)
      clear a1 a2 a3 a4 a5 a6
      gi_wp2
      go_roundw
      case rel => exact ⟨k + 1, by omega, by go_num, HU2.out⟩
      case measure => simp [intOf]; omega
    · have hke : k = names.length := by omega
      subst hke
      have hd : decide (names.length < names.length) = false := by simp
      have HU := Lib.hid hU
      clear hU
      obtain ⟨⟨d, F, hw, hp, hG, hbx, hse, hF⟩, henv, hobj, hbel, hsz⟩ := HU.out
      rw [List.take_of_length_le (Nat.le_refl _)] at hw
      obtain ⟨lv, lb0, lrow, lF⟩ := hbx
      obtain ⟨Al, cl, rfl, hcl1, hcl2⟩ := own_form lrow
      have hdl : d.st.length ≤ 1048576 := by
        have h1 : d.st.length + d.path.length ≤ d.seen.length := hG.rel
        have h2 : d.seen.length ≤ (univ C).length := nodup_leS hG.nodup hG.sub
        have := HC.out.len
        omega
      have hstU : ∀ x ∈ d.st, x ∈ univ C := fun x hx => hG.sub x (((UpI.walks hw (UpI.zero _) rfl).1.seen x).2 (.inl hx))
      have HSTU := Lib.hid hstU
      clear hstU
      obtain ⟨X4, eX4⟩ : ∃ X4, X4 = (wr.alloc (.cells #[.slice none 0 0] 120)).alloc (.cells #[.slice none 0 0] 40) := ⟨_, rfl⟩
      have hb4 : Below wr.heap.size wr X4 := by rw [eX4]; exact (below_new wr _).alloc (by simp) _
      have hz4 : X4.heap.size = wr.heap.size + 2 := by rw [eX4]; simp
      have hb04 : Below w.heap.size w X4 := hbel.trans (hb4.mono (by omega))
      have HBW := Lib.hid (below_any (henv.on hb4) (fun b hb => by have := HQ.out b hb; omega) HC.out ((HN.out.on hb04).mono (fun b hb => by have hb' : b < w.heap.size := hb; omega)) hnl (fun x hx => HC.out.size x (HNS.out x hx)))
      have HX4 := Lib.hid eX4
      have x40 : X4.heap[wr.heap.size]? = some (.cells #[.slice none 0 0] 120) := by rw [eX4, alloc_get, if_neg (by simp), alloc_get, if_pos rfl]
      have x41 : X4.heap[wr.heap.size + 1]? = some (.cells #[.slice none 0 0] 40) := by rw [eX4, alloc_get, if_pos (by simp)]
      have x42 : X4.heap[w.heap.size]? = some (.cells #[.slice Al d.st.length cl] 40) := (hb4.block _ (by omega)).trans lb0
      have hlrow4 := own_on lrow hb4
      clear eX4
      generalize hdn : d.st.length = dn1 at *
      gi_wp2_with fail
      rw [← HX4.out]
      refine ⟨trivial, (callsIn_wide.2 HBW.out).mono ?_⟩
      rintro e w5 ⟨rfl, T, hbl, hb5⟩
      have hz5 := hb5.size
      obtain ⟨X6, eX6⟩ : ∃ X6, X6 = ((w5.alloc (.cells #[.map (some (wr.heap.size + 2))] 133)).alloc (.map #[] 0)).alloc (.cells #[.func (.func 64) #[] #[.pointer (some ⟨w5.heap.size, 0, none⟩)], .func (.func 65) #[] #[.pointer (some ⟨wr.heap.size + 1, 0, none⟩)], .func (.func 66) #[] #[], .map (some (w5.heap.size + 1))] 113) := ⟨_, rfl⟩
      have hb6 : Below w5.heap.size w5 X6 := by rw [eX6]; exact ((below_new w5 _).alloc (by simp) _).alloc (by simp; omega) _
      have hz6 : X6.heap.size = w5.heap.size + 3 := by rw [eX6]; simp
      have x60 : X6.heap[w5.heap.size]? = some (.cells #[.map (some (wr.heap.size + 2))] 133) := by rw [eX6, alloc_get, if_neg (by simp; omega), alloc_get, if_neg (by simp), alloc_get, if_pos rfl]
      have x61 : SeenAt X6 (w5.heap.size + 1) [] := by
        have h9 := SeenAt.made (w5.alloc (.cells #[.map (some (wr.heap.size + 2))] 133))
        rw [show (w5.alloc (.cells #[.map (some (wr.heap.size + 2))] 133)).heap.size = w5.heap.size + 1 by simp] at h9
        rw [eX6]; exact h9.block ((below_new _ _).block _ (by simp))
      have x62 : X6.heap[w5.heap.size + 2]? = some (.cells #[.func (.func 64) #[] #[.pointer (some ⟨w5.heap.size, 0, none⟩)], .func (.func 65) #[] #[.pointer (some ⟨wr.heap.size + 1, 0, none⟩)], .func (.func 66) #[] #[], .map (some (w5.heap.size + 1))] 113) := by rw [eX6, alloc_get, if_pos (by simp)]
      have HX6 := Lib.hid eX6
      have hb46 : Below X4.heap.size X4 X6 := hb5.trans (hb6.mono hz5)
      have u0 : w5.cell? ⟨w.heap.size, 0, none⟩ = some (.slice Al dn1 cl) := by
        have h9 := (hb5.block _ (by omega)).trans x42
        simp [World.cell?, h9]
      have u1 : X6.cell? ⟨w.heap.size, 0, none⟩ = some (.slice Al dn1 cl) := (hb6.cell (p := ⟨w.heap.size, 0, none⟩) (by show w.heap.size < w5.heap.size; omega)).trans u0
      have u2 := u1
      rw [eX6] at u2
      rw [hz4] at hbl
      clear eX6
      gi_wp2_with fail
      rw [← HX6.out]
      refine ⟨trivial, (back_in Fence.wide _ trivial rfl _ _ ⟨_, _, _, rfl⟩).mono ?_⟩
      rintro e w' ⟨rfl, rfl⟩
      gi_wp2
      have hlo := hbl.lt
      obtain ⟨X, eX⟩ : ∃ X, X6.alloc (.cells #[.slice Al dn1 cl] 40) = X := ⟨_, rfl⟩
      have hb7 : Below X6.heap.size X6 X := by rw [← eX]; exact below_new X6 _
      have hz7 : X.heap.size = w5.heap.size + 4 := by rw [← eX]; simp; omega
      have x70 : X.heap[w5.heap.size + 3]? = some (.cells #[.slice Al dn1 cl] 40) := by rw [← eX, alloc_get, if_pos (by omega)]
      rw [eX]
      have hb47 : Below X4.heap.size X4 X := hb46.trans (hb7.mono hb46.size)
      have hb57 : Below w5.heap.size w5 X := hb6.trans (hb7.mono hb6.size)
      have hbX : Below wr.heap.size wr X := hb4.trans (hb47.mono hb4.size)
      have hrow := OwnS.strs (show OwnS w.heap.size X (.slice Al dn1 cl) d.st from own_on lrow hbX)
      have hD0 : DnAt C names w.heap.size wr wr.heap.size (wr.heap.size + 2) w5.heap.size T X.heap.size (.slice Al dn1 cl) d.st [] X := by
        refine ⟨⟨[], [], .slice none 0 0, [], fun k => k = wr.heap.size + 1, .nil, x61.block (hb7.block _ (by omega)), ⟨List.nodup_nil, fun u hu => (by cases hu), Nat.le_refl _, ⟨fun u hu y hy => ?_, fun e he => (by cases he)⟩, Nat.le_refl _⟩, (hb47.block _ (by omega)).trans x40, World.ownsRow_nil _ _ _ _, fun i h => (by simp at h), Nat.le_refl _, ⟨.slice none 0 0, (hb47.block _ (by omega)).trans x41, OwnS.nil _ _, fun k => ⟨fun e => .inl e, fun e => e.elim id (fun e => by cases e)⟩⟩, fun k hk => .inl hk, fun g hg => by cases hg⟩, hbl.keep (fun k hk => hb57.block k (by rcases hk with e | hk <;> omega)), (hb7.block _ (by omega)).trans x60, (hb7.block _ (by omega)).trans x62, x70, hbX, Nat.le_refl _⟩
        exact HNS.out y ((belF_mem _ _ _ _).1 hy).1
      have HDC := Lib.hid (down_clos (names := names) HC.out w.heap.size (wr.heap.size + 2) w5.heap.size T (wr.heap.size + 1) w5.heap.size)
      have HW9 := Lib.hid hw
      have HD0 := Lib.hid hD0
      have hdx : d.st.length = dn1 := hdn
      have HBX := Lib.hid hbX
      have HBEL := Lib.hid hbel
      obtain ⟨b, off, hbl9, hA9, hcells⟩ : ∃ b off, (0 < dn1 → b < wr.heap.size) ∧ (dn1 = 0 ∨ Al = some ⟨b, off, none⟩) ∧ rowN (nameAt d.st) X b off dn1 := by
        rcases Nat.eq_zero_or_pos dn1 with h0 | h0
        · exact ⟨0, 0, fun h => by omega, .inl h0, fun j hj => by omega⟩
        · obtain ⟨b, off, e9, _, _⟩ := hrow.at 0 (by omega)
          refine ⟨b, off, fun _ => ?_, .inr e9, fun j hj => ?_⟩
          · have h9 := (World.ownsRow.lt lrow b (by rw [e9]; rfl)).2; exact h9
          · obtain ⟨b2, o2, e2, _, hc2⟩ := hrow.at j (by omega)
            rw [e9] at e2; injection e2 with e2; injection e2 with e2 e3
            subst e2 e3
            rw [hc2]
            unfold nameAt
            rw [List.getElem?_eq_getElem (by omega)]; rfl
      have hbsX : X.cell? ⟨w5.heap.size + 3, 0, none⟩ = some (.slice Al dn1 cl) := by simp [World.cell?, x70]
      clear hw hp hG hse hF henv hobj hbel lb0 lrow lF x40 x41 x42 hlrow4 hbl x60 x61 x62 u0 u1 u2 hb46 hb47 hb57 hb7 hbX hrow hD0 x70 hb4 hb04 hb5 hb6 eX
      refine wpIn_rangeFunc_ownH rfl (by omega) (gf := 70) (lb := #[.pointer (some ⟨w5.heap.size + 3, 0, none⟩)]) rfl trivial (enters_of Try.func70 (by kernel_rfl) rfl)
        (back_stops Fence.wide 2 trivial rfl (by omega) (w5.heap.size + 3) wr.heap.size b off dn1 cl Al (nameAt d.st) X (by omega) hbl9 hA9 (by omega) (by omega) hbsX hcells) KB.trans (KB.b (by omega) (by omega)) (Below.refl _ _) (fun _ => rfl)
        (fun pre W => DnAt C names w.heap.size wr wr.heap.size (wr.heap.size + 2) w5.heap.size T X.heap.size (.slice Al dn1 cl) d.st pre W)
        (fun _ _ _ => False)
        (DnAt.own (by omega) (by omega) (by omega))
        (fun _ _ _ _ _ hs _ _ => hs)
        HD0.out
        (fun x a' _ => a' = { tmps := #[Value.pointer (some ⟨eb, 0, none⟩), Value.slice An names.length cn, undef, undef, Value.slice none 0 0, Value.pointer (some ⟨w.heap.size, 0, none⟩), Value.pointer (some ⟨w.heap.size + 1 + 1, 0, none⟩), undef, u8, Value.pointer (some ⟨wr.heap.size, 0, none⟩), Value.pointer (some ⟨wr.heap.size + 1, 0, none⟩), Value.pointer (some ⟨w5.heap.size, 0, none⟩), Value.pointer (some ⟨w5.heap.size + 1 + 1, 0, none⟩), undef, Value.string (nameAt d.st x), Value.pointer (some ⟨eb, 0, none⟩), Value.func (Fn.func 48) #[Value.pointer (some ⟨eb, 0, none⟩)] #[], Value.func (Fn.func 62) #[] #[Value.pointer (some ⟨w.heap.size, 0, none⟩)], Value.map (some (w.heap.size + 1)), Value.agg #[Value.func (Fn.func 48) #[Value.pointer (some ⟨eb, 0, none⟩)] #[], Value.func (Fn.func 61) #[] #[], Value.func (Fn.func 62) #[] #[Value.pointer (some ⟨w.heap.size, 0, none⟩)], Value.map (some (w.heap.size + 1))], Value.slice An names.length cn, Value.int IntKind.i64 (names.length : Int), Value.int IntKind.i64 (names.length : Int), Value.bool false, u24, u25, u26, u27, u28, u29, Value.pointer (some ⟨eb, 0, none⟩), Value.slice An names.length cn, Value.map (some (wr.heap.size + 2)), Value.func (Fn.func 64) #[] #[Value.pointer (some ⟨w5.heap.size, 0, none⟩)], Value.func (Fn.func 65) #[] #[Value.pointer (some ⟨wr.heap.size + 1, 0, none⟩)], Value.map (some (w5.heap.size + 1)), Value.agg #[Value.func (Fn.func 64) #[] #[Value.pointer (some ⟨w5.heap.size, 0, none⟩)], Value.func (Fn.func 65) #[] #[Value.pointer (some ⟨wr.heap.size + 1, 0, none⟩)], Value.func (Fn.func 66) #[] #[], Value.map (some (w5.heap.size + 1))], Value.slice Al dn1 cl, Value.func (Fn.func 70) #[] #[Value.pointer (some ⟨w5.heap.size + 3, 0, none⟩)], Value.int IntKind.i64 (x : Int), Value.string (nameAt d.st x), undef, undef, undef, undef, undef, undef, undef, undef, undef, undef, undef], defers := [] })
        (fun x a' _ X Y row hs hg hr => hs)
        ?assign ?body ?done ?stop
      case assign =>
        rintro l pre x W K hI hK
        gi_wp2
        refine hK _ _ (KeepsFrom.refl _ _) (KB.refl _ _ _) hI ?_
        rfl
      case body =>
        rintro l pre x a' W hl ⟨r', hr'⟩ hI rfl hlt
        have hne : d.st ≠ [] := fun e => by rw [e] at hdx; simp at hdx; omega
        have hxm := HSTU.out _ (nameAt_mem hne x)
        obtain ⟨S, G, gv, rvs, F, a1, a2, a3, a4, a5, a6, a7, a8, a9, a10⟩ := hI.ex
        have hsW := hI.size
        have hxb : W.cell? ⟨w5.heap.size, 0, none⟩ = some (.map (some (wr.heap.size + 2))) := by
          have := hI.xb
          simp [World.cell?, this]
        have HFR := Lib.hid (from_any HDC.out (sb := w5.heap.size + 1) (d := ⟨S, [], []⟩) (F := F) (w := W) rfl a3 a8 ⟨hI.bel, hxb, by omega⟩ a2 (fun j hj => ⟨by rcases hj with hj | rfl | rfl <;> omega, by rcases hj with hj | rfl | rfl <;> omega, fun hf => by rcases a9 j hf with e | e <;> rcases hj with hj | hj | hj <;> omega⟩) (fun hf => by rcases a9 _ hf with e | e <;> omega) (nameAt d.st x) hxm)
        have c0 : W.cell? ⟨w5.heap.size + 1 + 1, 0, none⟩ = some (.func (.func 64) #[] #[.pointer (some ⟨w5.heap.size, 0, none⟩)]) ∧ W.cell? ⟨w5.heap.size + 1 + 1, 1, none⟩ = some (.func (.func 65) #[] #[.pointer (some ⟨wr.heap.size + 1, 0, none⟩)]) ∧ W.cell? ⟨w5.heap.size + 1 + 1, 2, none⟩ = some (.func (.func 66) #[] #[]) ∧ W.cell? ⟨w5.heap.size + 1 + 1, 3, none⟩ = some (.map (some (w5.heap.size + 1))) := by
          have h9 : W.heap[w5.heap.size + 1 + 1]? = _ := hI.obj
          simp [World.cell?, h9]
        obtain ⟨y0, y1, y2, y3⟩ := c0
        have HNONE : Hid (∀ d' F' w', Walked (comeK (belF (supF C) names)) ⟨S, [], []⟩ (nameAt d.st x) d' → GoodD (comeK (belF (supF C) names)) (univ C) (fun d => d.st.length ≤ d.seen.length) d' → BoxS w.heap.size (wr.heap.size + 1) d'.st F' w' → SeenAt w' (w5.heap.size + 1) d'.seen → FrW W.heap.size (w5.heap.size + 1) F W F' w' → d'.st = [] → DnPost C names w.heap.size wr wr.heap.size (wr.heap.size + 2) w5.heap.size T X.heap.size (.slice Al dn1 cl) d.st (pre ++ [x]) W w') :=
          Lib.hid fun d' F' w' b1 b2 b3 b5 b6 hst => dn_none (by omega) (by omega) (by omega) hI a1 a4 a5 a6 a7 a8 a9 a10 b1 b2 b3 b5 b6 hst
        have HSOME : Hid (∀ d' F' w' rv, Walked (comeK (belF (supF C) names)) ⟨S, [], []⟩ (nameAt d.st x) d' → GoodD (comeK (belF (supF C) names)) (univ C) (fun d => d.st.length ≤ d.seen.length) d' → w'.heap[wr.heap.size + 1]? = some (.cells #[rv] 40) → OwnS w.heap.size w' rv d'.st → (∀ k, F' k ↔ k = wr.heap.size + 1 ∨ rv.ownBlock = some k) → SeenAt w' (w5.heap.size + 1) d'.seen → FrW W.heap.size (w5.heap.size + 1) F W F' w' → d'.st ≠ [] →
            ∀ gv' w6, w6.ownsRow X.heap.size 40 1 gv' (G.length + 1) (rvs ++ [rv]) → (w'.alloc (.cells #[rv] 40)).grownBy w6 gv.ownBlock → (gv'.ownBlock = gv.ownBlock ∨ gv'.ownBlock = some (w'.alloc (.cells #[rv] 40)).heap.size) →
            DnPost C names w.heap.size wr wr.heap.size (wr.heap.size + 2) w5.heap.size T X.heap.size (.slice Al dn1 cl) d.st (pre ++ [x]) W ((w6.setCell ⟨wr.heap.size, 0, none⟩ gv').setCell ⟨wr.heap.size + 1, 0, none⟩ (.slice none 0 0)) ∧ w6.cell? ⟨wr.heap.size, 0, none⟩ = some gv ∧ w6.frozen? ⟨wr.heap.size, 0, none⟩ = false ∧ (w6.setCell ⟨wr.heap.size, 0, none⟩ gv').cell? ⟨wr.heap.size + 1, 0, none⟩ = some rv ∧ (w6.setCell ⟨wr.heap.size, 0, none⟩ gv').frozen? ⟨wr.heap.size + 1, 0, none⟩ = false) :=
          Lib.hid fun d' F' w' rv b1 b2 r1 r2 r3 b5 b6 hst gv' w6 o1 o2 o3 => dn_some (by omega) (by omega) (by omega) hI a1 a4 a5 a6 a7 a8 a9 a10 b1 b2 r1 r2 r3 b5 b6 hst o1 o2 o3
        have HGZ : Hid (∀ F' w', FrW W.heap.size (w5.heap.size + 1) F W F' w' → w'.heap[wr.heap.size]? = some (.cells #[gv] 120) ∧ w'.ownsRow X.heap.size 40 1 gv G.length rvs ∧ X.heap.size ≤ w'.heap.size) := Lib.hid fun F' w' b6 => by
          refine ⟨(b6.block _ (by omega) (fun hf => by rcases a9 _ hf with e | e <;> omega) (by omega)).trans a4, own_keep a5 (fun g hgo => b6.block g (World.ownsRow.lt a5 g hgo).2 (a10 g hgo) (by have := (World.ownsRow.lt a5 g hgo).1; omega)), by have := b6.size; omega⟩
        have hgl : G.length ≤ 1048576 := by omega
        obtain ⟨Ag, cg, rfl, _⟩ := own_form a5
        clear a1 a2 a3 a4 a5 a6 a7 a8 a9 a10 hxb hxm hne hI
        generalize hgn : G.length = gn at *
        gi_wp2_with fail
        refine ⟨trivial, (CallsIn.inRound l (callsIn_wide.2 HFR.out)).mono ?_⟩
        rintro e w' ⟨rfl, d', F', b1, b2, ⟨rv, r1, r2, r3⟩, b4, b5, b6, b7⟩
        obtain ⟨Ar, cr, rfl, hcr1, hcr2⟩ := own_form r2
        have hdl' : d'.st.length ≤ 1073741824 := by
          have h8 : d'.st.length ≤ d'.seen.length := b2.rel
          have h9 := (b2.lens (by have := HC.out.len; omega)).1
          omega
        obtain ⟨g1, g2, g3⟩ := HGZ.out F' w' b6
        have z0 : w'.cell? ⟨wr.heap.size + 1, 0, none⟩ = some (.slice Ar d'.st.length cr) := by simp [World.cell?, r1]
        have z1 : w'.cell? ⟨wr.heap.size, 0, none⟩ = some (.slice Ag gn cg) := by simp [World.cell?, g1]
        by_cases hst : d'.st = []
        · have HP := Lib.hid (HNONE.out d' F' w' b1 b2 ⟨_, r1, r2, r3⟩ b5 b6 hst)
          have hl0 : d'.st.length = 0 := by rw [hst]; rfl
          rw [hl0] at z0
          clear HNONE HSOME b1 b2 r1 r2 r3 b4 b5 b6 b7 hst g1 g2 g3 hcr1
          gi_wp2
          exact HP.out
        · have HP := Lib.hid (HSOME.out d' F' w' _ b1 b2 r1 r2 r3 b5 b6 hst)
          have hl0 : (0 : Int) < (d'.st.length : Int) := by
            have : 0 < d'.st.length := List.length_pos_iff.2 hst
            omega
          have hl1 : decide (0 < d'.st.length) = true := by simpa using hl0
          generalize d'.st.length = dl at *
          have HOW := Lib.hid (World.ownsRow.alloc g2 (.cells #[.slice Ar dl cr] 40))
          have HNW := Lib.hid (one_new w' (.slice Ar dl cr) 40)
          have H63 : Hid (gn + 1 ≤ maxLen) := Lib.hid (by unfold maxLen; omega)
          have HGL : Hid ((gn + 1) * 24 ≤ 140737488355328) := Lib.hid (by omega)
          have HBB : Hid (X.heap.size ≤ (w'.alloc (.cells #[.slice Ar dl cr] 40)).heap.size) := Lib.hid (by simp; omega)
          obtain ⟨i40, hi40, hz40, hs40, hb40⟩ := info_parts Try.info40
          clear HNONE HSOME b1 b2 r1 r2 r3 b4 b5 b6 b7 hst g1 g2 g3 hcr1
          gi_wp2_with (gi_at_builtin; go_loud (refine wpListIn_append_own_at _ rfl (.tmp 47) (.tmp 49) 120 rfl X.heap.size 40 i40 (.slice none 0 0) 1 24 Try.underlying120 hi40 hz40 hs40 hb40 rfl (by decide) _ gn rvs rfl HOW.out ⟨w'.heap.size, 0, none⟩ 1 1 [.slice Ar dl cr] rfl rfl HNW.out (by intro u hu; rw [List.mem_singleton.1 hu]; rfl) H63.out HGL.out HBB.out ?_; intro v' w6 hown2 hg2 _ hat2; obtain ⟨p1, p2, p3, p4, p5⟩ := HP.out v' w6 hown2 hg2 hat2; obtain ⟨A6, c6, rfl, _⟩ := own_form hown2; have HP1 := Lib.hid p1; clear p1 hown2 hat2 hg2))
          exact HP1.out
      case done =>
        rintro D zs W hD rfl hI hK
        obtain ⟨S, G, gv, rvs, F, a1, a2, a3, a4, a5, a6, a7, a8, a9, a10⟩ := hI.ex
        obtain ⟨Ag, cg, rfl, hcg1, hcg2⟩ := own_form a5
        have z0 : W.cell? ⟨wr.heap.size, 0, none⟩ = some (.slice Ag G.length cg) := by simp [World.cell?, a4]
        have hb : ∀ k, k < X.heap.size → (W.putObj D (.deferred none)).heap[k]? = W.heap[k]? := fun k hk => World.putObj_heap_other (by omega)
        have hcl : ∀ k (cs : Array Value) (t : TypeId), W.heap[k]? = some (Obj.cells cs t (0, 0)) → (W.putObj D (.deferred none)).heap[k]? = W.heap[k]? := fun k cs t hk => World.putObj_heap_other (fun e => by rw [e] at hk; rw [hK] at hk; injection hk with hk; cases hk)
        have HRES : Hid (GroupsRes C names w (.returned (.slice Ag G.length cg)) (W.putObj D (.deferred none))) := Lib.hid (by
          have hsW := hI.size
          have hszP : (W.putObj D (.deferred none)).heap.size = W.heap.size := by simp
          refine ⟨.slice Ag G.length cg, G, d, S, rfl, ⟨Ag, cg, rfl, hcg1, hcg2, ?_⟩, HW9.out, ?_, ?_⟩
          · rcases a5.2 with ⟨_, e2⟩ | ⟨g, cap, cur, e1, e2, e3, _⟩
            · exact .inl (List.eq_nil_of_length_eq_zero e2)
            · injection e1 with e1 _ _
              have hlenr : rvs.length = G.length := by have := a5.1; simpa using this
              have hgl := lt_of_block e3
              refine .inr ⟨g, e1, by show w.heap.size ≤ g; omega, by rw [hszP]; exact hgl, fun i hi => ?_⟩
              refine ⟨rvs[i], ?_, ?_⟩
              · have h9 := World.ownsRow.cells a5 (g := g) (by rw [e1]; rfl) i rvs[i] (List.getElem?_eq_getElem (by omega))
                have h8 : W.cell? ⟨g, i, none⟩ = some rvs[i] := by
                  by_cases e : i = 0
                  · subst e; simpa [Addr.add] using h9
                  · simpa [Addr.add, e] using h9
                exact (World.cell?_of_block (a := ⟨g, i, none⟩) (hcl g _ _ e3)).trans h8
              · have h7 := (a6 i (by omega) hi).cellsKept (w' := W.putObj D (.deferred none)) (by rw [hszP]; exact Nat.le_refl _) (fun b off u _ hu => cell_kept hu (grownBy_putObj' W D (.deferred none)) (fun r e => by cases e; exact ⟨_, hK, rfl⟩))
                exact h7.mono (fun b hb9 => by show w.heap.size ≤ b; have := hb9.1; omega)
          · rw [← hdx, dn_rev] at a1; exact a1
          · have hbl := HBEL.out
            have hD2 := hI.below
            exact ⟨hD2.os.trans hbl.os, hD2.tape.trans hbl.tape, hD2.output.trans hbl.output, by rw [hszP]; omega, fun k hk => (hb k (by omega)).trans ((hD2.block k (by omega)).trans (hbl.block k hk))⟩)
        clear a1 a2 a3 a4 a5 a6 a7 a8 a9 a10 hI hb hcl
        generalize G.length = gn at *
        gi_wp2
        refine ⟨by simp, .inl ⟨_, _, rfl, run_takeDeferred hK, ?_⟩⟩
        exact ⟨.slice Ag gn cg, by simp [results, Try.results53, go_sem], HRES.out⟩
      case stop =>
        rintro D c pre W _ _ h _
        exact h.elim
end Go.Proofs.Ytjfhncbfbhkhgaa
