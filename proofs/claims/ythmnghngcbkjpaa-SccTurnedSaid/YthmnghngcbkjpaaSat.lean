/- A search in memory: what is kept, what a store does. No conditions but those that each theorem names. -/
import Derived.Test.YthmnghngcbkjpaaSea
namespace Go.Proofs.Ythmnghngcbkjpaa
open Go.RowKit
def pcells (p : List (Nat × List Int)) (vs : List Value) : List Value := (List.zipWith (fun (a : Nat × List Int) v => [natV a.1, v]) p vs).flatten
theorem pcells_snoc (p : List (Nat × List Int)) (vs : List Value) (x : Nat × List Int) (v : Value) (h : vs.length = p.length) : pcells (p ++ [x]) (vs ++ [v]) = pcells p vs ++ [natV x.1, v] := by
  unfold pcells
  rw [List.zipWith_append h.symm]
  simp
theorem pcells_length (p : List (Nat × List Int)) (vs : List Value) (h : vs.length = p.length) : (pcells p vs).length = p.length * 2 := by
  induction p generalizing vs with
  | nil => simp [pcells]
  | cons a p ih =>
    cases vs with
    | nil => simp at h
    | cons v vs =>
      have := ih vs (by simpa using h)
      unfold pcells at this ⊢
      simp only [List.zipWith_cons_cons, List.flatten_cons, List.length_append, List.length_cons, List.length_nil, this]
      omega
/-- The path: things, and what is left of what they use. -/
def PathAt (B : Nat) (w : World) (pv : Value) (p : List (Nat × List Int)) : Prop :=
  ∃ vs : List Value, vs.length = p.length ∧ w.ownsRow B 59 2 pv p.length (pcells p vs) ∧ ∀ j (h : j < vs.length) (h' : j < p.length), IntsAt (fun b => b < B) w vs[j] p[j].2
theorem PathAt.keepB {B : Nat} {w w' : World} {pv : Value} {p : List (Nat × List Int)} (h : PathAt B w pv p) (hs : w.heap.size ≤ w'.heap.size) (hB : ∀ b, b < B → b < w.heap.size → w'.heap[b]? = w.heap[b]?) (hp : ∀ g, pv.ownBlock = some g → w'.heap[g]? = w.heap[g]?) : PathAt B w' pv p := by
  obtain ⟨vs, h1, h2, h3⟩ := h
  exact ⟨vs, h1, own_keep h2 hp, fun j a b => (h3 j a b).keepB hs hB⟩
/-- A search in memory. -/
structure SAt (n B sb cb lb rb : Nat) (uv : Value) (M : List (List Int)) (s : S) (ov pv : Value) (w : World) : Prop where
  obj : w.heap[sb]? = some (.cells #[.int .i64 n, uv, natV s.count, .slice (some ⟨cb, 0, none⟩) n n, .slice (some ⟨lb, 0, none⟩) n n, ov, pv, .slice (some ⟨rb, 0, none⟩) n n] 47)
  come : RowAt w cb 3 n (fun i => natV (s.come i))
  least : RowAt w lb 3 n (fun i => natV (s.least i))
  root : RowAt w rb 3 n (fun i => natV (s.root i))
  opens : w.ownsRow B 3 1 ov s.opens.length (s.opens.map natV)
  path : PathAt B w pv s.path
  mat : MatAt (fun b => b < B) w uv M
  le : B ≤ sb ∧ B ≤ cb ∧ B ≤ lb ∧ B ≤ rb ∧ B ≤ w.heap.size
  ne : cb ≠ lb ∧ cb ≠ rb ∧ lb ≠ rb
  ob : ov.ownBlock ≠ some cb ∧ ov.ownBlock ≠ some lb ∧ ov.ownBlock ≠ some rb
section
variable {n B sb cb lb rb : Nat} {uv : Value} {M : List (List Int)} {s : S} {ov pv : Value} {w : World}
theorem SAt.nes (h : SAt n B sb cb lb rb uv M s ov pv w) : sb ≠ cb ∧ sb ≠ lb ∧ sb ≠ rb ∧ ov.ownBlock ≠ some sb ∧ pv.ownBlock ≠ some sb ∧ pv.ownBlock ≠ some cb ∧ pv.ownBlock ≠ some lb ∧ pv.ownBlock ≠ some rb ∧ (∀ g, ov.ownBlock = some g → pv.ownBlock ≠ some g) := by
  have key : ∀ {b : Nat} {g : Nat → Value}, RowAt w b 3 n g → sb ≠ b := fun hr e => by
    have := h.obj
    rw [e, hr] at this
    injection this with this
    injection this with _ this
    cases this
  obtain ⟨vs, _, hp, _⟩ := h.path
  exact ⟨key h.come, key h.least, key h.root, own_not h.opens h.obj (by decide), own_not hp h.obj (by decide), own_not hp h.come (by decide), own_not hp h.least (by decide), own_not hp h.root (by decide), fun g hg => own_apart h.opens hp (by decide) g hg⟩
/-- Nothing else has changed. -/
theorem SAt.on (h : SAt n B sb cb lb rb uv M s ov pv w) {w' : World} (hb : Below w.heap.size w w') : SAt n B sb cb lb rb uv M s ov pv w' := by
  have hs := h.le.2.2.2.2
  exact ⟨(hb.block _ (lt_of_block h.obj)).trans h.obj, h.come.block (hb.block _ h.come.lt), h.least.block (hb.block _ h.least.lt), h.root.block (hb.block _ h.root.lt), own_on h.opens hb,
    h.path.keepB hb.size (fun b _ hl => hb.block b hl) (fun g hg => hb.block g (by obtain ⟨vs, _, hp, _⟩ := h.path; exact (hp.lt g hg).2)), h.mat.on hb, ⟨h.le.1, h.le.2.1, h.le.2.2.1, h.le.2.2.2.1, Nat.le_trans hs hb.size⟩, h.ne, h.ob⟩
theorem SAt.setLeast (h : SAt n B sb cb lb rb uv M s ov pv w) (x v : Nat) : SAt n B sb cb lb rb uv M { s with least := upd s.least x v } ov pv (w.setCell ⟨lb, x, none⟩ (natV v)) := by
  have hn := h.nes
  have hne := h.ne
  have ho := h.ob
  have hoth : ∀ k, k ≠ lb → (w.setCell ⟨lb, x, none⟩ (natV v)).heap[k]? = w.heap[k]? := fun k hk => Below.heap_setCell _ _ _ _ hk
  refine ⟨(hoth _ hn.2.1).trans h.obj, h.come.block (hoth _ hne.1), ?_, h.root.block (hoth _ (fun e => hne.2.2 e.symm)), own_keep h.opens (fun g hg => hoth g (fun e => ho.2.1 (by rw [← e]; exact hg))), h.path.keepB (by simp) (fun b hb _ => hoth b (by have := h.le.2.2.1; omega)) (fun g hg => hoth g (fun e => hn.2.2.2.2.2.2.1 (by rw [← e]; exact hg))), h.mat.keepB (by simp) (fun b hb _ => hoth b (by have := h.le.2.2.1; omega)), by simpa using h.le, h.ne, h.ob⟩
  show RowAt _ lb 3 n (fun i => natV (upd s.least x v i))
  rw [upd_comp]
  exact h.least.set x (natV v)
theorem SAt.setCome (h : SAt n B sb cb lb rb uv M s ov pv w) (x v : Nat) : SAt n B sb cb lb rb uv M { s with come := upd s.come x v } ov pv (w.setCell ⟨cb, x, none⟩ (natV v)) := by
  have hn := h.nes
  have hne := h.ne
  have ho := h.ob
  have hoth : ∀ k, k ≠ cb → (w.setCell ⟨cb, x, none⟩ (natV v)).heap[k]? = w.heap[k]? := fun k hk => Below.heap_setCell _ _ _ _ hk
  refine ⟨(hoth _ hn.1).trans h.obj, ?_, h.least.block (hoth _ (fun e => hne.1 e.symm)), h.root.block (hoth _ (fun e => hne.2.1 e.symm)), own_keep h.opens (fun g hg => hoth g (fun e => ho.1 (by rw [← e]; exact hg))), h.path.keepB (by simp) (fun b hb _ => hoth b (by have := h.le.2.1; omega)) (fun g hg => hoth g (fun e => hn.2.2.2.2.2.1 (by rw [← e]; exact hg))), h.mat.keepB (by simp) (fun b hb _ => hoth b (by have := h.le.2.1; omega)), by simpa using h.le, h.ne, h.ob⟩
  show RowAt _ cb 3 n (fun i => natV (upd s.come x v i))
  rw [upd_comp]
  exact h.come.set x (natV v)
theorem SAt.setRoot (h : SAt n B sb cb lb rb uv M s ov pv w) (x v : Nat) : SAt n B sb cb lb rb uv M { s with root := upd s.root x v } ov pv (w.setCell ⟨rb, x, none⟩ (natV v)) := by
  have hn := h.nes
  have hne := h.ne
  have ho := h.ob
  have hoth : ∀ k, k ≠ rb → (w.setCell ⟨rb, x, none⟩ (natV v)).heap[k]? = w.heap[k]? := fun k hk => Below.heap_setCell _ _ _ _ hk
  refine ⟨(hoth _ hn.2.2.1).trans h.obj, h.come.block (hoth _ hne.2.1), h.least.block (hoth _ hne.2.2), ?_, own_keep h.opens (fun g hg => hoth g (fun e => ho.2.2 (by rw [← e]; exact hg))), h.path.keepB (by simp) (fun b hb _ => hoth b (by have := h.le.2.2.2.1; omega)) (fun g hg => hoth g (fun e => hn.2.2.2.2.2.2.2.1 (by rw [← e]; exact hg))), h.mat.keepB (by simp) (fun b hb _ => hoth b (by have := h.le.2.2.2.1; omega)), by simpa using h.le, h.ne, h.ob⟩
  show RowAt _ rb 3 n (fun i => natV (upd s.root x v i))
  rw [upd_comp]
  exact h.root.set x (natV v)
theorem SAt.cells (h : SAt n B sb cb lb rb uv M s ov pv w) : w.cell? ⟨sb, 0, none⟩ = some (.int .i64 n) ∧ w.cell? ⟨sb, 1, none⟩ = some uv ∧ w.cell? ⟨sb, 2, none⟩ = some (natV s.count) ∧ w.cell? ⟨sb, 3, none⟩ = some (.slice (some ⟨cb, 0, none⟩) n n) ∧
    w.cell? ⟨sb, 4, none⟩ = some (.slice (some ⟨lb, 0, none⟩) n n) ∧ w.cell? ⟨sb, 5, none⟩ = some ov ∧ w.cell? ⟨sb, 6, none⟩ = some pv ∧ w.cell? ⟨sb, 7, none⟩ = some (.slice (some ⟨rb, 0, none⟩) n n) ∧ (∀ k, w.frozen? ⟨sb, k, none⟩ = false) := by
  have := h.obj
  simp [World.cell?, World.frozen?, this]
/-- The search's own block, one cell of it anew. -/
theorem SAt.setCount (h : SAt n B sb cb lb rb uv M s ov pv w) (c : Nat) : SAt n B sb cb lb rb uv M { s with count := c } ov pv (w.setCell ⟨sb, 2, none⟩ (natV c)) := by
  have hn := h.nes
  have hoth : ∀ j, j ≠ sb → (w.setCell ⟨sb, 2, none⟩ (natV c)).heap[j]? = w.heap[j]? := fun j hj => Below.heap_setCell _ _ _ _ hj
  have hlow : ∀ b, b < B → b < w.heap.size → (w.setCell ⟨sb, 2, none⟩ (natV c)).heap[b]? = w.heap[b]? := fun b hb _ => hoth b (by have := h.le.1; omega)
  exact ⟨heap_setCell_same w sb 2 _ 47 _ h.obj, h.come.block (hoth _ (fun e => hn.1 e.symm)), h.least.block (hoth _ (fun e => hn.2.1 e.symm)), h.root.block (hoth _ (fun e => hn.2.2.1 e.symm)), own_keep h.opens (fun g hg => hoth g (fun e => hn.2.2.2.1 (by rw [← e]; exact hg))),
    h.path.keepB (by simp) hlow (fun g hg => hoth g (fun e => hn.2.2.2.2.1 (by rw [← e]; exact hg))), h.mat.keepB (by simp) hlow, by simpa using h.le, h.ne, h.ob⟩
/-- One more is open. -/
theorem SAt.pushOpen (h : SAt n B sb cb lb rb uv M s ov pv w) {w2 : World} {ov' : Value} (x : Nat) (ho : w2.ownsRow B 3 1 ov' (s.opens.length + 1) (s.opens.map natV ++ [natV x])) (hg : w.grownBy w2 ov.ownBlock) (hat : ov'.ownBlock = ov.ownBlock ∨ ∃ k, ov'.ownBlock = some k ∧ w.heap.size ≤ k) :
    SAt n B sb cb lb rb uv M { s with opens := s.opens ++ [x] } ov' pv (w2.setCell ⟨sb, 5, none⟩ ov') := by
  have hn := h.nes
  have hne := h.ne
  have hob := h.ob
  have hle := h.le
  have hold : ∀ k, k < w.heap.size → ov.ownBlock ≠ some k → w2.heap[k]? = w.heap[k]? := fun k hk hne => hg.block k hk (fun e => hne e.symm)
  have hobj2 : w2.heap[sb]? = _ := (hold sb (lt_of_block h.obj) hn.2.2.2.1).trans h.obj
  have hc := (hold cb h.come.lt hob.1)
  have hl := (hold lb h.least.lt hob.2.1)
  have hr := (hold rb h.root.lt hob.2.2)
  have hob' : ∀ k, k < w.heap.size → ov.ownBlock ≠ some k → ov'.ownBlock ≠ some k := fun k hk hne e => by
    rcases hat with h9 | ⟨q, h9, hq⟩
    · exact hne (by rw [← h9]; exact e)
    · rw [h9] at e; injection e with e; omega
  have hoth : ∀ j, j ≠ sb → (w2.setCell ⟨sb, 5, none⟩ ov').heap[j]? = w2.heap[j]? := fun j hj => Below.heap_setCell _ _ _ _ hj
  have hov : ∀ g, ov.ownBlock = some g → B ≤ g := fun g hg => (h.opens.lt g hg).1
  have hlow : ∀ b, b < B → b < w.heap.size → (w2.setCell ⟨sb, 5, none⟩ ov').heap[b]? = w.heap[b]? := fun b hb hbl => (hoth b (by omega)).trans (hold b hbl (fun e => by have := hov b e; omega))
  have hpb : ∀ g, pv.ownBlock = some g → (w2.setCell ⟨sb, 5, none⟩ ov').heap[g]? = w.heap[g]? := fun g hgp => by
    have hlt : g < w.heap.size := by obtain ⟨vs, _, hp, _⟩ := h.path; exact (hp.lt g hgp).2
    exact (hoth g (fun e => hn.2.2.2.2.1 (by rw [← e]; exact hgp))).trans (hold g hlt (fun e => hn.2.2.2.2.2.2.2.2 g e hgp))
  refine ⟨heap_setCell_same w2 sb 5 _ 47 _ hobj2, h.come.block ((hoth _ (fun e => hn.1 e.symm)).trans hc), h.least.block ((hoth _ (fun e => hn.2.1 e.symm)).trans hl), h.root.block ((hoth _ (fun e => hn.2.2.1 e.symm)).trans hr), ?_,
    h.path.keepB (by have := hg.size; simpa using this) hlow hpb, h.mat.keepB (by have := hg.size; simpa using this) hlow, ?_, h.ne, ⟨hob' _ h.come.lt hob.1, hob' _ h.least.lt hob.2.1, hob' _ h.root.lt hob.2.2⟩⟩
  · have h9 : ((w2.setCell ⟨sb, 5, none⟩ ov').ownsRow B 3 1 ov' (s.opens.length + 1) (s.opens.map natV ++ [natV x])) := own_keep ho (fun g hgo => hoth g (fun e => hob' sb (lt_of_block h.obj) hn.2.2.2.1 (by rw [← e]; exact hgo)))
    simpa using h9
  · have := hg.size
    refine ⟨hle.1, hle.2.1, hle.2.2.1, hle.2.2.2.1, ?_⟩
    simp; omega
/-- The last ones are not open any more. -/
theorem SAt.popOpen {A : Option Addr} {m c k : Nat} (h : SAt n B sb cb lb rb uv M s (.slice A m c) pv w) (hk : k ≤ s.opens.length) (h0 : 0 < s.opens.length) :
    SAt n B sb cb lb rb uv M { s with opens := s.opens.take k } (.slice A k c) pv (w.setCell ⟨sb, 5, none⟩ (.slice A k c)) := by
  have hn := h.nes
  have hoth : ∀ j, j ≠ sb → (w.setCell ⟨sb, 5, none⟩ (.slice A k c)).heap[j]? = w.heap[j]? := fun j hj => Below.heap_setCell _ _ _ _ hj
  have hlow : ∀ b, b < B → b < w.heap.size → (w.setCell ⟨sb, 5, none⟩ (.slice A k c)).heap[b]? = w.heap[b]? := fun b hb _ => hoth b (by have := h.le.1; omega)
  have hob : (Value.slice A k c).ownBlock = (Value.slice A m c).ownBlock := by cases A <;> rfl
  have hm : m = s.opens.length := by
    obtain ⟨A', c', e, _⟩ := own_form h.opens
    injection e
  subst hm
  refine ⟨heap_setCell_same w sb 5 _ 47 _ h.obj, h.come.block (hoth _ (fun e => hn.1 e.symm)), h.least.block (hoth _ (fun e => hn.2.1 e.symm)), h.root.block (hoth _ (fun e => hn.2.2.1 e.symm)), ?_,
    h.path.keepB (by simp) hlow (fun g hg => hoth g (fun e => hn.2.2.2.2.1 (by rw [← e]; exact hg))), h.mat.keepB (by simp) hlow, by simpa using h.le, h.ne, by rw [hob]; exact h.ob⟩
  have h9 := own_shorter h.opens k hk h0
  have h8 := own_keep (w' := w.setCell ⟨sb, 5, none⟩ (.slice A k c)) h9 (fun g hg => hoth g (fun e => hn.2.2.2.1 (by rw [← e, ← hob]; exact hg)))
  have e1 : (s.opens.take k).length = k := by rw [List.length_take]; omega
  show World.ownsRow _ B 3 1 (.slice A k c) (s.opens.take k).length ((s.opens.take k).map natV)
  rw [e1, List.map_take]
  simpa using h8
/-- The path becomes longer. -/
theorem SAt.pushPath (h : SAt n B sb cb lb rb uv M s ov pv w) {w2 : World} {pv' u : Value} (x : Nat) (l : List Int) {vs : List Value} (hv : vs.length = s.path.length) (hvs : ∀ j (h : j < vs.length) (h' : j < s.path.length), IntsAt (fun b => b < B) w vs[j] s.path[j].2) (hu : IntsAt (fun b => b < B) w u l)
    (ho : w2.ownsRow B 59 2 pv' (s.path.length + 1) (pcells s.path vs ++ [natV x, u])) (hg : w.grownBy w2 pv.ownBlock) (hat : pv'.ownBlock = pv.ownBlock ∨ ∃ k, pv'.ownBlock = some k ∧ w.heap.size ≤ k) :
    SAt n B sb cb lb rb uv M { s with path := s.path ++ [(x, l)] } ov pv' (w2.setCell ⟨sb, 6, none⟩ pv') := by
  have hn := h.nes
  have hle := h.le
  have hold : ∀ k, k < w.heap.size → pv.ownBlock ≠ some k → w2.heap[k]? = w.heap[k]? := fun k hk hne => hg.block k hk (fun e => hne e.symm)
  have hobj2 : w2.heap[sb]? = _ := (hold sb (lt_of_block h.obj) hn.2.2.2.2.1).trans h.obj
  have hc := (hold cb h.come.lt hn.2.2.2.2.2.1)
  have hl := (hold lb h.least.lt hn.2.2.2.2.2.2.1)
  have hr := (hold rb h.root.lt hn.2.2.2.2.2.2.2.1)
  have hob' : ∀ k, k < w.heap.size → pv.ownBlock ≠ some k → pv'.ownBlock ≠ some k := fun k hk hne e => by
    rcases hat with h9 | ⟨q, h9, hq⟩
    · exact hne (by rw [← h9]; exact e)
    · rw [h9] at e; injection e with e; omega
  have hoth : ∀ j, j ≠ sb → (w2.setCell ⟨sb, 6, none⟩ pv').heap[j]? = w2.heap[j]? := fun j hj => Below.heap_setCell _ _ _ _ hj
  have hpv : ∀ g, pv.ownBlock = some g → B ≤ g := fun g hg => by obtain ⟨vs, _, hp, _⟩ := h.path; exact (hp.lt g hg).1
  have hlow : ∀ b, b < B → b < w.heap.size → (w2.setCell ⟨sb, 6, none⟩ pv').heap[b]? = w.heap[b]? := fun b hb hbl => (hoth b (by omega)).trans (hold b hbl (fun e => by have := hpv b e; omega))
  have hsz : w.heap.size ≤ (w2.setCell ⟨sb, 6, none⟩ pv').heap.size := by have := hg.size; simpa using this
  refine ⟨heap_setCell_same w2 sb 6 _ 47 _ hobj2, h.come.block ((hoth _ (fun e => hn.1 e.symm)).trans hc), h.least.block ((hoth _ (fun e => hn.2.1 e.symm)).trans hl), h.root.block ((hoth _ (fun e => hn.2.2.1 e.symm)).trans hr),
    own_keep h.opens (fun g hgo => (hoth g (fun e => hn.2.2.2.1 (by rw [← e]; exact hgo))).trans (hold g (h.opens.lt g hgo).2 (hn.2.2.2.2.2.2.2.2 g hgo))), ?_, h.mat.keepB hsz hlow, ?_, h.ne, h.ob⟩
  · refine ⟨vs ++ [u], by simp [hv], ?_, fun j a b => ?_⟩
    · show World.ownsRow _ B 59 2 pv' (s.path ++ [(x, l)]).length (pcells (s.path ++ [(x, l)]) (vs ++ [u]))
      rw [pcells_snoc _ _ _ _ hv, List.length_append, List.length_singleton]
      exact own_keep ho (fun g hgo => hoth g (fun e => hob' sb (lt_of_block h.obj) hn.2.2.2.2.1 (by rw [← e]; exact hgo)))
    · rw [List.length_append, List.length_singleton] at a b
      by_cases hj : j < vs.length
      · have hj' : j < s.path.length := by omega
        have h9 := (hvs j hj hj').keepB hsz hlow
        show IntsAt _ _ (vs ++ [u])[j] ((s.path ++ [(x, l)])[j]).2
        rw [List.getElem_append_left hj, List.getElem_append_left hj']
        exact h9
      · have hj' : j = vs.length := by omega
        subst hj'
        have h9 := hu.keepB hsz hlow
        have e1 : (vs ++ [u])[vs.length] = u := by simp
        have e2 : (s.path ++ [(x, l)])[vs.length]'(by simp; omega) = (x, l) := by simp [hv]
        show IntsAt _ _ (vs ++ [u])[vs.length] ((s.path ++ [(x, l)])[vs.length]'(by simp; omega)).2
        rw [e1, e2]; exact h9
  · have := hg.size
    refine ⟨hle.1, hle.2.1, hle.2.2.1, hle.2.2.2.1, ?_⟩
    simp; omega
/-- The path's last step. -/
theorem SAt.last {r : List (Nat × List Int)} {t : Nat} {l : List Int} (h : SAt n B sb cb lb rb uv M s ov pv w) (hp : s.path = r ++ [(t, l)]) :
    ∃ pb c vs u, pv = .slice (some ⟨pb, 0, none⟩) (r.length + 1) c ∧ B ≤ pb ∧ pb < w.heap.size ∧ r.length + 1 ≤ c ∧ c ≤ maxLen ∧ vs.length = r.length ∧ w.ownsRow B 59 2 (.slice (some ⟨pb, 0, none⟩) (r.length + 1) c) (r.length + 1) (pcells r vs ++ [natV t, u]) ∧
      (∀ j (h : j < vs.length) (h' : j < r.length), IntsAt (fun b => b < B) w vs[j] r[j].2) ∧ IntsAt (fun b => b < B) w u l ∧ w.cell? ⟨pb, r.length * 2, none⟩ = some (natV t) ∧ w.cell? ⟨pb, r.length * 2 + 1, none⟩ = some u ∧ ∀ k, w.frozen? ⟨pb, k, none⟩ = false := by
  obtain ⟨vs0, hv, ho, hi⟩ := h.path
  rw [hp] at hv ho
  rw [List.length_append, List.length_singleton] at hv ho
  obtain ⟨vs, u, rfl⟩ : ∃ vs u, vs0 = vs ++ [u] := by
    rcases List.eq_nil_or_concat vs0 with e | ⟨vs, u, e⟩
    · rw [e] at hv; simp at hv
    · exact ⟨vs, u, by rw [e]; simp⟩
  have hv2 : vs.length = r.length := by simpa using hv
  rw [pcells_snoc _ _ _ _ hv2] at ho
  obtain ⟨pb, c, rfl, h1, h2, h3, h4⟩ := own_some ho (by omega)
  have hl := pcells_length r vs hv2
  refine ⟨pb, c, vs, u, rfl, h1, h2, h3, h4, hv2, ho, fun j a b => ?_, ?_, ?_, ?_, fun k => ho.frozenAt k⟩
  · have h9 := hi j (by simp; omega) (by rw [hp]; simp; omega)
    rw [List.getElem_append_left a] at h9
    simp only [hp, List.getElem_append_left b] at h9
    exact h9
  · have h9 := hi r.length (by simp; omega) (by rw [hp]; simp)
    have e1 : (vs ++ [u])[r.length]'(by simp; omega) = u := by simp [← hv2]
    have e2 : s.path[r.length]'(by rw [hp]; simp) = (t, l) := by simp [hp]
    rw [e1, e2] at h9; exact h9
  · rw [ho.cellAt _ (by omega), List.getElem?_append_right (by omega), hl]; simp
  · rw [ho.cellAt _ (by omega), List.getElem?_append_right (by omega), hl]; simp
/-- The path's last step is left. -/
theorem SAt.popPath {A : Option Addr} {m c : Nat} {r : List (Nat × List Int)} {t : Nat} {l : List Int} (h : SAt n B sb cb lb rb uv M s ov (.slice A m c) w) (hp : s.path = r ++ [(t, l)]) :
    SAt n B sb cb lb rb uv M { s with path := r } ov (.slice A r.length c) (w.setCell ⟨sb, 6, none⟩ (.slice A r.length c)) := by
  have hn := h.nes
  have hoth : ∀ j, j ≠ sb → (w.setCell ⟨sb, 6, none⟩ (.slice A r.length c)).heap[j]? = w.heap[j]? := fun j hj => Below.heap_setCell _ _ _ _ hj
  have hlow : ∀ b, b < B → b < w.heap.size → (w.setCell ⟨sb, 6, none⟩ (.slice A r.length c)).heap[b]? = w.heap[b]? := fun b hb _ => hoth b (by have := h.le.1; omega)
  obtain ⟨pb, c', vs, u, e, h1, h2, h3, h4, hv, ho, hi, _⟩ := h.last hp
  injection e with e1 e2 e3
  subst e1 e2 e3
  refine ⟨heap_setCell_same w sb 6 _ 47 _ h.obj, h.come.block (hoth _ (fun e => hn.1 e.symm)), h.least.block (hoth _ (fun e => hn.2.1 e.symm)), h.root.block (hoth _ (fun e => hn.2.2.1 e.symm)), own_keep h.opens (fun g hg => hoth g (fun e => hn.2.2.2.1 (by rw [← e]; exact hg))),
    ⟨vs, hv, ?_, fun j a b => (hi j a b).keepB (by simp) hlow⟩, h.mat.keepB (by simp) hlow, by simpa using h.le, h.ne, h.ob⟩
  have h9 := own_shorter ho r.length (by omega) (by omega)
  rw [List.take_left' (pcells_length r vs hv)] at h9
  exact own_keep h9 (fun g hg => hoth g (fun e => hn.2.2.2.2.1 (by rw [← e]; exact hg)))
/-- One of the last step's is looked at. -/
theorem SAt.setLeft {pb m c : Nat} {r : List (Nat × List Int)} {t : Nat} {l l' : List Int} {u' : Value} (h : SAt n B sb cb lb rb uv M s ov (.slice (some ⟨pb, 0, none⟩) m c) w) (hp : s.path = r ++ [(t, l)]) (hu : IntsAt (fun b => b < B) w u' l') :
    SAt n B sb cb lb rb uv M { s with path := r ++ [(t, l')] } ov (.slice (some ⟨pb, 0, none⟩) m c) (w.setCell ⟨pb, r.length * 2 + 1, none⟩ u') := by
  have hn := h.nes
  have hpo : (Value.slice (some ⟨pb, 0, none⟩) m c).ownBlock = some pb := rfl
  rw [hpo] at hn
  have hoth : ∀ j, j ≠ pb → (w.setCell ⟨pb, r.length * 2 + 1, none⟩ u').heap[j]? = w.heap[j]? := fun j hj => Below.heap_setCell _ _ _ _ hj
  obtain ⟨pb', c', vs, u, e, h1, h2, h3, h4, hv, ho, hi, _⟩ := h.last hp
  injection e with e1 e2 e3
  injection e1 with e1
  injection e1 with e1
  subst e1 e2 e3
  have hlow : ∀ b, b < B → b < w.heap.size → (w.setCell ⟨pb, r.length * 2 + 1, none⟩ u').heap[b]? = w.heap[b]? := fun b hb _ => hoth b (by omega)
  refine ⟨(hoth _ (fun e => hn.2.2.2.2.1 (by rw [e]))).trans h.obj, h.come.block (hoth _ (fun e => hn.2.2.2.2.2.1 (by rw [e]))), h.least.block (hoth _ (fun e => hn.2.2.2.2.2.2.1 (by rw [e]))), h.root.block (hoth _ (fun e => hn.2.2.2.2.2.2.2.1 (by rw [e]))), own_keep h.opens (fun g hg => hoth g (fun e => hn.2.2.2.2.2.2.2.2 g hg (by rw [e]))),
    ⟨vs ++ [u'], by simp [hv], ?_, fun j a b => ?_⟩, h.mat.keepB (by simp) hlow, by simpa using h.le, h.ne, h.ob⟩
  · have h9 := own_set ho (r.length * 2 + 1) u'
    have hl := pcells_length r vs hv
    have e5 : (pcells r vs ++ [natV t, u]).set (r.length * 2 + 1) u' = pcells r vs ++ [natV t, u'] := by
      rw [List.set_append_right _ _ (by omega), hl]; simp
    rw [e5] at h9
    show World.ownsRow _ B 59 2 _ (r ++ [(t, l')]).length (pcells (r ++ [(t, l')]) (vs ++ [u']))
    rw [pcells_snoc _ _ _ _ hv, List.length_append, List.length_singleton]
    exact h9
  · rw [List.length_append, List.length_singleton] at a b
    by_cases hj : j < vs.length
    · have hj' : j < r.length := by omega
      have h9 := (hi j hj hj').keepB (w' := w.setCell ⟨pb, r.length * 2 + 1, none⟩ u') (by simp) hlow
      show IntsAt _ _ (vs ++ [u'])[j] ((r ++ [(t, l')])[j]).2
      rw [List.getElem_append_left hj, List.getElem_append_left hj']
      exact h9
    · have hj' : j = vs.length := by omega
      subst hj'
      have e1 : (vs ++ [u'])[vs.length] = u' := by simp
      have e2 : (r ++ [(t, l')])[vs.length]'(by simp; omega) = (t, l') := by simp [hv]
      show IntsAt _ _ (vs ++ [u'])[vs.length] ((r ++ [(t, l')])[vs.length]'(by simp; omega)).2
      rw [e1, e2]; exact hu.keepB (by simp) hlow
end
end Go.Proofs.Ythmnghngcbkjpaa
