/- The contract of types' (*subst).inAll (chapter 4), where that of inEach holds of the body. Condition: the library's table of powers of ten reads as the program's text lays it. -/
import Derived.Test.YtbdfjboojokgdaaDoorJU33
import Derived.Deep.CutBlock
import Derived.Deep.DeepCutAuto
namespace Go.Proofs.YtbdfjboojokgdaaDoor
open Go.RowKit

theorem boxes3 (w : World) (x x0 x1 x2 x3 : Value) : ∃ W, ((w.alloc (.cells #[x] 110)).alloc (.cells #[x0, x1, x2, x3] 25)).alloc (.cells #[.int .i64 0, .int .i64 0, .string ⟨#[]⟩, .slice none 0 0] 25) = W ∧ W.heap[w.heap.size]? = some (.cells #[x] 110) ∧ W.heap[w.heap.size + 1]? = some (.cells #[x0, x1, x2, x3] 25) ∧ W.heap[w.heap.size + 2]? = some (.cells #[.int .i64 0, .int .i64 0, .string ⟨#[]⟩, .slice none 0 0] 25) ∧ Below w.heap.size w W ∧ W.heap.size = w.heap.size + 3 := by
  obtain ⟨W, eW, t0, r0, bW, zW⟩ := boxes2 (w.alloc (.cells #[x] 110)) x0 x1 x2 x3
  have hz : (w.alloc (.cells #[x] 110)).heap.size = w.heap.size + 1 := by simp
  rw [hz] at t0 r0 bW zW
  have h0 := (MapKept.heap_alloc w (.cells #[x] 110)).1
  exact ⟨W, eW, (bW.block _ (by omega)).trans h0, t0, r0, (below_new w _).trans (bW.mono (by omega)), by omega⟩
/-- What is put in the place of a name, as the map tells it in every world that holds it. -/
theorem PutsAt.look2 {B ub N : Nat} {P : ByteArray → Option Ty} {w : World} (h : PutsAt B ub P N w) {x : ByteArray} (hx : x.size ≤ 1099511627776) : ∃ q : Value, (∀ y : World, y.heap[ub]? = w.heap[ub]? → (Instr.lookup 116 (.map (some ub)) (.string x) false).run Tryd.prog y = .ok q y) ∧ PutV B ub w x (some q) (P x) := by
  obtain ⟨sz, f, hm, _, hf⟩ := h
  have h1 := hf x
  refine ⟨(f x).getD (.pointer none), fun y hy => (hm.block hy).look (t := 116) (e := 113) Tryd.underlying9 Tryd.underlying116 zero113 (x := x) (by unfold maxLen; omega), ?_⟩
  cases hfx : f x with
  | none => rw [hfx] at h1; exact .inl ⟨rfl, h1⟩
  | some v => rw [hfx] at h1; exact h1
/-- The boxes of inAll. -/
structure BxAt (w : World) (sb : Nat) (m : Int) (s nm : ByteArray) (A : Option Addr) (c : Nat) (y : World) : Prop where
  x : y.heap[w.heap.size]? = some (.cells #[.pointer (some ⟨sb, 0, none⟩)] 110)
  t : y.heap[w.heap.size + 1]? = some (.cells #[.int .i64 5, .int .i64 0, .string nm, .slice A 1 c] 25)
  r : y.heap[w.heap.size + 2]? = some (.cells #[.int .i64 0, .int .i64 0, .string ⟨#[]⟩, .slice none 0 0] 25)
  e : y.heap[w.heap.size + 3]? = some (.cells #[.int .i64 m] 3)
  n : y.heap[w.heap.size + 4]? = some (.cells #[.string s] 9)
theorem BxAt.fr {w : World} {sb ub : Nat} {m : Int} {s nm : ByteArray} {A : Option Addr} {c : Nat} {y y' : World} {g : Option Nat} (h : BxAt w sb m s nm A c y) (hf : FrSb sb ub g y y') (h1 : sb < w.heap.size) (h2 : ub < w.heap.size) (h3 : ∀ k, g = some k → k < w.heap.size ∨ w.heap.size + 5 ≤ k) : BxAt w sb m s nm A c y' :=
  have key : ∀ i, i < 5 → g ≠ some (w.heap.size + i) := fun i hi e => by rcases h3 _ e with h | h <;> omega
  ⟨hf.box h.x (by omega) (by omega) (key 0 (by omega)), hf.box h.t (by omega) (by omega) (key 1 (by omega)), hf.box h.r (by omega) (by omega) (key 2 (by omega)), hf.box h.e (by omega) (by omega) (key 3 (by omega)), hf.box h.n (by omega) (by omega) (key 4 (by omega))⟩
theorem cell1 {w : World} {b : Nat} {x : Value} {t : TypeId} (h : w.heap[b]? = some (.cells #[x] t)) : w.cell? ⟨b, 0, none⟩ = some x ∧ w.frozen? ⟨b, 0, none⟩ = false := ⟨by simp [World.cell?, h], by simp [World.frozen?, h]⟩
theorem lay_all {vs : List (ByteArray × Int)} {es : List Int} {n op : Nat} {d : Int} {g : ByteArray → Int} {s : ByteArray} {b : Ty} (h : LayCx vs es n op d g (.all s b)) : (∃ ho : op < es.length, es[op] = ((n + b.vars : Nat) : Int)) ∧ LayCxL vs es n (op + 1) (d + 1) (updG g s (d + 1)) [b] ∧ n + b.vars ≤ vs.length ∧ (∀ x, freeQ vs n (n + b.vars) (d + 1) x = hasB b.free x) := by
  obtain ⟨A1, C1, hv, hn⟩ := h.v
  obtain ⟨A2, C2, he, ho⟩ := h.e
  have hl : (layV g d (.all s b)) = layV (updG g s (d + 1)) (d + 1) b := rfl
  have hle : layE n (.all s b) = ((n + b.vars : Nat) : Int) :: layE n b := rfl
  have hg : ∀ y, updG g s (d + 1) y ≤ d + 1 := fun y => by
    have := h.g y
    unfold updG; split <;> omega
  rw [hl] at hv
  rw [hle] at he
  refine ⟨⟨by rw [he]; simp only [List.length_append, List.length_cons]; omega, ?_⟩, ⟨⟨A1, C1, by rw [hv]; simp [layVL], hn⟩, ⟨A2 ++ [((n + b.vars : Nat) : Int)], C2, by rw [he]; simp [layEL], by simp [ho]⟩, hg⟩, ?_, fun x => ?_⟩
  · subst ho
    simp only [he]
    rw [List.getElem_append_left (by simp), List.getElem_append_right (Nat.le_refl _)]
    simp
  · rw [hv]; simp only [List.length_append, layV_len]; omega
  · have := freeQ_is (A := A1) (C := C1) (g := updG g s (d + 1)) (d := d + 1) (b := b) (x := x) hg
    rw [hn] at this
    rw [hv]; exact this
/-- Where inAll stands behind what is idle. -/
structure MidAt (B sb lb pb ub : Nat) (vs : List (ByteArray × Int)) (es : List Int) (P0 P : ByteArray → Option Ty) (N n : Nat) (op dp m : Int) (s nm : ByteArray) (A : Option Addr) (c : Nat) (w : World) (v qo : Value) (l : List PutI) (v2 : Value) (l2 : List PutI) (y : World) : Prop where
  st : SbSt B sb lb pb ub vs es P N n op dp y
  into : IntoAt B ub y v l
  into2 : IntoAt B ub y v2 l2
  bx : BxAt w sb m s nm A c y
  fr : FrSb sb ub v.ownBlock w y
  pv : PutV B ub y s (some qo) (P0 s)
  own : (v2 = v ∧ l2 = l) ∨ ∀ k, v2.ownBlock = some k → w.heap.size + 5 ≤ k
theorem MidAt.on {B sb lb pb ub : Nat} {vs : List (ByteArray × Int)} {es : List Int} {P0 P : ByteArray → Option Ty} {N n : Nat} {op dp m : Int} {s nm : ByteArray} {A : Option Addr} {c : Nat} {w : World} {v qo : Value} {l : List PutI} {v2 : Value} {l2 : List PutI} {y y' : World} (h : MidAt B sb lb pb ub vs es P0 P N n op dp m s nm A c w v qo l v2 l2 y) (hb : Below y.heap.size y y') (h1 : sb < w.heap.size) (h2 : ub < w.heap.size) : MidAt B sb lb pb ub vs es P0 P N n op dp m s nm A c w v qo l v2 l2 y' :=
  ⟨h.st.on hb, h.into.on h.st hb, h.into2.on h.st hb, h.bx.fr (FrSb.of_below (g := none) hb) h1 h2 (fun k e => by cases e), h.fr.on hb, h.pv.map (fun b' s' t' hp => (h.st.parts (World.ownsRow_nil y B 113 1) (FrSb.of_below (g := none) hb)).2.2.2 _ _ _ hp), h.own⟩
/-- Where inAll stands behind what is caught. -/
structure EndAt (B sb lb pb ub : Nat) (vs : List (ByteArray × Int)) (es : List Int) (P0 P : ByteArray → Option Ty) (N n : Nat) (op dp m : Int) (s nm : ByteArray) (A : Option Addr) (c : Nat) (w : World) (v qo : Value) (l : List PutI) (v2 : Value) (l2 : List PutI) (y : World) : Prop where
  st : SbSt B sb lb pb ub vs es P N n op dp y
  into : IntoAt B ub y v l
  into2 : IntoAt B ub y v2 l2
  bx : BxAt w sb m s nm A c y
  fr : FrSb sb ub v.ownBlock w y
  pv : PutV B ub y s (some qo) (P0 s)
  own : (v2 = v ∧ l2 = l) ∨ (∀ k, v2.ownBlock = some k → w.heap.size + 5 ≤ k) ∨ (v2.ownBlock = v.ownBlock ∧ ∃ x, l2 = l ++ [x])
/-- A row of its own is turned, and is what is put from now on. -/
theorem MidAt.turn {B sb lb pb ub : Nat} {vs : List (ByteArray × Int)} {es : List Int} {P0 P : ByteArray → Option Ty} {N n : Nat} {op dp m : Int} {s nm : ByteArray} {A : Option Addr} {c : Nat} {w : World} {v qo : Value} {l : List PutI} {v2 : Value} {l2 : List PutI} {y y' : World} (h : MidAt B sb lb pb ub vs es P0 P N n op dp m s nm A c w v qo l v2 l2 y) (h1 : sb < w.heap.size) (h2 : ub < w.heap.size) (hv : ∀ k, v.ownBlock = some k → k < w.heap.size) {g7 c7 k7 : Nat} {xs : List Value} (ho : y.ownsRow B 113 1 (.slice (some ⟨g7, 0, none⟩) k7 c7) k7 xs) (hg7 : w.heap.size + 5 ≤ g7) (hg : y.grownBy y' (some g7)) {l3 : List PutI} {k8 : Nat} (h3 : ∀ x ∈ l3, x ∈ l) (ho3 : y'.ownsRow B 113 1 (.slice (some ⟨g7, 0, none⟩) k8 c7) l3.length (ptrs l3)) : MidAt B sb lb pb ub vs es P0 P N n op dp m s nm A c w v qo l (.slice (some ⟨g7, 0, none⟩) k8 c7) l3 y' := by
  have hp := (h.st.parts ho (FrSb.row hg)).2.2.2
  exact ⟨h.st.row ho hg, h.into.row h.st ho hg (fun k hk e => by have := hv k hk; injection e with e; simp only at e; omega), ⟨ho3, fun x hx => hp _ _ _ (h.into.2 x (h3 x hx))⟩, h.bx.fr (FrSb.row (v := .slice (some ⟨g7, 0, none⟩) k7 c7) hg) h1 h2 (fun k e => by injection e with e; simp only at e; omega), h.fr.trans (FrSb.row (v := .slice (some ⟨g7, 0, none⟩) k7 c7) hg) (fun k e => by injection e with e; simp only at e; omega), h.pv.map hp, .inr (fun k e => by injection e with e; simp only at e; omega)⟩
theorem four_put2 {w : World} {b : Nat} {x0 x1 x2 x3 u : Value} {t : TypeId} (h : w.heap[b]? = some (.cells #[x0, x1, x2, x3] t)) : (w.setCell ⟨b, 2, none⟩ u).heap[b]? = some (.cells #[x0, x1, u, x3] t) := by
  have hlt := lt_of_block h
  have h' : w.heap[b] = .cells #[x0, x1, x2, x3] t := by simpa [Array.getElem?_eq_getElem hlt] using h
  show (w.heap.modify b _)[b]? = _
  rw [Array.getElem?_eq_getElem (by simpa using hlt), Array.getElem_modify_self, h']
  rfl
theorem four_put3 {w : World} {b : Nat} {x0 x1 x2 x3 u : Value} {t : TypeId} (h : w.heap[b]? = some (.cells #[x0, x1, x2, x3] t)) : (w.setCell ⟨b, 3, none⟩ u).heap[b]? = some (.cells #[x0, x1, x2, u] t) := by
  have hlt := lt_of_block h
  have h' : w.heap[b] = .cells #[x0, x1, x2, x3] t := by simpa [Array.getElem?_eq_getElem hlt] using h
  show (w.heap.modify b _)[b]? = _
  rw [Array.getElem?_eq_getElem (by simpa using hlt), Array.getElem_modify_self, h']
  rfl
/-- Another name in the box. -/
theorem MidAt.name {B sb lb pb ub : Nat} {vs : List (ByteArray × Int)} {es : List Int} {P0 P : ByteArray → Option Ty} {N n : Nat} {op dp m : Int} {s nm : ByteArray} {A : Option Addr} {c : Nat} {w : World} {v qo : Value} {l : List PutI} {v2 : Value} {l2 : List PutI} {y : World} (h : MidAt B sb lb pb ub vs es P0 P N n op dp m s nm A c w v qo l v2 l2 y) (hB : B ≤ w.heap.size) (nm' : ByteArray) : MidAt B sb lb pb ub vs es P0 P N n op dp m s nm' A c w v qo l v2 l2 (y.setCell ⟨w.heap.size + 1, 2, none⟩ (.string nm')) := by
  have hg : ∃ cs, y.heap[w.heap.size + 1]? = some (.cells cs 25) := ⟨_, h.bx.t⟩
  have ho : ∀ i, i ≠ w.heap.size + 1 → (y.setCell ⟨w.heap.size + 1, 2, none⟩ (.string nm')).heap[i]? = y.heap[i]? := fun i hi => Below.heap_setCell _ _ _ _ (by simpa using hi)
  exact ⟨h.st.set hg (by omega) 2 _, h.into.set hg (by omega) 2 _, h.into2.set hg (by omega) 2 _, ⟨(ho _ (by omega)).trans h.bx.x, four_put2 h.bx.t, (ho _ (by omega)).trans h.bx.r, (ho _ (by omega)).trans h.bx.e, (ho _ (by omega)).trans h.bx.n⟩, h.fr.set (by omega) 2 _, h.pv.map (fun b' s' t' hp => hp.set hg (by omega) 2 _), h.own⟩
theorem MidAt.four {B sb lb pb ub : Nat} {vs : List (ByteArray × Int)} {es : List Int} {P0 P : ByteArray → Option Ty} {N n : Nat} {op dp m : Int} {s nm : ByteArray} {A : Option Addr} {c : Nat} {w : World} {v qo : Value} {l : List PutI} {v2 : Value} {l2 : List PutI} {q : World} (h : MidAt B sb lb pb ub vs es P0 P N n op dp m s nm A c w v qo l v2 l2 q) : (q.cell? ⟨w.heap.size, 0, none⟩ = some (.pointer (some ⟨sb, 0, none⟩)) ∧ q.cell? ⟨sb, 2, none⟩ = some (.map (some ub)) ∧ q.cell? ⟨w.heap.size + 4, 0, none⟩ = some (.string s) ∧ q.cell? ⟨w.heap.size + 1, 2, none⟩ = some (.string nm)) := by
  have hc := h.st.cell
  exact ⟨(cell1 h.bx.x).1, by simp [World.cell?, hc], (cell1 h.bx.n).1, (fourC h.bx.t).2.2.1⟩
/-- One put more. -/
theorem MidAt.grow {B sb lb pb ub : Nat} {vs : List (ByteArray × Int)} {es : List Int} {P0 P : ByteArray → Option Ty} {N n : Nat} {op dp m : Int} {s nm : ByteArray} {A : Option Addr} {c : Nat} {w : World} {v qo : Value} {l : List PutI} {v2 : Value} {l2 : List PutI} {y y' : World} (h : MidAt B sb lb pb ub vs es P0 P N n op dp m s nm A c w v qo l v2 l2 y) (h1 : sb < w.heap.size) (h2 : ub < w.heap.size) (hv : ∀ k, v.ownBlock = some k → k < w.heap.size) {p : PutI} (hp : PutAt B ub y p.1 p.2.1 p.2.2) {v3 : Value} (ho3 : y'.ownsRow B 113 1 v3 (l2 ++ [p]).length (ptrs (l2 ++ [p]))) (ho2 : y'.ownsRow B 113 1 v2 l2.length (ptrs l2)) (hg : y.grownBy y' v2.ownBlock) (hown : ∀ k, v3.ownBlock = some k → v2.ownBlock = some k ∨ k = y.heap.size) : EndAt B sb lb pb ub vs es P0 P N n op dp m s nm A c w v qo l v3 (l2 ++ [p]) y' := by
  have hk := (h.st.parts h.into2.1 (FrSb.row hg)).2.2.2
  have hz : w.heap.size + 5 ≤ y.heap.size := lt_of_block h.bx.n
  have hv2 : ∀ k, v2.ownBlock = some k → k < w.heap.size ∨ w.heap.size + 5 ≤ k := fun k e => by
    rcases h.own with ⟨h3, _⟩ | h3
    · rw [h3] at e; exact .inl (hv k e)
    · exact .inr (h3 k e)
  refine ⟨h.st.row h.into2.1 hg, ?_, ⟨ho3, fun x hx => ?_⟩, h.bx.fr (FrSb.row hg) h1 h2 hv2, h.fr.trans (FrSb.row hg) (fun k e => ?_), h.pv.map hk, ?_⟩
  · rcases h.own with ⟨h3, h4⟩ | h3
    · subst h3 h4; exact ⟨ho2, fun x hx => hk _ _ _ (h.into.2 x hx)⟩
    · exact h.into.row h.st h.into2.1 hg (fun k e e2 => by have := hv k e; have := h3 k e2; omega)
  · rw [List.mem_append, List.mem_singleton] at hx
    rcases hx with hx | rfl
    · exact hk _ _ _ (h.into2.2 x hx)
    · exact hk _ _ _ hp
  · rcases h.own with ⟨h3, _⟩ | h3
    · exact .inl (h3 ▸ e)
    · have := h3 k e; exact .inr (by omega)
  · right
    cases hq : v3.ownBlock with
    | none => exact .inl (fun k e => by cases e)
    | some k =>
      rcases hown k hq with h9 | h9
      · rcases h.own with ⟨h3, h4⟩ | h3
        · subst h3 h4; exact .inr ⟨h9.symm, p, rfl⟩
        · exact .inl (fun k' e => by injection e with e; rw [← e]; exact h3 k h9)
      · exact .inl (fun k' e => by injection e with e; omega)
theorem updP_twice (P : ByteArray → Option Ty) (s : ByteArray) (u u' : Option Ty) : updP (updP P s u) s u' = updP P s u' := by
  funext x; unfold updP; split <;> rfl
theorem free_one (s : ByteArray) : (Ty.var s).free.length ≤ 1 := by
  have h8 := freeD_len [] [] (Ty.var s); rw [free_is] at h8; simpa [Ty.sz] using h8
/-- Where inAll stands behind its body. -/
structure LastAt (B sb lb pb ub : Nat) (vs : List (ByteArray × Int)) (es : List Int) (P0 P : ByteArray → Option Ty) (N : Nat) (bh op dp m : Int) (s nm : ByteArray) (A : Option Addr) (c : Nat) (w : World) (v qo : Value) (l : List PutI) (y : World) : Prop where
  st : SbSt B sb lb pb ub vs es P N bh op dp y
  into : IntoAt B ub y v l
  bx : BxAt w sb m s nm A c y
  fr : FrSb sb ub v.ownBlock w y
  pv : PutV B ub y s (some qo) (P0 s)
theorem EndAt.last {B sb lb pb ub : Nat} {vs : List (ByteArray × Int)} {es : List Int} {P0 P : ByteArray → Option Ty} {N n : Nat} {op dp m : Int} {s nm : ByteArray} {A : Option Addr} {c : Nat} {w : World} {qo : Value} {Ao : Option Addr} {co : Nat} {l : List PutI} {v3 : Value} {l3 : List PutI} {y y' : World} (h : EndAt B sb lb pb ub vs es P0 P N n op dp m s nm A c w (.slice Ao l.length co) qo l v3 l3 y) (h1 : sb < w.heap.size) (h2 : ub < w.heap.size) (hv : ∀ k, (Value.slice Ao l.length co).ownBlock = some k → k < w.heap.size) {N' : Nat} {bh' op' : Int} (hs : SbSt B sb lb pb ub vs es P N' bh' op' dp y') (hi : IntoAt B ub y' v3 l3) (hf : FrSb sb ub v3.ownBlock y y') : LastAt B sb lb pb ub vs es P0 P N' bh' op' dp m s nm A c w (.slice Ao l.length co) qo l y' := by
  have hk := (h.st.parts h.into2.1 hf).2.2.2
  have hv3 : ∀ k, v3.ownBlock = some k → k < w.heap.size ∨ w.heap.size + 5 ≤ k := fun k e => by
    rcases h.own with ⟨h3, _⟩ | h3 | ⟨h3, _⟩
    · rw [h3] at e; exact .inl (hv k e)
    · exact .inr (h3 k e)
    · rw [h3] at e; exact .inl (hv k e)
  refine ⟨hs, ?_, h.bx.fr hf h1 h2 hv3, h.fr.trans hf (fun k e => ?_), h.pv.map hk⟩
  · rcases h.own with ⟨h3, h4⟩ | h3 | ⟨h3, x, h4⟩
    · rw [h3, h4] at hi; exact hi
    · refine ⟨own_keep h.into.1 (fun k e => hf.block k (World.ownsRow.lt h.into.1 k e).2 ?_ ?_ (fun e2 => ?_)), fun p hp => hk _ _ _ (h.into.2 p hp)⟩
      · rintro rfl; exact own_not h.into.1 h.st.cell (by decide) e
      · rintro rfl
        obtain ⟨sz, f, m1, _⟩ := h.st.puts
        obtain ⟨cur, hc⟩ := own_type h.into.1 e
        exact m1.notCells _ _ hc
      · have := hv k e; have := h3 k e2; omega
    · refine ⟨?_, fun p hp => hk _ _ _ (h.into.2 p hp)⟩
      rcases h.into.1.2 with ⟨e1, e2⟩ | ⟨g, cap, cur, e1, _⟩
      · exact ⟨h.into.1.1, .inl ⟨e1, e2⟩⟩
      · injection e1 with e1 e2 e3
        subst e1 e3
        subst h4
        have hi2 := h.into2.1
        obtain ⟨g3, c3, rfl, _, _⟩ := World.ownsRow.form hi2 (by simp)
        have hgg : g3 = g := by simpa [Value.ownBlock] using h3
        subst hgg
        obtain rfl := row_room h.into.1 hi2
        have h9 := row_cut hi.1 l.length (by simp)
        simpa using h9
  · rcases h.own with ⟨h3, _⟩ | h3 | ⟨h3, _⟩
    · exact .inl (h3 ▸ e)
    · have := h3 k e; exact .inr (by omega)
    · exact .inl (h3 ▸ e)
theorem LastAt.arg {B sb lb pb ub : Nat} {vs : List (ByteArray × Int)} {es : List Int} {P0 P : ByteArray → Option Ty} {N : Nat} {bh op dp m : Int} {s nm : ByteArray} {A : Option Addr} {c : Nat} {w : World} {v qo : Value} {l : List PutI} {y : World} (h : LastAt B sb lb pb ub vs es P0 P N bh op dp m s nm A c w v qo l y) (hB : B ≤ w.heap.size) (A' : Option Addr) (c' : Nat) : LastAt B sb lb pb ub vs es P0 P N bh op dp m s nm A' c' w v qo l (y.setCell ⟨w.heap.size + 1, 3, none⟩ (.slice A' 1 c')) := by
  have hg : ∃ cs, y.heap[w.heap.size + 1]? = some (.cells cs 25) := ⟨_, h.bx.t⟩
  have ho : ∀ i, i ≠ w.heap.size + 1 → (y.setCell ⟨w.heap.size + 1, 3, none⟩ (.slice A' 1 c')).heap[i]? = y.heap[i]? := fun i hi => Below.heap_setCell _ _ _ _ (by simpa using hi)
  exact ⟨h.st.set hg (by omega) 3 _, h.into.set hg (by omega) 3 _, ⟨(ho _ (by omega)).trans h.bx.x, four_put3 h.bx.t, (ho _ (by omega)).trans h.bx.r, (ho _ (by omega)).trans h.bx.e, (ho _ (by omega)).trans h.bx.n⟩, h.fr.set (by omega) 3 _, h.pv.map (fun b' s' t' hp => hp.set hg (by omega) 3 _)⟩
theorem LastAt.on {B sb lb pb ub : Nat} {vs : List (ByteArray × Int)} {es : List Int} {P0 P : ByteArray → Option Ty} {N : Nat} {bh op dp m : Int} {s nm : ByteArray} {A : Option Addr} {c : Nat} {w : World} {v qo : Value} {l : List PutI} {y y' : World} (h : LastAt B sb lb pb ub vs es P0 P N bh op dp m s nm A c w v qo l y) (hb : Below y.heap.size y y') (h1 : sb < w.heap.size) (h2 : ub < w.heap.size) : LastAt B sb lb pb ub vs es P0 P N bh op dp m s nm A c w v qo l y' :=
  ⟨h.st.on hb, h.into.on h.st hb, h.bx.fr (FrSb.of_below (g := none) hb) h1 h2 (fun k e => by cases e), h.fr.on hb, h.pv.map (fun b' s' t' hp => (h.st.parts (World.ownsRow_nil y B 113 1) (FrSb.of_below (g := none) hb)).2.2.2 _ _ _ hp)⟩
set_option maxRecDepth 100000 in
set_option maxHeartbeats 4000000 in
theorem all_in (B sb lb pb ub : Nat) (vs : List (ByteArray × Int)) (es : List Int) (s : ByteArray) (b : Ty) (hvs : vs.length ≤ 1048576) (hes : es.length ≤ 1048576) (hea : SubEach B sb lb pb ub vs es [b]) : SubIn 106 B sb lb pb ub vs es (.all s b) := by
  intro P N n op d g v l tv w h hi ht hly hsh hd0 hd hN hl htk htab
  obtain ⟨A, c, rfl, _, _⟩ := ht.form
  obtain ⟨Ao, co, rfl⟩ := own_form hi.1
  obtain ⟨hss, hsb⟩ : s.size ≤ 1099511627776 ∧ b.short := hsh
  obtain ⟨⟨hop, hopv⟩, hlyb, hmv, hfree⟩ := lay_all hly
  simp only [Ty.form, Ty.num, Ty.name, Ty.args, List.length_cons, List.length_nil] at ht ⊢
  have hts : TysAt (fun k => k < B) w [b] (.slice A 1 c) := by
    obtain ⟨sv, e, hs⟩ := ht.tys
    simp only [Value.agg.injEq, Array.mk.injEq, List.cons.injEq, and_true] at e
    obtain ⟨_, _, _, rfl⟩ := e
    exact hs
  have HTYS := Lib.hid hts
  clear hts
  have hbz : b.sz + 1 ≤ (Ty.all s b).sz := Nat.le_refl _
  have hbz' : (Ty.all s b).sz ≤ b.sz + 1 := Nat.le_refl _
  obtain ⟨W, eW, x0, t0, r0, bW, zW⟩ := boxes3 w (.pointer (some ⟨sb, 0, none⟩)) (.int .i64 5) (.int .i64 0) (.string s) (.slice A 1 c)
  have hsbw : sb < w.heap.size := lt_of_block h.cell
  have hubw : ub < w.heap.size := by obtain ⟨sz, f, m1, _⟩ := h.puts; exact m1.lt
  have hown : ∀ k, (Value.slice Ao l.length co).ownBlock = some k → k < w.heap.size := fun k hk => (World.ownsRow.lt hi.1 k hk).2
  have hownB : ∀ k, (Value.slice Ao l.length co).ownBlock = some k → B ≤ k := fun k hk => (World.ownsRow.lt hi.1 k hk).1
  have hB := h.hB
  have hsW := h.on bW
  obtain ⟨lv1, lv2, hl1, hl2, hl3⟩ := hsW.lay
  obtain ⟨ge, ce, rfl, _, hge⟩ := World.ownsRow.form hl3 (by omega)
  have HCE := World.ownsRow.cells hl3 (g := ge) rfl op (.int .i64 ((n + b.vars : Nat) : Int)) (by simp [hop, hopv])
  rw [add_g0] at HCE
  have hcW := hsW.cell
  obtain ⟨m, hm⟩ : ∃ m : Nat, m = n + b.vars := ⟨_, rfl⟩
  rw [← hm] at HCE
  have a0 := (cell1 x0).1
  have a1 : W.cell? ⟨sb, 0, none⟩ = some (.pointer (some ⟨lb, 0, none⟩)) := by simp [World.cell?, hcW]
  have a2 : W.cell? ⟨lb, 1, none⟩ = some (.slice (some ⟨ge, 0, none⟩) es.length ce) := by simp [World.cell?, hl1]
  have a3 : W.cell? ⟨sb, 4, none⟩ = some (.int .i64 op) := by simp [World.cell?, hcW]
  have bN := below_new W (.cells #[.int .i64 0] 3)
  have hsbW := lt_of_block hcW
  have hlbW := lt_of_block hl1
  have e0 := (bN.cell (p := ⟨w.heap.size, 0, none⟩) (lt_of_block x0)).trans a0
  have e1 := (bN.cell (p := ⟨sb, 0, none⟩) hsbW).trans a1
  have e2 := (bN.cell (p := ⟨lb, 1, none⟩) hlbW).trans a2
  have e3 := (bN.cell (p := ⟨sb, 4, none⟩) hsbW).trans a3
  have e4 := (bN.cell (p := ⟨ge, op, none⟩) hge).trans HCE
  have hop0 : (0 : Int) ≤ (op : Int) := by omega
  have hop1 : (op : Int) < (es.length : Int) := by omega
  have HEW := Lib.hid eW
  have HX0 := Lib.hid x0
  have HT0 := Lib.hid t0
  have HR0 := Lib.hid r0
  have HBW := Lib.hid bW
  have HH := Lib.hid h
  have HI := Lib.hid hi
  have HM := Lib.hid hm
  have HZW := Lib.hid zW
  clear x0 t0 r0 bW hsW hl1 hl2 hl3 hcW h hi ht eW hm hopv hly bN hsbW hlbW
  go_enter Tryd.func106, Tryd.ntmps106
  go_upto_region 1 with (fail)
  rw [HEW.out]
  go_cut [7] (fun q wx => q = .pointer (some ⟨w.heap.size + 3, 0, none⟩) ∧ wx.heap[w.heap.size + 3]? = some (.cells #[.int .i64 m] 3) ∧ Below W.heap.size W wx ∧ wx.heap.size = w.heap.size + 4)
  case first =>
    go_region
    go_wp2_with fail
    go_meet
    exact ⟨rfl, by have h9 := (MapKept.heap_alloc W (.cells #[.int .i64 m] 3)).1; rw [zW] at h9; exact h9, (below_new W _).drew, by simp [zW]⟩
  case rest =>
    obtain ⟨rfl, he1, hb1, hz1⟩ := hcut
    obtain ⟨X1, rfl⟩ : ∃ X, X = wc := ⟨_, rfl⟩
    have hb01 := HBW.out.trans (hb1.mono HBW.out.size)
    have hs1 := HH.out.on hb01
    have hi1 := HI.out.on HH.out hb01
    have hc1 := hs1.cell
    have hx1 := (hb1.block w.heap.size (by omega)).trans HX0.out
    have ht1 := (hb1.block (w.heap.size + 1) (by omega)).trans HT0.out
    have hr1 := (hb1.block (w.heap.size + 2) (by omega)).trans HR0.out
    -- the search's numbers
    have hs2 := hs1.put 4 (.int .i64 ((op : Int) + 1)) (bh' := n) (op' := (op : Int) + 1) (dp' := d) rfl
    have hi2 := hi1.put hs1 4 (.int .i64 ((op : Int) + 1))
    obtain ⟨X2, hX2⟩ : ∃ X2, X1.setCell ⟨sb, 4, none⟩ (.int .i64 ((op : Int) + 1)) = X2 := ⟨_, rfl⟩
    have hf2 : FrSb sb ub none X1 X2 := hX2 ▸ FrSb.setCell 4 _
    have hz2 : X2.heap.size = w.heap.size + 4 := by rw [← hX2]; simpa using hz1
    rw [hX2] at hs2 hi2
    have hs3 := hs2.put 5 (.int .i64 (d + 1)) (bh' := n) (op' := (op : Int) + 1) (dp' := d + 1) rfl
    have hi3 := hi2.put hs2 5 (.int .i64 (d + 1))
    obtain ⟨X3, hX3⟩ : ∃ X3, X2.setCell ⟨sb, 5, none⟩ (.int .i64 (d + 1)) = X3 := ⟨_, rfl⟩
    have hf3 : FrSb sb ub none X1 X3 := hf2.trans (hX3 ▸ FrSb.setCell (g := none) 5 _) (fun k e => .inl e)
    have hz3 : X3.heap.size = w.heap.size + 4 := by rw [← hX3]; simpa using hz2
    rw [hX3] at hs3 hi3
    have hc2 := hs2.cell
    have hc3 := hs3.cell
    have hx2 := hf2.box hx1 (by omega) (by omega) (by simp)
    have hx3 := hf3.box hx1 (by omega) (by omega) (by simp)
    have ht3 := hf3.box ht1 (by omega) (by omega) (by simp)
    have hr3 := hf3.box hr1 (by omega) (by omega) (by simp)
    have he3 := hf3.box he1 (by omega) (by omega) (by simp)
    have p0 := (cell1 hx1).1
    have p1 : X1.cell? ⟨sb, 4, none⟩ = some (.int .i64 op) := by simp [World.cell?, hc1]
    have p2 : X1.frozen? ⟨sb, 4, none⟩ = false := by simp [World.frozen?, hc1]
    have p3 := (cell1 hx2).1
    have p4 : X2.cell? ⟨sb, 5, none⟩ = some (.int .i64 d) := by simp [World.cell?, hc2]
    have p5 : X2.frozen? ⟨sb, 5, none⟩ = false := by simp [World.frozen?, hc2]
    have HS3 := Lib.hid hs3
    have HI3 := Lib.hid hi3
    have HF3 : Hid (FrSb sb ub (Value.slice Ao l.length co).ownBlock w X3) := (FrSb.of_below hb01).trans hf3 (fun k e => by cases e)
    have HX3 := Lib.hid hx3
    have HT3 := Lib.hid ht3
    have HR3 := Lib.hid hr3
    have HE3 := Lib.hid he3
    have HZ3 := Lib.hid hz3
    clear hs1 hs2 hs3 hi1 hi2 hi3 hf2 hf3 hc1 hc2 hc3 hx1 hx2 hx3 ht1 ht3 hr1 hr3 he1 he3 hb1 hb01 hz1 hz2 hz3 a0 a1 a2 a3 e0 e1 e2 e3 e4 HCE
    go_upto_region 4 with (fail)
    clear p0 p1 p2 p3 p4 p5 hX2 hX3
    obtain ⟨q, hlk, hPV⟩ := HS3.out.puts.look2 (x := s) hss
    have HLK := Lib.hid hlk
    have HPV := Lib.hid hPV
    have hc3 := HS3.out.cell
    have hsb3 := lt_of_block hc3
    have hub3 : ub < X3.heap.size := by have := HZ3.out; omega
    have hx3 := HX3.out
    have ht3 := HT3.out
    have hz3 := HZ3.out
    have p0 := (cell1 hx3).1
    have p1 : X3.cell? ⟨w.heap.size + 1, 2, none⟩ = some (.string s) := by simp [World.cell?, ht3]
    have p2 : X3.cell? ⟨sb, 2, none⟩ = some (.map (some ub)) := by simp [World.cell?, hc3]
    have bE := below_new X3 (.cells #[.string ⟨#[]⟩] 9)
    have bS := below_new X3 (.cells #[.string s] 9)
    have q0 := (bE.cell (p := ⟨w.heap.size, 0, none⟩) (lt_of_block hx3)).trans p0
    have q1 := (bE.cell (p := ⟨w.heap.size + 1, 2, none⟩) (lt_of_block ht3)).trans p1
    have q2 := (bE.cell (p := ⟨sb, 2, none⟩) hsb3).trans p2
    have s0 := (bS.cell (p := ⟨w.heap.size, 0, none⟩) (lt_of_block hx3)).trans p0
    have s1 := (bS.cell (p := ⟨w.heap.size + 1, 2, none⟩) (lt_of_block ht3)).trans p1
    have s2 := (bS.cell (p := ⟨sb, 2, none⟩) hsb3).trans p2
    have l0 := hlk X3.drew rfl
    have l1 := hlk (X3.alloc (.cells #[.string ⟨#[]⟩] 9)).drew (bE.block _ hub3)
    have l2 := hlk (X3.alloc (.cells #[.string s] 9)).drew (bS.block _ hub3)
    clear hlk hPV hc3 hx3 ht3 bE bS
    go_cut [8, 9] (fun q8 q9 wx => q8 = .pointer (some ⟨w.heap.size + 4, 0, none⟩) ∧ q9 = q ∧ wx.heap[w.heap.size + 4]? = some (.cells #[.string s] 9) ∧ Below X3.heap.size X3 wx ∧ wx.heap.size = w.heap.size + 5)
    case first =>
      go_region
      all_goals (go_wp2_with fail; go_meet; exact ⟨rfl, rfl, by have h9 := (MapKept.heap_alloc X3 (.cells #[.string s] 9)).1; rw [hz3] at h9; exact h9, (below_new X3 _).drew, by simp [hz3]⟩)
    case rest =>
      obtain ⟨rfl, rfl, hn4, hb4, hz4⟩ := hcut
      obtain ⟨X4, rfl⟩ : ∃ X, X = wc := ⟨_, rfl⟩
      clear p0 p1 p2 q0 q1 q2 s0 s1 s2 l0 l1 l2 hsb3 hub3
      have hs4 := HS3.out.on hb4
      have hi4 := HI3.out.on HS3.out hb4
      have hf4 := HF3.out.on hb4
      have bx4 : BxAt w sb m s s A c X4 := ⟨(hb4.block _ (by omega)).trans HX3.out, (hb4.block _ (by omega)).trans HT3.out, (hb4.block _ (by omega)).trans HR3.out, (hb4.block _ (by omega)).trans HE3.out, hn4⟩
      have hPV4 := HPV.out.map (fun b' s' t' hp => ((HS3.out.parts (World.ownsRow_nil X3 B 113 1) (FrSb.of_below (g := none) hb4)).2.2.2 _ _ _ hp))
      obtain ⟨qo, rfl⟩ : ∃ x, x = u9 := ⟨_, rfl⟩
      have hs4d := hs4.on (Below.refl X4.heap.size X4).drew
      have hi4d := hi4.on hs4 (Below.refl X4.heap.size X4).drew
      obtain ⟨X5, r5, hs5, hg5⟩ := hs4d.store (by omega) hss (.pointer none) none (.inl ⟨rfl, rfl⟩)
      have hi5 := hi4d.store hs4d hg5
      have hub4 : ub < X4.heap.size := by omega
      have hf45 : FrSb sb ub none X4 X5 := (FrSb.of_below (Below.refl X4.heap.size X4).drew).trans (FrSb.map (g := none) hg5) (fun k e => .inl e)
      have hf5 : FrSb sb ub (Value.slice Ao l.length co).ownBlock w X5 := hf4.trans hf45 (fun k e => by cases e)
      have bx5 := bx4.fr hf45 hsbw hubw (fun k e => by cases e)
      have hPV5 := hPV4.map (fun b' s' t' hp => hs4d.keepPut hg5 ((hs4.parts (World.ownsRow_nil X4 B 113 1) (FrSb.of_below (g := none) (Below.refl X4.heap.size X4).drew)).2.2.2 _ _ _ hp))
      have hc4 := hs4.cell
      have p0 := (cell1 bx4.x).1
      have p1 : X4.cell? ⟨sb, 2, none⟩ = some (.map (some ub)) := by simp [World.cell?, hc4]
      have p2 := (cell1 bx4.n).1
      have HS5 := Lib.hid hs5
      have HI5 := Lib.hid hi5
      have HF5 := Lib.hid hf5
      have HX5 := Lib.hid bx5
      have HPV5 := Lib.hid hPV5
      clear hs4 hs4d hi4 hi4d hf4 bx4 hPV4 hs5 hi5 hf5 bx5 hPV5 hc4 hg5 hf45 hn4 hb4 HLK HPV HS3 HI3 HF3 HX3 HT3 HR3 HE3 HX0 HT0 HR0 HBW
      go_upto_region 5 with (fail)
      go_region
      go_upto_region 7 with (fail)
      clear p0 p1 p2 r5 hz4
      have hzX5 : w.heap.size + 5 ≤ X5.heap.size := lt_of_block HX5.out.n
      have hidr : IdR B sb lb pb ub vs es (updP P s none) (N + 1) n ((op : Int) + 1) (d + 1) m s w.heap.size l X5 := ⟨HS5.out, HI5.out.2, (cell1 HX5.out.n).1, (cell1 HX5.out.x).1, (cell1 HX5.out.e).1, hzX5⟩
      have HID := Lib.hid hidr
      have HC1 := Lib.hid (containsF_any HI5.out.1 (IdR.pred (by omega)) hidr (by omega))
      obtain ⟨l2, hl2⟩ : ∃ l2, l2 = l.filter (fun x => !idleP vs n m (d + 1) s x) := ⟨_, rfl⟩
      have HL2 := Lib.hid hl2
      clear hidr hl2
      go_wp2_with fail
      (with_reducible refine HC1.out.mono ?_)
      rintro e X6 ⟨rfl, hb6⟩
      have HB6 := Lib.hid hb6
      have HMID : Hid (MidAt B sb lb pb ub vs es P (updP P s none) (N + 1) n ((op : Int) + 1) (d + 1) m s s A c w (.slice Ao l.length co) qo l (.slice Ao l.length co) l X6) := ⟨HS5.out.on hb6, HI5.out.on HS5.out hb6, HI5.out.on HS5.out hb6, HX5.out.fr (FrSb.of_below (g := none) hb6) hsbw hubw (fun k e => by cases e), HF5.out.on hb6, HPV5.out.map (fun b' s' t' hp => (HS5.out.parts (World.ownsRow_nil X5 B 113 1) (FrSb.of_below (g := none) hb6)).2.2.2 _ _ _ hp), .inl ⟨rfl, rfl⟩⟩
      have HIR6 := Lib.hid (HID.out.on hb6)
      clear hb6
      generalize hany : l.any (idleP vs n m (d + 1) s) = qa at *
      have HANY := Lib.hid hany
      clear hany
      go_upto_if 55 with (fail)
      go_cut [2] (fun v2 wx => MidAt B sb lb pb ub vs es P (updP P s none) (N + 1) n ((op : Int) + 1) (d + 1) m s s A c w (.slice Ao l.length co) qo l v2 l2 wx)
      case first =>
        cases qa with
        | false =>
          have hel : l2 = l := by rw [HL2.out]; exact kept_none (fun x hx => by have := List.any_eq_false.1 HANY.out x hx; simpa using this)
          go_wp2_with fail
          go_meet
          rw [hel]; exact HMID.out
        | true =>
          have hpos : 0 < l.length := by
            obtain ⟨x, hx, _⟩ := List.any_eq_true.1 HANY.out
            exact List.length_pos_of_mem hx
          have HCL := Lib.hid (cloneF_any HMID.out.into.1 HMID.out.st.hB.2.2.2.2 (by omega) hpos)
          have hz6 := HIR6.out.z
          go_wp2_with fail
          (with_reducible refine HCL.out.mono ?_)
          rintro e X7 ⟨⟨g7, c7, rfl, hg7, ho7⟩, hb7⟩
          have HDE := Lib.hid (deleteF_any (p := idleP vs n m (d + 1) s) ho7 (IdR.predRow (g := g7) (c := c7) (k := l.length) (by omega)) ⟨HIR6.out.on hb7, by omega, _, ho7⟩ (fun y i u h => IdR.set i u h) (by omega))
          have HM7 := Lib.hid (HMID.out.on hb7 hsbw hubw)
          have HO7 := Lib.hid ho7
          clear hb7 ho7
          go_wp2_with fail
          (with_reducible refine HDE.out.mono ?_)
          rintro e X8 ⟨rfl, ho8, hg8⟩
          rw [← HL2.out] at ho8
          have HM8 := Lib.hid (HM7.out.turn hsbw hubw hown HO7.out (by omega) hg8 (l3 := l2) (fun x hx => by rw [HL2.out] at hx; exact (List.mem_filter.1 hx).1) ho8)
          have HL2' := Lib.hid HL2.out
          rw [← HL2.out]
          clear ho8 hg8
          go_wp2_with fail
          go_meet
          exact HM8.out
      case rest =>
        have hmid := hcut
        obtain ⟨v2, rfl⟩ : ∃ x, x = u2 := ⟨_, rfl⟩
        obtain ⟨X9, rfl⟩ : ∃ x, x = wc := ⟨_, rfl⟩
        have hl2l : l2.length ≤ l.length := by rw [HL2.out]; exact List.length_filter_le _ _
        have hl2t : (takenB (l2.map (·.2))).length ≤ (takenB (l.map (·.2))).length := by rw [HL2.out]; exact taken_filter _ _
        have hin2 : l2.map (·.2) = intoB s b (l.map (·.2)) := by rw [HL2.out, HM.out]; exact into_of hfree
        have hidr : IdR B sb lb pb ub vs es (updP P s none) (N + 1) n ((op : Int) + 1) (d + 1) m s w.heap.size l2 X9 := ⟨hmid.st, hmid.into2.2, (cell1 hmid.bx.n).1, (cell1 hmid.bx.x).1, (cell1 hmid.bx.e).1, lt_of_block hmid.bx.n⟩
        have hcc := containsF_any hmid.into2.1 (IdR.caught hss) hidr (by omega)
        rw [caught_is] at hcc
        have HCC := Lib.hid hcc
        have HM9 := Lib.hid hmid
        clear hidr hcc hmid hcut HMID HIR6 HANY HC1 HID HS5 HI5 HF5 HX5 HPV5 HB6
        generalize hqb : hasB (takenB (l2.map (·.2))) s = qb at *
        have HQB := Lib.hid hqb
        clear hqb
        go_wp2_with fail
        (with_reducible refine HCC.out.mono ?_)
        rintro e X10 ⟨rfl, hb10⟩
        have HM10 := Lib.hid (HM9.out.on hb10 hsbw hubw)
        clear hb10
        go_upto_if 62 with (fail)
        go_cut [2] (fun v3 wx => ∃ l3 nm P3, EndAt B sb lb pb ub vs es P P3 (N + 2) n ((op : Int) + 1) (d + 1) m s nm A c w (.slice Ao l.length co) qo l v3 l3 wx ∧ (Ty.all s b).subC P (l.map (·.2)) = .all nm (b.subC P3 (l3.map (·.2))) ∧ (∀ x, x ≠ s → P3 x = P x) ∧ l3.length ≤ l.length + 1 ∧ (takenB (l3.map (·.2))).length ≤ (takenB (l.map (·.2))).length + 1)
        case first =>
          cases qb with
          | false =>
            go_wp2_with fail
            go_meet
            refine ⟨l2, s, updP P s none, ⟨HM10.out.st.more (by omega), HM10.out.into, HM10.out.into2, HM10.out.bx, HM10.out.fr, HM10.out.pv, HM10.out.own.imp id .inl⟩, ?_, fun x hx => if_neg hx, by omega, by omega⟩
            rw [hin2]
            show (if _ then _ else _) = _
            rw [if_neg (by rw [← hin2, HQB.out]; simp)]
          | true =>
            have hfm : ∀ x, freeQ vs n m (d + 1) x = hasB b.free x := by rw [HM.out]; exact hfree
            have HLT := Lib.hid (letter_any HM10.out.st HM10.out.into2 (by omega) (by omega) (by omega) (htab.on (HM10.out.fr.below hB.1 hB.2.2.2.1 hownB hB.2.2.2.2)).tab hfm)
            have p0 := (cell1 HM10.out.bx.x).1
            have p1 := (cell1 HM10.out.bx.e).1
            go_wp2_with fail
            (with_reducible refine HLT.out.mono ?_)
            rintro e X11 ⟨rfl, hb11⟩
            have hm11 := HM10.out.on hb11 hsbw hubw
            obtain ⟨nm, hnm⟩ : ∃ nm, nm = freshB b (l2.map (·.2)) := ⟨_, rfl⟩
            have HNM := Lib.hid hnm
            rw [← hnm]
            have hns : nm.size ≤ 20 := by
              rw [hnm]
              refine fresh_size20 _ _ ?_
              have h8 := freeD_len [] [] b; rw [free_is] at h8
              have h9 : b.sz ≤ (Ty.all s b).sz := by show b.sz ≤ b.sz + 1; omega
              rw [List.length_append]; simp at h8; omega
            obtain ⟨k0, k1, k2, k3, f0, f1, f2, f3⟩ := fourC hm11.bx.t
            have hm12 := hm11.name hB.2.2.2.2 nm
            obtain ⟨X12, hX12⟩ : ∃ X12, X11.setCell ⟨w.heap.size + 1, 2, none⟩ (.string nm) = X12 := ⟨_, rfl⟩
            rw [hX12] at hm12
            have HM12 := Lib.hid hm12
            clear hnm hb11 hm11 hm12 p0 p1 k0 k1 k3 f0 f1 f3
            go_upto_region 11 with (fail)
            clear hX12 k2 f2
            have HK : Hid (∀ q, Below X12.heap.size X12 q → (q.cell? ⟨w.heap.size, 0, none⟩ = some (.pointer (some ⟨sb, 0, none⟩)) ∧ q.cell? ⟨sb, 2, none⟩ = some (.map (some ub)) ∧ q.cell? ⟨w.heap.size + 4, 0, none⟩ = some (.string s) ∧ q.cell? ⟨w.heap.size + 1, 2, none⟩ = some (.string nm))) := fun q hq => (HM12.out.on hq hsbw hubw).four
            have hS0 := HK.out X12.drew (Below.refl X12.heap.size X12).drew
            have hy0 : Below X12.heap.size X12 X12.drew := (Below.refl X12.heap.size X12).drew
            have HV := Lib.hid (var_any nm X12.drew)
            have HNP : Hid (∀ (q1 : World) (tv : Value), Below X12.heap.size X12 q1 → TyAt (fun b => X12.drew.heap.size ≤ b) q1 (.var nm) tv → Calls Tryd.prog 71 #[.string s, tv] q1 fun e q2 => ∃ qb0, e = .returned (ptrV qb0) ∧ Below X12.heap.size X12 q2 ∧ ∃ X13, (Instr.mapUpdate 116 (.map (some ub)) (.string s) (ptrV qb0)).run Tryd.prog q2 = .ok () X13 ∧ (X13.cell? ⟨w.heap.size, 0, none⟩ = some (.pointer (some ⟨sb, 0, none⟩)) ∧ X13.cell? ⟨sb, 2, none⟩ = some (.map (some ub)) ∧ X13.cell? ⟨w.heap.size + 4, 0, none⟩ = some (.string s) ∧ X13.cell? ⟨w.heap.size + 1, 2, none⟩ = some (.string nm)) ∧ MidAt B sb lb pb ub vs es P (updP (updP P s none) s (some (.var nm))) (N + 2) n ((op : Int) + 1) (d + 1) m s nm A c w (.slice Ao l.length co) qo l v2 l2 X13) := fun q1 tv hq1 htv => by
              have hm1 := HM12.out.on hq1 hsbw hubw
              refine (newPut_any B ub s (.var nm) tv q1 htv.var_any hm1.st.hB.2.2.2.2 (by obtain ⟨sz, f, m1, _⟩ := hm1.st.puts; exact m1.lt) hss (by show nm.size ≤ _; omega) (by show 1 ≤ _; omega)).mono ?_
              rintro e q2 ⟨qb0, rfl, _, hput, hb2⟩
              have hm2 := hm1.on hb2 hsbw hubw
              obtain ⟨X13, r13, hs13, hg13⟩ := hm2.st.store (by omega) hss (ptrV qb0) (some (.var nm)) (.inr ⟨qb0, .var nm, rfl, rfl, hput⟩)
              have hfr : FrSb sb ub none q2 X13 := FrSb.map hg13
              have hm13 : MidAt B sb lb pb ub vs es P (updP (updP P s none) s (some (.var nm))) (N + 2) n ((op : Int) + 1) (d + 1) m s nm A c w (.slice Ao l.length co) qo l v2 l2 X13 := ⟨hs13.more (by omega), hm2.into.store hm2.st hg13, hm2.into2.store hm2.st hg13, hm2.bx.fr hfr hsbw hubw (fun k e => by cases e), hm2.fr.trans hfr (fun k e => by cases e), hm2.pv.map (fun b' s' t' hp => hm2.st.keepPut hg13 hp), hm2.own⟩
              exact ⟨qb0, rfl, hq1.trans (hb2.mono hq1.size), X13, r13, hm13.four, hm13⟩
            unfold ptrV at HNP
            go_cut [] (fun wx => MidAt B sb lb pb ub vs es P (updP (updP P s none) s (some (.var nm))) (N + 2) n ((op : Int) + 1) (d + 1) m s nm A c w (.slice Ao l.length co) qo l v2 l2 wx)
            case first =>
              go_region_held3 (fun q => (q.cell? ⟨w.heap.size, 0, none⟩ = some (.pointer (some ⟨sb, 0, none⟩)) ∧ q.cell? ⟨sb, 2, none⟩ = some (.map (some ub)) ∧ q.cell? ⟨w.heap.size + 4, 0, none⟩ = some (.string s) ∧ q.cell? ⟨w.heap.size + 1, 2, none⟩ = some (.string nm))) (first | with_reducible exact hS0 | with_reducible exact hS1 | with_reducible exact hS2 | with_reducible exact hS3)
                (first | (go_at_call 61; (with_reducible refine HV.out.mono ?_); rintro e q1 ⟨tv, rfl, htv, hb1⟩; have hS1 := HK.out q1 (hy0.trans (hb1.mono hy0.size))) | (go_at_call 71; (with_reducible refine (HNP.out q1 tv (hy0.trans (hb1.mono hy0.size)) htv).mono ?_); rintro e q2 ⟨qb0, rfl, hb2, X13, r13, hS3, hm13⟩; have hS2 := HK.out q2 hb2))
              all_goals (go_wp2_with fail; go_meet; exact hm13)
            case rest =>
              obtain ⟨X13, rfl⟩ : ∃ x, x = wc := ⟨_, rfl⟩
              have hm13 := hcut
              clear hcut HK hS0 hy0 HV HNP HM12 HM10 HM9 HCC HLT
              obtain ⟨qv, hlk, hpv⟩ := hm13.st.puts.look2 (x := s) hss
              have hPs : updP (updP P s none) s (some (.var nm)) s = some (.var nm) := if_pos rfl
              rw [hPs] at hpv
              obtain ⟨qb0, rfl, hput⟩ : ∃ qb0, qv = ptrV qb0 ∧ PutAt B ub X13 qb0 s (.var nm) := by
                rcases hpv with ⟨_, h9⟩ | ⟨b0, t0, h8, h9, h7⟩
                · cases h9
                · injection h9 with h9
                  subst h9
                  exact ⟨b0, h8, h7⟩
              obtain ⟨p0, p1, p2, p3⟩ := hm13.four
              have bN := below_new X13 (.cells #[ptrV qb0] 113)
              have hzz : (X13.alloc (.cells #[ptrV qb0] 113)).heap.size = X13.heap.size + 1 := by simp
              have hb0 : Below X13.heap.size X13 (X13.alloc (.cells #[ptrV qb0] 113)).drew := bN.drew
              have hm14 := hm13.on hb0 hsbw hubw
              obtain ⟨v3, X14, hap, ho3, ho2, hg14, hown3⟩ := run_append_put (B := B) (w := (X13.alloc (.cells #[ptrV qb0] 113)).drew) (v := v2) (l := l2) (qb0, s, .var nm) hm14.into2.1 ⟨X13.heap.size, 0, none⟩ (cell1 (MapKept.heap_alloc X13 (.cells #[ptrV qb0] 113)).1).1 (by omega) hm14.st.hB.2.2.2.2 112
              have hput14 : PutAt B ub (X13.alloc (.cells #[ptrV qb0] 113)).drew qb0 s (.var nm) := (hm13.st.parts (World.ownsRow_nil X13 B 113 1) (FrSb.of_below (g := none) hb0)).2.2.2 _ _ _ hput
              have hl1 := hlk X13.drew rfl
              have hl2 := hlk X13 rfl
              have hap' : (Builtin.append_ #[112, 112] 112 #[v2, .slice (some ⟨X13.heap.size, 0, none⟩) 1 1]).run Tryd.prog (X13.drew.alloc (.cells #[ptrV qb0] 113)) = .ok v3 X14 := hap
              unfold ptrV at hl1 hl2 hap hap'
              go_upto_region 12 with (fail)
              go_region_law (first | refine step_append_run rfl (.tmp 78) (.tmp 85) rfl v2 _ rfl rfl v3 X14 hap ?_ | refine step_append_run rfl (.tmp 78) (.tmp 85) rfl v2 _ rfl rfl v3 X14 hap' ?_)
              all_goals (go_wp2_with fail; go_meet)
              all_goals (
                refine ⟨l2 ++ [(qb0, s, .var nm)], nm, _, hm14.grow hsbw hubw hown hput14 ho3 ho2 hg14 hown3, ?_, fun x hx => ?_, by rw [List.length_append]; simp; omega, ?_⟩
                · rw [List.map_append, hin2]
                  show (if _ then _ else _) = _
                  rw [if_pos (by rw [← hin2]; exact HQB.out), updP_twice, HNM.out, hin2]
                  rfl
                · rw [updP_twice]; exact if_neg hx
                · have h8 := free_one nm
                  unfold takenB at hl2t ⊢
                  rw [List.map_append, List.flatMap_append, List.length_append]
                  simp only [List.map_cons, List.map_nil, List.flatMap_cons, List.flatMap_nil, List.append_nil]
                  omega)
        case rest =>
          obtain ⟨l3, nm, P3, hend, hsub, hP3, hl3, ht3⟩ := hcut
          obtain ⟨v3, rfl⟩ : ∃ x, x = u2 := ⟨_, rfl⟩
          obtain ⟨X19, rfl⟩ : ∃ x, x = wc := ⟨_, rfl⟩
          have hB2 : Below B w X19 := hend.fr.below hB.1 hB.2.2.2.1 hownB hB.2.2.2.2
          have hzs : sumSz [b] = b.sz := by simp [sumSz]
          have hst : SbSt B sb lb pb ub vs es P3 (N + 2) n ((op + 1 : Nat) : Int) (d + 1) X19 := by
            have e : ((op + 1 : Nat) : Int) = (op : Int) + 1 := by omega
            rw [e]; exact hend.st
          have HEA := Lib.hid (hea P3 (N + 2) n (op + 1) (d + 1) (updG g s (d + 1)) v3 l3 (.slice A 1 c) X19 hst hend.into2 (HTYS.out.keep (.of_belowB (fun _ h => h) hB2)) hlyb (fun t ht => by rw [List.mem_singleton] at ht; subst ht; exact hsb) (by omega) (by rw [hzs]; omega) (by rw [hzs]; omega) (by rw [hzs]; omega) (by rw [hzs]; omega) (htab.on hB2))
          have p0 := (cell1 hend.bx.x).1
          obtain ⟨_, _, _, p3, _⟩ := fourC hend.bx.t
          have hX19 : w.heap.size + 5 ≤ X19.heap.size := lt_of_block hend.bx.n
          have HEND := Lib.hid hend
          have HP3 := Lib.hid hP3
          have HSUB := Lib.hid hsub
          clear hst hend hP3 hsub HQB HM10 HM9 HCC HL2 hin2 hl2l hl2t hB2 hlyb htab
          go_wp2_with fail
          (with_reducible refine HEA.out.mono ?_)
          rintro e X20 ⟨rv, rfl, hrv, hs20, hi20, hf20⟩
          obtain ⟨A3, c3, rfl, _, _⟩ := hrv.form
          simp only [List.map_cons, List.map_nil, List.length_cons, List.length_nil] at hrv ⊢
          have hla := HEND.out.last hsbw hubw hown hs20 hi20 hf20
          have hla21 := hla.arg hB.2.2.2.2 A3 c3
          obtain ⟨_, _, _, k3, _, _, _, f3⟩ := fourC hla.bx.t
          obtain ⟨X21, hX21⟩ : ∃ X21, X20.setCell ⟨w.heap.size + 1, 3, none⟩ (.slice A3 1 c3) = X21 := ⟨_, rfl⟩
          have hz21 : X20.heap.size = X21.heap.size := by rw [← hX21]; simp
          have hrv21 : TysAt (fun k => X19.heap.size ≤ k) X21 [b.subC P3 (l3.map (·.2))] (.slice A3 1 c3) := by
            rw [← hX21]
            exact hrv.keep (Keeps.setCell (fun e => by omega) _)
          rw [hX21] at hla21
          have hla21d := hla21.on (Below.refl X21.heap.size X21).drew hsbw hubw
          obtain ⟨X22, r22, hs22, hg22⟩ := hla21d.st.store (by rw [hzs]; omega) hss qo (P s) hla21d.pv
          have HLA := Lib.hid hla21
          have HRV := Lib.hid hrv21
          have HS22 := Lib.hid hs22
          have HG22 := Lib.hid hg22
          obtain ⟨q0, q1⟩ : X21.cell? ⟨w.heap.size, 0, none⟩ = some (.pointer (some ⟨sb, 0, none⟩)) ∧ X21.cell? ⟨sb, 2, none⟩ = some (.map (some ub)) := by
            have hc := hla21.st.cell
            exact ⟨(cell1 hla21.bx.x).1, by simp [World.cell?, hc]⟩
          have q2 := (cell1 hla21.bx.n).1
          have HLAD := Lib.hid hla21d
          clear hrv hs20 hi20 hf20 hla hla21 hla21d hrv21 hs22 hg22 p0 p3 HEA HEND HTYS
          go_upto_region 14 with (fail)
          clear k3 f3 hX21
          go_region
          go_upto_region 15 with (fail)
          clear q0 q1 q2 r22
          have hPe : updP P3 s (P s) = P := by
            funext x; unfold updP
            by_cases e : x = s
            · rw [if_pos e, e]
            · rw [if_neg e]; exact HP3.out x e
          have hs22 := HS22.out
          rw [hPe] at hs22
          have hi22 := HLAD.out.into.store HLAD.out.st HG22.out
          have hfr : FrSb sb ub none X21.drew X22 := FrSb.map HG22.out
          have hbx22 := HLAD.out.bx.fr hfr hsbw hubw (fun k e => by cases e)
          have hf22 := HLAD.out.fr.trans hfr (fun k e => by cases e)
          have hrv22 := (HRV.out.on (Below.refl X21.heap.size X21).drew).keep (hfr.keeps (G := X19.heap.size) (by omega) (by omega) (fun k e => by cases e))
          have hs23 := hs22.put 5 (.int .i64 d) (dp' := d) rfl
          have hi23 := hi22.put hs22 5 (.int .i64 d)
          have hc22 := hs22.cell
          have hg23 : FrSb sb ub none X22 (X22.setCell ⟨sb, 5, none⟩ (.int .i64 d)) := FrSb.setCell 5 _
          have hbx23 := hbx22.fr hg23 hsbw hubw (fun k e => by cases e)
          have hf23 := hf22.trans hg23 (fun k e => by cases e)
          have hrv23 := hrv22.keep (hg23.keeps (G := X19.heap.size) (by omega) (by omega) (fun k e => by cases e))
          obtain ⟨X23, hX23⟩ : ∃ X23, X22.setCell ⟨sb, 5, none⟩ (.int .i64 d) = X23 := ⟨_, rfl⟩
          rw [hX23] at hs23 hi23 hbx23 hf23 hrv23
          obtain ⟨z1, z2, z3, z4⟩ := put4_all hs23 hi23 hf23 hbx23.r (by omega) (by omega) (.int .i64 5) (.int .i64 0) (.string nm) (.slice A3 1 c3)
          have hty := (hrv23.mono (fun k (hk : _ ≤ k) => (by omega : w.heap.size + 2 < k))).keep z4
          have p0 := (cell1 hbx22.x).1
          have p1 : X22.cell? ⟨sb, 5, none⟩ = some (.int .i64 (d + 1)) := by simp [World.cell?, hc22]
          have p2 : X22.frozen? ⟨sb, 5, none⟩ = false := by simp [World.frozen?, hc22]
          obtain ⟨t0, t1, t2, t3, _⟩ := fourC hbx23.t
          have hr23 : X23.heap[w.heap.size + 1 + 1]? = some (.cells #[.int .i64 0, .int .i64 0, .string ⟨#[]⟩, .slice none 0 0] 25) := hbx23.r
          obtain ⟨r0, r1, r2, r3, g0, g1, g2, g3⟩ := fourC hr23
          have hdd : d + 1 - 1 = d := by omega
          have Z1 : Hid (SbSt B sb lb pb ub vs es P (N + 3 * (Ty.all s b).sz) ((n + (Ty.all s b).vars : Nat) : Int) ((op + (layE n (Ty.all s b)).length : Nat) : Int) d (put4 X23 (w.heap.size + 2) (.int .i64 5) (.int .i64 0) (.string nm) (.slice A3 1 c3))) := by
            have e1 : varsL [b] = (Ty.all s b).vars := by simp [varsL, Ty.vars]
            have e2 : op + 1 + (layEL n [b]).length = op + (layE n (Ty.all s b)).length := by simp [layEL, layE]; omega
            rw [← e1, ← e2]
            exact z1.more (by rw [hzs]; omega)
          have Z2 := Lib.hid z2
          have Z3 := Lib.hid z3
          have Z4 : Hid (TyAt (fun k => w.heap.size ≤ k) (put4 X23 (w.heap.size + 2) (.int .i64 5) (.int .i64 0) (.string nm) (.slice A3 1 c3)) ((Ty.all s b).subC P (l.map (·.2))) (.agg #[.int .i64 5, .int .i64 0, .string nm, .slice A3 1 c3])) := by
            rw [HSUB.out]
            exact TysAt.ty (t := .all nm (b.subC P3 (l3.map (·.2)))) (hty.mono (fun k (hk : _ < k) => (by omega : w.heap.size ≤ k)))
          clear hs22 hi22 hfr hbx22 hf22 hrv22 hs23 hi23 hc22 hg23 hbx23 hf23 hrv23 z1 z2 z3 z4 hty hr23 HLAD HRV HLA HS22 HG22 hPe hzs
          go_wp2
          exact bodyPost_ret (v := .agg #[.int .i64 5, .int .i64 0, .string nm, .slice A3 1 c3]) (by simp [results, Tryd.results106, go_sem, r0, r1, r2, r3]) rfl ⟨_, rfl, Z4.out, Z1.out, Z2.out, Z3.out⟩
end Go.Proofs.YtbdfjboojokgdaaDoor
