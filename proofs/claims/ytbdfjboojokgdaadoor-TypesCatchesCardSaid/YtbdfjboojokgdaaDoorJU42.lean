/- The document's Subst (chapter 4) at types for all: the three rows that its loop grows. No conditions but those that each theorem names. -/
import Derived.Test.YtbdfjboojokgdaaDoorJU41
import Derived.Test.YtbdfjboojokgdaaDoorJU15
namespace Go.Proofs.YtbdfjboojokgdaaDoor
open Go.RowKit

/-- A row of types that a call owns; the types themselves lie elsewhere. -/
def TRow (P : Nat → Prop) (B : Nat) (w : World) (us : List Ty) (v : Value) : Prop :=
  ∃ cs : List Value, w.ownsRow B 25 4 v us.length cs ∧ ∀ i (h : i < us.length), ∃ x0 x1 x2 x3, cs[i * 4]? = some x0 ∧ cs[i * 4 + 1]? = some x1 ∧ cs[i * 4 + 2]? = some x2 ∧ cs[i * 4 + 3]? = some x3 ∧ TyAt P w us[i] (.agg #[x0, x1, x2, x3])
theorem TRow.nil (P : Nat → Prop) (B : Nat) (w : World) : TRow P B w [] (.slice none 0 0) := ⟨[], World.ownsRow_nil w B 25 4, fun _ h => absurd h (Nat.not_lt_zero _)⟩
theorem TRow.form {P : Nat → Prop} {B : Nat} {w : World} {us : List Ty} {v : Value} (h : TRow P B w us v) : ∃ A c, v = .slice A us.length c := by
  obtain ⟨cs, ho, _⟩ := h; exact own_form ho
theorem TRow.keep {P : Nat → Prop} {B : Nat} {w w' : World} {us : List Ty} {v : Value} (h : TRow P B w us v) (hP : ∀ b, P b → b < B) (hs : w.heap.size ≤ w'.heap.size) (hl : ∀ b, b < B → b < w.heap.size → w'.heap[b]? = w.heap[b]?) (hb : ∀ g, v.ownBlock = some g → w'.heap[g]? = w.heap[g]?) : TRow P B w' us v := by
  obtain ⟨cs, ho, ht⟩ := h
  refine ⟨cs, own_keep ho hb, fun i hi => ?_⟩
  obtain ⟨x0, x1, x2, x3, c0, c1, c2, c3, hx⟩ := ht i hi
  exact ⟨x0, x1, x2, x3, c0, c1, c2, c3, hx.keep ⟨hs, fun b off hp hlt => World.cell?_of_block (a := ⟨b, off, none⟩) (hl b (hP b hp) hlt)⟩⟩
theorem TRow.tys {P : Nat → Prop} {B : Nat} {w : World} {us : List Ty} {v : Value} (h : TRow P B w us v) : TysAt (fun b => P b ∨ (B ≤ b ∧ b < w.heap.size)) w us v := by
  obtain ⟨cs, ho, ht⟩ := h
  have hcl : cs.length = us.length * 4 := ho.1
  have hlt := fun k hk => World.ownsRow.lt ho k hk
  rcases ho.2 with ⟨h1, h2⟩ | ⟨g, cap, cur, h1, h2, h3, h4, h5, h6⟩
  · obtain rfl : us = [] := List.eq_nil_of_length_eq_zero h2
    rw [h1]; exact tys_nil _ _ _ _ (Nat.zero_le _)
  · subst h1
    have hg := hlt g rfl
    refine ⟨some ⟨g, 0, none⟩, cap, fun i j => (cs[i * 4 + j]?).getD (.int .i64 0), rfl, h4, h5, ?_, fun i hi => ?_⟩
    · by_cases h0 : us = []
      · exact .inl h0
      · refine .inr ⟨g, 0, rfl, .inr ⟨h2, hg.2⟩, hg.2, fun i j hi hj => ?_⟩
        rw [Nat.zero_add, World.ownsRow.cellAt ho _ (by omega)]
        obtain ⟨x, hx⟩ : ∃ x, cs[i * 4 + j]? = some x := ⟨cs[i * 4 + j]'(by omega), List.getElem?_eq_getElem (by omega)⟩
        simp [hx]
    · obtain ⟨x0, x1, x2, x3, c0, c1, c2, c3, hx⟩ := ht i hi
      simp only [Nat.add_zero, c0, c1, c2, c3, Option.getD_some]
      exact hx.mono (fun b hb => .inl hb)
theorem TRow.push {P : Nat → Prop} {B : Nat} {w w' : World} {us : List Ty} {v v' : Value} {t : Ty} {cs : List Value} {x0 x1 x2 x3 : Value} (hP : ∀ b, P b → b < B)
    (ho : w.ownsRow B 25 4 v us.length cs) (ht : ∀ i (h : i < us.length), ∃ x0 x1 x2 x3, cs[i * 4]? = some x0 ∧ cs[i * 4 + 1]? = some x1 ∧ cs[i * 4 + 2]? = some x2 ∧ cs[i * 4 + 3]? = some x3 ∧ TyAt P w us[i] (.agg #[x0, x1, x2, x3]))
    (hx : TyAt P w t (.agg #[x0, x1, x2, x3])) (ho' : w'.ownsRow B 25 4 v' (us.length + 1) (cs ++ [x0, x1, x2, x3])) (hg : w.grownBy w' v.ownBlock) : TRow P B w' (us ++ [t]) v' := by
  have hcl : cs.length = us.length * 4 := ho.1
  have hk : ∀ {t : Ty} {u : Value}, TyAt P w t u → TyAt P w' t u := by
    intro t u h
    refine h.keep ⟨hg.size, fun b off hp hlt => World.cell?_of_block (a := ⟨b, off, none⟩) (hg.block b hlt (fun e => ?_))⟩
    have h1 := (World.ownsRow.lt ho b e.symm).1
    have h2 := hP b hp
    omega
  refine ⟨cs ++ [x0, x1, x2, x3], by rw [List.length_append]; exact ho', fun i hi => ?_⟩
  rw [List.length_append] at hi
  simp only [List.length_cons, List.length_nil] at hi
  by_cases hit : i < us.length
  · obtain ⟨y0, y1, y2, y3, c0, c1, c2, c3, hy⟩ := ht i hit
    rw [List.getElem_append_left hit]
    refine ⟨y0, y1, y2, y3, ?_, ?_, ?_, ?_, hk hy⟩
    · rw [List.getElem?_append_left (by omega)]; exact c0
    · rw [List.getElem?_append_left (by omega)]; exact c1
    · rw [List.getElem?_append_left (by omega)]; exact c2
    · rw [List.getElem?_append_left (by omega)]; exact c3
  · have hi' : i = us.length := by omega
    subst hi'
    rw [List.getElem_append_right (Nat.le_refl _)]
    simp only [Nat.sub_self, List.getElem_cons_zero]
    refine ⟨x0, x1, x2, x3, ?_, ?_, ?_, ?_, hk hx⟩
    · rw [List.getElem?_append_right (by omega), hcl, Nat.sub_self]; rfl
    · rw [List.getElem?_append_right (by omega), hcl, show us.length * 4 + 1 - us.length * 4 = 1 by omega]; rfl
    · rw [List.getElem?_append_right (by omega), hcl, show us.length * 4 + 2 - us.length * 4 = 2 by omega]; rfl
    · rw [List.getElem?_append_right (by omega), hcl, show us.length * 4 + 3 - us.length * 4 = 3 by omega]; rfl
/-- The three rows. -/
structure InSt (P : Nat → Prop) (B : Nat) (y wr : World) (ns : List ByteArray) (us : List Ty) (ks : List ByteArray) (iv tv kv : Value) : Prop where
  bl : Below B y wr
  le : B ≤ y.heap.size
  hi : OwnS B wr iv ns
  ht : TRow P B wr us tv
  hk : OwnS B wr kv ks
  ap : ∀ g, iv.ownBlock = some g → kv.ownBlock ≠ some g
theorem InSt.leW {P : Nat → Prop} {B : Nat} {y wr : World} {ns : List ByteArray} {us : List Ty} {ks : List ByteArray} {iv tv kv : Value} (h : InSt P B y wr ns us ks iv tv kv) : B ≤ wr.heap.size := Nat.le_trans h.le h.bl.size
theorem InSt.on {P : Nat → Prop} {B : Nat} {y wr w' : World} {ns : List ByteArray} {us : List Ty} {ks : List ByteArray} {iv tv kv : Value} (hP : ∀ b, P b → b < B) (h : InSt P B y wr ns us ks iv tv kv) (hb : Below wr.heap.size wr w') : InSt P B y w' ns us ks iv tv kv := by
  obtain ⟨cs, ho, _⟩ := id h.ht
  exact ⟨h.bl.trans (hb.mono h.leW), h.le, own_below h.hi hb, h.ht.keep hP hb.size (fun b _ hb2 => hb.block b hb2) (fun g hg => hb.block g (World.ownsRow.lt ho g hg).2), own_below h.hk hb, h.ap⟩
theorem own_ne {w : World} {B1 B2 e1 e2 s1 s2 n1 n2 : Nat} {v1 v2 : Value} {x1 x2 : List Value} (h1 : w.ownsRow B1 e1 s1 v1 n1 x1) (h2 : w.ownsRow B2 e2 s2 v2 n2 x2) (hne : e1 ≠ e2) : ∀ g, v1.ownBlock = some g → v2.ownBlock ≠ some g := fun g hg hg2 => by
  obtain ⟨cur, hc⟩ := own_type h1 hg
  exact own_not h2 hc (Ne.symm hne) hg2
/-- One more name. -/
theorem InSt.pushI {P : Nat → Prop} {B : Nat} {y wr Y w2 : World} {ns : List ByteArray} {us : List Ty} {ks : List ByteArray} {iv tv kv iv' : Value} {s : ByteArray} (hP : ∀ b, P b → b < B) (h : InSt P B y wr ns us ks iv tv kv) (hY : Below wr.heap.size wr Y) (hg : Y.grownBy w2 iv.ownBlock)
    (ho : w2.ownsRow B 9 1 iv' (ns.length + 1) (ns.map Value.string ++ [.string s])) (hat : iv'.ownBlock = iv.ownBlock ∨ ∃ g, iv'.ownBlock = some g ∧ wr.heap.size ≤ g) : InSt P B y w2 (ns ++ [s]) us ks iv' tv kv := by
  have hY' := h.on hP hY
  have hle := hY'.leW
  obtain ⟨cs, ht, _⟩ := id hY'.ht
  have e1 := own_ne hY'.hi ht (by decide)
  refine ⟨grown_below hY'.bl hg (fun k hk => (World.ownsRow.lt hY'.hi k hk).1) hle, h.le, ?_, hY'.ht.keep hP hg.size (fun b hb hlt => hg.block b hlt (fun e => ?_)) (fun g hg2 => hg.block g (World.ownsRow.lt ht g hg2).2 (fun e => e1 g e.symm hg2)), own_keep hY'.hk (fun g hg2 => hg.block g (World.ownsRow.lt hY'.hk g hg2).2 (fun e => h.ap g e.symm hg2)), fun g hg2 hg3 => ?_⟩
  · unfold OwnS; rw [List.length_append, List.map_append]; exact ho
  · have := (World.ownsRow.lt hY'.hi b e.symm).1; omega
  · rcases hat with h9 | ⟨g', h9, h8⟩
    · exact h.ap g (h9 ▸ hg2) hg3
    · rw [h9] at hg2; injection hg2 with hg2
      have := (World.ownsRow.lt h.hk g hg3).2; omega
/-- One more type. -/
theorem InSt.pushT {P : Nat → Prop} {B : Nat} {y wr Y w2 : World} {ns : List ByteArray} {us : List Ty} {ks : List ByteArray} {iv tv kv tv' : Value} {t : Ty} {cs : List Value} {x0 x1 x2 x3 : Value} (hP : ∀ b, P b → b < B) (h : InSt P B y wr ns us ks iv tv kv) (hcs : wr.ownsRow B 25 4 tv us.length cs) (hxs : ∀ i (h : i < us.length), ∃ x0 x1 x2 x3, cs[i * 4]? = some x0 ∧ cs[i * 4 + 1]? = some x1 ∧ cs[i * 4 + 2]? = some x2 ∧ cs[i * 4 + 3]? = some x3 ∧ TyAt P wr us[i] (.agg #[x0, x1, x2, x3])) (hY : Below wr.heap.size wr Y) (hg : Y.grownBy w2 tv.ownBlock) (hx : TyAt P wr t (.agg #[x0, x1, x2, x3]))
    (ho : w2.ownsRow B 25 4 tv' (us.length + 1) (cs ++ [x0, x1, x2, x3])) : InSt P B y w2 ns (us ++ [t]) ks iv tv' kv := by
  have hY' := h.on hP hY
  have hle := hY'.leW
  have hcsY := own_below hcs hY
  have e1 := own_ne hcsY hY'.hi (by decide)
  have e2 := own_ne hcsY hY'.hk (by decide)
  exact ⟨grown_below hY'.bl hg (fun k hk => (World.ownsRow.lt hcsY k hk).1) hle, h.le, own_keep hY'.hi (fun g hg2 => hg.block g (World.ownsRow.lt hY'.hi g hg2).2 (fun e => e1 g e.symm hg2)), TRow.push hP hcsY (fun i hi => by
    obtain ⟨y0, y1, y2, y3, c0, c1, c2, c3, hy⟩ := hxs i hi
    exact ⟨y0, y1, y2, y3, c0, c1, c2, c3, hy.on hY⟩) (hx.on hY) ho hg, own_keep hY'.hk (fun g hg2 => hg.block g (World.ownsRow.lt hY'.hk g hg2).2 (fun e => e2 g e.symm hg2)), h.ap⟩
/-- More names that are taken. -/
theorem InSt.pushK {P : Nat → Prop} {B : Nat} {y wr Y w2 : World} {ns : List ByteArray} {us : List Ty} {ks ls : List ByteArray} {iv tv kv kv' : Value} (hP : ∀ b, P b → b < B) (h : InSt P B y wr ns us ks iv tv kv) (hY : Below wr.heap.size wr Y) (hg : Y.grownBy w2 kv.ownBlock)
    (ho : w2.ownsRow B 9 1 kv' (ks.length + ls.length) (ks.map Value.string ++ ls.map Value.string)) (hat : kv'.ownBlock = kv.ownBlock ∨ ∃ g, kv'.ownBlock = some g ∧ wr.heap.size ≤ g) : InSt P B y w2 ns us (ks ++ ls) iv tv kv' := by
  have hY' := h.on hP hY
  have hle := hY'.leW
  obtain ⟨cs, ht, _⟩ := id hY'.ht
  have e1 := own_ne hY'.hk ht (by decide)
  refine ⟨grown_below hY'.bl hg (fun k hk => (World.ownsRow.lt hY'.hk k hk).1) hle, h.le, own_keep hY'.hi (fun g hg2 => hg.block g (World.ownsRow.lt hY'.hi g hg2).2 (fun e => h.ap g hg2 e.symm)), hY'.ht.keep hP hg.size (fun b hb hlt => hg.block b hlt (fun e => ?_)) (fun g hg2 => hg.block g (World.ownsRow.lt ht g hg2).2 (fun e => e1 g e.symm hg2)), ?_, fun g hg2 hg3 => ?_⟩
  · have := (World.ownsRow.lt hY'.hk b e.symm).1; omega
  · unfold OwnS; rw [List.length_append, List.map_append]; exact ho
  · rcases hat with h9 | ⟨g', h9, h8⟩
    · exact h.ap g hg2 (h9 ▸ hg3)
    · rw [h9] at hg3; injection hg3 with hg3
      have := (World.ownsRow.lt h.hi g hg2).2; omega
end Go.Proofs.YtbdfjboojokgdaaDoor
