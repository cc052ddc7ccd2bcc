/- TypesComposes (chapter 4): how great and how long of name a type is into which others were put; types of the small world are of 97 nodes at most. No program, but for what is handed to types.Subst. Conditions: those that each theorem names. The laws' rows of names, each another one, and of a type for each (chapter 4: TypesPuts, TypesCatches). Conditions: those that each theorem names. -/
import Derived.Test.YtbdfjboojokgdaaDoorJU36
import Derived.Test.YtbdfjboojokgdaaDoorJU45
import Derived.Test.YtbdfjboojokgdaaDoorJU15
import Derived.Deep.AppendLies
import Derived.Deep.LoopGhost
namespace Go.Proofs.YtbdfjboojokgdaaDoor
open Go.RowKit

theorem built_szN : ∀ (f : Nat) (l : List Int), (builtZ f l).1.sz + 4 * (builtZ f l).2.length ≤ 4 * l.length + 1
  | f, [] => by
    have : builtZ f [] = (.con ⟨#[73, 110, 116]⟩, []) := by cases f <;> rfl
    rw [this]; simp [Ty.sz]
  | 0, z :: l => by show (leafZ _ _).sz + 4 * l.length ≤ _; rw [leaf_szB, List.length_cons]; omega
  | f + 1, z :: l => by
    have h1 := built_szN f l
    have h2 := built_szN f (builtZ f l).2
    rw [builtZ, List.length_cons]
    split
    · show (leafZ _ _).sz + 4 * l.length ≤ _; rw [leaf_szB]; omega
    · split
      · show (builtZ f l).1.sz + 1 + 4 * (builtZ f l).2.length ≤ _; omega
      · show (ite _ _ _ : Ty).sz + 4 * (builtZ f (builtZ f l).2).2.length ≤ _
        split
        · show (1 + (builtZ f l).1.sz + 1) + (builtZ f (builtZ f l).2).1.sz + 1 + _ ≤ _; omega
        · show (builtZ f l).1.sz + (builtZ f (builtZ f l).2).1.sz + 1 + _ ≤ _; omega
theorem madeZ_szN (zs : List Int) : (madeZ zs).sz ≤ 97 := by
  have h := built_szN 5 (zs.take 24)
  have h2 : (zs.take 24).length ≤ 24 := by rw [List.length_take]; omega
  unfold madeZ; omega
theorem sz_subM : ∀ (t : Ty) (m : Nat) (σ : List (ByteArray × Ty)), 1 ≤ m → (∀ p ∈ σ, p.2.sz ≤ m) → (t.sub σ).sz ≤ t.sz * m
  | .hole _, m, _, hm, _ => by show 1 ≤ 1 * m; omega
  | .var s, m, σ, hm, hs => lookS_P (P := fun u => u.sz ≤ 1 * m) (fun p hp => by rw [Nat.one_mul]; exact hs p hp) (by show 1 ≤ 1 * m; omega)
  | .con _, m, _, hm, _ => by show 1 ≤ 1 * m; omega
  | .app a b, m, σ, hm, hs => by
    have h1 := sz_subM a m σ hm hs
    have h2 := sz_subM b m σ hm hs
    simp only [Ty.sub, Ty.sz]
    rw [Nat.add_mul, Nat.add_mul]; omega
  | .all s a, m, σ, hm, hs => by
    have hil : ∀ p ∈ intoB s a σ, p.2.sz ≤ m := fun p hp => hs p (mem_intoB hp)
    simp only [Ty.sub]
    split
    · simp only [Ty.sz]
      have h1 := sz_subM a m (intoB s a σ ++ [(s, .var (freshB a (intoB s a σ)))]) hm (fun p hp => by
        rw [List.mem_append, List.mem_singleton] at hp
        rcases hp with hp | rfl
        · exact hil p hp
        · exact hm)
      rw [Nat.add_mul]; omega
    · simp only [Ty.sz]
      have h1 := sz_subM a m _ hm hil
      rw [Nat.add_mul]; omega
theorem taken_into_len (s : ByteArray) (b : Ty) (σ : List (ByteArray × Ty)) : (takenB (intoB s b σ)).length ≤ (takenB σ).length := by
  unfold takenB intoB
  induction σ with
  | nil => simp
  | cons p r ih =>
    rw [List.filter_cons]
    split
    · rw [List.flatMap_cons, List.flatMap_cons, List.length_append, List.length_append]; omega
    · rw [List.flatMap_cons, List.length_append]; omega
theorem freshB_size (b : Ty) (τ : List (ByteArray × Ty)) : (freshB b τ).size ≤ (takenB τ).length + b.sz + 2 := by
  unfold freshB
  have h1 := letN_le (fun x => hasB (takenB τ ++ b.free) x) (takenB τ ++ b.free).length 0
  have h2 := letB_size (letN (fun x => hasB (takenB τ ++ b.free) x) (takenB τ ++ b.free).length 0)
  have h4 := freeT_len b
  rw [List.length_append] at h1 h2
  rw [List.length_append]
  omega
theorem short_sub : ∀ (t : Ty) (σ : List (ByteArray × Ty)), t.short → (∀ p ∈ σ, p.2.short) → (takenB σ).length + 2 * t.sz + 4 ≤ 1099511627776 → (t.sub σ).short
  | .hole _, _, _, _, _ => trivial
  | .var s, σ, h, hs, _ => lookS_P (P := fun u => u.short) (fun p hp => hs p hp) h
  | .con _, _, h, _, _ => h
  | .app a b, σ, h, hs, hz => by
    simp only [Ty.sz] at hz
    exact ⟨short_sub a σ h.1 hs (by omega), short_sub b σ h.2 hs (by omega)⟩
  | .all s a, σ, h, hs, hz => by
    simp only [Ty.sz] at hz
    have hi := taken_into_len s a σ
    have hil : ∀ p ∈ intoB s a σ, p.2.short := fun p hp => hs p (mem_intoB hp)
    have hf := freshB_size a (intoB s a σ)
    simp only [Ty.sub]
    split
    · have hsh : (freshB a (intoB s a σ)).size ≤ 1099511627776 := by omega
      have ht : (takenB (intoB s a σ ++ [(s, .var (freshB a (intoB s a σ)))])).length ≤ (takenB σ).length + 1 := by
        have h1 := freeT_len (.var (freshB a (intoB s a σ)))
        have h2 : (Ty.var (freshB a (intoB s a σ))).sz = 1 := rfl
        generalize (Ty.var (freshB a (intoB s a σ))) = vv at *
        unfold takenB at hi ⊢
        simp only [List.flatMap_append, List.length_append, List.flatMap_singleton]
        omega
      exact ⟨hsh, short_sub a _ h.2 (fun p hp => by
        rw [List.mem_append, List.mem_singleton] at hp
        rcases hp with hp | rfl
        · exact hil p hp
        · exact hsh) (by omega)⟩
    · exact ⟨h.1, short_sub a _ h.2 hil (by omega)⟩
/-- Put one type, of bounds. -/
structure Fit (m : Nat) (t : Ty) : Prop where
  sh : t.short
  sz : t.sz ≤ m
theorem fit_made (zs : List Int) : Fit 97 (madeZ zs) := ⟨short_lt _ (world_lt _ (madeZ_world zs)), madeZ_szN zs⟩
theorem taken_one (s : ByteArray) (x : Ty) : (takenB [(s, x)]).length ≤ x.sz := by
  unfold takenB
  rw [List.flatMap_singleton]
  exact freeT_len x
theorem Fit.sub {m n : Nat} {t x : Ty} (s : ByteArray) (h : Fit m t) (hx : Fit n x) (hn : 1 ≤ n) (hm : m ≤ 1048576) (hn2 : n ≤ 1048576) : Fit (m * n) (t.sub [(s, x)]) := by
  have h1 := taken_one s x
  have h2 := hx.sz
  have h3 := h.sz
  refine ⟨short_sub t _ h.sh (fun p hp => ?_) (by omega), Nat.le_trans (sz_subM t n _ hn (fun p hp => ?_)) (Nat.mul_le_mul_right _ h.sz)⟩
  · rw [List.mem_singleton] at hp; subst hp; exact hx.sh
  · rw [List.mem_singleton] at hp; subst hp; exact hx.sz
/-- types.Subst where one name is put. -/
theorem subst_one {P Q R : Nat → Prop} {m n : Nat} {t x : Ty} {s : ByteArray} {v nv bv : Value} {w : World} (h : TyAt P w t v) (hn : StrsAt Q w nv [s]) (hb : TysAt R w [x] bv) (ft : Fit m t) (fx : Fit n x) (hs : s.size ≤ 1048576) (hm : m ≤ 16384) (hn2 : n ≤ 16384) (htab : TabW w) :
    Calls Tryd.prog 29 #[v, nv, bv] w fun e w' => ∃ u, e = .returned u ∧ TyAt (fun b => w.heap.size ≤ b) w' (t.sub [(s, x)]) u ∧ Below w.heap.size w w' := by
  have h1 := taken_one s x
  have h2 := fx.sz
  have h3 := ft.sz
  refine subst_any Q t [(s, x)] v nv bv w (h.bound.mono (fun b hb => hb.2)) hn (show TysAt (fun b => b < w.heap.size) w [x] bv from hb.bound') ft.sh (fun p hp => ?_) (by simp) (by rw [List.length_singleton]; omega) (by omega) htab
  rw [List.mem_singleton] at hp; subst hp
  exact ⟨by show s.size ≤ _; omega, fx.sh, by show x.sz ≤ _; omega⟩
end Go.Proofs.YtbdfjboojokgdaaDoor
namespace Go.Proofs.YtbdfjboojokgdaaDoor
open Go.RowKit

theorem ARow.tysN {base : Nat} {w : World} {us : List Ty} {v : Value} (h : ARow base w us v) : TysAt (fun b => base ≤ b) w us v := by
  obtain ⟨cs, ho, ht⟩ := h
  rcases ho.2 with ⟨h1, h2⟩ | ⟨g, cap, cur, h1, h2, h3, h4, h5, h6, h7⟩
  · have : us = [] := List.eq_nil_of_length_eq_zero h2
    subst this
    rw [h1]; exact tys_nil _ _ _ _ (Nat.zero_le _)
  · rw [h1] at ho
    refine ⟨some ⟨g, 0, none⟩, cap, fun i j => (cs[i * 4 + j]?).getD (.int .i64 0), h1, h4, h5, ?_, fun i hi => ?_⟩
    · rcases Nat.eq_zero_or_pos us.length with h0 | hpos
      · exact .inl (List.eq_nil_of_length_eq_zero h0)
      · refine .inr ⟨g, 0, rfl, h2, lt_of_block h3, fun i j hi hj => ?_⟩
        have h9 := World.ownsRow.cellAt ho (i * 4 + j) (by omega)
        rw [show 0 + i * 4 + j = i * 4 + j by omega, h9]
        have hlen : i * 4 + j < cs.length := by rw [ho.1]; omega
        show cs[i * 4 + j]? = some ((cs[i * 4 + j]?).getD (.int .i64 0))
        rw [List.getElem?_eq_getElem hlen, Option.getD_some]
    · obtain ⟨x0, x1, x2, x3, c0, c1, c2, c3, hx⟩ := ht i hi
      simp only [Nat.add_zero, c0, c1, c2, c3, Option.getD_some]
      exact hx.mono (fun _ hb => hb.1)
theorem news_four4 (w : World) (u0 u1 u2 u3 : Value) (t : TypeId) : ∀ j x, [u0, u1, u2, u3][j]? = some x → (w.alloc (.cells #[u0, u1, u2, u3] t)).cell? ((⟨w.heap.size, 0, none⟩ : Addr).add j) = some x := by
  intro j x hj
  match j with
  | 0 => simp at hj; subst hj; simp [go_sem, Addr.add]
  | 1 => simp at hj; subst hj; simp [go_sem, Addr.add]
  | 2 => simp at hj; subst hj; simp [go_sem, Addr.add]
  | 3 => simp at hj; subst hj; simp [go_sem, Addr.add]
  | j + 4 => simp at hj
theorem one_ty4 (f n : Int) (s : ByteArray) (A : Option Addr) (l c : Nat) : ∀ u ∈ [Value.int .i64 f, .int .i64 n, .string s, .slice A l c], u.oneCell' = true := by simp [Value.oneCell']
/-- A slice of slices of numbers as a call is handed it. -/
def MatAt (W : World) (zss : List (List Int)) (v : Value) : Prop := ∃ A c, v = .slice A zss.length c ∧ zss.length ≤ c ∧ c ≤ maxLen ∧ (zss = [] ∨ ∃ b off, A = some ⟨b, off, none⟩ ∧ b < W.heap.size ∧ b < W.heap.size ∧ ∀ i (h : i < zss.length), ∃ u, W.cell? ⟨b, off + i, none⟩ = some u ∧ IntsAt (fun b => b < W.heap.size) W u zss[i])
def SomeMat (W : World) (v : Value) : Prop := ∃ zss A c, v = .slice A zss.length c ∧ zss.length ≤ c ∧ c ≤ maxLen ∧ (zss = [] ∨ ∃ b off, A = some ⟨b, off, none⟩ ∧ b < W.heap.size ∧ b < W.heap.size ∧ ∀ i (h : i < zss.length), ∃ u, W.cell? ⟨b, off + i, none⟩ = some u ∧ IntsAt (fun b => b < W.heap.size) W u zss[i])
theorem MatAt.on {W W' : World} {zss : List (List Int)} {v : Value} (h : MatAt W zss v) (hb : Below W.heap.size W W') : MatAt W' zss v := by
  obtain ⟨A, c, e, h1, h2, hr⟩ := h
  refine ⟨A, c, e, h1, h2, ?_⟩
  rcases hr with hr | ⟨b, off, e2, hlt, _, hc⟩
  · exact .inl hr
  · have hz := hb.size
    refine .inr ⟨b, off, e2, by omega, by omega, fun i hi => ?_⟩
    obtain ⟨u, hu, hI⟩ := hc i hi
    exact ⟨u, (hb.cell (p := ⟨b, off + i, none⟩) hlt).trans hu, (hI.on hb).mono (fun b (hb2 : b < W.heap.size) => by omega)⟩
structure NmSt (W w : World) (ns : List ByteArray) (ts : List Ty) (av bv : Value) (cs : List Value) : Prop where
  own : OwnS W.heap.size w av ns
  row : w.ownsRow W.heap.size 25 4 bv ts.length cs
  tys : ∀ i (h : i < ts.length), ∃ x0 x1 x2 x3, cs[i * 4]? = some x0 ∧ cs[i * 4 + 1]? = some x1 ∧ cs[i * 4 + 2]? = some x2 ∧ cs[i * 4 + 3]? = some x3 ∧ TyAt (fun b => W.heap.size ≤ b ∧ bv.ownBlock ≠ some b ∧ av.ownBlock ≠ some b) w ts[i] (.agg #[x0, x1, x2, x3])
  apart : ∀ g, av.ownBlock = some g → bv.ownBlock ≠ some g
  bel : Below W.heap.size W w
theorem NmSt.nil (w : World) : NmSt w w [] [] (.slice none 0 0) (.slice none 0 0) [] := ⟨OwnS.nil _ _, World.ownsRow_nil _ _ _ _, fun _ h => absurd h (Nat.not_lt_zero _), fun _ h => (by cases h), Below.refl _ _⟩
theorem NmSt.on {W w w1 : World} {ns : List ByteArray} {ts : List Ty} {av bv : Value} {cs : List Value} (h : NmSt W w ns ts av bv cs) (hb : Below w.heap.size w w1) : NmSt W w1 ns ts av bv cs :=
  ⟨own_below h.own hb, own_below h.row hb, fun i hi => by
    obtain ⟨x0, x1, x2, x3, c0, c1, c2, c3, hx⟩ := h.tys i hi
    exact ⟨x0, x1, x2, x3, c0, c1, c2, c3, hx.on hb⟩, h.apart, h.bel.trans (hb.mono h.bel.size)⟩
theorem NmSt.pushN {W w w1 : World} {ns : List ByteArray} {ts : List Ty} {av bv : Value} {cs : List Value} (h : NmSt W w ns ts av bv cs) {g cap : Nat} {s : ByteArray} (h2 : w1.ownsRow W.heap.size 9 1 (.slice (some ⟨g, 0, none⟩) (ns.length + 1) cap) (ns.length + 1) (ns.map Value.string ++ [.string s])) (hg : w.grownBy w1 av.ownBlock) (hat : av.ownBlock = some g ∨ g = w.heap.size) :
    NmSt W w1 (ns ++ [s]) ts (.slice (some ⟨g, 0, none⟩) (ns.length + 1) cap) bv cs := by
  refine ⟨by unfold OwnS; rw [List.map_append, List.length_append]; exact h2, own_keep h.row (fun q hq => hg.block q (World.ownsRow.lt h.row q hq).2 (fun e => h.apart q e.symm hq)), fun i hi => ?_, fun q hq => ?_, grown_below h.bel hg (fun k hk => (World.ownsRow.lt h.own k hk).1) h.bel.size⟩
  · obtain ⟨x0, x1, x2, x3, c0, c1, c2, c3, hx⟩ := h.tys i hi
    have h1 := hx.bound.keep (w' := w1) ⟨hg.size, fun b off hp hlt => World.cell?_of_block (a := ⟨b, off, none⟩) (hg.block b hlt (fun e => hp.1.2.2 e.symm))⟩
    refine ⟨x0, x1, x2, x3, c0, c1, c2, c3, h1.mono (fun b hb => ⟨hb.1.1, hb.1.2.1, fun e => ?_⟩)⟩
    injection e with e
    obtain rfl : g = _ := e
    rcases hat with h9 | h9
    · exact hb.1.2.2 h9
    · have := hb.2; omega
  · injection hq with hq
    obtain rfl : g = _ := hq
    rcases hat with h9 | h9
    · exact h.apart _ h9
    · intro e
      have := (World.ownsRow.lt h.row _ e).2
      omega
theorem NmSt.pushB {W w w1 : World} {ns : List ByteArray} {ts : List Ty} {av bv : Value} {cs : List Value} (h : NmSt W w ns ts av bv cs) {g cap : Nat} {t : Ty} {x0 x1 x2 x3 : Value} (hx : TyAt (fun b => W.heap.size ≤ b ∧ bv.ownBlock ≠ some b ∧ av.ownBlock ≠ some b) w t (.agg #[x0, x1, x2, x3])) (h2 : w1.ownsRow W.heap.size 25 4 (.slice (some ⟨g, 0, none⟩) (ts.length + 1) cap) (ts.length + 1) (cs ++ [x0, x1, x2, x3])) (hg : w.grownBy w1 bv.ownBlock) (hat : bv.ownBlock = some g ∨ g = w.heap.size) :
    NmSt W w1 ns (ts ++ [t]) av (.slice (some ⟨g, 0, none⟩) (ts.length + 1) cap) (cs ++ [x0, x1, x2, x3]) := by
  have hcl : cs.length = ts.length * 4 := h.row.1
  have hk : ∀ {t : Ty} {u : Value}, TyAt (fun b => W.heap.size ≤ b ∧ bv.ownBlock ≠ some b ∧ av.ownBlock ≠ some b) w t u → TyAt (fun b => W.heap.size ≤ b ∧ (Value.slice (some ⟨g, 0, none⟩) (ts.length + 1) cap).ownBlock ≠ some b ∧ av.ownBlock ≠ some b) w1 t u := by
    intro t u h0
    have h1 := h0.bound.keep (w' := w1) ⟨hg.size, fun b off hp hlt => World.cell?_of_block (a := ⟨b, off, none⟩) (hg.block b hlt (fun e => hp.1.2.1 e.symm))⟩
    refine h1.mono (fun b hb => ⟨hb.1.1, fun e => ?_, hb.1.2.2⟩)
    injection e with e
    obtain rfl : g = _ := e
    rcases hat with h9 | h9
    · exact hb.1.2.1 h9
    · have := hb.2; omega
  refine ⟨own_keep h.own (fun q hq => hg.block q (World.ownsRow.lt h.own q hq).2 (fun e => h.apart q hq e.symm)), by rw [List.length_append]; exact h2, fun i hi => ?_, fun q hq e => ?_, grown_below h.bel hg (fun k hk => (World.ownsRow.lt h.row k hk).1) h.bel.size⟩
  · rw [List.length_append] at hi
    simp only [List.length_cons, List.length_nil] at hi
    by_cases hit : i < ts.length
    · obtain ⟨y0, y1, y2, y3, c0, c1, c2, c3, hy⟩ := h.tys i hit
      rw [List.getElem_append_left hit]
      refine ⟨y0, y1, y2, y3, ?_, ?_, ?_, ?_, hk hy⟩
      · rw [List.getElem?_append_left (by omega)]; exact c0
      · rw [List.getElem?_append_left (by omega)]; exact c1
      · rw [List.getElem?_append_left (by omega)]; exact c2
      · rw [List.getElem?_append_left (by omega)]; exact c3
    · have hi' : i = ts.length := by omega
      subst hi'
      rw [List.getElem_append_right (Nat.le_refl _)]
      simp only [Nat.sub_self, List.getElem_cons_zero]
      refine ⟨x0, x1, x2, x3, ?_, ?_, ?_, ?_, hk hx⟩
      · rw [List.getElem?_append_right (by omega), hcl, Nat.sub_self]; rfl
      · rw [List.getElem?_append_right (by omega), hcl, show ts.length * 4 + 1 - ts.length * 4 = 1 by omega]; rfl
      · rw [List.getElem?_append_right (by omega), hcl, show ts.length * 4 + 2 - ts.length * 4 = 2 by omega]; rfl
      · rw [List.getElem?_append_right (by omega), hcl, show ts.length * 4 + 3 - ts.length * 4 = 3 by omega]; rfl
  · injection e with e
    obtain rfl : g = _ := e
    rcases hat with h9 | h9
    · exact h.apart _ hq h9
    · have := (World.ownsRow.lt h.own _ hq).2; omega
theorem NmSt.arow {W w : World} {ns : List ByteArray} {ts : List Ty} {av bv : Value} {cs : List Value} (h : NmSt W w ns ts av bv cs) : ARow W.heap.size w ts bv := ⟨cs, h.row, fun i hi => by
  obtain ⟨x0, x1, x2, x3, c0, c1, c2, c3, hx⟩ := h.tys i hi
  exact ⟨x0, x1, x2, x3, c0, c1, c2, c3, hx.mono (fun b hb => ⟨hb.1, hb.2.1⟩)⟩⟩
/-- The names that a law gives. -/
def lawN (n : Int) (k : Nat) : List ByteArray := (List.range k).map (fun i => nameS (aroundI n 4 + (i : Nat)))
theorem lawN_len (n : Int) (k : Nat) : (lawN n k).length = k := by unfold lawN; simp
theorem lawN_succ (n : Int) (k : Nat) : lawN n (k + 1) = lawN n k ++ [nameS (aroundI n 4 + (k : Nat))] := by unfold lawN; rw [List.range_succ, List.map_append]; rfl
def lawT (zss : List (List Int)) (k : Nat) : List Ty := (zss.take k).map madeZ
theorem lawT_succ {zss : List (List Int)} {k : Nat} (h : k < zss.length) : lawT zss (k + 1) = lawT zss k ++ [madeZ zss[k]] := by unfold lawT; rw [List.take_succ_eq_append_getElem h, List.map_append]; rfl
theorem lawT_len {zss : List (List Int)} {k : Nat} (h : k ≤ zss.length) : (lawT zss k).length = k := by unfold lawT; rw [List.length_map, List.length_take]; omega
set_option maxRecDepth 100000 in
set_option maxHeartbeats 2000000 in
theorem names_any (n : Int) (v : Value) (zss : List (List Int)) (w : World) (h : MatAt w zss v) (h1 : -9223372036854775808 ≤ n) (h2 : n ≤ 9223372036854775807) :
    Calls Tryd.prog 27 #[.int .i64 n, v] w fun e w' => ∃ k nv bv, e = .returned (.tuple #[nv, bv]) ∧ k ≤ 3 ∧ k ≤ zss.length ∧ StrsAt (fun _ => True) w' nv (lawN n k) ∧ TysAt (fun _ => True) w' (lawT zss k) bv ∧ Below w.heap.size w w' := by
  have HA := Lib.hid (fun W => around_is n 4 W h1 h2 (by omega) (by omega))
  obtain ⟨A, c, rfl, hc, hcm, hrow⟩ := h
  have hbd := aroundI_bd n 4 (by omega)
  have HN := Lib.hid (fun (k : Nat) (hk : k < 3) (q : World) => name_any (aroundI n 4 + (k : Nat)) q (by omega) (by omega))
  have HS := Lib.hid (fun (k : Nat) => lawN_succ n k)
  have HT := Lib.hid (fun (k : Nat) (hk : k < zss.length) => lawT_succ hk)
  have HSL := Lib.hid (fun (k : Nat) => lawN_len n k)
  have HTL := Lib.hid (fun (k : Nat) (hk : k ≤ zss.length) => lawT_len hk)
  have HROW := Lib.hid hrow
  obtain ⟨i9, hi9, hz90, hz9s, hz9b⟩ := info_parts' Tryd.info9
  obtain ⟨i0, hi0, hz0, hzs, hzb⟩ := info_parts' Tryd.info25
  have hzl : zss.length ≤ 9223372036854775807 := by unfold maxLen at hcm; omega
  generalize lawN n = NL at *
  generalize lawT zss = TL at *
  generalize hmm : aroundI n 4 = m at *
  clear hmm h1 h2 hrow
  go_enter Tryd.func27, Tryd.ntmps27
  go_wp2
  go_loopw [6, 7, 8] (fun a b i wr => ∃ (k : Nat) (cs : List Value), k ≤ 3 ∧ k ≤ zss.length ∧ i = .int .i64 k ∧ NmSt w wr (NL k) (TL k) a b cs) (fun _ _ i _ => 3 - (intOf i).toNat)
  case atStart => exact ⟨0, [], by omega, by omega, rfl, by rw [List.eq_nil_of_length_eq_zero (HSL.out 0), List.eq_nil_of_length_eq_zero (HTL.out 0 (Nat.zero_le _))]; exact NmSt.nil w⟩
  case round =>
    obtain ⟨k, cs, hk3, hkz, rfl, hst⟩ := hrel
    have hoa := hst.own
    have hob := hst.row
    unfold OwnS at hoa
    rw [HSL.out k] at hoa
    rw [HTL.out k hkz] at hob
    obtain ⟨Aa, ca, rfl⟩ := own_form hoa
    obtain ⟨Ab, cb, rfl⟩ := own_form hob
    have HST := Lib.hid hst
    clear hst hoa hob
    by_cases hlt : k < zss.length
    · obtain ⟨b, off, rfl, hbw, _, hcell⟩ := HROW.out.resolve_left (fun e => by rw [e] at hlt; exact absurd hlt (Nat.not_lt_zero _))
      obtain ⟨u, hu, hI⟩ := hcell k hlt
      obtain ⟨A5, c5, rfl⟩ := hI.slice
      have HCELL : Hid (∀ x, Below w.heap.size w x → x.cell? ⟨b, off + k, none⟩ = some (.slice A5 (zss[k]).length c5)) := fun x hx => (hx.cell (p := ⟨b, off + k, none⟩) hbw).trans hu
      have HMADE : Hid (∀ x, Below w.heap.size w x → Calls Tryd.prog 12 #[.slice A5 (zss[k]).length c5] x (TyMade x (madeZ zss[k]))) := fun x hx => made_any _ _ _ x (hI.on hx)
      clear hu hI hcell
      have hki : (k : Int) < (zss.length : Int) := by omega
      have hk0 : (0 : Int) ≤ (k : Int) := by omega
      by_cases hl3 : k < 3
      · have hk3i : (k : Int) < 3 := by omega
        have HNK := Lib.hid (HN.out k hl3)
        have HSK := Lib.hid (HS.out k)
        have HTK := Lib.hid (HT.out k hlt)
        have HSLK := Lib.hid (HSL.out k)
        have HTLK := Lib.hid (HTL.out k hkz)
        go_wp2_with fail
        (with_reducible refine (HA.out _).mono ?_)
        rintro e wq ⟨rfl, rfl⟩
        generalize nameS (m + (k : Nat)) = sn at *
        generalize madeZ zss[k] = tk at *
        generalize (zss[k]).length = zl at *
        go_wp2_with fail
        (with_reducible refine (HNK.out _).mono ?_)
        rintro e q ⟨rfl, hq⟩
        have HSQ := Lib.hid ((HST.out.on hq).on (below_new q (.cells #[.string sn] 9)))
        have HSTEP : Hid (∀ (w2 : World) (gg cap : Nat), w2.ownsRow w.heap.size 9 1 (.slice (some ⟨gg, 0, none⟩) (k + 1) cap) (k + 1) ((NL k).map Value.string ++ [.string sn]) → (q.alloc (.cells #[.string sn] 9)).grownBy w2 (Value.slice Aa k ca).ownBlock → ((Value.slice Aa k ca).ownBlock = some gg ∨ gg = q.heap.size + 1) → NmSt w w2 (NL k ++ [sn]) (TL k) (.slice (some ⟨gg, 0, none⟩) (k + 1) cap) (.slice Ab k cb) cs) := fun w2 gg cap h2 g2 hat => by
          have h9 := HSQ.out.pushN (g := gg) (cap := cap) (s := sn) (w1 := w2) (by rw [HSLK.out]; exact h2) g2 (by rcases hat with h | h; (· exact .inl h); (· right; rw [h]; simp))
          rw [HSLK.out] at h9
          exact h9
        have HOWN : Hid ((q.alloc (.cells #[.string sn] 9)).ownsRow w.heap.size 9 1 (.slice Aa k ca) k ((NL k).map Value.string)) := by
          have h9 := HSQ.out.own
          unfold OwnS at h9
          rw [HSLK.out] at h9
          exact h9
        have HNEW := Lib.hid (news_one q (.string sn) 9)
        have HONE := Lib.hid (one_str sn)
        have hwq : w.heap.size ≤ q.heap.size := Nat.le_trans HST.out.bel.size hq.size
        clear hq
        generalize (NL k).map Value.string = mv at *
        go_wp2_with (at_builtin; refine wpList_append_lies _ rfl (.tmp 19) (.tmp 25) 28 rfl w.heap.size 9 i9 (.string ⟨#[]⟩) 1 16 Tryd.underlying28 hi9 hz90 hz9s hz9b rfl (by decide) (.slice Aa k ca) k mv rfl HOWN.out ⟨q.heap.size, 0, none⟩ 1 1 [.string sn] rfl rfl HNEW.out HONE.out (by omega) (by unfold maxLen; omega) (by omega) (by simp; omega) (q.heap.size + 1) (by simp) ?_; intro gg cap w2 h2 g2 hat _; have HP := Lib.hid (HSTEP.out w2 gg cap h2 g2 hat); have hcl2 := HCELL.out w2 HP.out.bel; clear h2 g2 hat HSTEP HOWN HNEW HONE)
        (with_reducible refine (HMADE.out w2 HP.out.bel).mono ?_)
        rintro e y ⟨tv, rfl, ht, hb⟩
        obtain ⟨f3, n3, s3, A3, l3, c3, rfl⟩ := ht.flat
        have hby := below_new y (.cells #[.int .i64 f3, .int .i64 n3, .string s3, .slice A3 l3 c3] 25)
        have HSY := Lib.hid ((HP.out.on hb).on hby)
        have HX : Hid (TyAt (fun b => w.heap.size ≤ b ∧ (Value.slice Ab k cb).ownBlock ≠ some b ∧ (Value.slice (some ⟨gg, 0, none⟩) (k + 1) cap).ownBlock ≠ some b) (y.alloc (.cells #[.int .i64 f3, .int .i64 n3, .string s3, .slice A3 l3 c3] 25)) tk (.agg #[.int .i64 f3, .int .i64 n3, .string s3, .slice A3 l3 c3])) :=
          (ht.on hby).mono (fun b (hb1 : w2.heap.size ≤ b) => ⟨Nat.le_trans HP.out.bel.size hb1, fun e => by have := (World.ownsRow.lt HP.out.row b e).2; omega, fun e => by have := (World.ownsRow.lt HP.out.own b e).2; omega⟩)
        have HSTEP : Hid (∀ (w4 : World) (g4 cap4 : Nat), w4.ownsRow w.heap.size 25 4 (.slice (some ⟨g4, 0, none⟩) (k + 1) cap4) (k + 1) (cs ++ [.int .i64 f3, .int .i64 n3, .string s3, .slice A3 l3 c3]) → (y.alloc (.cells #[.int .i64 f3, .int .i64 n3, .string s3, .slice A3 l3 c3] 25)).grownBy w4 (Value.slice Ab k cb).ownBlock → ((Value.slice Ab k cb).ownBlock = some g4 ∨ g4 = y.heap.size + 1) → NmSt w w4 (NL k ++ [sn]) (TL k ++ [tk]) (.slice (some ⟨gg, 0, none⟩) (k + 1) cap) (.slice (some ⟨g4, 0, none⟩) (k + 1) cap4) (cs ++ [.int .i64 f3, .int .i64 n3, .string s3, .slice A3 l3 c3])) := fun w4 g4 cap4 h2 g2 hat => by
          have h9 := HSY.out.pushB (g := g4) (cap := cap4) (t := tk) (w1 := w4) HX.out (by rw [HTLK.out]; exact h2) g2 (by rcases hat with h | h; (· exact .inl h); (· right; rw [h]; simp))
          rw [HTLK.out] at h9
          exact h9
        have HOWN : Hid ((y.alloc (.cells #[.int .i64 f3, .int .i64 n3, .string s3, .slice A3 l3 c3] 25)).ownsRow w.heap.size 25 4 (.slice Ab k cb) k cs) := by
          have h9 := HSY.out.row
          rw [HTLK.out] at h9
          exact h9
        have HNEW := Lib.hid (news_four4 y (.int .i64 f3) (.int .i64 n3) (.string s3) (.slice A3 l3 c3) 25)
        have HONE := Lib.hid (one_ty4 f3 n3 s3 A3 l3 c3)
        have hwy : w.heap.size ≤ y.heap.size := Nat.le_trans HP.out.bel.size hb.size
        clear ht hb hby hcl2 HCELL HMADE HP HX
        go_wp2_with (at_builtin; refine wpList_append_lies _ rfl (.tmp 27) (.tmp 33) 23 rfl w.heap.size 25 i0 (.agg #[.int .i64 0, .int .i64 0, .string ⟨#[]⟩, .slice none 0 0]) 4 56 Tryd.underlying23 hi0 hz0 hzs hzb rfl (by decide) (.slice Ab k cb) k cs rfl HOWN.out ⟨y.heap.size, 0, none⟩ 1 1 [.int .i64 f3, .int .i64 n3, .string s3, .slice A3 l3 c3] rfl rfl HNEW.out HONE.out (by omega) (by unfold maxLen; omega) (by omega) (by simp; omega) (y.heap.size + 1) (by simp) ?_; intro g4 cap4 w4 h2 g2 hat _; have HP := Lib.hid (HSTEP.out w4 g4 cap4 h2 g2 hat); clear h2 g2 hat HSTEP HOWN HNEW HONE)
        go_roundw
        case rel => exact ⟨k + 1, _, by omega, by omega, by go_num, by rw [HSK.out, HTK.out]; exact HP.out⟩
        case measure => simp [intOf]; omega
      · have hk3i : ¬ (k : Int) < 3 := by omega
        go_wp2_with fail
        go_ret2
        exact ⟨k, _, _, rfl, hk3, hkz, (HST.out.own.strs).mono (fun _ _ => trivial), HST.out.arow.tysN.all, HST.out.bel⟩
    · have hki : ¬ (k : Int) < (zss.length : Int) := by omega
      go_wp2_with fail
      go_ret2
      exact ⟨k, _, _, rfl, hk3, hkz, (HST.out.own.strs).mono (fun _ _ => trivial), HST.out.arow.tysN.all, HST.out.bel⟩
end Go.Proofs.YtbdfjboojokgdaaDoor
