/- Rows of types that a call appends to, and the contract of slices.Reverse at types. No conditions but those that each theorem names. Rows that a call owns, in a box or a slot: what stays of them (no program but the types' numbers). -/
import Derived.Test.YtbdfjboojokgdaaDoorJU14
import Derived.Test.YtbdfjboojokgdaaDoorJU12
import Derived.Test.YtbdfjboojokgdaaDoorJU10
import Derived.Deep.AppendLies
namespace Go.Proofs.YtbdfjboojokgdaaDoor
open Go.RowKit

/-- A row of types that a call owns: its own block, and types that lie elsewhere. -/
def ARow (base : Nat) (w : World) (ts : List Ty) (v : Value) : Prop :=
  ∃ cs : List Value, w.ownsRow base 25 4 v ts.length cs ∧ ∀ i (h : i < ts.length), ∃ x0 x1 x2 x3, cs[i * 4]? = some x0 ∧ cs[i * 4 + 1]? = some x1 ∧ cs[i * 4 + 2]? = some x2 ∧ cs[i * 4 + 3]? = some x3 ∧ TyAt (fun b => base ≤ b ∧ v.ownBlock ≠ some b) w ts[i] (.agg #[x0, x1, x2, x3])
theorem ARow.nil (base : Nat) (w : World) : ARow base w [] (.slice none 0 0) := ⟨[], World.ownsRow_nil w base 25 4, fun _ h => absurd h (Nat.not_lt_zero _)⟩
theorem own_below {w w' : World} {base : Nat} {e : TypeId} {size : Nat} {v : Value} {n : Nat} {xs : List Value} (h : w.ownsRow base e size v n xs) (hb : Below w.heap.size w w') : w'.ownsRow base e size v n xs := by
  refine ⟨h.1, ?_⟩
  rcases h.2 with h2 | ⟨g, cap, cur, h1, h2, h3, h4⟩
  · exact .inl h2
  · refine .inr ⟨g, cap, cur, h1, h2, ?_, h4⟩
    have hg : g < w.heap.size := by
      rcases Nat.lt_or_ge g w.heap.size with h9 | h9
      · exact h9
      · rw [Array.getElem?_eq_none h9] at h3; cases h3
    exact (hb.block g hg).trans h3
theorem ARow.on {base : Nat} {w w' : World} {ts : List Ty} {v : Value} (h : ARow base w ts v) (hb : Below w.heap.size w w') : ARow base w' ts v := by
  obtain ⟨cs, ho, ht⟩ := h
  refine ⟨cs, own_below ho hb, fun i hi => ?_⟩
  obtain ⟨x0, x1, x2, x3, c0, c1, c2, c3, hx⟩ := ht i hi
  exact ⟨x0, x1, x2, x3, c0, c1, c2, c3, hx.on hb⟩
theorem ARow.form {base : Nat} {w : World} {ts : List Ty} {v : Value} (h : ARow base w ts v) : ∃ A c, v = .slice A ts.length c := by
  obtain ⟨cs, ho, _⟩ := h
  rcases ho.2 with ⟨h1, h2⟩ | ⟨g, cap, cur, h1, _⟩
  · exact ⟨none, 0, by rw [h1, h2]⟩
  · exact ⟨_, _, h1⟩
/-- One more, behind an append. -/
theorem ARow.push {base : Nat} {w w' : World} {ts : List Ty} {v v' : Value} {t : Ty} {cs : List Value} {x0 x1 x2 x3 : Value}
    (ho : w.ownsRow base 25 4 v ts.length cs) (ht : ∀ i (h : i < ts.length), ∃ x0 x1 x2 x3, cs[i * 4]? = some x0 ∧ cs[i * 4 + 1]? = some x1 ∧ cs[i * 4 + 2]? = some x2 ∧ cs[i * 4 + 3]? = some x3 ∧ TyAt (fun b => base ≤ b ∧ v.ownBlock ≠ some b) w ts[i] (.agg #[x0, x1, x2, x3]))
    (hx : TyAt (fun b => base ≤ b ∧ v.ownBlock ≠ some b) w t (.agg #[x0, x1, x2, x3]))
    (ho' : w'.ownsRow base 25 4 v' (ts.length + 1) (cs ++ [x0, x1, x2, x3])) (hg : w.grownBy w' v.ownBlock) (hat : v'.ownBlock = v.ownBlock ∨ v'.ownBlock = some w.heap.size) : ARow base w' (ts ++ [t]) v' := by
  have hcl : cs.length = ts.length * 4 := ho.1
  have hk : ∀ {t : Ty} {u : Value}, TyAt (fun b => base ≤ b ∧ v.ownBlock ≠ some b) w t u → TyAt (fun b => base ≤ b ∧ v'.ownBlock ≠ some b) w' t u := by
    intro t u h
    have h1 := h.bound.keep (w' := w') ⟨hg.size, fun b off hp hlt => World.cell?_of_block (a := ⟨b, off, none⟩) (hg.block b hlt (fun e => hp.1.2 e.symm))⟩
    refine h1.mono (fun b hb => ⟨hb.1.1, fun e => ?_⟩)
    rcases hat with h9 | h9
    · exact hb.1.2 (h9 ▸ e)
    · rw [h9] at e; injection e with e; have := hb.2; omega
  refine ⟨cs ++ [x0, x1, x2, x3], by rw [List.length_append]; exact ho', fun i hi => ?_⟩
  rw [List.length_append] at hi
  simp only [List.length_cons, List.length_nil] at hi
  by_cases hit : i < ts.length
  · obtain ⟨y0, y1, y2, y3, c0, c1, c2, c3, hy⟩ := ht i hit
    rw [List.getElem_append_left hit]
    refine ⟨y0, y1, y2, y3, ?_, ?_, ?_, ?_, hk hy⟩
    · rw [List.getElem?_append_left (by omega)]; exact c0
    · rw [List.getElem?_append_left (by omega)]; exact c1
    · rw [List.getElem?_append_left (by omega)]; exact c2
    · rw [List.getElem?_append_left (by omega)]; exact c3
  · have hi' : i = ts.length := by omega
    subst hi'
    rw [List.getElem_append_right (Nat.le_refl _)]
    simp only [Nat.sub_self, List.getElem_cons_zero]
    refine ⟨x0, x1, x2, x3, ?_, ?_, ?_, ?_, hk hx⟩
    · rw [List.getElem?_append_right (by omega), hcl, Nat.sub_self]; rfl
    · rw [List.getElem?_append_right (by omega), hcl, show ts.length * 4 + 1 - ts.length * 4 = 1 by omega]; rfl
    · rw [List.getElem?_append_right (by omega), hcl, show ts.length * 4 + 2 - ts.length * 4 = 2 by omega]; rfl
    · rw [List.getElem?_append_right (by omega), hcl, show ts.length * 4 + 3 - ts.length * 4 = 3 by omega]; rfl
/-- A row of types in one block, by their numbers. -/
def RowF (base : Nat) (w : World) (g n : Nat) (f : Nat → Ty) : Prop := ∀ k, k < n → ∃ x0 x1 x2 x3, w.cell? ⟨g, k * 4, none⟩ = some x0 ∧ w.cell? ⟨g, k * 4 + 1, none⟩ = some x1 ∧ w.cell? ⟨g, k * 4 + 2, none⟩ = some x2 ∧ w.cell? ⟨g, k * 4 + 3, none⟩ = some x3 ∧ TyAt (fun b => base ≤ b ∧ b ≠ g) w (f k) (.agg #[x0, x1, x2, x3])
theorem RowF.form {base : Nat} {w : World} {g n : Nat} {f : Nat → Ty} (h : RowF base w g n f) (k : Nat) (hk : k < n) : ∃ (f1 n1 : Int) (s1 : ByteArray) (A1 : Option Addr) (l1 c1 : Nat), w.cell? ⟨g, k * 4, none⟩ = some (.int .i64 f1) ∧ w.cell? ⟨g, k * 4 + 1, none⟩ = some (.int .i64 n1) ∧ w.cell? ⟨g, k * 4 + 2, none⟩ = some (.string s1) ∧ w.cell? ⟨g, k * 4 + 3, none⟩ = some (.slice A1 l1 c1) ∧ TyAt (fun b => base ≤ b ∧ b ≠ g) w (f k) (.agg #[.int .i64 f1, .int .i64 n1, .string s1, .slice A1 l1 c1]) := by
  obtain ⟨x0, x1, x2, x3, c0, c1, c2, c3, hx⟩ := h k hk
  obtain ⟨f1, n1, s1, A1, l1, c1', e⟩ := hx.flat
  simp only [Value.agg.injEq, Array.mk.injEq, List.cons.injEq, and_true] at e
  obtain ⟨rfl, rfl, rfl, rfl⟩ := e
  exact ⟨f1, n1, s1, A1, l1, c1', c0, c1, c2, c3, hx⟩
/-- One of a row is stored anew. -/
theorem RowF.put {base : Nat} {w : World} {g n N : Nat} {f : Nat → Ty} (h : RowF base w g n f) (hB : Blk w g N) (i : Nat) (hN : n * 4 ≤ N) (hi : i < n) {t : Ty} {x0 x1 x2 x3 : Value} (ht : TyAt (fun b => base ≤ b ∧ b ≠ g) w t (.agg #[x0, x1, x2, x3])) :
    RowF base ((((w.setCell ⟨g, i * 4, none⟩ x0).setCell ⟨g, i * 4 + 1, none⟩ x1).setCell ⟨g, i * 4 + 2, none⟩ x2).setCell ⟨g, i * 4 + 3, none⟩ x3) g n (fun k => if k = i then t else f k) ∧ Blk ((((w.setCell ⟨g, i * 4, none⟩ x0).setCell ⟨g, i * 4 + 1, none⟩ x1).setCell ⟨g, i * 4 + 2, none⟩ x2).setCell ⟨g, i * 4 + 3, none⟩ x3) g N ∧ Keeps (fun b => base ≤ b ∧ b ≠ g) w ((((w.setCell ⟨g, i * 4, none⟩ x0).setCell ⟨g, i * 4 + 1, none⟩ x1).setCell ⟨g, i * 4 + 2, none⟩ x2).setCell ⟨g, i * 4 + 3, none⟩ x3) := by
  have hself : ∀ (W : World) (k : Nat) (v : Value), Blk W g N → k < N → (W.setCell ⟨g, k, none⟩ v).cell? ⟨g, k, none⟩ = some v := fun W k v hb hk => by
    obtain ⟨u, hu⟩ := hb.cell hk
    exact World.cell?_setCell_same' _ _ _ (by rw [hu]; rfl)
  have hK : Keeps (fun b => base ≤ b ∧ b ≠ g) w ((((w.setCell ⟨g, i * 4, none⟩ x0).setCell ⟨g, i * 4 + 1, none⟩ x1).setCell ⟨g, i * 4 + 2, none⟩ x2).setCell ⟨g, i * 4 + 3, none⟩ x3) :=
    (((Keeps.setCell (fun e => e.2 rfl) _).trans (.setCell (fun e => e.2 rfl) _)).trans (.setCell (fun e => e.2 rfl) _)).trans (.setCell (fun e => e.2 rfl) _)
  have b1 := hB.setCell (i * 4) x0
  have b2 := b1.setCell (i * 4 + 1) x1
  have b3 := b2.setCell (i * 4 + 2) x2
  refine ⟨fun k hk => ?_, b3.setCell _ _, hK⟩
  by_cases hik : k = i
  · subst hik
    refine ⟨x0, x1, x2, x3, ?_, ?_, ?_, ?_, by dsimp only; rw [if_pos rfl]; exact ht.keep hK⟩
    · rw [cell_set_ne _ _ _ _ _ (by omega), cell_set_ne _ _ _ _ _ (by omega), cell_set_ne _ _ _ _ _ (by omega)]; exact hself _ _ _ hB (by omega)
    · rw [cell_set_ne _ _ _ _ _ (by omega), cell_set_ne _ _ _ _ _ (by omega)]; exact hself _ _ _ b1 (by omega)
    · rw [cell_set_ne _ _ _ _ _ (by omega)]; exact hself _ _ _ b2 (by omega)
    · exact hself _ _ _ b3 (by omega)
  · obtain ⟨y0, y1, y2, y3, c0, c1, c2, c3, hy⟩ := h k hk
    refine ⟨y0, y1, y2, y3, ?_, ?_, ?_, ?_, by dsimp only; rw [if_neg hik]; exact hy.keep hK⟩
    all_goals rw [cell_set_ne _ _ _ _ _ (by omega), cell_set_ne _ _ _ _ _ (by omega), cell_set_ne _ _ _ _ _ (by omega), cell_set_ne _ _ _ _ _ (by omega)]
    · exact c0
    · exact c1
    · exact c2
    · exact c3
/-- A row behind so many swaps. -/
def swp (n k : Nat) (f : Nat → Ty) (m : Nat) : Ty := if m < k ∨ n ≤ m + k then f (n - 1 - m) else f m
theorem RowF.drew {base : Nat} {w : World} {g n : Nat} {f : Nat → Ty} (h : RowF base w g n f) : RowF base w.drew g n f := fun k hk => by
  obtain ⟨x0, x1, x2, x3, c0, c1, c2, c3, hx⟩ := h k hk
  exact ⟨x0, x1, x2, x3, c0, c1, c2, c3, hx.on (Below.refl _ _).drew⟩
theorem RowF.same {base : Nat} {w : World} {g n : Nat} {f f' : Nat → Ty} (h : RowF base w g n f) (he : ∀ k, k < n → f k = f' k) : RowF base w g n f' := fun k hk => by rw [← he k hk]; exact h k hk
theorem swp_step {n k m : Nat} (hm : m = n - 1 - k) (hlt : 2 * k + 1 < n) (f : Nat → Ty) (q : Nat) (hq : q < n) : (if q = m then swp n k f k else if q = k then swp n k f m else swp n k f q) = swp n (k + 1) f q := by
  have hk : swp n k f k = f k := by unfold swp; rw [if_neg (by omega)]
  have hmm : swp n k f m = f m := by unfold swp; rw [if_neg (by omega)]
  rw [hk, hmm]
  by_cases h1 : q = m
  · rw [if_pos h1]; unfold swp; rw [if_pos (by omega)]; congr 1; omega
  · rw [if_neg h1]
    by_cases h2 : q = k
    · rw [if_pos h2]; unfold swp; rw [if_pos (by omega)]; congr 1; omega
    · rw [if_neg h2]; unfold swp
      by_cases h3 : q < k ∨ n ≤ q + k
      · rw [if_pos h3, if_pos (by omega)]
      · rw [if_neg h3, if_neg (by omega)]
theorem swp_end {n k : Nat} (hlt : ¬ 2 * k + 1 < n) (hk : 2 * k ≤ n + 1) (f : Nat → Ty) (q : Nat) (hq : q < n) : swp n k f q = f (n - 1 - q) := by
  unfold swp
  by_cases h3 : q < k ∨ n ≤ q + k
  · rw [if_pos h3]
  · rw [if_neg h3]; congr 1; omega
theorem rev_end {base : Nat} {w Y : World} {g n N : Nat} {f f' : Nat → Ty} (h1 : RowF base Y g n f) (h2 : Blk Y g N) (h3 : Keeps (fun b => base ≤ b ∧ b ≠ g) w Y) (h4 : Below g w Y) (h5 : ∀ q, q < n → f q = f' q) : RowF base Y.drew g n f' ∧ Blk Y.drew g N ∧ Keeps (fun b => base ≤ b ∧ b ≠ g) w Y.drew ∧ Below g w Y.drew :=
  ⟨(h1.same h5).drew, h2, h3.trans (.of_below (Below.refl _ _).drew), h4.drew⟩
end Go.Proofs.YtbdfjboojokgdaaDoor
namespace Go.Proofs.YtbdfjboojokgdaaDoor
open Go.RowKit

theorem own_type {w : World} {base : Nat} {e : TypeId} {size : Nat} {v : Value} {n : Nat} {xs : List Value} (h : w.ownsRow base e size v n xs) {g : Nat} (hg : v.ownBlock = some g) : ∃ cur, w.heap[g]? = some (.cells cur e) := by
  rcases h.2 with ⟨h1, _⟩ | ⟨g', cap, cur, h1, _, h3, _⟩
  · rw [h1] at hg; cases hg
  · rw [h1] at hg; injection hg with hg; exact ⟨cur, by rw [← hg]; exact h3⟩
theorem own_not {w : World} {base : Nat} {e e' : TypeId} {size : Nat} {v : Value} {n : Nat} {xs : List Value} (h : w.ownsRow base e size v n xs) {b : Nat} {cs : Array Value} (hb : w.heap[b]? = some (.cells cs e')) (hne : e ≠ e') : v.ownBlock ≠ some b := fun hg => by
  obtain ⟨cur, h1⟩ := own_type h hg
  rw [h1] at hb; injection hb with hb; injection hb with _ hb; exact hne hb
theorem own_keep {w w' : World} {base : Nat} {e : TypeId} {size : Nat} {v : Value} {n : Nat} {xs : List Value} (h : w.ownsRow base e size v n xs) (hb : ∀ g, v.ownBlock = some g → w'.heap[g]? = w.heap[g]?) : w'.ownsRow base e size v n xs := by
  refine ⟨h.1, ?_⟩
  rcases h.2 with h2 | ⟨g, cap, cur, h1, h2, h3, h4⟩
  · exact .inl h2
  · exact .inr ⟨g, cap, cur, h1, h2, (hb g (by rw [h1]; rfl)).trans h3, h4⟩
theorem own_form {w : World} {base : Nat} {e : TypeId} {size : Nat} {v : Value} {n : Nat} {xs : List Value} (h : w.ownsRow base e size v n xs) : ∃ A c, v = .slice A n c := by
  rcases h.2 with ⟨h1, h2⟩ | ⟨g, cap, cur, h1, _⟩
  · exact ⟨none, 0, by rw [h1, h2]⟩
  · exact ⟨_, _, h1⟩
theorem own_cap {w : World} {base : Nat} {e : TypeId} {size : Nat} {v : Value} {n : Nat} {xs : List Value} (h : w.ownsRow base e size v n xs) : ∃ A c, v = .slice A n c ∧ n ≤ c ∧ c ≤ maxLen := by
  rcases h.2 with ⟨h1, h2⟩ | ⟨g, cap, cur, h1, _, _, h4, h5, _⟩
  · exact ⟨none, 0, by rw [h1, h2], by omega, Nat.zero_le _⟩
  · exact ⟨_, _, h1, h4, h5⟩
/-- A row of numbers, of texts. -/
def OwnI (base : Nat) (w : World) (v : Value) (zs : List Int) : Prop := w.ownsRow base 3 1 v zs.length (zs.map (Value.int .i64))
def OwnS (base : Nat) (w : World) (v : Value) (ss : List ByteArray) : Prop := w.ownsRow base 9 1 v ss.length (ss.map Value.string)
theorem OwnI.nil (base : Nat) (w : World) : OwnI base w (.slice none 0 0) [] := World.ownsRow_nil w base 3 1
theorem OwnS.nil (base : Nat) (w : World) : OwnS base w (.slice none 0 0) [] := World.ownsRow_nil w base 9 1
theorem OwnI.ints {base : Nat} {w : World} {v : Value} {zs : List Int} (h : OwnI base w v zs) (hz : ∀ z ∈ zs, -9223372036854775808 ≤ z ∧ z ≤ 9223372036854775807) : IntsAt (fun b => base ≤ b ∧ v.ownBlock = some b) w v zs := by
  obtain ⟨A, c, e, hc, hm⟩ := own_cap h
  refine ⟨A, c, e, hc, hm, hz, ?_⟩
  rcases h.2 with ⟨h1, h2⟩ | ⟨g, cap, cur, h1, h2, h3, h4, h5, h6, h7⟩
  · exact .inl (List.eq_nil_of_length_eq_zero h2)
  · rw [h1] at e; injection e with e1 e2 e3
    refine .inr ⟨g, 0, e1.symm, ⟨h2, by rw [h1]; rfl⟩, lt_of_block h3, fun i hi => ?_⟩
    have h9 := h.cells (g := g) (by rw [h1]; rfl) i (.int .i64 zs[i]) (by rw [List.getElem?_map, List.getElem?_eq_getElem hi]; rfl)
    rw [Nat.zero_add]; by_cases e : i = 0
    · subst e; simpa [Addr.add] using h9
    · simpa [Addr.add, e] using h9
theorem OwnS.strs {base : Nat} {w : World} {v : Value} {ss : List ByteArray} (h : OwnS base w v ss) : StrsAt (fun b => base ≤ b ∧ v.ownBlock = some b) w v ss := by
  obtain ⟨A, c, e, hc, hm⟩ := own_cap h
  refine ⟨A, c, e, hc, hm, ?_⟩
  rcases h.2 with ⟨h1, h2⟩ | ⟨g, cap, cur, h1, h2, h3, h4, h5, h6, h7⟩
  · exact .inl (List.eq_nil_of_length_eq_zero h2)
  · rw [h1] at e; injection e with e1 e2 e3
    refine .inr ⟨g, 0, e1.symm, ⟨h2, by rw [h1]; rfl⟩, lt_of_block h3, fun i hi => ?_⟩
    have h9 := h.cells (g := g) (by rw [h1]; rfl) i (.string ss[i]) (by rw [List.getElem?_map, List.getElem?_eq_getElem hi]; rfl)
    rw [Nat.zero_add]; by_cases e : i = 0
    · subst e; simpa [Addr.add] using h9
    · simpa [Addr.add, e] using h9
theorem StrsAt.mono {P Q : Nat → Prop} {w : World} {v : Value} {ss : List ByteArray} (h : StrsAt P w v ss) (hpq : ∀ b, P b → Q b) : StrsAt Q w v ss := by
  obtain ⟨A, c, e, h1, h2, hr⟩ := h
  refine ⟨A, c, e, h1, h2, ?_⟩
  rcases hr with h9 | ⟨b, off, e, hp, r⟩
  · exact .inl h9
  · exact .inr ⟨b, off, e, hpq b hp, r⟩
theorem Tryd.info9 : (Tryd.prog.info? 9).map (fun i => (i.zero, i.size, i.bytes)) = some (some (.string ⟨#[]⟩), 1, 16) := by kernel_rfl
theorem one_str (x : ByteArray) : ∀ u ∈ [Value.string x], u.oneCell' = true := by intro u hu; simp at hu; subst hu; rfl
theorem one_int (x : Int) : ∀ u ∈ [Value.int .i64 x], u.oneCell' = true := by intro u hu; simp at hu; subst hu; rfl
theorem news_one (w : World) (u : Value) (t : TypeId) : ∀ j x, [u][j]? = some x → (w.alloc (.cells #[u] t)).cell? ((⟨w.heap.size, 0, none⟩ : Addr).add j) = some x := by
  intro j x hj
  cases j with
  | zero => simp at hj; subst hj; simp [go_sem, Addr.add]
  | succ j => simp at hj
end Go.Proofs.YtbdfjboojokgdaaDoor
