/- The contracts of types' (*subst).in and newSubst (chapter 4). Conditions: the library's table of powers of ten reads as the program's text lays it; at most 2^20 nodes, names of at most 2^40 bytes. The walk of types' newSubst (chapter 4). Conditions: at most 2^20 nodes, names of at most 2^40 bytes. -/
import Derived.Test.YtbdfjboojokgdaaDoorJU34
namespace Go.Proofs.YtbdfjboojokgdaaDoor
open Go.RowKit

theorem in_any (B sb lb pb ub : Nat) (vs : List (ByteArray × Int)) (es : List Int) (hvs : vs.length ≤ 1048576) (hes : es.length ≤ 1048576) : ∀ (k : Nat) (t : Ty), t.sz ≤ k → SubIn 72 B sb lb pb ub vs es t
  | 0, t, h => by cases t <;> simp [Ty.sz] at h
  | k + 1, t, h => by
    have ih := in_any B sb lb pb ub vs es hvs hes k
    have harg : ∀ x ∈ t.args, SubIn 72 B sb lb pb ub vs es x := fun x hx => ih x (by have := Ty.arg_sz hx; omega)
    by_cases h2 : t.form = 2
    · cases t <;> simp [Ty.form] at h2
      exact in_var B sb lb pb ub vs es _ (by omega)
    · by_cases h5 : t.form = 5
      · cases t <;> simp [Ty.form] at h5
        exact in_all B sb lb pb ub vs es _ _ (all_in B sb lb pb ub vs es _ _ hvs hes (each_in B sb lb pb ub vs es _ harg))
      · exact in_else B sb lb pb ub vs es t h2 h5 (each_in B sb lb pb ub vs es _ harg)
/-! ### newSubst -/
theorem posK_step (vs : List (ByteArray × Int)) (k : Nat) (h : k < vs.length) (x : ByteArray) : posK vs x (k + 1) = if vs[k].1 = x then posK vs x k ++ [(k : Int)] else posK vs x k := by
  show (if (vs[k]?.map (·.1)) = some x then _ else _) = _
  rw [List.getElem?_eq_getElem h]
  simp only [Option.map_some, Option.some.injEq]
/-- One place more behind a name's row. -/
theorem PlacesAt.step {B pb k : Nat} {vs : List (ByteArray × Int)} {w : World} (h : PlacesAt B pb k vs w) (hk : k < vs.length) (hkb : k ≤ 1048576) (hs : vs[k].1.size ≤ 1099511627776) (hB : B ≤ w.heap.size) (ad : Addr) (hc : w.cell? ad = some (.int .i64 k)) (ty : TypeId) :
    ∃ v v' w1 w2, (∀ y : World, y.heap[pb]? = w.heap[pb]? → (Instr.lookup 115 (.map (some pb)) (.string vs[k].1) false).run Tryd.prog y = .ok v y) ∧ (Builtin.append_ #[22, 22] ty #[v, .slice (some ad) 1 1]).run Tryd.prog w = .ok v' w1 ∧ (Instr.mapUpdate 115 (.map (some pb)) (.string vs[k].1) v').run Tryd.prog w1 = .ok () w2 ∧ PlacesAt B pb (k + 1) vs w2 ∧ w.heap.size ≤ w2.heap.size ∧ (w2.os = w.os ∧ w2.tape = w.tape ∧ w2.output = w.output) ∧ (∀ b, b < B → b ≠ pb → w2.heap[b]? = w.heap[b]?) ∧ (∀ b, b < w.heap.size → (∀ cs, w.heap[b]? ≠ some (.cells cs 3)) → w1.heap[b]? = w.heap[b]? ∧ (b ≠ pb → w2.heap[b]? = w.heap[b]?)) := by
  obtain ⟨sz, F, hm, hsz, h1, h2, h3⟩ := h
  obtain ⟨i0, hi, hz0, hzs, hzb⟩ := info_parts' Tryd.info3
  obtain ⟨v, hv, hown⟩ : ∃ v, v = (F vs[k].1).getD (.slice none 0 0) ∧ OwnI B w v (posK vs vs[k].1 k) := by
    refine ⟨_, rfl, ?_⟩
    cases hf : F vs[k].1 with
    | none => rw [h1 _ hf]; exact OwnI.nil _ _
    | some u => exact (h2 _ _ hf).1
  have hpl := posK_len vs vs[k].1 k
  have hnews : ∀ j u, [Value.int .i64 k][j]? = some u → w.cell? (ad.add j) = some u := fun j u hj => by
    match j, hj with
    | 0, hj =>
      simp only [List.getElem?_cons_zero, Option.some.injEq] at hj
      subst hj
      have : ad.add 0 = ad := by unfold Addr.add; simp
      rw [this]; exact hc
  obtain ⟨v', w1, hr, ho1, hg1, _, hat⟩ := run_append_own_at (P := Tryd.prog) w B 22 ty 3 i0 (.int .i64 0) 1 8 Tryd.underlying22 hi hz0 hzs hzb rfl (by decide) v _ _ hown ad 1 1 [.int .i64 k] rfl hnews (fun u hu => by rw [List.mem_singleton] at hu; subst hu; rfl) (by unfold maxLen; omega) (by omega) hB
  have hpbv : v.ownBlock ≠ some pb := fun e => by
    obtain ⟨cur, hcu⟩ := own_type hown e
    exact hm.notCells _ _ hcu
  have hm1 := hm.block (hg1.block pb hm.lt (fun e => hpbv e.symm))
  obtain ⟨w2, r2, hm2, hg2⟩ := hm1.store (t := 115) (e := 22) Tryd.underlying9 Tryd.underlying115 (by unfold maxLen; omega) v' (x := vs[k].1) (by unfold maxLen; omega)
  have ho1' : OwnI B w1 v' (posK vs vs[k].1 (k + 1)) := by
    rw [posK_step vs k hk, if_pos rfl]
    unfold OwnI
    rw [List.length_append, List.map_append]
    exact ho1
  have hk2 : ∀ {u : Value} {xs : List Int}, OwnI B w1 u xs → OwnI B w2 u xs := fun {u xs} h => own_keep h (fun g hg => hg2.block g (World.ownsRow.lt h g hg).2 (fun e => by
    injection e with e
    obtain ⟨cur, hcu⟩ := own_type h hg
    exact hm1.notCells _ _ (e ▸ hcu)))
  have hoth : ∀ x u, x ≠ vs[k].1 → F x = some u → OwnI B w1 u (posK vs x k) ∧ ∀ g, u.ownBlock = some g → v'.ownBlock ≠ some g := fun x u hx hf => by
    have h9 := (h2 x u hf).1
    have hd : ∀ g, u.ownBlock = some g → v.ownBlock ≠ some g := fun g hg e => by
      cases hf2 : F vs[k].1 with
      | none =>
        rw [hv, hf2] at e; cases e
      | some u2 =>
        rw [hv, hf2] at e
        exact h3 x _ u u2 hf hf2 hx (hg.trans e.symm)
    refine ⟨own_keep h9 (fun g hg => hg1.block g (World.ownsRow.lt h9 g hg).2 (fun e => hd g hg e.symm)), fun g hg e => ?_⟩
    rcases hat with h8 | h8
    · exact hd g hg (h8 ▸ e)
    · rw [h8] at e; injection e with e
      have := (World.ownsRow.lt h9 g hg).2; omega
  refine ⟨v, v', w1, w2, fun y hy => by
    rw [hv]; exact (hm.block hy).look (t := 115) (e := 22) Tryd.underlying9 Tryd.underlying115 zero22 (x := vs[k].1) (by unfold maxLen; omega), hr, r2, ⟨_, _, hm2, by split <;> omega, fun x hx => ?_, fun x u hx => ?_, fun x y u u2 hx hy hxy => ?_⟩, Nat.le_trans hg1.size hg2.size, ⟨hg2.os.trans hg1.os, hg2.tape.trans hg1.tape, hg2.output.trans hg1.output⟩, fun b hbB hne => ?_, fun b hb hn => ?_⟩
  · unfold setS at hx
    split at hx
    · cases hx
    · rename_i e
      rw [posK_step vs k hk, if_neg (Ne.symm e)]; exact h1 x hx
  · unfold setS at hx
    split at hx
    · rename_i e
      injection hx with hx
      subst hx; subst e
      refine ⟨hk2 ho1', ?_⟩
      rw [posK_step vs k hk, if_pos rfl]; simp
    · rename_i e
      rw [posK_step vs k hk, if_neg (Ne.symm e)]
      exact ⟨hk2 (hoth x u e hx).1, (h2 x u hx).2⟩
  · unfold setS at hx hy
    have hne9 : ∀ x u, OwnI B w1 u (posK vs x (k + 1)) → posK vs x (k + 1) ≠ [] → ∃ g, u.ownBlock = some g := fun x u ho hn => by
      obtain ⟨g, c, e, _⟩ := World.ownsRow.form ho (List.length_pos_iff.2 hn)
      exact ⟨g, by rw [e]; rfl⟩
    split at hx
    · rename_i ex
      split at hy
      · rename_i ey; exact absurd (ex.trans ey.symm) hxy
      · rename_i ey
        injection hx with hx
        subst hx
        intro e
        obtain ⟨g, hg⟩ := hne9 vs[k].1 v' ho1' (by rw [posK_step vs k hk, if_pos rfl]; simp)
        exact (hoth y u2 ey hy).2 g (e ▸ hg) hg
    · rename_i ex
      split at hy
      · rename_i ey
        injection hy with hy
        subst hy
        intro e
        obtain ⟨g, hg⟩ := hne9 vs[k].1 v' ho1' (by rw [posK_step vs k hk, if_pos rfl]; simp)
        exact (hoth x u ex hx).2 g (e ▸ hg) hg
      · exact h3 x y u u2 hx hy hxy
  · have hb : b < w.heap.size := by omega
    refine (hg2.block b (Nat.lt_of_lt_of_le hb hg1.size) (fun e => by injection e with e; exact hne e)).trans (hg1.block b hb (fun e => ?_))
    have := (World.ownsRow.lt hown b e.symm).1
    omega
  · have h9 := hg1.block b hb (fun e => by
      obtain ⟨cur, hcu⟩ := own_type hown e.symm
      exact hn _ hcu)
    exact ⟨h9, fun hne => (hg2.block b (Nat.lt_of_lt_of_le hb hg1.size) (fun e => by injection e with e; exact hne e)).trans h9⟩
theorem PlacesAt.lower {B B' pb k : Nat} {vs : List (ByteArray × Int)} {w : World} (h : PlacesAt B pb k vs w) (hB : B' ≤ B) : PlacesAt B' pb k vs w := by
  obtain ⟨sz, F, h1, h2, h3, h4, h5⟩ := h
  exact ⟨sz, F, h1, h2, h3, fun x v e => ⟨own_lower (h4 x v e).1 hB, (h4 x v e).2⟩, h5⟩
theorem PlacesAt.on {B pb k : Nat} {vs : List (ByteArray × Int)} {w w' : World} (h : PlacesAt B pb k vs w) (hb : Below w.heap.size w w') : PlacesAt B pb k vs w' := by
  obtain ⟨sz, F, h1, h2, h3, h4, h5⟩ := h
  exact ⟨sz, F, h1.on hb, h2, h3, fun x v e => ⟨own_below (h4 x v e).1 hb, (h4 x v e).2⟩, h5⟩
theorem LayB.keep {base lb : Nat} {v1 v2 : Value} {vs : List (ByteArray × Int)} {es : List Int} {w w' : World} (h : LayB base lb v1 v2 vs es w) (hb : ∀ k, k = lb ∨ v1.ownBlock = some k ∨ v2.ownBlock = some k → w'.heap[k]? = w.heap[k]?) : LayB base lb v1 v2 vs es w' :=
  ⟨(hb lb (.inl rfl)).trans h.1, own_keep h.2.1 (fun k hk => hb k (.inr (.inl hk))), own_keep h.2.2 (fun k hk => hb k (.inr (.inr hk)))⟩
theorem newW (w : World) (p : Value) : ∃ X, ((w.alloc (.map #[] 0)).alloc (.map #[] 0)).alloc (.cells #[p, .map (some w.heap.size), .map (some (w.heap.size + 1)), .int .i64 0, .int .i64 0, .int .i64 0] 118) = X ∧ MapS Tryd.prog 9 X w.heap.size 0 (fun _ => none) ∧ MapS Tryd.prog 9 X (w.heap.size + 1) 0 (fun _ => none) ∧ X.heap[w.heap.size + 2]? = some (.cells #[p, .map (some w.heap.size), .map (some (w.heap.size + 1)), .int .i64 0, .int .i64 0, .int .i64 0] 118) ∧ Below w.heap.size w X ∧ X.heap.size = w.heap.size + 3 := by
  refine ⟨_, rfl, ?_, ?_, ?_, below3 w _ _ _, by simp⟩
  · exact (MapS.made Tryd.prog 9 w).block (((below_new _ _).block _ (by simp; omega)).trans ((below_new _ _).block _ (by simp)))
  · have := MapS.made Tryd.prog 9 (w.alloc (.map #[] 0))
    have hz : (w.alloc (.map #[] 0)).heap.size = w.heap.size + 1 := by simp
    rw [hz] at this
    exact this.block ((below_new _ _).block _ (by simp))
  · have := (MapKept.heap_alloc ((w.alloc (.map #[] 0)).alloc (.map #[] 0)) (.cells #[p, .map (some w.heap.size), .map (some (w.heap.size + 1)), .int .i64 0, .int .i64 0, .int .i64 0] 118)).1
    simpa using this
end Go.Proofs.YtbdfjboojokgdaaDoor
namespace Go.Proofs.YtbdfjboojokgdaaDoor
open Go.RowKit

/-- An append at a step of a region that draws its order, where its run is known. -/
theorem step_append_runT {ops : Array Oper} {o : Oper} {a : Act} {K : Act → World → Prop} {Q : Exit → Act → World → Prop} {E : Prop} {w : World} (t : TypeId) (hgd : o.guard = none) (s x : Operand) (ho : o.op = .call { callee := .builtin .append, args := #[s, x], argTypes := #[t, t] }) (v u : Value) (hs : a.eval s = v) (hx : a.eval x = u) (v' : Value) (w' : World) (hr : (Builtin.append_ #[t, t] o.type #[v, u]).run Tryd.prog w = .ok v' w') (h : K (a.put o.dst v') w') : if Region.wanted o (yielded ops a.tmps) = true then Oper.wp Tryd.prog o a w K Q else E := by
  have hw : Region.wanted o (yielded ops a.tmps) = true := by simp [Region.wanted, hgd]
  rw [if_pos hw]
  unfold Oper.wp execOp
  simp only [ho, resolve, invoke, builtin, Sem.run_bind, Sem.run_pure, Result.andThen_ok, List.map_toArray, List.map_cons, List.map_nil, hs, hx, hr]
  exact h
/-- While places are laid. -/
structure NewSt (B G sb lb pb ub : Nat) (v1 v2 : Value) (vs : List (ByteArray × Int)) (es : List Int) (k : Nat) (w : World) : Prop where
  lay : LayB B lb v1 v2 vs es w
  cell : w.heap[sb]? = some (.cells #[.pointer (some ⟨lb, 0, none⟩), .map (some pb), .map (some ub), .int .i64 0, .int .i64 0, .int .i64 0] 118)
  puts : MapS Tryd.prog 9 w ub 0 (fun _ => none)
  pl : PlacesAt G pb k vs w
  g : G ≤ w.heap.size
  bd : lb < G ∧ sb < G ∧ ub < G ∧ pb < G ∧ (∀ b, v1.ownBlock = some b → b < G) ∧ (∀ b, v2.ownBlock = some b → b < G)
theorem NewSt.keep {B G sb lb pb ub : Nat} {v1 v2 : Value} {vs : List (ByteArray × Int)} {es : List Int} {k k' : Nat} {w w' : World} (h : NewSt B G sb lb pb ub v1 v2 vs es k w) (hne : pb ≠ ub) (hp : PlacesAt G pb k' vs w') (hz : w.heap.size ≤ w'.heap.size) (hb : ∀ b, b < G → b ≠ pb → w'.heap[b]? = w.heap[b]?) : NewSt B G sb lb pb ub v1 v2 vs es k' w' := by
  have hnp : ∀ {b : Nat} {cs : Array Value} {t : TypeId}, w.heap[b]? = some (.cells cs t) → b ≠ pb := fun {b cs t} hc e => by
    obtain ⟨sz, F, m1, _⟩ := h.pl
    exact m1.notCells _ _ (e ▸ hc)
  refine ⟨h.lay.keep (fun b hbb => hb b ?_ ?_), (hb sb h.bd.2.1 (hnp h.cell)).trans h.cell, h.puts.block (hb ub h.bd.2.2.1 (Ne.symm hne)), hp, Nat.le_trans h.g hz, h.bd⟩
  · rcases hbb with rfl | e | e
    · exact h.bd.1
    · exact h.bd.2.2.2.2.1 b e
    · exact h.bd.2.2.2.2.2 b e
  · rcases hbb with rfl | e | e
    · exact hnp h.lay.1
    · obtain ⟨cur, hc⟩ := own_type h.lay.2.1 e; exact hnp hc
    · obtain ⟨cur, hc⟩ := own_type h.lay.2.2 e; exact hnp hc
theorem NewSt.on {B G sb lb pb ub : Nat} {v1 v2 : Value} {vs : List (ByteArray × Int)} {es : List Int} {k : Nat} {w w' : World} (h : NewSt B G sb lb pb ub v1 v2 vs es k w) (hne : pb ≠ ub) (hb : Below w.heap.size w w') : NewSt B G sb lb pb ub v1 v2 vs es k w' := h.keep hne (h.pl.on hb) hb.size (fun b hbG _ => hb.block b (Nat.lt_of_lt_of_le hbG h.g))
set_option maxRecDepth 100000 in
set_option maxHeartbeats 2000000 in
theorem newSubst_any (P : Nat → Prop) (t : Ty) (v : Value) (w : World) (h : TyAt P w t v) (hsh : t.short) (hz : t.sz ≤ 1048576) :
    Calls Tryd.prog 70 #[v] w fun e w' => ∃ sb lb pb ub, e = .returned (.pointer (some ⟨sb, 0, none⟩)) ∧ SbSt w.heap.size sb lb pb ub (layV zeroG 0 t) (layE 0 t) (fun _ => none) 0 0 0 0 w' ∧ Below w.heap.size w w' := by
  obtain ⟨f1, n1, s1, A1, l1, c1, rfl⟩ := h.flat
  obtain ⟨W, eW, q1, bW, zW⟩ := one_box w (.int .i64 f1) (.int .i64 n1) (.string s1) (.slice A1 l1 c1) 25
  have HLO := Lib.hid (layoutOf_any P t _ W (h.on bW) hsh (by omega))
  have hvl : (layV zeroG 0 t).length ≤ 1048576 := by rw [layV_len]; have := vars_le t; omega
  have hvs := layV_short zeroG 0 t hsh
  have HEW := Lib.hid eW
  have HBW := Lib.hid bW
  have HZW := Lib.hid zW
  obtain ⟨x0, x1, x2, x3, x4, _⟩ := q1
  obtain ⟨vs, hvse⟩ : ∃ vs, vs = layV zeroG 0 t := ⟨_, rfl⟩
  obtain ⟨es, hese⟩ : ∃ es, es = layE 0 t := ⟨_, rfl⟩
  rw [← hvse, ← hese] at HLO ⊢
  rw [← hvse] at hvl hvs
  clear eW bW zW h hvse hese
  go_enter Tryd.func70, Tryd.ntmps70
  go_wp2_with fail
  rw [HEW.out]
  go_wp2_with fail
  (with_reducible refine HLO.out.mono ?_)
  rintro e y ⟨rfl, hls, hby⟩
  obtain ⟨v1, v2, hl⟩ := hls.hl
  obtain ⟨lb, hlb⟩ : ∃ lb, lb = W.heap.size + 1 := ⟨_, rfl⟩
  rw [← hlb] at hl ⊢
  have hwy : w.heap.size < y.heap.size := by have := hby.size; have := HZW.out; omega
  have hwW : w.heap.size ≤ W.heap.size := by have := HZW.out; omega
  obtain ⟨X, eX, m1, m2, hcX, bX, zX⟩ := newW y (.pointer (some ⟨lb, 0, none⟩))
  have hmm : ∀ q : World, (Instr.makeMap 115 none).run Tryd.prog q = .ok (.map (some q.heap.size)) (q.alloc (.map #[] 0)) := fun q => run_makeMap 115 q
  have hmm2 : ∀ q : World, (Instr.makeMap 116 none).run Tryd.prog q = .ok (.map (some q.heap.size)) (q.alloc (.map #[] 0)) := fun q => run_makeMap 116 q
  have hlX := hl.keep (fun k hk => bX.block k (by
    rcases hk with rfl | e | e
    · exact lt_of_block hl.1
    · exact (World.ownsRow.lt hl.2.1 k e).2
    · exact (World.ownsRow.lt hl.2.2 k e).2))
  have HNS : Hid (NewSt w.heap.size X.heap.size (y.heap.size + 1 + 1) lb y.heap.size (y.heap.size + 1) v1 v2 vs es 0 X) := ⟨⟨hlX.1, own_lower hlX.2.1 hwW, own_lower hlX.2.2 hwW⟩, hcX, m2, ⟨0, _, m1, Nat.zero_le _, fun _ _ => rfl, (fun x v e => by cases e), fun x y u v e _ => by cases e⟩, Nat.le_refl _, by
    refine ⟨lt_of_block hlX.1, by omega, by omega, by omega, fun b e => (World.ownsRow.lt hlX.2.1 b e).2, fun b e => (World.ownsRow.lt hlX.2.2 b e).2⟩⟩
  have HEX := Lib.hid eX
  have HBX := Lib.hid (HBW.out.trans ((hby.trans (bX.mono hby.size)).mono HBW.out.size))
  have hlb1 : lb = W.heap.size + 1 := hlb
  have HLB := Lib.hid hlb1
  clear hls hl hby bX m1 m2 hcX hlX eX hlb hlb1 x0 x1 x2 x3 x4
  go_upto_region 2 with (fail)
  rw [HEX.out]
  clear HEX hmm hmm2
  have hsbw : w.heap.size ≤ y.heap.size + 1 + 1 := by omega
  generalize y.heap.size + 1 + 1 = sb at *
  generalize y.heap.size = pb at *
  obtain ⟨Av, cv, rfl⟩ := own_form HNS.out.lay.2.1
  have hc := HNS.out.cell
  have hl := HNS.out.lay.1
  have p0 : X.cell? ⟨sb, 0, none⟩ = some (.pointer (some ⟨lb, 0, none⟩)) := by simp [World.cell?, hc]
  have p1 : X.cell? ⟨lb, 0, none⟩ = some (.slice Av vs.length cv) := by simp [World.cell?, hl]
  clear hc hl
  go_wp2
  clear p0 p1
  go_loopw [20] (fun i wr => ∃ k : Nat, k ≤ vs.length ∧ i = .int .i64 k ∧ NewSt w.heap.size X.heap.size sb lb pb (pb + 1) (.slice Av vs.length cv) v2 vs es k wr ∧ Below w.heap.size w wr) (fun i _ => vs.length - (intOf i).toNat)
  case atStart => exact ⟨0, Nat.zero_le _, rfl, HNS.out, HBX.out⟩
  case round =>
    obtain ⟨k, hk, rfl, hst, hb⟩ := hrel
    have HST := Lib.hid hst
    have HB := Lib.hid hb
    by_cases hlt : k < vs.length
    · obtain ⟨g, rfl, hg, k0, k1⟩ := OwnV.at hst.lay.2.1 k hlt
      have hki : (k : Int) < (vs.length : Int) := by omega
      have hk0 : (0 : Int) ≤ (k : Int) := by omega
      obtain ⟨Y, eY⟩ : ∃ Y, wr.alloc (.cells #[.string vs[k].1, .int .i64 vs[k].2] 93) = Y := ⟨_, rfl⟩
      have bY : Below wr.heap.size wr Y := eY ▸ below_new wr _
      have zY : Y.heap.size = wr.heap.size + 1 := by rw [← eY]; simp
      have hy0 : Y.heap[wr.heap.size]? = some (.cells #[.string vs[k].1, .int .i64 vs[k].2] 93) := by rw [← eY]; exact (MapKept.heap_alloc wr _).1
      have hstY := hst.on (by omega) bY
      have hcY := hstY.cell
      have bN := below_new Y (.cells #[.int .i64 k] 3)
      have hstZ := hstY.on (by omega) bN.drew
      obtain ⟨u, u', w1, w2, hlk, hap, hup, hp2, hz2, hos, hfr, hfr2⟩ := hstZ.pl.step hlt (by omega) (hvs _ (List.getElem_mem hlt)) hstZ.g ⟨Y.heap.size, 0, none⟩ (cell1 (MapKept.heap_alloc Y (.cells #[.int .i64 k] 3)).1).1 22
      have hst2 := hstZ.keep (by omega) hp2 hz2 hfr
      have hb2 : Below w.heap.size w w2 := by
        have hbZ := (hb.trans ((bY.trans (bN.drew.mono bY.size)).mono hb.size))
        refine ⟨hos.1.trans hbZ.os, hos.2.1.trans hbZ.tape, hos.2.2.trans hbZ.output, Nat.le_trans hbZ.size hz2, fun b hbb => (hfr b ?_ ?_).trans (hbZ.block b hbb)⟩
        · have := HBX.out.size; omega
        · omega
      have HST2 := Lib.hid hst2
      have HB2 := Lib.hid hb2
      have p1 : Y.cell? ⟨sb, 1, none⟩ = some (.map (some pb)) := by simp [World.cell?, hcY]
      have p2 : Y.cell? ⟨wr.heap.size, 0, none⟩ = some (.string vs[k].1) := by simp [World.cell?, hy0]
      have q1 := (bN.cell (p := ⟨sb, 1, none⟩) (lt_of_block hcY)).trans p1
      have q2 := (bN.cell (p := ⟨wr.heap.size, 0, none⟩) (lt_of_block hy0)).trans p2
      have hpbY : pb < Y.heap.size := by have := hstY.bd.2.2.2.1; have := hstY.g; omega
      have l1 := hlk Y.drew (bN.block pb hpbY).symm
      have l2 := hlk (Y.alloc (.cells #[.int .i64 k] 3)).drew rfl
      have hap' : (Builtin.append_ #[22, 22] 22 #[u, .slice (some ⟨Y.heap.size, 0, none⟩) 1 1]).run Tryd.prog (Y.drew.alloc (.cells #[.int .i64 k] 3)) = .ok u' w1 := hap
      have hS3 : w1.cell? ⟨sb, 1, none⟩ = some (.map (some pb)) ∧ w1.cell? ⟨wr.heap.size, 0, none⟩ = some (.string vs[k].1) := by
        have h8 := hfr2 sb (lt_of_block hstZ.cell) (fun cs e => by rw [hstZ.cell] at e; injection e with e; injection e with _ e; cases e)
        have hbx := (bN.drew.block wr.heap.size (lt_of_block hy0)).trans hy0
        have h9 := hfr2 wr.heap.size (lt_of_block hbx) (fun cs e => by rw [hbx] at e; injection e with e; injection e with _ e; cases e)
        have k8 := h8.1.trans hstZ.cell
        have k9 := h9.1.trans hbx
        exact ⟨by simp [World.cell?, k8], by simp [World.cell?, k9]⟩
      have hS4 : w2.cell? ⟨sb, 1, none⟩ = some (.map (some pb)) ∧ w2.cell? ⟨wr.heap.size, 0, none⟩ = some (.string vs[k].1) := by
        have h8 := hfr2 sb (lt_of_block hstZ.cell) (fun cs e => by rw [hstZ.cell] at e; injection e with e; injection e with _ e; cases e)
        have hbx := (bN.drew.block wr.heap.size (lt_of_block hy0)).trans hy0
        have h9 := hfr2 wr.heap.size (lt_of_block hbx) (fun cs e => by rw [hbx] at e; injection e with e; injection e with _ e; cases e)
        have hnp : ∀ {b : Nat} {cs : Array Value} {t : TypeId}, (Y.alloc (.cells #[.int .i64 k] 3)).drew.heap[b]? = some (.cells cs t) → b ≠ pb := fun {b cs t} hc e => by
          obtain ⟨sz, F, m1, _⟩ := hstZ.pl
          exact m1.notCells _ _ (e ▸ hc)
        have k8 := (h8.2 (hnp hstZ.cell)).trans hstZ.cell
        have k9 := (h9.2 (hnp hbx)).trans hbx
        exact ⟨by simp [World.cell?, k8], by simp [World.cell?, k9]⟩
      clear hst hb bY hy0 hstY hcY bN hstZ hlk hp2 hz2 hos hfr hfr2 hst2 hb2 zY hpbY
      generalize hnm : vs[k].1 = nm at *
      generalize vs[k].2 = dd at *
      go_upto_region 5 with (fail)
      clear k0 k1 eY
      have hS0 : Y.drew.cell? ⟨sb, 1, none⟩ = some (.map (some pb)) ∧ Y.drew.cell? ⟨wr.heap.size, 0, none⟩ = some (.string nm) := ⟨p1, p2⟩
      have hS1 : (Y.alloc (.cells #[.int .i64 k] 3)).drew.cell? ⟨sb, 1, none⟩ = some (.map (some pb)) ∧ (Y.alloc (.cells #[.int .i64 k] 3)).drew.cell? ⟨wr.heap.size, 0, none⟩ = some (.string nm) := ⟨q1, q2⟩
      have hS2 : (Y.drew.alloc (.cells #[.int .i64 k] 3)).cell? ⟨sb, 1, none⟩ = some (.map (some pb)) ∧ (Y.drew.alloc (.cells #[.int .i64 k] 3)).cell? ⟨wr.heap.size, 0, none⟩ = some (.string nm) := ⟨q1, q2⟩
      go_region_held3 (fun q => (q.cell? ⟨sb, 1, none⟩ = some (.map (some pb)) ∧ q.cell? ⟨wr.heap.size, 0, none⟩ = some (.string nm))) (first | with_reducible exact hS0 | with_reducible exact hS1 | with_reducible exact hS2 | with_reducible exact hS3 | with_reducible exact hS4)
        (refine step_append_runT 22 rfl (.tmp 37) (.tmp 39) rfl u (.slice (some ⟨Y.heap.size, 0, none⟩) 1 1) rfl rfl u' w1 (by first | with_reducible exact hap | with_reducible exact hap') ?_)
      all_goals go_wp2
      all_goals go_roundw
      all_goals first | exact ⟨k + 1, by omega, by go_num, HST2.out, HB2.out⟩ | (simp [intOf]; omega)
    · obtain rfl : k = vs.length := by omega
      have hki : ¬ ((vs.length : Nat) : Int) < (vs.length : Int) := by omega
      have HF : Hid (SbSt w.heap.size sb lb pb (pb + 1) vs es (fun _ => none) 0 0 0 0 wr) := ⟨⟨by omega, by have := HLB.out; omega, by omega, by omega, hb.size⟩, by omega, ⟨_, _, hst.lay⟩, hst.pl.lower (HBX.out.size), hst.cell, 0, _, hst.puts, Nat.le_refl _, fun x => rfl⟩
      clear hst hb
      go_wp2
      go_ret
      exact ⟨sb, rfl, ⟨lb, pb, pb + 1, HF.out⟩, HB.out⟩
end Go.Proofs.YtbdfjboojokgdaaDoor
