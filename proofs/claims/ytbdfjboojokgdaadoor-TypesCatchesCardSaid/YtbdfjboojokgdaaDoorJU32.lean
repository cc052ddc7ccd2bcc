/- The contract of types' (*subst).in (chapter 4), where those of inEach and of inAll hold of what stands in the type. Condition: the library's table of powers of ten reads as the program's text lays it. -/
import Derived.Test.YtbdfjboojokgdaaDoorJU31
namespace Go.Proofs.YtbdfjboojokgdaaDoor
open Go.RowKit

def boxC (x0 x1 x2 x3 : Value) : Obj := .cells #[x0, x1, x2, x3] 25
def zeroC : Obj := .cells #[.int .i64 0, .int .i64 0, .string ⟨#[]⟩, .slice none 0 0] 25
theorem boxes2 (w : World) (x0 x1 x2 x3 : Value) : ∃ W, (w.alloc (.cells #[x0, x1, x2, x3] 25)).alloc (.cells #[.int .i64 0, .int .i64 0, .string ⟨#[]⟩, .slice none 0 0] 25) = W ∧ W.heap[w.heap.size]? = some (.cells #[x0, x1, x2, x3] 25) ∧ W.heap[w.heap.size + 1]? = some (.cells #[.int .i64 0, .int .i64 0, .string ⟨#[]⟩, .slice none 0 0] 25) ∧ Below w.heap.size w W ∧ W.heap.size = w.heap.size + 2 := by
  refine ⟨_, rfl, ?_, ?_, below2 w _ _, by simp⟩
  · exact ((below_new _ _).block _ (by simp)).trans (MapKept.heap_alloc w (.cells #[x0, x1, x2, x3] 25)).1
  · simpa using (MapKept.heap_alloc (w.alloc (.cells #[x0, x1, x2, x3] 25)) (.cells #[.int .i64 0, .int .i64 0, .string ⟨#[]⟩, .slice none 0 0] 25)).1
theorem fourC {w : World} {b : Nat} {x0 x1 x2 x3 : Value} (h : w.heap[b]? = some (.cells #[x0, x1, x2, x3] 25)) : w.cell? ⟨b, 0, none⟩ = some x0 ∧ w.cell? ⟨b, 1, none⟩ = some x1 ∧ w.cell? ⟨b, 2, none⟩ = some x2 ∧ w.cell? ⟨b, 3, none⟩ = some x3 ∧ w.frozen? ⟨b, 0, none⟩ = false ∧ w.frozen? ⟨b, 1, none⟩ = false ∧ w.frozen? ⟨b, 2, none⟩ = false ∧ w.frozen? ⟨b, 3, none⟩ = false :=
  ⟨by simp [World.cell?, h], by simp [World.cell?, h], by simp [World.cell?, h], by simp [World.cell?, h], by simp [World.frozen?, h], by simp [World.frozen?, h], by simp [World.frozen?, h], by simp [World.frozen?, h]⟩
/-- A box of four cells, written whole. -/
def put4 (w : World) (b : Nat) (x0 x1 x2 x3 : Value) : World := (((w.setCell ⟨b, 0, none⟩ x0).setCell ⟨b, 1, none⟩ x1).setCell ⟨b, 2, none⟩ x2).setCell ⟨b, 3, none⟩ x3
theorem put4_all {B sb lb pb ub : Nat} {vs : List (ByteArray × Int)} {es : List Int} {P : ByteArray → Option Ty} {N : Nat} {bh op dp : Int} {a w : World} {b : Nat} {v : Value} {l : List PutI} {g : Option Nat} (h : SbSt B sb lb pb ub vs es P N bh op dp w) (hi : IntoAt B ub w v l) (hf : FrSb sb ub g a w) {cs : Array Value} (hb : w.heap[b]? = some (.cells cs 25)) (hB : B ≤ b) (ha : a.heap.size ≤ b) (x0 x1 x2 x3 : Value) :
    SbSt B sb lb pb ub vs es P N bh op dp (put4 w b x0 x1 x2 x3) ∧ IntoAt B ub (put4 w b x0 x1 x2 x3) v l ∧ FrSb sb ub g a (put4 w b x0 x1 x2 x3) ∧ Keeps (fun k => b < k) w (put4 w b x0 x1 x2 x3) := by
  have hk : Blk w b cs.size := ⟨cs, hb, rfl⟩
  have b1 := hk.setCell 0 x0
  have b2 := b1.setCell 1 x1
  have b3 := b2.setCell 2 x2
  exact ⟨(((h.set hk.cells hB 0 x0).set b1.cells hB 1 x1).set b2.cells hB 2 x2).set b3.cells hB 3 x3, (((hi.set hk.cells hB 0 x0).set b1.cells hB 1 x1).set b2.cells hB 2 x2).set b3.cells hB 3 x3, (((hf.set ha 0 x0).set ha 1 x1).set ha 2 x2).set ha 3 x3,
    (((Keeps.setCell (fun e => by omega) _).trans (.setCell (fun e => by omega) _)).trans (.setCell (fun e => by omega) _)).trans (.setCell (fun e => by omega) _)⟩
/-- A number of the search's own block is written. -/
theorem SbSt.put {B sb lb pb ub : Nat} {vs : List (ByteArray × Int)} {es : List Int} {P : ByteArray → Option Ty} {N : Nat} {bh op dp : Int} {w : World} (h : SbSt B sb lb pb ub vs es P N bh op dp w) (o : Nat) (u : Value) {bh' op' dp' : Int} (he : (#[.pointer (some ⟨lb, 0, none⟩), .map (some pb), .map (some ub), .int .i64 bh, .int .i64 op, .int .i64 dp] : Array Value).setIfInBounds o u = #[.pointer (some ⟨lb, 0, none⟩), .map (some pb), .map (some ub), .int .i64 bh', .int .i64 op', .int .i64 dp']) : SbSt B sb lb pb ub vs es P N bh' op' dp' (w.setCell ⟨sb, o, none⟩ u) := by
  have hp := h.parts (World.ownsRow_nil w B 113 1) (FrSb.setCell (g := none) (ub := ub) o u)
  obtain ⟨sz, f, m1, m2, m3⟩ := h.puts
  have hlt := lt_of_block h.cell
  refine ⟨⟨h.hB.1, h.hB.2.1, h.hB.2.2.1, h.hB.2.2.2.1, hp.2.2.1⟩, h.ne, hp.1, hp.2.1, ?_, sz, f, m1.block (Below.heap_setCell _ _ _ _ (fun e => ?_)), m2, fun x => (m3 x).map hp.2.2.2⟩
  · have h' : w.heap[sb] = .cells #[.pointer (some ⟨lb, 0, none⟩), .map (some pb), .map (some ub), .int .i64 bh, .int .i64 op, .int .i64 dp] 118 := by simpa [Array.getElem?_eq_getElem hlt] using h.cell
    show (w.heap.modify sb _)[sb]? = _
    rw [Array.getElem?_eq_getElem (by simpa using hlt), Array.getElem_modify_self, h', ← he]
    rfl
  · simp only at e
    exact m1.notCells _ _ (by rw [e]; exact h.cell)
theorem IntoAt.put {B sb lb pb ub : Nat} {vs : List (ByteArray × Int)} {es : List Int} {P : ByteArray → Option Ty} {N : Nat} {bh op dp : Int} {w : World} {v : Value} {l : List PutI} (hi : IntoAt B ub w v l) (h : SbSt B sb lb pb ub vs es P N bh op dp w) (o : Nat) (u : Value) : IntoAt B ub (w.setCell ⟨sb, o, none⟩ u) v l :=
  hi.keep h (World.ownsRow_nil w B 113 1) (FrSb.setCell (g := none) o u) (fun k hk => Below.heap_setCell _ _ _ _ (fun e => by
    simp only at e
    obtain ⟨cur, hc⟩ := own_type hi.1 hk
    rw [e, h.cell] at hc; injection hc with hc; injection hc with _ hc; cases hc))
/-- What is put in the place of a name, as the map tells it. -/
theorem PutsAt.look {B ub N : Nat} {P : ByteArray → Option Ty} {w : World} (h : PutsAt B ub P N w) {x : ByteArray} (hx : x.size ≤ 1099511627776) : ∃ p : Option Nat, (Instr.lookup 116 (.map (some ub)) (.string x) false).run Tryd.prog w = .ok (.pointer (p.map (fun b => ⟨b, 0, none⟩))) w ∧ (match p with | none => P x = none | some b => ∃ t, P x = some t ∧ PutAt B ub w b x t) := by
  obtain ⟨sz, f, hm, _, hf⟩ := h
  have hl := hm.look (t := 116) (e := 113) Tryd.underlying9 Tryd.underlying116 zero113 (x := x) (by unfold maxLen; omega)
  have h1 := hf x
  cases hfx : f x with
  | none =>
    rw [hfx] at h1 hl
    exact ⟨none, hl, h1⟩
  | some v =>
    rw [hfx] at h1 hl
    rcases h1 with ⟨rfl, h2⟩ | ⟨b, t, rfl, h2, h3⟩
    · exact ⟨none, hl, h2⟩
    · exact ⟨some b, hl, t, h2, h3⟩
set_option maxRecDepth 100000 in
set_option maxHeartbeats 2000000 in
theorem in_var (B sb lb pb ub : Nat) (vs : List (ByteArray × Int)) (es : List Int) (s : ByteArray) (hvs : vs.length ≤ 1099511627776) : SubIn 72 B sb lb pb ub vs es (.var s) := by
  intro P N n op d g v l tv w h hi ht hly hsh hd0 hd hN hl htk htab
  obtain ⟨A, c, rfl, _, _⟩ := ht.form
  obtain ⟨Ao, co, rfl⟩ := own_form hi.1
  simp only [Ty.form, Ty.num, Ty.name, Ty.args, List.length_nil] at ht ⊢
  obtain ⟨W, eW, t0, r0, bW, zW⟩ := boxes2 w (.int .i64 2) (.int .i64 0) (.string s) (.slice A 0 c)
  have hn : n ≤ 1099511627776 := by
    obtain ⟨A1, C1, e1, e2⟩ := hly.v
    have : A1.length ≤ vs.length := by rw [e1]; simp only [List.length_append]; omega
    omega
  have hsbw : sb < w.heap.size := lt_of_block h.cell
  have hsW := h.on bW
  have hcW := hsW.cell
  have c3 : W.cell? ⟨sb, 3, none⟩ = some (.int .i64 n) := by simp [World.cell?, hcW]
  have f3 : W.frozen? ⟨sb, 3, none⟩ = false := by simp [World.frozen?, hcW]
  have hs3 := hsW.put 3 (.int .i64 ((n : Int) + 1)) (bh' := ((n : Int) + 1)) (op' := op) (dp' := d) rfl
  have hi3 := (hi.on h bW).put hsW 3 (.int .i64 ((n : Int) + 1))
  have hf3 : FrSb sb ub (Value.slice Ao l.length co).ownBlock w (W.setCell ⟨sb, 3, none⟩ (.int .i64 ((n : Int) + 1))) := (FrSb.of_below bW).trans (FrSb.setCell 3 _) (fun j e => .inl e)
  have htW : (W.setCell ⟨sb, 3, none⟩ (.int .i64 ((n : Int) + 1))).heap[w.heap.size]? = some (.cells #[.int .i64 2, .int .i64 0, .string s, .slice A 0 c] 25) := (Below.heap_setCell _ _ _ _ (by simp only; omega)).trans t0
  have hrW : (W.setCell ⟨sb, 3, none⟩ (.int .i64 ((n : Int) + 1))).heap[w.heap.size + 1]? = some (.cells #[.int .i64 0, .int .i64 0, .string ⟨#[]⟩, .slice none 0 0] 25) := (Below.heap_setCell _ _ _ _ (by simp only; omega)).trans r0
  have hzV : (W.setCell ⟨sb, 3, none⟩ (.int .i64 ((n : Int) + 1))).heap.size = w.heap.size + 2 := by simpa using zW
  have hbs : B ≤ w.heap.size := h.hB.2.2.2.2
  have htV : TyAt (fun b => b < B) (W.setCell ⟨sb, 3, none⟩ (.int .i64 ((n : Int) + 1))) (.var s) (.agg #[.int .i64 2, .int .i64 0, .string s, .slice A 0 c]) := ht.keep (.of_belowB (fun _ h => h) (hf3.below h.hB.1 h.hB.2.2.2.1 (fun k hk => (World.ownsRow.lt hi.1 k hk).1) hbs))
  obtain ⟨V, hV⟩ : ∃ V, W.setCell ⟨sb, 3, none⟩ (.int .i64 ((n : Int) + 1)) = V := ⟨_, rfl⟩
  rw [hV] at hs3 hi3 hf3 htW hrW hzV htV
  obtain ⟨p', hlook', hp'⟩ := (hs3.on (Below.refl V.heap.size V).drew).puts.look (x := s) hsh
  have hcV := hs3.cell
  have v2 : V.cell? ⟨sb, 2, none⟩ = some (.map (some ub)) := by simp [World.cell?, hcV]
  obtain ⟨q0, q1, q2, q3, _⟩ := fourC htW
  obtain ⟨w0, w1, w2, w3, _⟩ := fourC t0
  have HS := Lib.hid (hs3.on (Below.refl V.heap.size V).drew)
  have HI := Lib.hid (hi3.on hs3 (Below.refl V.heap.size V).drew)
  have HF := Lib.hid (hf3.on (Below.refl V.heap.size V).drew)
  have HT := Lib.hid (htV.on (Below.refl V.heap.size V).drew)
  have HRW : Hid (V.drew.heap[w.heap.size + 1]? = some (.cells #[.int .i64 0, .int .i64 0, .string ⟨#[]⟩, .slice none 0 0] 25)) := hrW
  have HTW : Hid (V.drew.heap[w.heap.size]? = some (.cells #[.int .i64 2, .int .i64 0, .string s, .slice A 0 c] 25)) := htW
  have HZV : Hid (V.drew.heap.size = w.heap.size + 2) := hzV
  have HFIN : Hid (∀ (y : World) (u : Ty) (f1 n1 : Int) (s1 : ByteArray) (A1 : Option Addr) (l1 c1 : Nat), (Ty.var s).subC P (l.map (·.2)) = u → TyAt (fun b => V.drew.heap.size ≤ b) y u (.agg #[.int .i64 f1, .int .i64 n1, .string s1, .slice A1 l1 c1]) → Below V.drew.heap.size V.drew y → TyAt (fun b => w.heap.size ≤ b) (put4 y (w.heap.size + 1) (.int .i64 f1) (.int .i64 n1) (.string s1) (.slice A1 l1 c1)) ((Ty.var s).subC P (l.map (·.2))) (.agg #[.int .i64 f1, .int .i64 n1, .string s1, .slice A1 l1 c1]) ∧ SbSt B sb lb pb ub vs es P (N + 3) ((n + 1 : Nat) : Int) ((op + 0 : Nat) : Int) d (put4 y (w.heap.size + 1) (.int .i64 f1) (.int .i64 n1) (.string s1) (.slice A1 l1 c1)) ∧ IntoAt B ub (put4 y (w.heap.size + 1) (.int .i64 f1) (.int .i64 n1) (.string s1) (.slice A1 l1 c1)) (.slice Ao l.length co) l ∧ FrSb sb ub (Value.slice Ao l.length co).ownBlock w (put4 y (w.heap.size + 1) (.int .i64 f1) (.int .i64 n1) (.string s1) (.slice A1 l1 c1)) ∧ y.heap[w.heap.size + 1]? = some (.cells #[.int .i64 0, .int .i64 0, .string ⟨#[]⟩, .slice none 0 0] 25)) := fun y u f1 n1 s1 A1 l1 c1 hu hty hby => by
    have hrb := (hby.block _ (lt_of_block HRW.out)).trans HRW.out
    obtain ⟨k1, k2, k3, k4⟩ := put4_all (HS.out.on hby) (HI.out.on HS.out hby) (HF.out.on hby) hrb (by omega) (by omega) (.int .i64 f1) (.int .i64 n1) (.string s1) (.slice A1 l1 c1)
    refine ⟨?_, ?_, k2, k3, hrb⟩
    · rw [hu]
      have hz := HZV.out
      exact ((hty.mono (fun b (hb : _ ≤ b) => (by omega : w.heap.size + 1 < b))).keep k4).mono (fun b (hb : w.heap.size + 1 < b) => (by omega : w.heap.size ≤ b))
    · have e1 : ((n + 1 : Nat) : Int) = (n : Int) + 1 := by omega
      rw [e1, Nat.add_zero]
      exact k1.more (by omega)
  have HP' := Lib.hid hp'
  clear hs3 hi3 hf3 htV hrW htW hp' hsW hcW hcV h hi ht hly t0 r0 zW htab hzV
  go_enter Tryd.func72, Tryd.ntmps72
  go_upto_region 4 with (fail)
  go_region
  clear w0 w1 w2 w3 q0 q1 q2 q3 v2 c3 f3 eW hV
  rcases p' with _ | b
  · have hu : (Ty.var s).subC P (l.map (·.2)) = .var s := by show (P s).getD (.var s) = _; rw [show P s = none from HP'.out]; rfl
    have HO := Lib.hid (own_any (.var s) _ _ V.drew HT.out)
    obtain ⟨w0, w1, w2, w3, _⟩ := fourC HTW.out
    go_wp2_with fail
    (with_reducible refine HO.out.mono ?_)
    rintro e y ⟨rv, rfl, hrv, hby⟩
    obtain ⟨f1, n1, s1, A1, l1, c1, rfl⟩ := hrv.flat
    obtain ⟨k1, k2, k3, k4, k5⟩ := HFIN.out y _ f1 n1 s1 A1 l1 c1 hu hrv hby
    obtain ⟨r0, r1, r2, r3, g0, g1, g2, g3⟩ := fourC k5
    have K1 := Lib.hid k1
    have K2 := Lib.hid k2
    have K3 := Lib.hid k3
    have K4 := Lib.hid k4
    clear k1 k2 k3 k4 k5 hrv hby
    go_wp2
    exact bodyPost_ret (v := .agg #[.int .i64 f1, .int .i64 n1, .string s1, .slice A1 l1 c1]) (by simp [results, Tryd.results72, go_sem, r0, r1, r2, r3]) rfl ⟨_, rfl, K1.out, K2.out, K3.out, K4.out⟩
  · obtain ⟨u, hu', hsz, f0, n0, s0, A0, l0, c0, mb, hb1, hb2, _, _⟩ := HP'.out
    have hu : (Ty.var s).subC P (l.map (·.2)) = u := by show (P s).getD (.var s) = _; rw [hu']; rfl
    have HO := Lib.hid (own_any u _ _ V.drew hb2)
    have w1 : V.drew.cell? ⟨b, 1, none⟩ = some (.int .i64 f0) := by simp [World.cell?, hb1]
    have w2 : V.drew.cell? ⟨b, 2, none⟩ = some (.int .i64 n0) := by simp [World.cell?, hb1]
    have w3 : V.drew.cell? ⟨b, 3, none⟩ = some (.string s0) := by simp [World.cell?, hb1]
    have w4 : V.drew.cell? ⟨b, 4, none⟩ = some (.slice A0 l0 c0) := by simp [World.cell?, hb1]
    clear hb1 hb2
    go_wp2_with fail
    (with_reducible refine HO.out.mono ?_)
    rintro e y ⟨rv, rfl, hrv, hby⟩
    obtain ⟨f1, n1, s1, A1, l1, c1, rfl⟩ := hrv.flat
    obtain ⟨k1, k2, k3, k4, k5⟩ := HFIN.out y _ f1 n1 s1 A1 l1 c1 hu hrv hby
    obtain ⟨r0, r1, r2, r3, g0, g1, g2, g3⟩ := fourC k5
    have K1 := Lib.hid k1
    have K2 := Lib.hid k2
    have K3 := Lib.hid k3
    have K4 := Lib.hid k4
    clear k1 k2 k3 k4 k5 hrv hby
    go_wp2
    exact bodyPost_ret (v := .agg #[.int .i64 f1, .int .i64 n1, .string s1, .slice A1 l1 c1]) (by simp [results, Tryd.results72, go_sem, r0, r1, r2, r3]) rfl ⟨_, rfl, K1.out, K2.out, K3.out, K4.out⟩
theorem subC_else {t : Ty} (h2 : t.form ≠ 2) (h5 : t.form ≠ 5) (P : ByteArray → Option Ty) (τ : List (ByteArray × Ty)) : (t.subC P τ).form = t.form ∧ (t.subC P τ).num = t.num ∧ (t.subC P τ).name = t.name ∧ (t.subC P τ).args = t.args.map (fun x => x.subC P τ) := by
  cases t <;> simp [Ty.form] at h2 h5 <;> simp [Ty.subC, Ty.form, Ty.num, Ty.name, Ty.args]
theorem vars_else {t : Ty} (h2 : t.form ≠ 2) (h5 : t.form ≠ 5) : t.vars = varsL t.args := by
  rw [← layV_len (fun _ => 0) 0, layV_else h2 h5, layVL_len]
theorem sumSz_args' (t : Ty) : sumSz t.args + 1 = t.sz := by
  cases t <;> simp [Ty.args, sumSz, Ty.sz]
theorem short_args {t : Ty} (h : t.short) : ∀ x ∈ t.args, x.short := by
  cases t <;> simp [Ty.args]
  · exact ⟨h.1, h.2⟩
  · exact h.2
set_option maxRecDepth 100000 in
set_option maxHeartbeats 2000000 in
theorem in_else (B sb lb pb ub : Nat) (vs : List (ByteArray × Int)) (es : List Int) (t : Ty) (h2 : t.form ≠ 2) (h5 : t.form ≠ 5) (hea : SubEach B sb lb pb ub vs es t.args) : SubIn 72 B sb lb pb ub vs es t := by
  intro P N n op d g v l tv w h hi ht hly hsh hd0 hd hN hl htk htab
  obtain ⟨sv, rfl, hs⟩ := ht.tys
  obtain ⟨A, c, rfl, _, _⟩ := hs.form
  obtain ⟨Ao, co, rfl⟩ := own_form hi.1
  obtain ⟨W, eW, t0, r0, bW, zW⟩ := boxes2 w (.int .i64 t.form) (.int .i64 t.num) (.string t.name) (.slice A t.args.length c)
  have hsz := sumSz_args' t
  have hsbw : sb < w.heap.size := lt_of_block h.cell
  have hubw : ub < w.heap.size := by obtain ⟨sz, f, m1, _⟩ := h.puts; exact m1.lt
  have hown : ∀ k, (Value.slice Ao l.length co).ownBlock = some k → k < w.heap.size := fun k hk => (World.ownsRow.lt hi.1 k hk).2
  have hB := h.hB
  have hlyL : LayCxL vs es n op d g t.args := ⟨by rw [← layV_else h2 h5]; exact hly.v, by rw [← layE_else h2 h5]; exact hly.e, hly.g⟩
  have HC := Lib.hid (hea P N n op d g _ l _ W (h.on bW) (hi.on h bW) (hs.on bW) hlyL (short_args hsh) hd0 (by omega) (by omega) (by omega) (by omega) (htab.on (bW.mono hB.2.2.2.2)))
  have hf2 : (t.form == 2) = false := beq_eq_false_iff_ne.2 h2
  have hf5 : (t.form == 5) = false := beq_eq_false_iff_ne.2 h5
  have HFIN : Hid (∀ (y : World) (A1 : Option Addr) (l1 c1 : Nat), TysAt (fun b => W.heap.size ≤ b) y (t.args.map (fun x => x.subC P (l.map (·.2)))) (.slice A1 l1 c1) → SbSt B sb lb pb ub vs es P (N + 3 * sumSz t.args) ((n + varsL t.args : Nat) : Int) ((op + (layEL n t.args).length : Nat) : Int) d y → IntoAt B ub y (.slice Ao l.length co) l → FrSb sb ub (Value.slice Ao l.length co).ownBlock W y →
      (y.heap[w.heap.size]? = some (.cells #[.int .i64 t.form, .int .i64 t.num, .string t.name, .slice A t.args.length c] 25) ∧ y.heap[w.heap.size + 1]? = some (.cells #[.int .i64 0, .int .i64 0, .string ⟨#[]⟩, .slice none 0 0] 25)) ∧
      TyAt (fun b => w.heap.size ≤ b) (put4 (y.setCell ⟨w.heap.size, 3, none⟩ (.slice A1 l1 c1)) (w.heap.size + 1) (.int .i64 t.form) (.int .i64 t.num) (.string t.name) (.slice A1 l1 c1)) (t.subC P (l.map (·.2))) (.agg #[.int .i64 t.form, .int .i64 t.num, .string t.name, .slice A1 l1 c1]) ∧ SbSt B sb lb pb ub vs es P (N + 3 * t.sz) ((n + t.vars : Nat) : Int) ((op + (layE n t).length : Nat) : Int) d (put4 (y.setCell ⟨w.heap.size, 3, none⟩ (.slice A1 l1 c1)) (w.heap.size + 1) (.int .i64 t.form) (.int .i64 t.num) (.string t.name) (.slice A1 l1 c1)) ∧ IntoAt B ub (put4 (y.setCell ⟨w.heap.size, 3, none⟩ (.slice A1 l1 c1)) (w.heap.size + 1) (.int .i64 t.form) (.int .i64 t.num) (.string t.name) (.slice A1 l1 c1)) (.slice Ao l.length co) l ∧ FrSb sb ub (Value.slice Ao l.length co).ownBlock w (put4 (y.setCell ⟨w.heap.size, 3, none⟩ (.slice A1 l1 c1)) (w.heap.size + 1) (.int .i64 t.form) (.int .i64 t.num) (.string t.name) (.slice A1 l1 c1))) := fun y A1 l1 c1 hty hs1 hi1 hf1 => by
    have ht1 := (hf1.block w.heap.size (by omega) (by omega) (by omega) (fun e => by have := hown _ e; omega)).trans t0
    have hr1 := (hf1.block (w.heap.size + 1) (by omega) (by omega) (by omega) (fun e => by have := hown _ e; omega)).trans r0
    have hb1 : Blk y w.heap.size 4 := ⟨_, ht1, rfl⟩
    have hr2 : (y.setCell ⟨w.heap.size, 3, none⟩ (.slice A1 l1 c1)).heap[w.heap.size + 1]? = some (.cells #[.int .i64 0, .int .i64 0, .string ⟨#[]⟩, .slice none 0 0] 25) := (Below.heap_setCell _ _ _ _ (by simp only; omega)).trans hr1
    have hf9 : FrSb sb ub (Value.slice Ao l.length co).ownBlock w (y.setCell ⟨w.heap.size, 3, none⟩ (.slice A1 l1 c1)) := ((FrSb.of_below bW).trans hf1 (fun j e => .inl e)).set (Nat.le_refl _) 3 _
    obtain ⟨k1, k2, k3, k4⟩ := put4_all (hs1.set hb1.cells (by omega) 3 (.slice A1 l1 c1)) (hi1.set hb1.cells (by omega) 3 (.slice A1 l1 c1)) hf9 hr2 (by omega) (by omega) (.int .i64 t.form) (.int .i64 t.num) (.string t.name) (.slice A1 l1 c1)
    obtain ⟨e1, e2, e3, e4⟩ := subC_else h2 h5 P (l.map (·.2))
    refine ⟨⟨ht1, hr1⟩, ?_, ?_, k2, k3⟩
    · have hk := (Keeps.setCell (P := fun k => w.heap.size + 1 < k) (w := y) (b := w.heap.size) (o := 3) (fun e => by omega) (.slice A1 l1 c1)).trans k4
      have h9 := ((hty.mono (fun b (hb : _ ≤ b) => (by omega : w.heap.size + 1 < b))).keep hk).mono (fun b (hb : w.heap.size + 1 < b) => (by omega : w.heap.size ≤ b))
      rw [← e4] at h9
      have h8 := h9.ty
      rwa [e1, e2, e3] at h8
    · rw [vars_else h2 h5, layE_else h2 h5]
      exact k1.more (by omega)
  obtain ⟨w0, w1, w2, w3, _⟩ := fourC t0
  clear h hi ht hly hlyL hs hea htab hsh t0 r0 bW zW hown
  generalize t.form = tf at *
  go_enter Tryd.func72, Tryd.ntmps72
  go_wp2_with fail
  (with_reducible refine HC.out.mono ?_)
  rintro e y ⟨rv, rfl, hrv, hs1, hi1, hf1⟩
  obtain ⟨A1, l1, c1, rfl⟩ : ∃ A1 l1 c1, rv = .slice A1 l1 c1 := by obtain ⟨A1, c1, e, _⟩ := hrv.form; exact ⟨_, _, _, e⟩
  obtain ⟨⟨k0, k9⟩, k1, k2, k3, k4⟩ := HFIN.out y A1 l1 c1 hrv hs1 hi1 hf1
  obtain ⟨x0, x1, x2, x3, y0, y1, y2, y3⟩ := fourC k0
  obtain ⟨r0, r1, r2, r3, g0, g1, g2, g3⟩ := fourC k9
  have K1 := Lib.hid k1
  have K2 := Lib.hid k2
  have K3 := Lib.hid k3
  have K4 := Lib.hid k4
  clear k1 k2 k3 k4 k0 k9 hrv hs1 hi1 hf1 w0 w1 w2 w3
  go_wp2
  exact bodyPost_ret (v := .agg #[.int .i64 tf, .int .i64 t.num, .string t.name, .slice A1 l1 c1]) (by simp [results, Tryd.results72, go_sem, r0, r1, r2, r3]) rfl ⟨_, rfl, K1.out, K2.out, K3.out, K4.out⟩
set_option maxRecDepth 100000 in
set_option maxHeartbeats 2000000 in
theorem in_all (B sb lb pb ub : Nat) (vs : List (ByteArray × Int)) (es : List Int) (s : ByteArray) (b : Ty) (hall : SubIn 106 B sb lb pb ub vs es (.all s b)) : SubIn 72 B sb lb pb ub vs es (.all s b) := by
  intro P N n op d g v l tv w h hi ht hly hsh hd0 hd hN hl htk htab
  obtain ⟨A, c, rfl, _, _⟩ := ht.form
  obtain ⟨Ao, co, rfl⟩ := own_form hi.1
  simp only [Ty.form, Ty.num, Ty.name, Ty.args, List.length_cons, List.length_nil] at ht ⊢
  obtain ⟨W, eW, t0, r0, bW, zW⟩ := boxes2 w (.int .i64 5) (.int .i64 0) (.string s) (.slice A 1 c)
  have hsbw : sb < w.heap.size := lt_of_block h.cell
  have hubw : ub < w.heap.size := by obtain ⟨sz, f, m1, _⟩ := h.puts; exact m1.lt
  have hown : ∀ k, (Value.slice Ao l.length co).ownBlock = some k → k < w.heap.size := fun k hk => (World.ownsRow.lt hi.1 k hk).2
  have hB := h.hB
  have HC := Lib.hid (hall P N n op d g _ l _ W (h.on bW) (hi.on h bW) (ht.on bW) hly hsh hd0 hd hN hl htk (htab.on (bW.mono hB.2.2.2.2)))
  have HFIN : Hid (∀ (y : World) (f1 n1 : Int) (s1 : ByteArray) (A1 : Option Addr) (l1 c1 : Nat), TyAt (fun b => W.heap.size ≤ b) y ((Ty.all s b).subC P (l.map (·.2))) (.agg #[.int .i64 f1, .int .i64 n1, .string s1, .slice A1 l1 c1]) → SbSt B sb lb pb ub vs es P (N + 3 * (Ty.all s b).sz) ((n + (Ty.all s b).vars : Nat) : Int) ((op + (layE n (Ty.all s b)).length : Nat) : Int) d y → IntoAt B ub y (.slice Ao l.length co) l → FrSb sb ub (Value.slice Ao l.length co).ownBlock W y →
      (y.heap[w.heap.size + 1]? = some (.cells #[.int .i64 0, .int .i64 0, .string ⟨#[]⟩, .slice none 0 0] 25)) ∧
      TyAt (fun b => w.heap.size ≤ b) (put4 y (w.heap.size + 1) (.int .i64 f1) (.int .i64 n1) (.string s1) (.slice A1 l1 c1)) ((Ty.all s b).subC P (l.map (·.2))) (.agg #[.int .i64 f1, .int .i64 n1, .string s1, .slice A1 l1 c1]) ∧ SbSt B sb lb pb ub vs es P (N + 3 * (Ty.all s b).sz) ((n + (Ty.all s b).vars : Nat) : Int) ((op + (layE n (Ty.all s b)).length : Nat) : Int) d (put4 y (w.heap.size + 1) (.int .i64 f1) (.int .i64 n1) (.string s1) (.slice A1 l1 c1)) ∧ IntoAt B ub (put4 y (w.heap.size + 1) (.int .i64 f1) (.int .i64 n1) (.string s1) (.slice A1 l1 c1)) (.slice Ao l.length co) l ∧ FrSb sb ub (Value.slice Ao l.length co).ownBlock w (put4 y (w.heap.size + 1) (.int .i64 f1) (.int .i64 n1) (.string s1) (.slice A1 l1 c1))) := fun y f1 n1 s1 A1 l1 c1 hty hs1 hi1 hf1 => by
    have hr1 := (hf1.block (w.heap.size + 1) (by omega) (by omega) (by omega) (fun e => by have := hown _ e; omega)).trans r0
    have hf9 : FrSb sb ub (Value.slice Ao l.length co).ownBlock w y := (FrSb.of_below bW).trans hf1 (fun j e => .inl e)
    obtain ⟨k1, k2, k3, k4⟩ := put4_all hs1 hi1 hf9 hr1 (by omega) (by omega) (.int .i64 f1) (.int .i64 n1) (.string s1) (.slice A1 l1 c1)
    exact ⟨hr1, ((hty.mono (fun b (hb : _ ≤ b) => (by omega : w.heap.size + 1 < b))).keep k4).mono (fun b (hb : w.heap.size + 1 < b) => (by omega : w.heap.size ≤ b)), k1, k2, k3⟩
  obtain ⟨w0, w1, w2, w3, _⟩ := fourC t0
  clear h hi ht hly hall htab hsh t0 r0 bW zW hown hd hN hl htk
  go_enter Tryd.func72, Tryd.ntmps72
  go_wp2_with fail
  (with_reducible refine HC.out.mono ?_)
  rintro e y ⟨rv, rfl, hrv, hs1, hi1, hf1⟩
  obtain ⟨f1, n1, s1, A1, l1, c1, rfl⟩ := hrv.flat
  obtain ⟨k9, k1, k2, k3, k4⟩ := HFIN.out y f1 n1 s1 A1 l1 c1 hrv hs1 hi1 hf1
  obtain ⟨r0, r1, r2, r3, g0, g1, g2, g3⟩ := fourC k9
  have K1 := Lib.hid k1
  have K2 := Lib.hid k2
  have K3 := Lib.hid k3
  have K4 := Lib.hid k4
  clear k1 k2 k3 k4 k9 hrv hs1 hi1 hf1 w0 w1 w2 w3
  go_wp2
  exact bodyPost_ret (v := .agg #[.int .i64 f1, .int .i64 n1, .string s1, .slice A1 l1 c1]) (by simp [results, Tryd.results72, go_sem, r0, r1, r2, r3]) rfl ⟨_, rfl, K1.out, K2.out, K3.out, K4.out⟩
end Go.Proofs.YtbdfjboojokgdaaDoor
