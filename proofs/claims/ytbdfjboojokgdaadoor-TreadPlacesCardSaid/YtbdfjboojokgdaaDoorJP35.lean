/- The contract of the document's Scheme (chapter 5). Conditions: at most 2^40 tokens, the last one an end; what is read is not too great. -/
import Derived.Test.YtbdfjboojokgdaaDoorJP34
namespace Go.Proofs.YtbdfjboojokgdaaDoor
open Go.RowKit Lx

/-- Predicates as a slice, in blocks of which P holds. -/
def PsP (P : Nat → Prop) (w : World) (ps : List (ByteArray × Ty)) (v : Value) : Prop :=
  ∃ A c, v = .slice A ps.length c ∧ (ps = [] ∨ ∃ b, A = some ⟨b, 0, none⟩ ∧ b < w.heap.size ∧ P b ∧ ∀ i (h : i < ps.length), ∃ f n s A' l c', w.cell? ⟨b, i * 5, none⟩ = some (.string ps[i].1) ∧ w.cell? ⟨b, i * 5 + 1, none⟩ = some (.int .i64 f) ∧ w.cell? ⟨b, i * 5 + 2, none⟩ = some (.int .i64 n) ∧ w.cell? ⟨b, i * 5 + 3, none⟩ = some (.string s) ∧ w.cell? ⟨b, i * 5 + 4, none⟩ = some (.slice A' l c') ∧ TyAt P w ps[i].2 (.agg #[.int .i64 f, .int .i64 n, .string s, .slice A' l c']))
theorem PsP.nil (P : Nat → Prop) (w : World) : PsP P w [] (.slice none 0 0) := ⟨none, 0, rfl, .inl rfl⟩
theorem PRow.psP {base : Nat} {w : World} {ps : List (ByteArray × Ty)} {v : Value} (h : PRow base w ps v) : PsP (fun b => base ≤ b ∧ b < w.heap.size) w ps v := by
  obtain ⟨cs, ho, ht⟩ := h
  rcases ho.2 with ⟨h1, h2⟩ | ⟨g, cap, cur, h1, h2, h3, h4, h5, h6, h7⟩
  · exact ⟨none, 0, by rw [h1, h2], .inl (List.eq_nil_of_length_eq_zero h2)⟩
  · rw [h1] at ho
    refine ⟨some ⟨g, 0, none⟩, cap, h1, .inr ⟨g, rfl, lt_of_block h3, ⟨h2, lt_of_block h3⟩, fun i hi => ?_⟩⟩
    obtain ⟨x0, x1, x2, x3, c0, c1, c2, c3, c4, hx⟩ := ht i hi
    obtain ⟨f, n, s, A', l, c', e⟩ := hx.flat
    simp only [Value.agg.injEq, Array.mk.injEq, List.cons.injEq, and_true] at e
    obtain ⟨rfl, rfl, rfl, rfl⟩ := e
    exact ⟨f, n, s, A', l, c', by rw [World.ownsRow.cellAt ho _ (by omega)]; exact c0, by rw [World.ownsRow.cellAt ho _ (by omega)]; exact c1, by rw [World.ownsRow.cellAt ho _ (by omega)]; exact c2, by rw [World.ownsRow.cellAt ho _ (by omega)]; exact c3, by rw [World.ownsRow.cellAt ho _ (by omega)]; exact c4, hx.bound.mono (fun b hb => ⟨hb.1.1, hb.2⟩)⟩
theorem PsP.keep {P : Nat → Prop} {w w' : World} {ps : List (ByteArray × Ty)} {v : Value} (h : PsP P w ps v) (hb : Keeps P w w') : PsP P w' ps v := by
  obtain ⟨A, c, e, hr⟩ := h
  refine ⟨A, c, e, ?_⟩
  rcases hr with h9 | ⟨b, e2, hlt, hp, hc⟩
  · exact .inl h9
  · refine .inr ⟨b, e2, Nat.lt_of_lt_of_le hlt hb.size, hp, fun i hi => ?_⟩
    obtain ⟨f, n, s, A', l, c', k0, k1, k2, k3, k4, hx⟩ := hc i hi
    have hk := fun o => hb.cell b o hp hlt
    exact ⟨f, n, s, A', l, c', (hk _).trans k0, (hk _).trans k1, (hk _).trans k2, (hk _).trans k3, (hk _).trans k4, hx.keep hb⟩
theorem PsP.mono {P Q : Nat → Prop} {w : World} {ps : List (ByteArray × Ty)} {v : Value} (h : PsP P w ps v) (hpq : ∀ b, P b → Q b) : PsP Q w ps v := by
  obtain ⟨A, c, e, hr⟩ := h
  refine ⟨A, c, e, ?_⟩
  rcases hr with h9 | ⟨b, e2, hlt, hp, hc⟩
  · exact .inl h9
  · refine .inr ⟨b, e2, hlt, hpq b hp, fun i hi => ?_⟩
    obtain ⟨f, n, s, A', l, c', k0, k1, k2, k3, k4, hx⟩ := hc i hi
    exact ⟨f, n, s, A', l, c', k0, k1, k2, k3, k4, hx.mono hpq⟩
theorem PsP.on {P : Nat → Prop} {w w' : World} {ps : List (ByteArray × Ty)} {v : Value} (h : PsP P w ps v) (hb : Below w.heap.size w w') : PsP P w' ps v := h.keep (.of_below hb)
/-- What the document's Scheme tells. -/
def XSRes (toks : List Tok) (out : GotS) (w : World) (e : Ending) (w' : World) : Prop :=
  match out with
  | .ok ps t r => ∃ f n s A l c Ap cp Av nv cv, e = .returned (.agg #[.int .i64 f, .int .i64 n, .string s, .slice A l c, .slice Ap ps.length cp, .slice Av nv cv, .int .i64 ((toks.length - r.length : Nat) : Int), .int .i64 0, .int .i64 0]) ∧ StrsAt (fun _ => True) w' (.slice Av nv cv) (funs (ps.map (·.2)) t).free ∧ PsP (fun _ => True) w' ps (.slice Ap ps.length cp) ∧ TyAt (fun _ => True) w' t (.agg #[.int .i64 f, .int .i64 n, .string s, .slice A l c]) ∧ Below w.heap.size w w'
  | .no ec p => e = .returned (.agg #[.int .i64 0, .int .i64 0, .string ⟨#[]⟩, .slice none 0 0, .slice none 0 0, .slice none 0 0, .int .i64 0, .int .i64 ec, .int .i64 p]) ∧ Below w.heap.size w w'
/-- What Preds told, in two ways. -/
theorem px_cases {toks : List Tok} {i : Nat} {w w' : World} {e : Ending} (hi : i < toks.length) (hE : EndsT toks) (h : PXRes toks i toks[i].place (predsRaw (toks.drop i)) w e w') :
    (schemeRaw (toks.drop i) = .no 2 toks[i].place ∧ e = .returned (.agg #[.int .i64 0, .int .i64 0, .string ⟨#[]⟩, .slice none 0 0, .slice none 0 0, .slice none 0 0, .int .i64 0, .int .i64 2, .int .i64 toks[i].place]) ∧ Below w.heap.size w w') ∨
    ∃ ps Ap cp Pn, e = .returned (.agg #[.int .i64 0, .int .i64 0, .string ⟨#[]⟩, .slice none 0 0, .slice Ap ps.length cp, .slice none 0 0, .int .i64 (Pn : Nat), .int .i64 0, .int .i64 0]) ∧ PsP (fun b => w.heap.size ≤ b ∧ b < w'.heap.size) w' ps (.slice Ap ps.length cp) ∧ Below w.heap.size w w' ∧ EndsT (toks.drop Pn) ∧ ps.length ≤ 16 ∧ schemeRaw (toks.drop i) = withP ps (typeL (toks.drop Pn) 0) := by
  have hh : (((toks.drop i).head?.map Tok.place).getD 0) = toks[i].place := by rw [List.drop_eq_getElem_cons hi]; rfl
  unfold schemeRaw
  cases ho : predsRaw (toks.drop i) with
  | none =>
    rw [ho] at h
    obtain ⟨rfl, hb⟩ := h
    exact .inr ⟨[], none, 0, i, rfl, PsP.nil _ _, hb, hE.drop hi, by simp, rfl⟩
  | some o =>
    obtain ⟨ps, q⟩ := o
    rw [ho] at h
    simp only
    rcases h with ⟨h16, rfl, hb⟩ | ⟨h16, A, c, rfl, hr, hb, hq, hne⟩
    · exact .inl ⟨by rw [if_pos h16, hh], rfl, hb⟩
    · have hd : toks.drop (toks.length - q.length) = q := drop_suf (i := 0) (by simpa using hq)
      have hql := List.length_pos_iff.2 hne
      have hqt := hq.length_le
      refine .inr ⟨ps, A, c, toks.length - q.length, rfl, hr.psP, hb, hE.drop (by omega), h16, ?_⟩
      rw [if_neg (by omega), hd]
/-- The document's scheme under way: its box, its variables. -/
structure XSt (Z : World) (xb : Nat) (f n : Int) (s : ByteArray) (A : Option Addr) (l c : Nat) (Ap : Option Addr) (np cp : Nat) (I : Int) (v : Value) (cur : List ByteArray) (wr : World) : Prop where
  bx : wr.heap[xb]? = some (.cells #[.int .i64 f, .int .i64 n, .string s, .slice A l c, .slice Ap np cp, v, .int .i64 I, .int .i64 0, .int .i64 0] 62)
  own : OwnS Z.heap.size wr v cur
  fr : Fr (fun b => b = xb) Z wr
  lt : xb < Z.heap.size
/-- What Free and vars do to it. -/
theorem XSt.step {Z : World} {xb : Nat} {f n : Int} {s : ByteArray} {A : Option Addr} {l c : Nat} {Ap : Option Addr} {np cp : Nat} {I : Int} {Av : Option Addr} {nv cv : Nat} {cur : List ByteArray} {wr : World} (h : XSt Z xb f n s A l c Ap np cp I (.slice Av nv cv) cur wr) (tt : Ty) (tv : Value) (ht : TyAt (fun b => b ≠ xb) Z tt tv) (hz : tt.sz ≤ 549755813888) (hc : cur.length ≤ 549755813888) :
    Calls Tryd.prog 15 #[tv] wr.drew fun e x => ∃ Au nu cu, e = .returned (.slice Au nu cu) ∧ Below wr.heap.size wr x ∧ x.heap[xb]? = some (.cells #[.int .i64 f, .int .i64 n, .string s, .slice A l c, .slice Ap np cp, .slice Av nv cv, .int .i64 I, .int .i64 0, .int .i64 0] 62) ∧
      Calls Tryd.prog 95 #[.slice Av nv cv, .slice Au nu cu] x fun e x2 => ∃ A2 n2 c2, e = .returned (.slice A2 n2 c2) ∧ x2.heap[xb]? = some (.cells #[.int .i64 f, .int .i64 n, .string s, .slice A l c, .slice Ap np cp, .slice Av nv cv, .int .i64 I, .int .i64 0, .int .i64 0] 62) ∧
        XSt Z xb f n s A l c Ap np cp I (.slice A2 n2 c2) (addS cur tt.free) (x2.setCell ⟨xb, 5, none⟩ (.slice A2 n2 c2)) := by
  have hbd := h.bx
  have hxl := lt_of_block hbd
  have hK : Keeps (fun b => b ≠ xb) Z wr := ⟨h.fr.size, fun b off hp hlt => World.cell?_of_block (a := ⟨b, off, none⟩) (h.fr.block b hlt hp)⟩
  have hd : Below wr.heap.size wr wr.drew := (Below.refl _ wr).drew
  refine (reffree_any (fun b => b ≠ xb) tt tv wr.drew ((ht.keep hK).on hd) (by omega)).mono ?_
  rintro e x ⟨⟨u, rfl, hu⟩, hb⟩
  obtain ⟨Au, cu, rfl⟩ := own_form hu
  have hbx : Below wr.heap.size wr x := hd.trans hb
  have hxx := (hbx.block xb hxl).trans hbd
  refine ⟨Au, _, cu, rfl, hbx, hxx, ?_⟩
  have hox : OwnS Z.heap.size x (.slice Av nv cv) cur := own_below h.own hbx
  have hvlt : ∀ k, (Value.slice Av nv cv).ownBlock = some k → Z.heap.size ≤ k ∧ k < wr.heap.size := fun k hk => World.ownsRow.lt h.own k hk
  have hus : StrsAt (fun b => b < x.heap.size ∧ (Value.slice Av nv cv).ownBlock ≠ some b) x (.slice Au tt.free.length cu) tt.free := by
    obtain ⟨A', c', e', h1, h2, hr⟩ := OwnS.strs hu
    refine ⟨A', c', e', h1, h2, ?_⟩
    rcases hr with hr | ⟨b, off, e9, hp, hlt, hcl⟩
    · exact .inl hr
    · exact .inr ⟨b, off, e9, ⟨hlt, fun e => by have h7 := (hvlt b e).2; have h8 : wr.heap.size ≤ b := hp.1; omega⟩, hlt, hcl⟩
  have hfl := free_len tt
  refine (varsX_any Z.heap.size cur tt.free _ _ x hox hus (by have := h.fr.size; have := hbx.size; omega) (by omega)).mono ?_
  rintro e x2 ⟨u2, rfl, ho2, hg2, ha2⟩
  obtain ⟨A2, c2, rfl⟩ := own_form ho2
  have hlz := h.lt
  have hk2 : ∀ k, k < x.heap.size → k < Z.heap.size → x2.heap[k]? = x.heap[k]? := fun k h1 h2 => hg2.block k h1 (fun e => by have := (hvlt k e.symm).1; omega)
  have hzx : Z.heap.size ≤ x.heap.size := by have := h.fr.size; have := hbx.size; omega
  have hx2 := (hk2 xb (by omega) hlz).trans hxx
  refine ⟨A2, _, c2, rfl, hx2, heap_setCell_same _ xb 5 _ _ _ hx2, ?_, ?_, hlz⟩
  · refine own_keep ho2 (fun g hg => ?_)
    have : Z.heap.size ≤ g := (World.ownsRow.lt ho2 g hg).1
    exact Below.heap_setCell _ _ _ _ (by show g ≠ xb; omega)
  · have hfr := h.fr
    exact ⟨hg2.os.trans (hbx.os.trans hfr.os), hg2.tape.trans (hbx.tape.trans hfr.tape), hg2.output.trans (hbx.output.trans hfr.output), by have := hg2.size; simp; omega, fun k h1 h2 => by
      rw [Below.heap_setCell _ _ _ _ (by show k ≠ xb; exact h2), hk2 k (by omega) h1, hbx.block k (by have := hfr.size; omega)]
      exact hfr.block k h1 h2⟩
theorem sum_mem_le (ps : List (ByteArray × Ty)) (k : Nat) (h : k < ps.length) : ps[k].2.sz ≤ (ps.map (fun p => p.2.sz + 3)).sum := by
  have e : ps = ps.take k ++ ps[k] :: ps.drop (k + 1) := by rw [← List.drop_eq_getElem_cons h, List.take_append_drop]
  have h2 : (ps.map (fun p => p.2.sz + 3)).sum = ((ps.take k).map (fun p => p.2.sz + 3)).sum + ((ps[k].2.sz + 3) + ((ps.drop (k + 1)).map (fun p => p.2.sz + 3)).sum) := by
    conv => lhs; rw [e]
    rw [List.map_append, List.sum_append, List.map_cons, List.sum_cons]
  omega
theorem xs_no {toks : List Tok} {w W : World} {ec p : Nat} (hb : Below w.heap.size w W) (x0 x1 x2 x3 x4 x5 x6 x7 x8 : Value) : XSRes toks (.no ec p) w (.returned (.agg #[.int .i64 0, .int .i64 0, .string ⟨#[]⟩, .slice none 0 0, .slice none 0 0, .slice none 0 0, .int .i64 0, .int .i64 ec, .int .i64 p])) (putX W w.heap.size x0 x1 x2 x3 x4 x5 x6 x7 x8) :=
  ⟨rfl, putX_below hb (Nat.le_refl _) x0 x1 x2 x3 x4 x5 x6 x7 x8⟩
/-- What is told of a scheme that was read. -/
theorem xs_ok {toks : List Tok} {w Z U : World} {xb : Nat} {P : Nat → Prop} {f n : Int} {s : ByteArray} {A : Option Addr} {l c : Nat} {Ap : Option Addr} {cp : Nat} {I : Int} {A2 : Option Addr} {n2 c2 : Nat} {ps : List (ByteArray × Ty)} {t : Ty} {r : List Tok} (hwZ : Below w.heap.size w Z)
    (h : XSt Z xb f n s A l c Ap ps.length cp I (.slice A2 n2 c2) (addS (varsK ps) t.free) U) (hp : PsP P Z ps (.slice Ap ps.length cp)) (hP : ∀ b, P b → b ≠ xb ∧ b ≠ w.heap.size) (ht : TyAt (fun b => b ≠ xb ∧ b ≠ w.heap.size) Z t (.agg #[.int .i64 f, .int .i64 n, .string s, .slice A l c])) (hw : w.heap.size < xb) (hv : addS (varsK ps) t.free = (funs (ps.map (·.2)) t).free) (hI : ((toks.length - r.length : Nat) : Int) = I) :
    XSRes toks (withP ps (.ok t r)) w (.returned (.agg #[.int .i64 f, .int .i64 n, .string s, .slice A l c, .slice Ap ps.length cp, .slice A2 n2 c2, .int .i64 I, .int .i64 0, .int .i64 0])) (putX U w.heap.size (.int .i64 f) (.int .i64 n) (.string s) (.slice A l c) (.slice Ap ps.length cp) (.slice A2 n2 c2) (.int .i64 I) (.int .i64 0) (.int .i64 0)) := by
  have hlt := h.lt
  have hK : Keeps (fun b => b ≠ xb ∧ b ≠ w.heap.size) Z (putX U w.heap.size (.int .i64 f) (.int .i64 n) (.string s) (.slice A l c) (.slice Ap ps.length cp) (.slice A2 n2 c2) (.int .i64 I) (.int .i64 0) (.int .i64 0)) :=
    ⟨by rw [putX_size]; exact h.fr.size, fun b off hb hbl => World.cell?_of_block (a := ⟨b, off, none⟩) ((putX_ne _ _ _ _ _ _ _ _ _ _ _ b hb.2).trans (h.fr.block b hbl hb.1))⟩
  have hU : Below w.heap.size w U := ⟨h.fr.os.trans hwZ.os, h.fr.tape.trans hwZ.tape, h.fr.output.trans hwZ.output, Nat.le_trans hwZ.size h.fr.size, fun b hb => (h.fr.block b (by have := hwZ.size; omega) (by omega)).trans (hwZ.block b hb)⟩
  refine ⟨f, n, s, A, l, c, Ap, cp, A2, n2, c2, by rw [hI], ?_, ((hp.mono hP).keep hK).mono (fun _ _ => trivial), (ht.keep hK).mono (fun _ _ => trivial), putX_below hU (Nat.le_refl _) _ _ _ _ _ _ _ _ _⟩
  rw [← hv]
  refine ((OwnS.strs h.own).keep (P := fun b => Z.heap.size ≤ b ∧ (Value.slice A2 n2 c2).ownBlock = some b) ⟨by rw [putX_size]; exact Nat.le_refl _, fun b off hb _ => World.cell?_of_block (a := ⟨b, off, none⟩) (putX_ne _ _ _ _ _ _ _ _ _ _ _ b (by have := hb.1; omega))⟩).mono (fun _ _ => trivial)
set_option maxRecDepth 100000 in
set_option maxHeartbeats 2000000 in
theorem schemeX_any (toks : List Tok) (g cap i : Nat) (w : World) (hT : TokC w g toks) (hg : g < w.heap.size) (hi : i < toks.length) (hl : toks.length ≤ 1099511627776) (hE : EndsT toks)
    (hsz : ∀ ps t r, schemeRaw (toks.drop i) = .ok ps t r → (funs (ps.map (·.2)) t).sz ≤ 274877906944) :
    Calls Tryd.prog 45 #[.slice (some ⟨g, 0, none⟩) toks.length cap, .int .i64 i] w (XSRes toks (schemeRaw (toks.drop i)) w) := by
  obtain ⟨W, eW, k0, b1, z1⟩ := box9 w (.int .i64 0) (.int .i64 0) (.string ⟨#[]⟩) (.slice none 0 0) (.slice none 0 0) (.slice none 0 0) (.int .i64 0) (.int .i64 0) (.int .i64 0) 62
  have HPX := Lib.hid (predsX_any toks g cap i W (hT.block (b1.block g hg)) (by omega) hi hl hE)
  have HPC := Lib.hid (fun (e : Ending) (w' : World) => px_cases (w := W) (w' := w') (e := e) hi hE)
  have HT0 := Lib.hid hT
  have HEW := Lib.hid eW
  have HB := Lib.hid b1
  have HK0 := Lib.hid k0
  have HZ1 := Lib.hid z1
  have HSZ := Lib.hid hsz
  clear eW b1 k0 hT hsz
  generalize hsr : schemeRaw (toks.drop i) = sr at *
  go_enter Tryd.func45, Tryd.ntmps45
  go_upto_region 1 with (fail)
  rw [HEW.out]
  go_wp2_with fail
  (with_reducible refine HPX.out.mono ?_)
  intro e1 y hy
  rcases HPC.out e1 y hy with ⟨rfl, rfl, hb⟩ | ⟨ps, Ap, cp, Pn, rfl, hps, hb, hEP, h16, rfl⟩
  · obtain ⟨Z, eZ, k1, b2, z2⟩ := box9 y (.int .i64 0) (.int .i64 0) (.string ⟨#[]⟩) (.slice none 0 0) (.slice none 0 0) (.slice none 0 0) (.int .i64 0) (.int .i64 2) (.int .i64 toks[i].place) 62
    have hbZ := hb.trans (b2.mono hb.size)
    have hkZ := (hbZ.block w.heap.size (by omega)).trans HK0.out
    have hbw := HB.out.trans (hbZ.mono HB.out.size)
    obtain ⟨v0, v1, v2, v3, v4, v5, v6, v7, v8, _⟩ := nine_cells k1
    obtain ⟨u0, u1, u2, u3, u4, u5, u6, u7, u8, f0, f1, f2, f3, f4, f5, f6, f7, f8, hw0⟩ := nine_cells hkZ
    have hne : w.heap.size < y.heap.size := by have := hb.size; omega
    have HEZ := Lib.hid eZ
    have HE := Lib.hid (xs_no (toks := toks) (ec := 2) (p := toks[i].place) hbw (.int .i64 0) (.int .i64 0) (.string ⟨#[]⟩) (.slice none 0 0) (.slice none 0 0) (.slice none 0 0) (.int .i64 0) (.int .i64 2) (.int .i64 toks[i].place))
    clear hb eZ k1 b2 hbZ hkZ hbw hy
    generalize toks[i].place = pl at *
    go_upto_region 2 with (fail)
    rw [HEZ.out]
    go_wp2_with fail
    exact bodyPost_ret (v := .agg #[.int .i64 0, .int .i64 0, .string ⟨#[]⟩, .slice none 0 0, .slice none 0 0, .slice none 0 0, .int .i64 0, .int .i64 2, .int .i64 pl]) (by simp [results, Tryd.results45, go_sem, u0, u1, u2, u3, u4, u5, u6, u7, u8]) rfl HE.out
  · obtain ⟨Y, eY, k1, b2, z2⟩ := box9 y (.int .i64 0) (.int .i64 0) (.string ⟨#[]⟩) (.slice none 0 0) (.slice Ap ps.length cp) (.slice none 0 0) (.int .i64 (Pn : Nat)) (.int .i64 0) (.int .i64 0) 62
    have hbY := hb.trans (b2.mono hb.size)
    have hkY := (hbY.block w.heap.size (by omega)).trans HK0.out
    have hbw := HB.out.trans (hbY.mono HB.out.size)
    have hpY := hps.on b2
    have hty := typeX_any (cap := cap) (i := Pn) (o := 0) (HT0.out.block (w' := Y) (hbw.block g hg)) (by have := hbw.size; omega) (by omega) hl hEP
    have HTY : Hid (Calls Tryd.prog 38 #[.slice (some ⟨g, 0, none⟩) toks.length cap, .int .i64 (Pn : Nat), .int .i64 0] Y (XRes toks (typeL (toks.drop Pn) 0) Y)) := hty
    have herr := fun e p => typeL_err (e := e) (p := p) (o := 0) hEP
    obtain ⟨v0, v1, v2, v3, v4, v5, v6, v7, v8, _⟩ := nine_cells k1
    have hwy : w.heap.size < y.heap.size := by have := hb.size; omega
    have HEY := Lib.hid eY
    have HK1 := Lib.hid k1
    have HKY := Lib.hid hkY
    have HBW := Lib.hid hbw
    have HPY := Lib.hid hpY
    have hYs : y.heap.size < Y.heap.size := by omega
    clear hb eY k1 b2 hbY hkY hbw hy hps hpY hty hEP z2
    generalize typeL (toks.drop Pn) 0 = ra at *
    go_upto_region 2 with (fail)
    rw [HEY.out]
    go_wp2_with fail
    (with_reducible refine HTY.out.mono ?_)
    intro e2 z hz
    cases ra with
    | no e p =>
      obtain ⟨rfl, hb⟩ := hz
      have he := herr e p rfl
      have he0 : ((e : Int) == 0) = false := by rw [beq_eq_false_iff_ne]; omega
      obtain ⟨Z, eZ, k2, b3, z3⟩ := box9 z (.int .i64 0) (.int .i64 0) (.string ⟨#[]⟩) (.slice none 0 0) (.slice none 0 0) (.slice none 0 0) (.int .i64 0) (.int .i64 e) (.int .i64 p) 62
      have hbZ := hb.trans (b3.mono hb.size)
      have hkZ := (hbZ.block w.heap.size (by omega)).trans HKY.out
      have hbw := HBW.out.trans (hbZ.mono HBW.out.size)
      obtain ⟨v0, v1, v2, v3, v4, v5, v6, v7, v8, _⟩ := nine_cells k2
      obtain ⟨u0, u1, u2, u3, u4, u5, u6, u7, u8, f0, f1, f2, f3, f4, f5, f6, f7, f8, hw0⟩ := nine_cells hkZ
      have hne : w.heap.size < z.heap.size := by have := hb.size; omega
      have HEZ := Lib.hid eZ
      have HE : Hid (XSRes toks (withP ps (.no e p)) w (.returned (.agg #[.int .i64 0, .int .i64 0, .string ⟨#[]⟩, .slice none 0 0, .slice none 0 0, .slice none 0 0, .int .i64 0, .int .i64 e, .int .i64 p])) (putX Z w.heap.size (.int .i64 0) (.int .i64 0) (.string ⟨#[]⟩) (.slice none 0 0) (.slice none 0 0) (.slice none 0 0) (.int .i64 0) (.int .i64 e) (.int .i64 p))) := xs_no (toks := toks) (ec := e) (p := p) hbw _ _ _ _ _ _ _ _ _
      clear hb eZ k2 b3 hbZ hkZ hbw herr
      go_upto_region 5 with (fail)
      rw [HEZ.out]
      go_wp2_with fail
      exact bodyPost_ret (v := .agg #[.int .i64 0, .int .i64 0, .string ⟨#[]⟩, .slice none 0 0, .slice none 0 0, .slice none 0 0, .int .i64 0, .int .i64 e, .int .i64 p]) (by simp [results, Tryd.results45, go_sem, u0, u1, u2, u3, u4, u5, u6, u7, u8]) rfl HE.out
    | ok t r =>
      obtain ⟨f, n, s, A, l, c, rfl, ht, hb⟩ := hz
      have hsum := HSZ.out ps t r rfl
      rw [sum_psz] at hsum
      obtain ⟨Z, eZ, k2, b3, z3⟩ := box9 z (.int .i64 f) (.int .i64 n) (.string s) (.slice A l c) (.slice none 0 0) (.slice none 0 0) (.int .i64 ((toks.length - r.length : Nat) : Int)) (.int .i64 0) (.int .i64 0) 62
      have hbZ := hb.trans (b3.mono hb.size)
      have hkZ := (hbZ.block w.heap.size (by omega)).trans HKY.out
      have hk1Z := (hbZ.block y.heap.size (by omega)).trans HK1.out
      have hbw := HBW.out.trans (hbZ.mono HBW.out.size)
      have hyz : Y.heap.size ≤ z.heap.size := hb.size
      generalize hI : ((toks.length - r.length : Nat) : Int) = I at *
      obtain ⟨Ze, eZe⟩ : ∃ Ze, Z.setCell ⟨z.heap.size, 4, none⟩ (.slice Ap ps.length cp) = Ze := ⟨_, rfl⟩
      have hZes : Ze.heap.size = Z.heap.size := by rw [← eZe]; simp
      have hZen : ∀ k, k ≠ z.heap.size → Ze.heap[k]? = Z.heap[k]? := fun k hk => by rw [← eZe]; exact Below.heap_setCell _ _ _ _ hk
      have hZeb : Ze.heap[z.heap.size]? = some (.cells #[.int .i64 f, .int .i64 n, .string s, .slice A l c, .slice Ap ps.length cp, .slice none 0 0, .int .i64 I, .int .i64 0, .int .i64 0] 62) := by rw [← eZe]; exact heap_setCell_same _ z.heap.size 4 _ _ _ k2
      have hSt0 : XSt Z z.heap.size f n s A l c Ap ps.length cp I (.slice none 0 0) [] Ze := ⟨hZeb, OwnS.nil _ _, ⟨by rw [← eZe]; rfl, by rw [← eZe]; rfl, by rw [← eZe]; rfl, by omega, fun k _ hk => hZen k hk⟩, by omega⟩
      have htZ : TyAt (fun b => b ≠ z.heap.size) Z t (.agg #[.int .i64 f, .int .i64 n, .string s, .slice A l c]) := (ht.bound.mono (Q := fun b => b ≠ z.heap.size) (fun b hb => by have := hb.2; omega)).on b3
      have hpZ := HPY.out.on hbZ
      have HPZ := Lib.hid hpZ
      have HTZ := Lib.hid htZ
      have HTZ2 := Lib.hid ((ht.bound.mono (Q := fun b => b ≠ z.heap.size ∧ b ≠ w.heap.size) (fun b hb => ⟨by have := hb.2; omega, by have := hb.1; omega⟩)).on b3)
      have HSUM := Lib.hid hsum
      have HST0 := Lib.hid hSt0
      have HEZ := Lib.hid eZ
      have HEZe := Lib.hid eZe
      have HKZ := Lib.hid hkZ
      have HK1Z := Lib.hid hk1Z
      have HBZw := Lib.hid hbw
      have HI := Lib.hid hI
      have HZS := Lib.hid z3
      obtain ⟨m0, m1, m2, m3, m4, m5, m6, m7, m8, j0, j1, j2, j3, j4, j5, j6, j7, j8, hj⟩ := nine_cells k2
      obtain ⟨v0, v1, v2, v3, v4, v5, v6, v7, v8, _⟩ := nine_cells hk1Z
      clear hb eZ eZe k2 b3 hbZ hkZ hk1Z hbw herr hZes hZen hZeb hSt0 htZ hpZ ht hI z3 hsum
      go_upto_region 5 with (fail)
      rw [HEZ.out]
      go_upto_region 8 with (fail)
      rw [HEZe.out]
      go_wp2_with fail
      go_loopw [7] (fun i9 wr => ∃ (k : Nat) (Av : Option Addr) (nv cv : Nat), k ≤ ps.length ∧ i9 = .int .i64 k ∧ XSt Z z.heap.size f n s A l c Ap ps.length cp I (.slice Av nv cv) (varsK (ps.take k)) wr) (fun i9 _ => ps.length - (intOf i9).toNat)
      case atStart => exact ⟨0, none, 0, 0, Nat.zero_le _, rfl, HST0.out⟩
      case round =>
        obtain ⟨k, Av, nv, cv, hk, rfl, hst⟩ := hrel
        have hzs := HZS.out
        have hk1r := (hst.fr.block y.heap.size (by omega) (by omega)).trans HK1Z.out
        have hkr := (hst.fr.block w.heap.size (by omega) (by omega)).trans HKZ.out
        have hzr := hst.fr.size
        obtain ⟨m0, m1, m2, m3, m4, m5, m6, m7, m8, j0, j1, j2, j3, j4, j5, j6, j7, j8, hj⟩ := nine_cells hst.bx
        obtain ⟨v0, v1, v2, v3, v4, v5, v6, v7, v8, _⟩ := nine_cells hk1r
        have hcl : (varsK (ps.take k)).length ≤ 549755813888 := by
          have h1 := varsK_len (ps.take k)
          have h2 : ((ps.take k).map (fun p => p.2.sz + 3)).sum ≤ (ps.map (fun p => p.2.sz + 3)).sum := by
            conv => rhs; rw [← List.take_append_drop k ps]
            rw [List.map_append, List.sum_append]; omega
          have h3 := HSUM.out
          omega
        by_cases hlt : k < ps.length
        · obtain ⟨Ax, cx, e9, hr9⟩ := HPZ.out
          injection e9 with e9 _ e9c
          subst e9 e9c
          rcases hr9 with hr9 | ⟨b, e8, hbl, ⟨hbW, hbY⟩, hc9⟩
          · rw [hr9] at hlt; simp at hlt
          · subst e8
            obtain ⟨fx, nx, sx, A9, lx, c9, h0, h1, h2, h3, h4, htx⟩ := hc9 k hlt
            have hkk : ∀ o, wr.cell? ⟨b, o, none⟩ = Z.cell? ⟨b, o, none⟩ := fun o => World.cell?_of_block (a := ⟨b, o, none⟩) (hst.fr.block b (by omega) (by omega))
            rw [← hkk] at h0 h1 h2 h3 h4
            have htx2 : TyAt (fun b => b ≠ z.heap.size) Z ps[k].2 (.agg #[.int .i64 fx, .int .i64 nx, .string sx, .slice A9 lx c9]) := htx.mono (fun b hb => by have := hb.2; omega)
            have hsz1 : ps[k].2.sz ≤ 549755813888 := by
              have h9 := HSUM.out
              have h7 := sum_mem_le ps k hlt
              omega
            have HS := Lib.hid (hst.step ps[k].2 _ htx2 hsz1 hcl)
            have HVK := Lib.hid (varsK_take hlt)
            have hki : (k : Int) < (ps.length : Int) := by omega
            have hk0 : (0 : Int) ≤ (k : Int) := by omega
            have hbwr : b < wr.heap.size := by omega
            clear hst hk1r hkr htx htx2 hc9 hkk hcl hsz1
            go_wp2_with fail
            go_region_law (first | (go_simp; go_at_call 15; (with_reducible refine HS.out.mono ?_); rintro e5 x5 ⟨Au, nu, cu, rfl, hb5, hk5, hcall⟩; have HC2 := Lib.hid hcall; obtain ⟨a0, a1, a2, a3, a4, a5, a6, a7, a8, _⟩ := nine_cells hk5; clear hb5 hk5 hcall) | (go_simp; go_at_call 95; (with_reducible refine HC2.out.mono ?_); rintro e6 x6 ⟨A2, n2, c2, rfl, hk6, hst6⟩; have HST6 := Lib.hid hst6; obtain ⟨b0, b1, b2, b3, b4, b5, b6, b7, b8, _⟩ := nine_cells hk6; clear hk6 hst6))
            all_goals
              go_wp2_with fail
              go_roundw
              case rel =>
                have hfin : ∃ (k9 : Nat) (Av : Option Addr) (nv cv : Nat), k9 ≤ ps.length ∧ Value.int .i64 ((k : Int) + 1) = .int .i64 k9 ∧ XSt Z z.heap.size f n s A l c (some ⟨b, 0, none⟩) ps.length cp I (.slice Av nv cv) (varsK (ps.take k9)) (x6.setCell ⟨z.heap.size, 5, none⟩ (.slice A2 n2 c2)) := ⟨k + 1, A2, n2, c2, by omega, by go_num, by rw [HVK.out]; exact HST6.out⟩
                first | exact hfin | ((repeat apply Exists.intro); exact ⟨hfin, rfl⟩)
              case measure => simp [intOf]; omega
        · have hkl : ps.take k = ps := List.take_of_length_le (by omega)
          rw [hkl] at hst
          have hd : decide (k < ps.length) = false := by simpa using hlt
          have hsz1 : t.sz ≤ 549755813888 := by have := HSUM.out; omega
          have hvl : (varsK ps).length ≤ 549755813888 := by rw [hkl] at hcl; exact hcl
          have HS := Lib.hid (hst.step t _ HTZ.out hsz1 hvl)
          have HKR := Lib.hid hkr
          have HSV := Lib.hid (scheme_vars ps t)
          have hwz : w.heap.size < z.heap.size := by omega
          clear hst hk1r hkr hcl hkl hsz1 hvl
          go_wp2_with fail
          go_region_law (first | (go_simp; go_at_call 15; (with_reducible refine HS.out.mono ?_); rintro e5 x5 ⟨Au, nu, cu, rfl, hb5, hk5, hcall⟩; have HC2 := Lib.hid hcall; obtain ⟨a0, a1, a2, a3, a4, a5, a6, a7, a8, _⟩ := nine_cells hk5; clear hb5 hk5 hcall) | (go_simp; go_at_call 95; (with_reducible refine HC2.out.mono ?_); rintro e6 x6 ⟨A2, n2, c2, rfl, hk6, hst6⟩; have HST6 := Lib.hid hst6; obtain ⟨b0, b1, b2, b3, b4, b5, b6, b7, b8, _⟩ := nine_cells hk6; clear hk6 hst6))
          all_goals
            obtain ⟨U, eU⟩ : ∃ U, x6.setCell ⟨z.heap.size, 5, none⟩ (.slice A2 n2 c2) = U := ⟨_, rfl⟩
            have hst6 := HST6.out
            rw [eU] at hst6 ⊢
            have hkU := (hst6.fr.block w.heap.size (by omega) (by omega)).trans HKZ.out
            obtain ⟨u0, u1, u2, u3, u4, u5, u6, u7, u8, g0, g1, g2, g3, g4, g5, g6, g7, g8, hw0⟩ := nine_cells hkU
            obtain ⟨a0, a1, a2, a3, a4, a5, a6, a7, a8, _⟩ := nine_cells hst6.bx
            have HE : Hid (XSRes toks (withP ps (.ok t r)) w (.returned (.agg #[.int .i64 f, .int .i64 n, .string s, .slice A l c, .slice Ap ps.length cp, .slice A2 n2 c2, .int .i64 I, .int .i64 0, .int .i64 0])) (putX U w.heap.size (.int .i64 f) (.int .i64 n) (.string s) (.slice A l c) (.slice Ap ps.length cp) (.slice A2 n2 c2) (.int .i64 I) (.int .i64 0) (.int .i64 0))) := xs_ok HBZw.out hst6 HPZ.out (fun b hb => ⟨by have := hb.2; omega, by have := hb.1; omega⟩) HTZ2.out hwz HSV.out HI.out
            clear hst6 hkU eU
            go_wp2_with fail
            exact bodyPost_ret (v := .agg #[.int .i64 f, .int .i64 n, .string s, .slice A l c, .slice Ap ps.length cp, .slice A2 n2 c2, .int .i64 I, .int .i64 0, .int .i64 0]) (by simp [results, Tryd.results45, go_sem, u0, u1, u2, u3, u4, u5, u6, u7, u8]) rfl HE.out
end Go.Proofs.YtbdfjboojokgdaaDoor
