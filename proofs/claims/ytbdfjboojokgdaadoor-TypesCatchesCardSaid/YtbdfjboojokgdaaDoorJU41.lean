/- The contract of the document's Subst (chapter 4): leaves and applications. Conditions: at most 2^20 names and nodes, types of at most 2^20 nodes each. The contract of the document's Subst (chapter 4): applications. Conditions: at most 2^20 names and nodes, types of at most 2^20 nodes each. -/
import Derived.Test.YtbdfjboojokgdaaDoorJU40
import Derived.Test.YtbdfjboojokgdaaDoorJU03
import Derived.Deep.RegionHeld3
namespace Go.Proofs.YtbdfjboojokgdaaDoor
open Go.RowKit

def SubIs (n : Nat) : Prop := ∀ (P Q : Nat → Prop) (t : Ty) (σ : List (ByteArray × Ty)) (v nv bv : Value) (w : World), t.sz ≤ n → (∀ b, P b → b < w.heap.size) → TyAt P w t v → StrsAt Q w nv (σ.map (·.1)) → TysAt P w (σ.map (·.2)) bv → (∀ p ∈ σ, p.2.sz ≤ 1048576) → σ.length + t.sz ≤ 1048576 → Calls Tryd.prog 24 #[v, nv, bv] w (TyShares P w (t.sub σ))
/-- What is told lies in the result's box. -/
theorem sub_end {P : Nat → Prop} {w x : World} {t : Ty} {f n : Int} {s : ByteArray} {A : Option Addr} {l c : Nat} (hP : ∀ b, P b → b < w.heap.size) (h : TyAt (fun b => P b ∨ w.heap.size + 2 ≤ b) x t (.agg #[.int .i64 f, .int .i64 n, .string s, .slice A l c])) (hb : Below w.heap.size w x) : TyShares P w t (.returned (.agg #[.int .i64 f, .int .i64 n, .string s, .slice A l c])) ((((x.setCell ⟨w.heap.size + 1, 0, none⟩ (.int .i64 f)).setCell ⟨w.heap.size + 1, 1, none⟩ (.int .i64 n)).setCell ⟨w.heap.size + 1, 2, none⟩ (.string s)).setCell ⟨w.heap.size + 1, 3, none⟩ (.slice A l c)) :=
  ⟨_, rfl, (h.keep (.box (b := w.heap.size + 1) (fun hx => by rcases hx with hx | hx; (· have := hP _ hx; omega); omega) _ _ _ _)).mono (fun b hb => by rcases hb with hb | hb; (· exact .inl hb); exact .inr (by omega)), below_box hb (by omega) _ _ _ _⟩
set_option maxRecDepth 100000 in
set_option maxHeartbeats 2000000 in
theorem sub_leaf (P Q : Nat → Prop) (t : Ty) (σ : List (ByteArray × Ty)) (v nv bv : Value) (w : World) (hl : t.args = []) (hf : t.form ≠ 2) (hP : ∀ b, P b → b < w.heap.size) (h : TyAt P w t v) (hn : StrsAt Q w nv (σ.map (·.1))) (hb : TysAt P w (σ.map (·.2)) bv) : Calls Tryd.prog 24 #[v, nv, bv] w (TyShares P w (t.sub σ)) := by
  have hsub : t.sub σ = t := by cases t <;> first | rfl | (exact absurd rfl hf) | cases hl
  rw [hsub]
  have hf4 : t.form ≠ 4 := by cases t <;> simp [Ty.form, Ty.args] at *
  have hf5 : t.form ≠ 5 := by cases t <;> simp [Ty.form, Ty.args] at *
  have HT := Lib.hid (fun (x : World) (hx : Below w.heap.size w x) => h.on hx)
  obtain ⟨A, c, rfl, hc, hm⟩ := h.form
  obtain ⟨An, cn, rfl, _, _⟩ := hn.shape
  obtain ⟨Ab, cb, rfl, _, _⟩ := hb.form
  obtain ⟨W, eW, q1, q2, b2, z2⟩ := two_boxes w (.int .i64 t.form) (.int .i64 t.num) (.string t.name) (.slice A t.args.length c) (.int .i64 0) (.int .i64 0) (.string ⟨#[]⟩) (.slice none 0 0) 25 25
  have HEW := Lib.hid eW
  have HE : Hid (∀ x, Below w.heap.size w x → TyShares P w t (.returned (.agg #[.int .i64 t.form, .int .i64 t.num, .string t.name, .slice A t.args.length c])) ((((x.setCell ⟨w.heap.size + 1, 0, none⟩ (.int .i64 t.form)).setCell ⟨w.heap.size + 1, 1, none⟩ (.int .i64 t.num)).setCell ⟨w.heap.size + 1, 2, none⟩ (.string t.name)).setCell ⟨w.heap.size + 1, 3, none⟩ (.slice A t.args.length c))) := fun x hx => sub_end hP ((HT.out x hx).mono (fun b hb => .inl hb)) hx
  have HB2 := Lib.hid b2
  obtain ⟨x0, x1, x2, x3, x4, _⟩ := q1
  obtain ⟨z0, z1, z9, z3, z4, z5, z6, z7, z8⟩ := q2
  have g2 : (t.form == 2) = false := by rw [beq_eq_false_iff_ne]; exact hf
  have g4 : (t.form == 4) = false := by rw [beq_eq_false_iff_ne]; exact hf4
  have g5 : (t.form == 5) = false := by rw [beq_eq_false_iff_ne]; exact hf5
  clear eW b2 h hn hb hc hm hf hf4 hf5 hl hsub
  generalize t.form = tf, t.num = tn, t.name = ts, t.args.length = tl at *
  go_enter Tryd.func24, Tryd.ntmps24
  go_upto_region 1 with (fail)
  rw [HEW.out]
  go_wp2_with fail
  exact bodyPost_ret (v := .agg #[.int .i64 tf, .int .i64 tn, .string ts, .slice A tl c]) (by simp [results, Tryd.results24, go_sem, z1, z9, z3, z4]) rfl (HE.out W HB2.out)
set_option maxRecDepth 100000 in
set_option maxHeartbeats 2000000 in
theorem sub_var (P Q : Nat → Prop) (s : ByteArray) (σ : List (ByteArray × Ty)) (v nv bv : Value) (w : World) (hP : ∀ b, P b → b < w.heap.size) (h : TyAt P w (.var s) v) (hn : StrsAt Q w nv (σ.map (·.1))) (hb : TysAt P w (σ.map (·.2)) bv) : Calls Tryd.prog 24 #[v, nv, bv] w (TyShares P w ((Ty.var s).sub σ)) := by
  have HT := Lib.hid (fun (x : World) (hx : Below w.heap.size w x) => h.on hx)
  obtain ⟨A, c, rfl, hc, hm⟩ := h.form
  obtain ⟨An, cn, rfl, _, _⟩ := hn.shape
  obtain ⟨Ab, cb, rfl, _, _⟩ := hb.form
  simp only [Ty.form, Ty.num, Ty.name, Ty.args, List.length_nil, List.length_map] at HT ⊢
  simp only [List.length_map] at hn hb
  obtain ⟨W, eW, q1, q2, b2, z2⟩ := two_boxes w (.int .i64 2) (.int .i64 0) (.string s) (.slice A 0 c) (.int .i64 0) (.int .i64 0) (.string ⟨#[]⟩) (.slice none 0 0) 25 25
  have HEW := Lib.hid eW
  have HA := Lib.hid (at_any Q _ s _ W (hn.on b2))
  have HB2 := Lib.hid b2
  have HBY := Lib.hid (hb.on b2)
  have HP := Lib.hid hP
  obtain ⟨x0, x1, x2, x3, x4, _⟩ := q1
  obtain ⟨z0, z1, z9, z3, z4, z5, z6, z7, z8⟩ := q2
  clear eW b2 h hn hb hc hm hP
  go_enter Tryd.func24, Tryd.ntmps24
  go_wp2_with fail
  rw [HEW.out]
  go_wp2_with fail
  refine HA.out.mono ?_
  rintro e y ⟨⟨k, rfl, hk⟩, rfl⟩
  rcases hk with ⟨rfl, hno⟩ | ⟨i, rfl, hi, e1, e2⟩
  · have HE : Hid (TyShares P w ((Ty.var s).sub σ) (.returned (.agg #[.int .i64 2, .int .i64 0, .string s, .slice A 0 c])) ((((W.setCell ⟨w.heap.size + 1, 0, none⟩ (.int .i64 2)).setCell ⟨w.heap.size + 1, 1, none⟩ (.int .i64 0)).setCell ⟨w.heap.size + 1, 2, none⟩ (.string s)).setCell ⟨w.heap.size + 1, 3, none⟩ (.slice A 0 c))) := by
      rw [Ty.sub, lookS_none.2 hno]
      exact sub_end HP.out ((HT.out W HB2.out).mono (fun b hb => .inl hb)) HB2.out
    clear hno
    go_wp2_with fail
    exact bodyPost_ret (v := .agg #[.int .i64 2, .int .i64 0, .string s, .slice A 0 c]) (by simp [results, Tryd.results24, go_sem, z1, z9, z3, z4]) rfl HE.out
  · have hi' : i < σ.length := by simpa using hi
    obtain ⟨b, off, A5, c5, e5, hPb, hbl, m0, m1, m2, m3, hx⟩ := HBY.out.at i (by simpa using hi')
    subst e5
    have hg : (σ.map (·.2))[i]'(by simpa using hi') = σ[i].2 := by simp
    rw [hg] at m0 m1 m2 m3 hx
    have hlk : lookS σ s = some σ[i].2 := lookS_first i hi' (by simpa using e1) e2
    generalize σ[i].2 = u at *
    obtain ⟨f, n, s', A6, l6, c6, e6⟩ := hx.flat
    simp only [Value.agg.injEq, Array.mk.injEq, List.cons.injEq, and_true] at e6
    obtain ⟨e61, e62, e63, e64⟩ := e6
    rw [e61, e62, e63, e64] at hx
    rw [e61] at m0
    rw [e62] at m1
    rw [e63] at m2
    rw [e64] at m3
    clear e61 e62 e63 e64
    have HE : Hid (TyShares P w ((Ty.var s).sub σ) (.returned (.agg #[.int .i64 f, .int .i64 n, .string s', .slice A6 l6 c6])) ((((W.setCell ⟨w.heap.size + 1, 0, none⟩ (.int .i64 f)).setCell ⟨w.heap.size + 1, 1, none⟩ (.int .i64 n)).setCell ⟨w.heap.size + 1, 2, none⟩ (.string s')).setCell ⟨w.heap.size + 1, 3, none⟩ (.slice A6 l6 c6))) := by
      rw [Ty.sub, hlk]
      exact sub_end HP.out (hx.mono (fun b hb => .inl hb)) HB2.out
    have hki : (i : Int) < (σ.length : Int) := by omega
    have hk0 : (0 : Int) ≤ (i : Int) := by omega
    clear hx hlk hg e1 e2 hi
    go_wp2_with fail
    exact bodyPost_ret (v := .agg #[.int .i64 f, .int .i64 n, .string s', .slice A6 l6 c6]) (by simp [results, Tryd.results24, go_sem, z1, z9, z3, z4]) rfl HE.out
end Go.Proofs.YtbdfjboojokgdaaDoor
namespace Go.Proofs.YtbdfjboojokgdaaDoor
open Go.RowKit

set_option maxRecDepth 100000 in
set_option maxHeartbeats 2000000 in
theorem sub_app (n : Nat) (ih : SubIs n) (P Q : Nat → Prop) (a b : Ty) (σ : List (ByteArray × Ty)) (v nv bv : Value) (w : World) (hsz : (Ty.app a b).sz ≤ n + 1) (hP : ∀ b, P b → b < w.heap.size) (h : TyAt P w (.app a b) v) (hn : StrsAt Q w nv (σ.map (·.1))) (hb : TysAt P w (σ.map (·.2)) bv) (hσ : ∀ p ∈ σ, p.2.sz ≤ 1048576) (hz : σ.length + (Ty.app a b).sz ≤ 1048576) : Calls Tryd.prog 24 #[v, nv, bv] w (TyShares P w ((Ty.app a b).sub σ)) := by
  rw [Ty.sub]
  simp only [Ty.sz] at hsz hz
  obtain ⟨sv, rfl, hs⟩ := h.tys
  simp only [Ty.form, Ty.num, Ty.name, Ty.args] at hs ⊢
  obtain ⟨A, c, rfl, _, _⟩ := hs.form
  obtain ⟨g, off, A5, c5, rfl, hPg, hgl, k0, k1, k2, k3, hx⟩ := hs.at 0 (by simp)
  obtain ⟨g', off', A4, c4, e4, _, _, m0, m1, m2, m3, hy⟩ := hs.at 1 (by simp)
  injection e4 with e4
  injection e4 with e5 e6
  subst e5 e6
  simp only [List.getElem_cons_zero, List.getElem_cons_succ, Nat.zero_mul, Nat.add_zero, Nat.one_mul] at k0 k1 k2 k3 m0 m1 m2 m3 hx hy
  simp only [List.length_cons, List.length_nil, Nat.zero_add, Nat.reduceAdd]
  obtain ⟨An, cn, rfl, _, _⟩ := hn.shape
  obtain ⟨Ab, cb, rfl, _, _⟩ := hb.form
  obtain ⟨W, eW, q1, q2, b2, z2⟩ := two_boxes w (.int .i64 4) (.int .i64 0) (.string ⟨#[]⟩) (.slice (some ⟨g, off, none⟩) 2 c) (.int .i64 0) (.int .i64 0) (.string ⟨#[]⟩) (.slice none 0 0) 25 25
  have HN : Hid (∀ x, Below W.heap.size W x → ((x.cell? ⟨w.heap.size, 0, none⟩ = some (.int .i64 4) ∧ x.cell? ⟨w.heap.size, 3, none⟩ = some (.slice (some ⟨g, off, none⟩) 2 c)) ∧ (x.cell? ⟨g, off, none⟩ = some (.int .i64 a.form) ∧ x.cell? ⟨g, off + 1, none⟩ = some (.int .i64 a.num) ∧ x.cell? ⟨g, off + 2, none⟩ = some (.string a.name) ∧ x.cell? ⟨g, off + 3, none⟩ = some (.slice A5 a.args.length c5)) ∧ (x.cell? ⟨g, off + 4, none⟩ = some (.int .i64 b.form) ∧ x.cell? ⟨g, off + 4 + 1, none⟩ = some (.int .i64 b.num) ∧ x.cell? ⟨g, off + 4 + 2, none⟩ = some (.string b.name) ∧ x.cell? ⟨g, off + 4 + 3, none⟩ = some (.slice A4 b.args.length c4))) ∧ Box4 x (w.heap.size + 1) (.int .i64 0) (.int .i64 0) (.string ⟨#[]⟩) (.slice none 0 0)) := fun x hxx => by
    have hbx : Below w.heap.size w x := b2.trans (hxx.mono b2.size)
    obtain ⟨_, x0, x1, x2, x3, _⟩ := q1.on hxx
    exact ⟨⟨⟨x0, x3⟩, ⟨(hbx.cell hgl).trans k0, (hbx.cell hgl).trans k1, (hbx.cell hgl).trans k2, (hbx.cell hgl).trans k3⟩, (hbx.cell hgl).trans m0, (hbx.cell hgl).trans m1, (hbx.cell hgl).trans m2, (hbx.cell hgl).trans m3⟩, q2.on hxx⟩
  have HC : Hid (∀ x, Below W.heap.size W x → Calls Tryd.prog 24 #[.agg #[.int .i64 a.form, .int .i64 a.num, .string a.name, .slice A5 a.args.length c5], .slice An (σ.map (·.1)).length cn, .slice Ab (σ.map (·.2)).length cb] x.drew fun e x1 => ∃ f n s A l c, e = .returned (.agg #[.int .i64 f, .int .i64 n, .string s, .slice A l c]) ∧ Below W.heap.size W x1 ∧
      Hid (Calls Tryd.prog 24 #[.agg #[.int .i64 b.form, .int .i64 b.num, .string b.name, .slice A4 b.args.length c4], .slice An (σ.map (·.1)).length cn, .slice Ab (σ.map (·.2)).length cb] x1 fun e x2 => ∃ f' n' s' A' l' c', e = .returned (.agg #[.int .i64 f', .int .i64 n', .string s', .slice A' l' c']) ∧ Below W.heap.size W x2 ∧
        Hid (Calls Tryd.prog 66 #[.agg #[.int .i64 f, .int .i64 n, .string s, .slice A l c], .agg #[.int .i64 f', .int .i64 n', .string s', .slice A' l' c']] x2 fun e x3 => ∃ f n s A l c, e = .returned (.agg #[.int .i64 f, .int .i64 n, .string s, .slice A l c]) ∧ Below W.heap.size W x3 ∧ Hid (TyAt (fun b => P b ∨ w.heap.size + 2 ≤ b) x3 (.app (a.sub σ) (b.sub σ)) (.agg #[.int .i64 f, .int .i64 n, .string s, .slice A l c]))))) := fun x hxx => by
    have hbx : Below w.heap.size w x.drew := (b2.trans (hxx.mono b2.size)).drew
    have hxd : Below W.heap.size W x.drew := hxx.drew
    have hWx := hxd.size
    refine (ih P Q a σ _ _ _ x.drew (by omega) (fun b hb => by have := hP b hb; omega) (hx.on hbx) (hn.on hbx) (hb.on hbx) hσ (by omega)).mono ?_
    rintro e x1 ⟨v1, rfl, ht1, hb1⟩
    obtain ⟨f1, n1, s1, A1, l1, c1, rfl⟩ := ht1.flat
    have hx1 := hxd.trans (hb1.mono hWx)
    refine ⟨f1, n1, s1, A1, l1, c1, rfl, hx1, ?_⟩
    have hbx1 : Below w.heap.size w x1 := b2.trans (hx1.mono b2.size)
    have hWx1 := hx1.size
    refine (ih P Q b σ _ _ _ x1 (by omega) (fun b hb => by have := hP b hb; omega) (hy.on hbx1) (hn.on hbx1) (hb.on hbx1) hσ (by omega)).mono ?_
    rintro e x2 ⟨v2, rfl, ht2, hb2⟩
    obtain ⟨f2, n2, s2, A2, l2, c2, rfl⟩ := ht2.flat
    have hx2' := hx1.trans (hb2.mono hx1.size)
    refine ⟨f2, n2, s2, A2, l2, c2, rfl, hx2', ?_⟩
    refine (refapp_any (fun b => P b ∨ w.heap.size + 2 ≤ b) (a.sub σ) (b.sub σ) _ _ x2 ((ht1.mono (fun b hb => by rcases hb with hb | hb; (· exact .inl hb); exact .inr (by omega))).on hb2) (ht2.mono (fun b hb => by rcases hb with hb | hb; (· exact .inl hb); exact .inr (by omega)))).mono ?_
    rintro e x3 ⟨v3, rfl, ht3, hb3⟩
    obtain ⟨f3, n3, s3, A6, l3, c6, rfl⟩ := ht3.flat
    refine ⟨f3, n3, s3, A6, l3, c6, rfl, hx2'.trans (hb3.mono hx2'.size), ht3.mono (fun b hb => ?_)⟩
    rcases hb with hb | hb
    · exact hb
    · have := hx2'.size; exact .inr (by omega)
  have HEW := Lib.hid eW
  have HB2 := Lib.hid b2
  have HP := Lib.hid hP
  have hgW : g < W.heap.size := by omega
  clear eW b2 h hs hx hy hn hb k0 k1 k2 k3 m0 m1 m2 m3 ih hP hσ
  generalize a.form = af, a.num = an, a.name = az, a.args.length = al at *
  generalize b.form = bf, b.num = bn, b.name = bz, b.args.length = bl at *
  generalize (σ.map (·.1)).length = nl at *
  generalize (σ.map (·.2)).length = bL at *
  obtain ⟨y0, y1, y2, y3, y4, _⟩ := q1
  clear q2
  go_enter Tryd.func24, Tryd.ntmps24
  go_upto_region 1 with (fail)
  rw [HEW.out]
  go_wp2_with fail
  have HC1 := Lib.hid (HC.out W (Below.refl _ _))
  have keepV : Hid (∀ (y : World) (v0 v1 v2 v3 : Value), (fun x : World => ((x.cell? ⟨w.heap.size, 0, none⟩ = some (.int .i64 4) ∧ x.cell? ⟨w.heap.size, 3, none⟩ = some (.slice (some ⟨g, off, none⟩) 2 c)) ∧ (x.cell? ⟨g, off, none⟩ = some (.int .i64 af) ∧ x.cell? ⟨g, off + 1, none⟩ = some (.int .i64 an) ∧ x.cell? ⟨g, off + 2, none⟩ = some (.string az) ∧ x.cell? ⟨g, off + 3, none⟩ = some (.slice A5 al c5)) ∧ (x.cell? ⟨g, off + 4, none⟩ = some (.int .i64 bf) ∧ x.cell? ⟨g, off + 4 + 1, none⟩ = some (.int .i64 bn) ∧ x.cell? ⟨g, off + 4 + 2, none⟩ = some (.string bz) ∧ x.cell? ⟨g, off + 4 + 3, none⟩ = some (.slice A4 bl c4)))) y → (fun x : World => ((x.cell? ⟨w.heap.size, 0, none⟩ = some (.int .i64 4) ∧ x.cell? ⟨w.heap.size, 3, none⟩ = some (.slice (some ⟨g, off, none⟩) 2 c)) ∧ (x.cell? ⟨g, off, none⟩ = some (.int .i64 af) ∧ x.cell? ⟨g, off + 1, none⟩ = some (.int .i64 an) ∧ x.cell? ⟨g, off + 2, none⟩ = some (.string az) ∧ x.cell? ⟨g, off + 3, none⟩ = some (.slice A5 al c5)) ∧ (x.cell? ⟨g, off + 4, none⟩ = some (.int .i64 bf) ∧ x.cell? ⟨g, off + 4 + 1, none⟩ = some (.int .i64 bn) ∧ x.cell? ⟨g, off + 4 + 2, none⟩ = some (.string bz) ∧ x.cell? ⟨g, off + 4 + 3, none⟩ = some (.slice A4 bl c4)))) ((((y.setCell ⟨w.heap.size + 1, 0, none⟩ v0).setCell ⟨w.heap.size + 1, 1, none⟩ v1).setCell ⟨w.heap.size + 1, 2, none⟩ v2).setCell ⟨w.heap.size + 1, 3, none⟩ v3)) := fun y v0 v1 v2 v3 h => by
    simp only [cell_box _ _ _ _ _ _ _ _ (show w.heap.size ≠ w.heap.size + 1 by omega), cell_box _ _ _ _ _ _ _ _ (show g ≠ w.heap.size + 1 by omega)]
    exact h
  have hS0 : (fun x : World => ((x.cell? ⟨w.heap.size, 0, none⟩ = some (.int .i64 4) ∧ x.cell? ⟨w.heap.size, 3, none⟩ = some (.slice (some ⟨g, off, none⟩) 2 c)) ∧ (x.cell? ⟨g, off, none⟩ = some (.int .i64 af) ∧ x.cell? ⟨g, off + 1, none⟩ = some (.int .i64 an) ∧ x.cell? ⟨g, off + 2, none⟩ = some (.string az) ∧ x.cell? ⟨g, off + 3, none⟩ = some (.slice A5 al c5)) ∧ (x.cell? ⟨g, off + 4, none⟩ = some (.int .i64 bf) ∧ x.cell? ⟨g, off + 4 + 1, none⟩ = some (.int .i64 bn) ∧ x.cell? ⟨g, off + 4 + 2, none⟩ = some (.string bz) ∧ x.cell? ⟨g, off + 4 + 3, none⟩ = some (.slice A4 bl c4)))) W.drew := (HN.out W.drew (Below.refl _ W).drew).1
  go_region_held3 (fun x : World => ((x.cell? ⟨w.heap.size, 0, none⟩ = some (.int .i64 4) ∧ x.cell? ⟨w.heap.size, 3, none⟩ = some (.slice (some ⟨g, off, none⟩) 2 c)) ∧ (x.cell? ⟨g, off, none⟩ = some (.int .i64 af) ∧ x.cell? ⟨g, off + 1, none⟩ = some (.int .i64 an) ∧ x.cell? ⟨g, off + 2, none⟩ = some (.string az) ∧ x.cell? ⟨g, off + 3, none⟩ = some (.slice A5 al c5)) ∧ (x.cell? ⟨g, off + 4, none⟩ = some (.int .i64 bf) ∧ x.cell? ⟨g, off + 4 + 1, none⟩ = some (.int .i64 bn) ∧ x.cell? ⟨g, off + 4 + 2, none⟩ = some (.string bz) ∧ x.cell? ⟨g, off + 4 + 3, none⟩ = some (.slice A4 bl c4)))) (first | with_reducible exact hS0 | with_reducible exact hS1 | with_reducible exact hS2 | with_reducible exact hS3 | exact keepV.out _ _ _ _ _ hS3) (first | (go_at_call 24; (with_reducible refine HC1.out.mono ?_); rintro e8 x8 ⟨f8, n8, s8, B8, l8, d8, rfl, hb8, HC2⟩; have hS1 : (fun x : World => ((x.cell? ⟨w.heap.size, 0, none⟩ = some (.int .i64 4) ∧ x.cell? ⟨w.heap.size, 3, none⟩ = some (.slice (some ⟨g, off, none⟩) 2 c)) ∧ (x.cell? ⟨g, off, none⟩ = some (.int .i64 af) ∧ x.cell? ⟨g, off + 1, none⟩ = some (.int .i64 an) ∧ x.cell? ⟨g, off + 2, none⟩ = some (.string az) ∧ x.cell? ⟨g, off + 3, none⟩ = some (.slice A5 al c5)) ∧ (x.cell? ⟨g, off + 4, none⟩ = some (.int .i64 bf) ∧ x.cell? ⟨g, off + 4 + 1, none⟩ = some (.int .i64 bn) ∧ x.cell? ⟨g, off + 4 + 2, none⟩ = some (.string bz) ∧ x.cell? ⟨g, off + 4 + 3, none⟩ = some (.slice A4 bl c4)))) x8 := (HN.out x8 hb8).1) | (go_at_call 24; (with_reducible refine HC2.out.mono ?_); rintro e6 x6 ⟨f6, n6, s6, B6, l6, d6, rfl, hb6, HC3⟩; have hS2 : (fun x : World => ((x.cell? ⟨w.heap.size, 0, none⟩ = some (.int .i64 4) ∧ x.cell? ⟨w.heap.size, 3, none⟩ = some (.slice (some ⟨g, off, none⟩) 2 c)) ∧ (x.cell? ⟨g, off, none⟩ = some (.int .i64 af) ∧ x.cell? ⟨g, off + 1, none⟩ = some (.int .i64 an) ∧ x.cell? ⟨g, off + 2, none⟩ = some (.string az) ∧ x.cell? ⟨g, off + 3, none⟩ = some (.slice A5 al c5)) ∧ (x.cell? ⟨g, off + 4, none⟩ = some (.int .i64 bf) ∧ x.cell? ⟨g, off + 4 + 1, none⟩ = some (.int .i64 bn) ∧ x.cell? ⟨g, off + 4 + 2, none⟩ = some (.string bz) ∧ x.cell? ⟨g, off + 4 + 3, none⟩ = some (.slice A4 bl c4)))) x6 := (HN.out x6 hb6).1) | (go_at_call 66; (with_reducible refine HC3.out.mono ?_); rintro e7 x7 ⟨f7, n7, s7, B7, l7, d7, rfl, hb7, HT7⟩; have hS3 : (fun x : World => ((x.cell? ⟨w.heap.size, 0, none⟩ = some (.int .i64 4) ∧ x.cell? ⟨w.heap.size, 3, none⟩ = some (.slice (some ⟨g, off, none⟩) 2 c)) ∧ (x.cell? ⟨g, off, none⟩ = some (.int .i64 af) ∧ x.cell? ⟨g, off + 1, none⟩ = some (.int .i64 an) ∧ x.cell? ⟨g, off + 2, none⟩ = some (.string az) ∧ x.cell? ⟨g, off + 3, none⟩ = some (.slice A5 al c5)) ∧ (x.cell? ⟨g, off + 4, none⟩ = some (.int .i64 bf) ∧ x.cell? ⟨g, off + 4 + 1, none⟩ = some (.int .i64 bn) ∧ x.cell? ⟨g, off + 4 + 2, none⟩ = some (.string bz) ∧ x.cell? ⟨g, off + 4 + 3, none⟩ = some (.slice A4 bl c4)))) x7 := (HN.out x7 hb7).1; obtain ⟨_, ⟨z0, z1, z2, z3, z4, z5, z6, z7, z8⟩⟩ := HN.out x7 hb7))
  all_goals
    have HB7 := Lib.hid (HB2.out.trans (hb7.mono HB2.out.size))
    clear hb7 hb6 hb8 hS0 hS1 hS2 hS3
    go_wp2_with fail
    exact bodyPost_ret (v := .agg #[.int .i64 f7, .int .i64 n7, .string s7, .slice B7 l7 d7]) (by simp [results, Tryd.results24, go_sem, z1, z2, z3, z4]) rfl (sub_end HP.out HT7.out HB7.out)
end Go.Proofs.YtbdfjboojokgdaaDoor
