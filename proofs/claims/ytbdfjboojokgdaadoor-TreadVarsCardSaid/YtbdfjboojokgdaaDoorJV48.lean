/- The contracts of the document's good and Good (chapter 5): their walks. Condition: the slice reads as numbers. -/
import Derived.Test.YtbdfjboojokgdaaDoorJV40
namespace Go.Proofs.YtbdfjboojokgdaaDoor
open Go.RowKit Lx

def GoodIs (n : Nat) : Prop := ∀ (P : Nat → Prop) (t : Ty) (v : Value) (w : World), t.sz ≤ n → t.bareT → TyAt P w t v → Calls Tryd.prog 98 #[v] w (TyMade w (goodTy t))
theorem goodTy_leaf {t : Ty} (h : t.args = []) : (goodTy t).args = [] := by
  cases t with
  | app a b => cases h
  | all s a => cases h
  | hole n => rfl
  | var s => rfl
  | con s => rw [goodTy]; split <;> rfl
/-- A type that good told, in its result's box. -/
theorem good_end {w x : World} {t : Ty} {f n : Int} {s : ByteArray} {A : Option Addr} {l c : Nat} (h : TyAt (fun b => w.heap.size + 2 ≤ b) x t (.agg #[.int .i64 f, .int .i64 n, .string s, .slice A l c])) (hb : Below w.heap.size w x) : TyMade w t (.returned (.agg #[.int .i64 f, .int .i64 n, .string s, .slice A l c])) ((((x.setCell ⟨w.heap.size + 1, 0, none⟩ (.int .i64 f)).setCell ⟨w.heap.size + 1, 1, none⟩ (.int .i64 n)).setCell ⟨w.heap.size + 1, 2, none⟩ (.string s)).setCell ⟨w.heap.size + 1, 3, none⟩ (.slice A l c)) :=
  ⟨_, rfl, (h.keep (.box (b := w.heap.size + 1) (fun hx => by omega) _ _ _ _)).mono (fun b hb => by omega), below_box hb (by omega) _ _ _ _⟩
set_option maxRecDepth 100000 in
set_option maxHeartbeats 2000000 in
theorem good_leaf (P : Nat → Prop) (t : Ty) (v : Value) (w : World) (hl : t.args = []) (h : TyAt P w t v) : Calls Tryd.prog 98 #[v] w (TyMade w (goodTy t)) := by
  have hsd : t.sides.isSome = false := by
    cases t with
    | app a b => cases hl
    | _ => rfl
  obtain ⟨A, c, rfl, hc, hm⟩ := h.form
  obtain ⟨W, eW, q1, q2, b2, z2⟩ := two_boxes w (.int .i64 t.form) (.int .i64 t.num) (.string t.name) (.slice A t.args.length c) (.int .i64 0) (.int .i64 0) (.string ⟨#[]⟩) (.slice none 0 0) 25 25
  have hfn := function_any P t _ W (h.on b2)
  rw [hsd] at hfn
  have hl0 : t.args.length = 0 := by rw [hl]; rfl
  rw [hl0] at q1 eW hfn ⊢
  have HFN := Lib.hid hfn
  have HQ1 := Lib.hid q1
  have HQ2 := Lib.hid q2
  have HB2 := Lib.hid b2
  have HEW := Lib.hid eW
  have hmm : c ≤ maxLen := hm
  clear q1 q2 b2 eW hfn hsd h hc hm
  have HLF : Hid (∀ (x : World) (t' : Ty) (A' : Option Addr) (c' : Nat), t'.args = [] → c' ≤ maxLen → TyAt (fun b => w.heap.size + 2 ≤ b) x t' (.agg #[.int .i64 t'.form, .int .i64 t'.num, .string t'.name, .slice A' 0 c'])) := fun x t' A' c' h hc => ty_leaf _ x t' h A' c' hc
  cases t with
  | app a b => cases hl
  | all s a => cases hl
  | hole k =>
    go_enter Tryd.func98, Tryd.ntmps98
    go_wp2_with fail
    rw [HEW.out]
    go_wp2_with fail
    refine HFN.out.mono ?_
    rintro e x ⟨rfl, hb⟩
    obtain ⟨x0, x1, x2, x3, x4, _⟩ := HQ1.out.on hb
    obtain ⟨z0, z1, z2, z3, z4, z5, z6, z7, z8⟩ := HQ2.out.on hb
    have HE := Lib.hid (good_end (HLF.out x (.var ⟨#[109]⟩) none 0 rfl (Nat.zero_le _)) (HB2.out.trans (hb.mono HB2.out.size)))
    clear hb
    simp only [Ty.form, Ty.num, Ty.name] at x1 x2 x3 x4
    go_wp2_with fail
    exact bodyPost_ret (v := .agg #[.int .i64 2, .int .i64 0, .string ⟨#[109]⟩, .slice none 0 0]) (by simp [results, Tryd.results98, go_sem, z1, z2, z3, z4]) rfl HE.out
  | var s =>
    go_enter Tryd.func98, Tryd.ntmps98
    go_wp2_with fail
    rw [HEW.out]
    go_wp2_with fail
    refine HFN.out.mono ?_
    rintro e x ⟨rfl, hb⟩
    obtain ⟨x0, x1, x2, x3, x4, _⟩ := HQ1.out.on hb
    obtain ⟨z0, z1, z2, z3, z4, z5, z6, z7, z8⟩ := HQ2.out.on hb
    have HE := Lib.hid (good_end (HLF.out x (.var s) A c rfl hmm) (HB2.out.trans (hb.mono HB2.out.size)))
    clear hb
    simp only [Ty.form, Ty.num, Ty.name] at x1 x2 x3 x4
    go_wp2_with fail
    exact bodyPost_ret (v := .agg #[.int .i64 2, .int .i64 0, .string s, .slice A 0 c]) (by simp [results, Tryd.results98, go_sem, z1, z2, z3, z4]) rfl HE.out
  | con s =>
    cases ha : (Ty.con s).isArrow with
    | true =>
      have hs := (arrow_eq s).1 ha
      subst hs
      have hg : goodTy (.con ⟨#[45, 62]⟩) = .con ⟨#[70, 117, 110]⟩ := by rw [goodTy, if_pos ha]
      rw [hg]
      go_enter Tryd.func98, Tryd.ntmps98
      go_wp2_with fail
      rw [HEW.out]
      go_wp2_with fail
      refine HFN.out.mono ?_
      rintro e x ⟨rfl, hb⟩
      obtain ⟨x0, x1, x2, x3, x4, _⟩ := HQ1.out.on hb
      obtain ⟨z0, z1, z2, z3, z4, z5, z6, z7, z8⟩ := HQ2.out.on hb
      have HE := Lib.hid (good_end (HLF.out x (.con ⟨#[70, 117, 110]⟩) none 0 rfl (Nat.zero_le _)) (HB2.out.trans (hb.mono HB2.out.size)))
      clear hb
      simp only [Ty.form, Ty.num, Ty.name] at x1 x2 x3 x4
      go_wp2_with fail
      exact bodyPost_ret (v := .agg #[.int .i64 3, .int .i64 0, .string ⟨#[70, 117, 110]⟩, .slice none 0 0]) (by simp [results, Tryd.results98, go_sem, z1, z2, z3, z4]) rfl HE.out
    | false =>
      have hg : goodTy (.con s) = .con s := by rw [goodTy, if_neg (by rw [ha]; simp)]
      rw [hg]
      have hne : (s.toList == [45, 62]) = false := by rw [← list_arrow]; exact ha
      go_enter Tryd.func98, Tryd.ntmps98
      go_wp2_with fail
      rw [HEW.out]
      go_wp2_with fail
      refine HFN.out.mono ?_
      rintro e x ⟨rfl, hb⟩
      obtain ⟨x0, x1, x2, x3, x4, _⟩ := HQ1.out.on hb
      obtain ⟨z0, z1, z2, z3, z4, z5, z6, z7, z8⟩ := HQ2.out.on hb
      have HE := Lib.hid (good_end (HLF.out x (.con s) A c rfl hmm) (HB2.out.trans (hb.mono HB2.out.size)))
      clear hb
      simp only [Ty.form, Ty.num, Ty.name] at x1 x2 x3 x4
      go_wp2_with fail
      exact bodyPost_ret (v := .agg #[.int .i64 3, .int .i64 0, .string s, .slice A 0 c]) (by simp [results, Tryd.results98, go_sem, z1, z2, z3, z4]) rfl HE.out
/-- What is read of a node behind a call. -/
def NodeC (w : World) (g off g1 off1 : Nat) (c c3 : Nat) (a0 a1 a2 a3 b0 b1 b2 b3 : Value) (x : World) : Prop :=
  (x.cell? ⟨w.heap.size, 0, none⟩ = some (.int .i64 4) ∧ x.cell? ⟨w.heap.size, 1, none⟩ = some (.int .i64 0) ∧ x.cell? ⟨w.heap.size, 2, none⟩ = some (.string ⟨#[]⟩) ∧ x.cell? ⟨w.heap.size, 3, none⟩ = some (.slice (some ⟨g, off, none⟩) 2 c)) ∧
  (x.cell? ⟨g, off + 3, none⟩ = some (.slice (some ⟨g1, off1, none⟩) 2 c3)) ∧
  (x.cell? ⟨g1, off1 + 4, none⟩ = some a0 ∧ x.cell? ⟨g1, off1 + 4 + 1, none⟩ = some a1 ∧ x.cell? ⟨g1, off1 + 4 + 2, none⟩ = some a2 ∧ x.cell? ⟨g1, off1 + 4 + 3, none⟩ = some a3) ∧
  (x.cell? ⟨g, off + 4, none⟩ = some b0 ∧ x.cell? ⟨g, off + 4 + 1, none⟩ = some b1 ∧ x.cell? ⟨g, off + 4 + 2, none⟩ = some b2 ∧ x.cell? ⟨g, off + 4 + 3, none⟩ = some b3)
set_option maxRecDepth 100000 in
set_option maxHeartbeats 2000000 in
theorem good_fnode (n : Nat) (ih : GoodIs n) (P : Nat → Prop) (a b : Ty) (v : Value) (w : World) (hn : (Ty.fn a b).sz ≤ n + 1) (hb : (Ty.fn a b).bareT) (h : TyAt P w (Ty.fn a b) v) : Calls Tryd.prog 98 #[v] w (TyMade w (goodTy (Ty.fn a b))) := by
  rw [good_fn]
  have hsd : (Ty.fn a b).sides.isSome = true := by
    show (if Ty.isArrow (.con ⟨#[45, 62]⟩) = true then some (a, b) else none).isSome = true
    rw [if_pos (by decide)]; rfl
  rw [fn_sz] at hn
  have hfn := function_any P _ v w h
  obtain ⟨sv, rfl, hs⟩ := h.tys
  obtain ⟨A, c, rfl, _, _⟩ := hs.form
  obtain ⟨g, off, A3, c3, rfl, hPg, hgl, k0, k1, k2, k3, hx⟩ := hs.at 0 (by simp [Ty.fn, Ty.args])
  obtain ⟨g', off', A4, c4, e4, _, _, m0, m1, m2, m3, hy⟩ := hs.at 1 (by simp [Ty.fn, Ty.args])
  injection e4 with e4
  injection e4 with e5 e6
  subst e5 e6
  simp only [Ty.fn, Ty.args, List.getElem_cons_zero, List.getElem_cons_succ, Nat.zero_mul, Nat.add_zero, Nat.one_mul, List.length_cons, List.length_nil, Nat.zero_add, Nat.reduceAdd, Ty.form, Ty.num, Ty.name] at k0 k1 k2 k3 m0 m1 m2 m3 hx hy hs
  have hs2 := hx.tys
  obtain ⟨sv2, e2, hs2⟩ := hs2
  simp only [Value.agg.injEq, Array.mk.injEq, List.cons.injEq, and_true, Ty.form, Ty.num, Ty.name, Ty.args, true_and] at e2 hs2
  subst e2
  obtain ⟨g1, off1, A5, c5, rfl, hPg1, hg1l, j0, j1, j2, j3, hx2⟩ := hs2.at 1 (by simp)
  simp only [List.getElem_cons_succ, List.getElem_cons_zero, Nat.one_mul] at j0 j1 j2 j3 hx2
  obtain ⟨W, eW, q1, q2, b2, z2⟩ := two_boxes w (.int .i64 4) (.int .i64 0) (.string ⟨#[]⟩) (.slice (some ⟨g, off, none⟩) 2 c) (.int .i64 0) (.int .i64 0) (.string ⟨#[]⟩) (.slice none 0 0) 25 25
  have HN : Hid (∀ x, Below W.heap.size W x → NodeC w g off g1 off1 c c3 (.int .i64 a.form) (.int .i64 a.num) (.string a.name) (.slice A5 a.args.length c5) (.int .i64 b.form) (.int .i64 b.num) (.string b.name) (.slice A4 b.args.length c4) x ∧ Box4 x (w.heap.size + 1) (.int .i64 0) (.int .i64 0) (.string ⟨#[]⟩) (.slice none 0 0)) := fun x hx => by
    have hbx : Below w.heap.size w x := b2.trans (hx.mono b2.size)
    obtain ⟨_, x0, x1, x2, x3, _⟩ := q1.on hx
    exact ⟨⟨⟨x0, x1, x2, x3⟩, (hbx.cell hgl).trans k3, ⟨(hbx.cell hg1l).trans j0, (hbx.cell hg1l).trans j1, (hbx.cell hg1l).trans j2, (hbx.cell hg1l).trans j3⟩, (hbx.cell hgl).trans m0, (hbx.cell hgl).trans m1, (hbx.cell hgl).trans m2, (hbx.cell hgl).trans m3⟩, q2.on hx⟩
  have HFN : Hid (Calls Tryd.prog 75 #[.agg #[.int .i64 4, .int .i64 0, .string ⟨#[]⟩, .slice (some ⟨g, off, none⟩) 2 c]] W fun e x => e = .returned (.bool true) ∧ Below W.heap.size W x) := by
    have h9 := function_any P (Ty.fn a b) _ W (h.on b2)
    rw [hsd] at h9; exact h9
  have hbd := hb
  have HC : Hid (∀ x, Below W.heap.size W x → Calls Tryd.prog 98 #[.agg #[.int .i64 a.form, .int .i64 a.num, .string a.name, .slice A5 a.args.length c5]] x.drew fun e x1 => ∃ f n s A l c, e = .returned (.agg #[.int .i64 f, .int .i64 n, .string s, .slice A l c]) ∧ Below W.heap.size W x1 ∧
      Hid (Calls Tryd.prog 98 #[.agg #[.int .i64 b.form, .int .i64 b.num, .string b.name, .slice A4 b.args.length c4]] x1 fun e x2 => ∃ f' n' s' A' l' c', e = .returned (.agg #[.int .i64 f', .int .i64 n', .string s', .slice A' l' c']) ∧ Below W.heap.size W x2 ∧
        Hid (Calls Tryd.prog 88 #[.agg #[.int .i64 f, .int .i64 n, .string s, .slice A l c], .agg #[.int .i64 f', .int .i64 n', .string s', .slice A' l' c']] x2 fun e x3 => ∃ f n s A l c, e = .returned (.agg #[.int .i64 f, .int .i64 n, .string s, .slice A l c]) ∧ Below W.heap.size W x3 ∧ Hid (TyAt (fun b => w.heap.size + 2 ≤ b) x3 (Ty.fn (goodTy a) (goodTy b)) (.agg #[.int .i64 f, .int .i64 n, .string s, .slice A l c]))))) := fun x hx => by
    have hbx : Below w.heap.size w x := b2.trans (hx.mono b2.size)
    have hxd : Below x.heap.size x x.drew := (Below.refl _ x).drew
    have hWx := hx.size
    refine (ih P a _ x.drew (by omega) hbd.1.2 ((hx2.on hbx).on hxd)).mono ?_
    rintro e x1 ⟨v1, rfl, ht1, hb1⟩
    obtain ⟨f1, n1, s1, A1, l1, c1, rfl⟩ := ht1.flat
    have hb1' : Below x.heap.size x x1 := hxd.trans hb1
    have hx1 := hx.trans (hb1'.mono hWx)
    refine ⟨f1, n1, s1, A1, l1, c1, rfl, hx1, ?_⟩
    have hbx1 : Below w.heap.size w x1 := b2.trans (hx1.mono b2.size)
    refine (ih P b _ x1 (by omega) hbd.2 (hy.on hbx1)).mono ?_
    rintro e x2 ⟨v2, rfl, ht2, hb2⟩
    obtain ⟨f2, n2, s2, A2, l2, c2, rfl⟩ := ht2.flat
    have hx2' := hx1.trans (hb2.mono hx1.size)
    have hxx1 := hb1'.size
    refine ⟨f2, n2, s2, A2, l2, c2, rfl, hx2', ?_⟩
    have hwW : w.heap.size + 2 ≤ x.heap.size := by omega
    refine (reffun_any (fun b => w.heap.size + 2 ≤ b) (goodTy a) (goodTy b) _ _ x2 ((ht1.mono (Q := fun b => w.heap.size + 2 ≤ b) (fun b (hb : x.heap.size ≤ b) => (by omega : w.heap.size + 2 ≤ b))).on hb2) (ht2.mono (Q := fun b => w.heap.size + 2 ≤ b) (fun b (hb : x1.heap.size ≤ b) => (by omega : w.heap.size + 2 ≤ b)))).mono ?_
    rintro e x3 ⟨v3, rfl, ht3, hb3⟩
    obtain ⟨f3, n3, s3, A6, l3, c6, rfl⟩ := ht3.flat
    refine ⟨f3, n3, s3, A6, l3, c6, rfl, hx2'.trans (hb3.mono hx2'.size), ht3.mono (fun b hb => ?_)⟩
    rcases hb with hb | hb
    · exact hb
    · have := hx2'.size; exact (by omega : w.heap.size + 2 ≤ b)
  have HEW := Lib.hid eW
  have HB2 := Lib.hid b2
  have hgW : g < W.heap.size := by omega
  have hg1W : g1 < W.heap.size := by omega
  simp only [Ty.fn, Ty.form, Ty.num, Ty.name, Ty.args, List.length_cons, List.length_nil, Nat.zero_add, Nat.reduceAdd]
  clear eW q1 q2 b2 h hs hs2 hx hx2 hy hfn hb hbd hsd k0 k1 k2 k3 m0 m1 m2 m3 j0 j1 j2 j3 ih
  generalize a.form = af, a.num = an, a.name = az, a.args.length = al at *
  generalize b.form = bf, b.num = bn, b.name = bz, b.args.length = bl at *
  go_enter Tryd.func98, Tryd.ntmps98
  go_wp2_with fail
  rw [HEW.out]
  obtain ⟨⟨⟨x0, x1, x2, x3⟩, _⟩, _⟩ := HN.out W (Below.refl _ _)
  go_wp2_with fail
  refine HFN.out.mono ?_
  rintro e y ⟨rfl, hy⟩
  have HC1 := Lib.hid (HC.out y hy)
  obtain ⟨⟨⟨x0, x1, x2, x3⟩, y3, ⟨p0, p1, p2, p3⟩, q0, q1, q2, q3⟩, _⟩ := HN.out y hy
  have hgy : g < y.heap.size := by have := hy.size; omega
  have hg1y : g1 < y.heap.size := by have := hy.size; omega
  have HY := Lib.hid hy
  clear hy HC
  go_wp2_with fail
  have keepV : Hid (∀ (y : World) (v0 v1 v2 v3 : Value), (fun x : World => ((x.cell? ⟨w.heap.size, 0, none⟩ = some (.int .i64 4) ∧ x.cell? ⟨w.heap.size, 1, none⟩ = some (.int .i64 0) ∧ x.cell? ⟨w.heap.size, 2, none⟩ = some (.string ⟨#[]⟩) ∧ x.cell? ⟨w.heap.size, 3, none⟩ = some (.slice (some ⟨g, off, none⟩) 2 c)) ∧ (x.cell? ⟨g, off + 3, none⟩ = some (.slice (some ⟨g1, off1, none⟩) 2 c3)) ∧ (x.cell? ⟨g1, off1 + 4, none⟩ = some (.int .i64 af) ∧ x.cell? ⟨g1, off1 + 4 + 1, none⟩ = some (.int .i64 an) ∧ x.cell? ⟨g1, off1 + 4 + 2, none⟩ = some (.string az) ∧ x.cell? ⟨g1, off1 + 4 + 3, none⟩ = some (.slice A5 al c5)) ∧ (x.cell? ⟨g, off + 4, none⟩ = some (.int .i64 bf) ∧ x.cell? ⟨g, off + 4 + 1, none⟩ = some (.int .i64 bn) ∧ x.cell? ⟨g, off + 4 + 2, none⟩ = some (.string bz) ∧ x.cell? ⟨g, off + 4 + 3, none⟩ = some (.slice A4 bl c4)))) y → (fun x : World => ((x.cell? ⟨w.heap.size, 0, none⟩ = some (.int .i64 4) ∧ x.cell? ⟨w.heap.size, 1, none⟩ = some (.int .i64 0) ∧ x.cell? ⟨w.heap.size, 2, none⟩ = some (.string ⟨#[]⟩) ∧ x.cell? ⟨w.heap.size, 3, none⟩ = some (.slice (some ⟨g, off, none⟩) 2 c)) ∧ (x.cell? ⟨g, off + 3, none⟩ = some (.slice (some ⟨g1, off1, none⟩) 2 c3)) ∧ (x.cell? ⟨g1, off1 + 4, none⟩ = some (.int .i64 af) ∧ x.cell? ⟨g1, off1 + 4 + 1, none⟩ = some (.int .i64 an) ∧ x.cell? ⟨g1, off1 + 4 + 2, none⟩ = some (.string az) ∧ x.cell? ⟨g1, off1 + 4 + 3, none⟩ = some (.slice A5 al c5)) ∧ (x.cell? ⟨g, off + 4, none⟩ = some (.int .i64 bf) ∧ x.cell? ⟨g, off + 4 + 1, none⟩ = some (.int .i64 bn) ∧ x.cell? ⟨g, off + 4 + 2, none⟩ = some (.string bz) ∧ x.cell? ⟨g, off + 4 + 3, none⟩ = some (.slice A4 bl c4)))) ((((y.setCell ⟨w.heap.size + 1, 0, none⟩ v0).setCell ⟨w.heap.size + 1, 1, none⟩ v1).setCell ⟨w.heap.size + 1, 2, none⟩ v2).setCell ⟨w.heap.size + 1, 3, none⟩ v3)) := fun y v0 v1 v2 v3 h => by
    simp only [cell_box _ _ _ _ _ _ _ _ (show w.heap.size ≠ w.heap.size + 1 by omega), cell_box _ _ _ _ _ _ _ _ (show g ≠ w.heap.size + 1 by omega), cell_box _ _ _ _ _ _ _ _ (show g1 ≠ w.heap.size + 1 by omega)]
    exact h
  have hS0 : (fun x : World => ((x.cell? ⟨w.heap.size, 0, none⟩ = some (.int .i64 4) ∧ x.cell? ⟨w.heap.size, 1, none⟩ = some (.int .i64 0) ∧ x.cell? ⟨w.heap.size, 2, none⟩ = some (.string ⟨#[]⟩) ∧ x.cell? ⟨w.heap.size, 3, none⟩ = some (.slice (some ⟨g, off, none⟩) 2 c)) ∧ (x.cell? ⟨g, off + 3, none⟩ = some (.slice (some ⟨g1, off1, none⟩) 2 c3)) ∧ (x.cell? ⟨g1, off1 + 4, none⟩ = some (.int .i64 af) ∧ x.cell? ⟨g1, off1 + 4 + 1, none⟩ = some (.int .i64 an) ∧ x.cell? ⟨g1, off1 + 4 + 2, none⟩ = some (.string az) ∧ x.cell? ⟨g1, off1 + 4 + 3, none⟩ = some (.slice A5 al c5)) ∧ (x.cell? ⟨g, off + 4, none⟩ = some (.int .i64 bf) ∧ x.cell? ⟨g, off + 4 + 1, none⟩ = some (.int .i64 bn) ∧ x.cell? ⟨g, off + 4 + 2, none⟩ = some (.string bz) ∧ x.cell? ⟨g, off + 4 + 3, none⟩ = some (.slice A4 bl c4)))) y.drew := (HN.out y.drew (HY.out.trans ((Below.refl _ y).drew.mono HY.out.size))).1
  go_region_held3 (fun x : World => ((x.cell? ⟨w.heap.size, 0, none⟩ = some (.int .i64 4) ∧ x.cell? ⟨w.heap.size, 1, none⟩ = some (.int .i64 0) ∧ x.cell? ⟨w.heap.size, 2, none⟩ = some (.string ⟨#[]⟩) ∧ x.cell? ⟨w.heap.size, 3, none⟩ = some (.slice (some ⟨g, off, none⟩) 2 c)) ∧ (x.cell? ⟨g, off + 3, none⟩ = some (.slice (some ⟨g1, off1, none⟩) 2 c3)) ∧ (x.cell? ⟨g1, off1 + 4, none⟩ = some (.int .i64 af) ∧ x.cell? ⟨g1, off1 + 4 + 1, none⟩ = some (.int .i64 an) ∧ x.cell? ⟨g1, off1 + 4 + 2, none⟩ = some (.string az) ∧ x.cell? ⟨g1, off1 + 4 + 3, none⟩ = some (.slice A5 al c5)) ∧ (x.cell? ⟨g, off + 4, none⟩ = some (.int .i64 bf) ∧ x.cell? ⟨g, off + 4 + 1, none⟩ = some (.int .i64 bn) ∧ x.cell? ⟨g, off + 4 + 2, none⟩ = some (.string bz) ∧ x.cell? ⟨g, off + 4 + 3, none⟩ = some (.slice A4 bl c4)))) (first | with_reducible exact hS0 | with_reducible exact hS1 | with_reducible exact hS2 | with_reducible exact hS3 | exact keepV.out _ _ _ _ _ hS3) (first | (go_at_call 98; (with_reducible refine HC1.out.mono ?_); rintro e8 x8 ⟨f8, n8, s8, B8, l8, d8, rfl, hb8, HC2⟩; have hS1 : (fun x : World => ((x.cell? ⟨w.heap.size, 0, none⟩ = some (.int .i64 4) ∧ x.cell? ⟨w.heap.size, 1, none⟩ = some (.int .i64 0) ∧ x.cell? ⟨w.heap.size, 2, none⟩ = some (.string ⟨#[]⟩) ∧ x.cell? ⟨w.heap.size, 3, none⟩ = some (.slice (some ⟨g, off, none⟩) 2 c)) ∧ (x.cell? ⟨g, off + 3, none⟩ = some (.slice (some ⟨g1, off1, none⟩) 2 c3)) ∧ (x.cell? ⟨g1, off1 + 4, none⟩ = some (.int .i64 af) ∧ x.cell? ⟨g1, off1 + 4 + 1, none⟩ = some (.int .i64 an) ∧ x.cell? ⟨g1, off1 + 4 + 2, none⟩ = some (.string az) ∧ x.cell? ⟨g1, off1 + 4 + 3, none⟩ = some (.slice A5 al c5)) ∧ (x.cell? ⟨g, off + 4, none⟩ = some (.int .i64 bf) ∧ x.cell? ⟨g, off + 4 + 1, none⟩ = some (.int .i64 bn) ∧ x.cell? ⟨g, off + 4 + 2, none⟩ = some (.string bz) ∧ x.cell? ⟨g, off + 4 + 3, none⟩ = some (.slice A4 bl c4)))) x8 := (HN.out x8 hb8).1) | (go_at_call 98; (with_reducible refine HC2.out.mono ?_); rintro e6 x6 ⟨f6, n6, s6, B6, l6, d6, rfl, hb6, HC3⟩; have hS2 : (fun x : World => ((x.cell? ⟨w.heap.size, 0, none⟩ = some (.int .i64 4) ∧ x.cell? ⟨w.heap.size, 1, none⟩ = some (.int .i64 0) ∧ x.cell? ⟨w.heap.size, 2, none⟩ = some (.string ⟨#[]⟩) ∧ x.cell? ⟨w.heap.size, 3, none⟩ = some (.slice (some ⟨g, off, none⟩) 2 c)) ∧ (x.cell? ⟨g, off + 3, none⟩ = some (.slice (some ⟨g1, off1, none⟩) 2 c3)) ∧ (x.cell? ⟨g1, off1 + 4, none⟩ = some (.int .i64 af) ∧ x.cell? ⟨g1, off1 + 4 + 1, none⟩ = some (.int .i64 an) ∧ x.cell? ⟨g1, off1 + 4 + 2, none⟩ = some (.string az) ∧ x.cell? ⟨g1, off1 + 4 + 3, none⟩ = some (.slice A5 al c5)) ∧ (x.cell? ⟨g, off + 4, none⟩ = some (.int .i64 bf) ∧ x.cell? ⟨g, off + 4 + 1, none⟩ = some (.int .i64 bn) ∧ x.cell? ⟨g, off + 4 + 2, none⟩ = some (.string bz) ∧ x.cell? ⟨g, off + 4 + 3, none⟩ = some (.slice A4 bl c4)))) x6 := (HN.out x6 hb6).1) | (go_at_call 88; (with_reducible refine HC3.out.mono ?_); rintro e7 x7 ⟨f7, n7, s7, B7, l7, d7, rfl, hb7, HT7⟩; have hS3 : (fun x : World => ((x.cell? ⟨w.heap.size, 0, none⟩ = some (.int .i64 4) ∧ x.cell? ⟨w.heap.size, 1, none⟩ = some (.int .i64 0) ∧ x.cell? ⟨w.heap.size, 2, none⟩ = some (.string ⟨#[]⟩) ∧ x.cell? ⟨w.heap.size, 3, none⟩ = some (.slice (some ⟨g, off, none⟩) 2 c)) ∧ (x.cell? ⟨g, off + 3, none⟩ = some (.slice (some ⟨g1, off1, none⟩) 2 c3)) ∧ (x.cell? ⟨g1, off1 + 4, none⟩ = some (.int .i64 af) ∧ x.cell? ⟨g1, off1 + 4 + 1, none⟩ = some (.int .i64 an) ∧ x.cell? ⟨g1, off1 + 4 + 2, none⟩ = some (.string az) ∧ x.cell? ⟨g1, off1 + 4 + 3, none⟩ = some (.slice A5 al c5)) ∧ (x.cell? ⟨g, off + 4, none⟩ = some (.int .i64 bf) ∧ x.cell? ⟨g, off + 4 + 1, none⟩ = some (.int .i64 bn) ∧ x.cell? ⟨g, off + 4 + 2, none⟩ = some (.string bz) ∧ x.cell? ⟨g, off + 4 + 3, none⟩ = some (.slice A4 bl c4)))) x7 := (HN.out x7 hb7).1; obtain ⟨_, ⟨z0, z1, z2, z3, z4, z5, z6, z7, z8⟩⟩ := HN.out x7 hb7))
  all_goals
    have HB7 := Lib.hid (HB2.out.trans (hb7.mono HB2.out.size))
    clear hb7 hb6 hb8 hS0 hS1 hS2 hS3
    go_wp2_with fail
    exact bodyPost_ret (v := .agg #[.int .i64 f7, .int .i64 n7, .string s7, .slice B7 l7 d7]) (by simp [results, Tryd.results98, go_sem, z1, z2, z3, z4]) rfl (good_end HT7.out HB7.out)
set_option maxRecDepth 100000 in
set_option maxHeartbeats 2000000 in
theorem good_anode (n : Nat) (ih : GoodIs n) (P : Nat → Prop) (a b : Ty) (v : Value) (w : World) (hn : (Ty.app a b).sz ≤ n + 1) (hb : (Ty.app a b).bareT) (hsn : (Ty.app a b).sides = none) (h : TyAt P w (.app a b) v) : Calls Tryd.prog 98 #[v] w (TyMade w (goodTy (.app a b))) := by
  rw [good_app hsn]
  have hsd : (Ty.app a b).sides.isSome = false := by rw [hsn]; rfl
  simp only [Ty.sz] at hn
  obtain ⟨sv, rfl, hs⟩ := h.tys
  obtain ⟨A, c, rfl, _, _⟩ := hs.form
  obtain ⟨g, off, A5, c5, rfl, hPg, hgl, k0, k1, k2, k3, hx⟩ := hs.at 0 (by simp [Ty.args])
  obtain ⟨g', off', A4, c4, e4, _, _, m0, m1, m2, m3, hy⟩ := hs.at 1 (by simp [Ty.args])
  injection e4 with e4
  injection e4 with e5 e6
  subst e5 e6
  have HM : Hid (w.cell? ⟨g, off, none⟩ = some (.int .i64 a.form) ∧ w.cell? ⟨g, off + 1, none⟩ = some (.int .i64 a.num) ∧ w.cell? ⟨g, off + 2, none⟩ = some (.string a.name) ∧ w.cell? ⟨g, off + 3, none⟩ = some (.slice A5 a.args.length c5) ∧ w.cell? ⟨g, off + 4, none⟩ = some (.int .i64 b.form) ∧ w.cell? ⟨g, off + 4 + 1, none⟩ = some (.int .i64 b.num) ∧ w.cell? ⟨g, off + 4 + 2, none⟩ = some (.string b.name) ∧ w.cell? ⟨g, off + 4 + 3, none⟩ = some (.slice A4 b.args.length c4)) := ⟨k0, k1, k2, k3, m0, m1, m2, m3⟩
  have hx' : TyAt P w a (.agg #[.int .i64 a.form, .int .i64 a.num, .string a.name, .slice A5 a.args.length c5]) := hx
  have hy' : TyAt P w b (.agg #[.int .i64 b.form, .int .i64 b.num, .string b.name, .slice A4 b.args.length c4]) := hy
  obtain ⟨W, eW, q1, q2, b2, z2⟩ := two_boxes w (.int .i64 4) (.int .i64 0) (.string ⟨#[]⟩) (.slice (some ⟨g, off, none⟩) 2 c) (.int .i64 0) (.int .i64 0) (.string ⟨#[]⟩) (.slice none 0 0) 25 25
  have HFN : Hid (Calls Tryd.prog 75 #[.agg #[.int .i64 4, .int .i64 0, .string ⟨#[]⟩, .slice (some ⟨g, off, none⟩) 2 c]] W fun e x => e = .returned (.bool false) ∧ Below W.heap.size W x) := by
    have h9 := function_any P (Ty.app a b) _ W (h.on b2)
    rw [hsd] at h9; exact h9
  have HIX := Lib.hid (fun (x : World) (hx9 : Below w.heap.size w x) => ih P a _ x (by omega) hb.1 (hx'.on hx9))
  have HIY := Lib.hid (fun (x : World) (hx9 : Below w.heap.size w x) => ih P b _ x (by omega) hb.2 (hy'.on hx9))
  have HEW := Lib.hid eW
  have HB2 := Lib.hid b2
  have HQ1 := Lib.hid q1
  have HQ2 := Lib.hid q2
  have hgW : g < W.heap.size := by omega
  show Calls Tryd.prog 98 #[.agg #[.int .i64 4, .int .i64 0, .string ⟨#[]⟩, .slice (some ⟨g, off, none⟩) 2 c]] w _
  clear eW q1 q2 b2 h hs hx hy hx' hy' hb hsd k0 k1 k2 k3 m0 m1 m2 m3 ih
  generalize goodTy a = ta at *
  generalize goodTy b = tb at *
  generalize a.form = af, a.num = an, a.name = az, a.args.length = al at *
  generalize b.form = bf, b.num = bn, b.name = bz, b.args.length = bl at *
  have HN : Hid (∀ x, Below W.heap.size W x → (fun x : World => ((x.cell? ⟨w.heap.size, 0, none⟩ = some (.int .i64 4) ∧ x.cell? ⟨w.heap.size, 1, none⟩ = some (.int .i64 0) ∧ x.cell? ⟨w.heap.size, 2, none⟩ = some (.string ⟨#[]⟩) ∧ x.cell? ⟨w.heap.size, 3, none⟩ = some (.slice (some ⟨g, off, none⟩) 2 c)) ∧ (x.cell? ⟨g, off, none⟩ = some (.int .i64 af) ∧ x.cell? ⟨g, off + 1, none⟩ = some (.int .i64 an) ∧ x.cell? ⟨g, off + 2, none⟩ = some (.string az) ∧ x.cell? ⟨g, off + 3, none⟩ = some (.slice A5 al c5)) ∧ (x.cell? ⟨g, off + 4, none⟩ = some (.int .i64 bf) ∧ x.cell? ⟨g, off + 4 + 1, none⟩ = some (.int .i64 bn) ∧ x.cell? ⟨g, off + 4 + 2, none⟩ = some (.string bz) ∧ x.cell? ⟨g, off + 4 + 3, none⟩ = some (.slice A4 bl c4)))) x ∧ Box4 x (w.heap.size + 1) (.int .i64 0) (.int .i64 0) (.string ⟨#[]⟩) (.slice none 0 0)) := fun x hx => by
    have hbx : Below w.heap.size w x := HB2.out.trans (hx.mono HB2.out.size)
    obtain ⟨_, x0, x1, x2, x3, _⟩ := HQ1.out.on hx
    obtain ⟨k0, k1, k2, k3, m0, m1, m2, m3⟩ := HM.out
    exact ⟨⟨⟨x0, x1, x2, x3⟩, ⟨(hbx.cell hgl).trans k0, (hbx.cell hgl).trans k1, (hbx.cell hgl).trans k2, (hbx.cell hgl).trans k3⟩, (hbx.cell hgl).trans m0, (hbx.cell hgl).trans m1, (hbx.cell hgl).trans m2, (hbx.cell hgl).trans m3⟩, HQ2.out.on hx⟩
  have HC : Hid (∀ x, Below W.heap.size W x → Calls Tryd.prog 98 #[.agg #[.int .i64 af, .int .i64 an, .string az, .slice A5 al c5]] x.drew fun e x1 => ∃ f n s A l c, e = .returned (.agg #[.int .i64 f, .int .i64 n, .string s, .slice A l c]) ∧ Below W.heap.size W x1 ∧
      Hid (Calls Tryd.prog 98 #[.agg #[.int .i64 bf, .int .i64 bn, .string bz, .slice A4 bl c4]] x1 fun e x2 => ∃ f' n' s' A' l' c', e = .returned (.agg #[.int .i64 f', .int .i64 n', .string s', .slice A' l' c']) ∧ Below W.heap.size W x2 ∧
        Hid (TyMade w (.app ta tb) (.returned (.agg #[.int .i64 4, .int .i64 0, .string ⟨#[]⟩, .slice (some ⟨x2.heap.size, 0, none⟩) 2 2])) (((((x2.setCell ⟨w.heap.size + 1, 0, none⟩ (.int .i64 4)).setCell ⟨w.heap.size + 1, 1, none⟩ (.int .i64 0)).setCell ⟨w.heap.size + 1, 2, none⟩ (.string ⟨#[]⟩)).setCell ⟨w.heap.size + 1, 3, none⟩ (.slice (some ⟨x2.heap.size, 0, none⟩) 2 2)).alloc (.cells #[.int .i64 f, .int .i64 n, .string s, .slice A l c, .int .i64 f', .int .i64 n', .string s', .slice A' l' c'] 25))))) := fun x hx => by
    have hbx : Below w.heap.size w x := HB2.out.trans (hx.mono HB2.out.size)
    have hxd : Below x.heap.size x x.drew := (Below.refl _ x).drew
    have hWx := hx.size
    refine (HIX.out x.drew (hbx.trans (hxd.mono hbx.size))).mono ?_
    rintro e x1 ⟨v1, rfl, ht1, hb1⟩
    obtain ⟨f1, n1, s1, A1, l1, c1, rfl⟩ := ht1.flat
    have hb1' : Below x.heap.size x x1 := hxd.trans hb1
    have hx1 := hx.trans (hb1'.mono hWx)
    refine ⟨f1, n1, s1, A1, l1, c1, rfl, hx1, ?_⟩
    have hbx1 : Below w.heap.size w x1 := HB2.out.trans (hx1.mono HB2.out.size)
    refine (HIY.out x1 hbx1).mono ?_
    rintro e x2 ⟨v2, rfl, ht2, hb2⟩
    obtain ⟨f2, n2, s2, A2, l2, c2, rfl⟩ := ht2.flat
    have hx2' := hx1.trans (hb2.mono hx1.size)
    have hxx1 := hb1'.size
    refine ⟨f2, n2, s2, A2, l2, c2, rfl, hx2', ?_⟩
    have hk : Keeps (fun b => w.heap.size + 2 ≤ b) x2 ((((x2.setCell ⟨w.heap.size + 1, 0, none⟩ (.int .i64 4)).setCell ⟨w.heap.size + 1, 1, none⟩ (.int .i64 0)).setCell ⟨w.heap.size + 1, 2, none⟩ (.string ⟨#[]⟩)).setCell ⟨w.heap.size + 1, 3, none⟩ (.slice (some ⟨x2.heap.size, 0, none⟩) 2 2)) := .box (b := w.heap.size + 1) (fun hx => by omega) _ _ _ _
    have hs9 : ((((x2.setCell ⟨w.heap.size + 1, 0, none⟩ (.int .i64 4)).setCell ⟨w.heap.size + 1, 1, none⟩ (.int .i64 0)).setCell ⟨w.heap.size + 1, 2, none⟩ (.string ⟨#[]⟩)).setCell ⟨w.heap.size + 1, 3, none⟩ (.slice (some ⟨x2.heap.size, 0, none⟩) 2 2)).heap.size = x2.heap.size := by simp
    have hbl : Below w.heap.size w ((((x2.setCell ⟨w.heap.size + 1, 0, none⟩ (.int .i64 4)).setCell ⟨w.heap.size + 1, 1, none⟩ (.int .i64 0)).setCell ⟨w.heap.size + 1, 2, none⟩ (.string ⟨#[]⟩)).setCell ⟨w.heap.size + 1, 3, none⟩ (.slice (some ⟨x2.heap.size, 0, none⟩) 2 2)) := below_box (HB2.out.trans (hx2'.mono HB2.out.size)) (by omega) _ _ _ _
    have p1 := ((ht1.mono (Q := fun b => w.heap.size + 2 ≤ b) (fun b (hb : x.heap.size ≤ b) => (by omega : w.heap.size + 2 ≤ b))).on hb2).keep hk
    have p2 := (ht2.mono (Q := fun b => w.heap.size + 2 ≤ b) (fun b (hb : x1.heap.size ≤ b) => (by omega : w.heap.size + 2 ≤ b))).keep hk
    generalize ((((x2.setCell ⟨w.heap.size + 1, 0, none⟩ (.int .i64 4)).setCell ⟨w.heap.size + 1, 1, none⟩ (.int .i64 0)).setCell ⟨w.heap.size + 1, 2, none⟩ (.string ⟨#[]⟩)).setCell ⟨w.heap.size + 1, 3, none⟩ (.slice (some ⟨x2.heap.size, 0, none⟩) 2 2)) = U0 at *
    have hnew := app_new p1 p2 25
    rw [hs9] at hnew
    have hx29 := hx2'.size
    refine ⟨_, rfl, hnew.mono (fun b hb => ?_), hbl.alloc hbl.size _⟩
    rcases hb with hb | hb
    · exact (by omega : w.heap.size ≤ b)
    · rw [hb]; omega
  go_enter Tryd.func98, Tryd.ntmps98
  go_wp2_with fail
  rw [HEW.out]
  obtain ⟨⟨⟨x0, x1, x2, x3⟩, _⟩, _⟩ := HN.out W (Below.refl _ _)
  go_wp2_with fail
  refine HFN.out.mono ?_
  rintro e y ⟨rfl, hy⟩
  have HC1 := Lib.hid (HC.out y hy)
  obtain ⟨⟨⟨x0, x1, x2, x3⟩, ⟨p0, p1, p2, p3⟩, q0, q1, q2, q3⟩, _⟩ := HN.out y hy
  have hgy : g < y.heap.size := by have := hy.size; omega
  have HY := Lib.hid hy
  clear hy HC HIX HIY
  have keepA : Hid (∀ (y : World) (o : Obj), W.heap.size ≤ y.heap.size → (fun x : World => ((x.cell? ⟨w.heap.size, 0, none⟩ = some (.int .i64 4) ∧ x.cell? ⟨w.heap.size, 1, none⟩ = some (.int .i64 0) ∧ x.cell? ⟨w.heap.size, 2, none⟩ = some (.string ⟨#[]⟩) ∧ x.cell? ⟨w.heap.size, 3, none⟩ = some (.slice (some ⟨g, off, none⟩) 2 c)) ∧ (x.cell? ⟨g, off, none⟩ = some (.int .i64 af) ∧ x.cell? ⟨g, off + 1, none⟩ = some (.int .i64 an) ∧ x.cell? ⟨g, off + 2, none⟩ = some (.string az) ∧ x.cell? ⟨g, off + 3, none⟩ = some (.slice A5 al c5)) ∧ (x.cell? ⟨g, off + 4, none⟩ = some (.int .i64 bf) ∧ x.cell? ⟨g, off + 4 + 1, none⟩ = some (.int .i64 bn) ∧ x.cell? ⟨g, off + 4 + 2, none⟩ = some (.string bz) ∧ x.cell? ⟨g, off + 4 + 3, none⟩ = some (.slice A4 bl c4)))) y → (fun x : World => ((x.cell? ⟨w.heap.size, 0, none⟩ = some (.int .i64 4) ∧ x.cell? ⟨w.heap.size, 1, none⟩ = some (.int .i64 0) ∧ x.cell? ⟨w.heap.size, 2, none⟩ = some (.string ⟨#[]⟩) ∧ x.cell? ⟨w.heap.size, 3, none⟩ = some (.slice (some ⟨g, off, none⟩) 2 c)) ∧ (x.cell? ⟨g, off, none⟩ = some (.int .i64 af) ∧ x.cell? ⟨g, off + 1, none⟩ = some (.int .i64 an) ∧ x.cell? ⟨g, off + 2, none⟩ = some (.string az) ∧ x.cell? ⟨g, off + 3, none⟩ = some (.slice A5 al c5)) ∧ (x.cell? ⟨g, off + 4, none⟩ = some (.int .i64 bf) ∧ x.cell? ⟨g, off + 4 + 1, none⟩ = some (.int .i64 bn) ∧ x.cell? ⟨g, off + 4 + 2, none⟩ = some (.string bz) ∧ x.cell? ⟨g, off + 4 + 3, none⟩ = some (.slice A4 bl c4)))) (y.alloc o)) := fun y o hb h => by
    have hbn := below_new y o
    have hs := hb
    have hk : ∀ (bb k : Nat), bb < W.heap.size → (y.alloc o).cell? ⟨bb, k, none⟩ = y.cell? ⟨bb, k, none⟩ := fun bb k hlt => hbn.cell (p := ⟨bb, k, none⟩) (by show bb < y.heap.size; omega)
    simp only [hk _ _ hgW, hk w.heap.size _ (by omega)]
    exact h
  have keepV : Hid (∀ (y : World) (v0 v1 v2 v3 : Value), (fun x : World => ((x.cell? ⟨w.heap.size, 0, none⟩ = some (.int .i64 4) ∧ x.cell? ⟨w.heap.size, 1, none⟩ = some (.int .i64 0) ∧ x.cell? ⟨w.heap.size, 2, none⟩ = some (.string ⟨#[]⟩) ∧ x.cell? ⟨w.heap.size, 3, none⟩ = some (.slice (some ⟨g, off, none⟩) 2 c)) ∧ (x.cell? ⟨g, off, none⟩ = some (.int .i64 af) ∧ x.cell? ⟨g, off + 1, none⟩ = some (.int .i64 an) ∧ x.cell? ⟨g, off + 2, none⟩ = some (.string az) ∧ x.cell? ⟨g, off + 3, none⟩ = some (.slice A5 al c5)) ∧ (x.cell? ⟨g, off + 4, none⟩ = some (.int .i64 bf) ∧ x.cell? ⟨g, off + 4 + 1, none⟩ = some (.int .i64 bn) ∧ x.cell? ⟨g, off + 4 + 2, none⟩ = some (.string bz) ∧ x.cell? ⟨g, off + 4 + 3, none⟩ = some (.slice A4 bl c4)))) y → (fun x : World => ((x.cell? ⟨w.heap.size, 0, none⟩ = some (.int .i64 4) ∧ x.cell? ⟨w.heap.size, 1, none⟩ = some (.int .i64 0) ∧ x.cell? ⟨w.heap.size, 2, none⟩ = some (.string ⟨#[]⟩) ∧ x.cell? ⟨w.heap.size, 3, none⟩ = some (.slice (some ⟨g, off, none⟩) 2 c)) ∧ (x.cell? ⟨g, off, none⟩ = some (.int .i64 af) ∧ x.cell? ⟨g, off + 1, none⟩ = some (.int .i64 an) ∧ x.cell? ⟨g, off + 2, none⟩ = some (.string az) ∧ x.cell? ⟨g, off + 3, none⟩ = some (.slice A5 al c5)) ∧ (x.cell? ⟨g, off + 4, none⟩ = some (.int .i64 bf) ∧ x.cell? ⟨g, off + 4 + 1, none⟩ = some (.int .i64 bn) ∧ x.cell? ⟨g, off + 4 + 2, none⟩ = some (.string bz) ∧ x.cell? ⟨g, off + 4 + 3, none⟩ = some (.slice A4 bl c4)))) ((((y.setCell ⟨w.heap.size + 1, 0, none⟩ v0).setCell ⟨w.heap.size + 1, 1, none⟩ v1).setCell ⟨w.heap.size + 1, 2, none⟩ v2).setCell ⟨w.heap.size + 1, 3, none⟩ v3)) := fun y v0 v1 v2 v3 h => by
    simp only [cell_box _ _ _ _ _ _ _ _ (show w.heap.size ≠ w.heap.size + 1 by omega), cell_box _ _ _ _ _ _ _ _ (show g ≠ w.heap.size + 1 by omega)]
    exact h
  have keepS : Hid (∀ (y : World) (v0 v1 v2 v3 : Value), W.heap.size ≤ y.heap.size → W.heap.size ≤ ((((y.setCell ⟨w.heap.size + 1, 0, none⟩ v0).setCell ⟨w.heap.size + 1, 1, none⟩ v1).setCell ⟨w.heap.size + 1, 2, none⟩ v2).setCell ⟨w.heap.size + 1, 3, none⟩ v3).heap.size) := fun y v0 v1 v2 v3 h => by simpa using h
  go_wp2_with fail
  have hS0 : (fun x : World => ((x.cell? ⟨w.heap.size, 0, none⟩ = some (.int .i64 4) ∧ x.cell? ⟨w.heap.size, 1, none⟩ = some (.int .i64 0) ∧ x.cell? ⟨w.heap.size, 2, none⟩ = some (.string ⟨#[]⟩) ∧ x.cell? ⟨w.heap.size, 3, none⟩ = some (.slice (some ⟨g, off, none⟩) 2 c)) ∧ (x.cell? ⟨g, off, none⟩ = some (.int .i64 af) ∧ x.cell? ⟨g, off + 1, none⟩ = some (.int .i64 an) ∧ x.cell? ⟨g, off + 2, none⟩ = some (.string az) ∧ x.cell? ⟨g, off + 3, none⟩ = some (.slice A5 al c5)) ∧ (x.cell? ⟨g, off + 4, none⟩ = some (.int .i64 bf) ∧ x.cell? ⟨g, off + 4 + 1, none⟩ = some (.int .i64 bn) ∧ x.cell? ⟨g, off + 4 + 2, none⟩ = some (.string bz) ∧ x.cell? ⟨g, off + 4 + 3, none⟩ = some (.slice A4 bl c4)))) y.drew := (HN.out y.drew (HY.out.trans ((Below.refl _ y).drew.mono HY.out.size))).1
  go_region_held3 (fun x : World => ((x.cell? ⟨w.heap.size, 0, none⟩ = some (.int .i64 4) ∧ x.cell? ⟨w.heap.size, 1, none⟩ = some (.int .i64 0) ∧ x.cell? ⟨w.heap.size, 2, none⟩ = some (.string ⟨#[]⟩) ∧ x.cell? ⟨w.heap.size, 3, none⟩ = some (.slice (some ⟨g, off, none⟩) 2 c)) ∧ (x.cell? ⟨g, off, none⟩ = some (.int .i64 af) ∧ x.cell? ⟨g, off + 1, none⟩ = some (.int .i64 an) ∧ x.cell? ⟨g, off + 2, none⟩ = some (.string az) ∧ x.cell? ⟨g, off + 3, none⟩ = some (.slice A5 al c5)) ∧ (x.cell? ⟨g, off + 4, none⟩ = some (.int .i64 bf) ∧ x.cell? ⟨g, off + 4 + 1, none⟩ = some (.int .i64 bn) ∧ x.cell? ⟨g, off + 4 + 2, none⟩ = some (.string bz) ∧ x.cell? ⟨g, off + 4 + 3, none⟩ = some (.slice A4 bl c4)))) (first | with_reducible exact hS0 | with_reducible exact hS1 | with_reducible exact hS2 | with_reducible exact keepA.out _ _ hb6.size hS2 | with_reducible exact keepA.out _ _ (keepS.out _ _ _ _ _ hb6.size) (keepV.out _ _ _ _ _ hS2)) (first | (go_at_call 98; (with_reducible refine HC1.out.mono ?_); rintro e8 x8 ⟨f8, n8, s8, B8, l8, d8, rfl, hb8, HC2⟩; have hS1 : (fun x : World => ((x.cell? ⟨w.heap.size, 0, none⟩ = some (.int .i64 4) ∧ x.cell? ⟨w.heap.size, 1, none⟩ = some (.int .i64 0) ∧ x.cell? ⟨w.heap.size, 2, none⟩ = some (.string ⟨#[]⟩) ∧ x.cell? ⟨w.heap.size, 3, none⟩ = some (.slice (some ⟨g, off, none⟩) 2 c)) ∧ (x.cell? ⟨g, off, none⟩ = some (.int .i64 af) ∧ x.cell? ⟨g, off + 1, none⟩ = some (.int .i64 an) ∧ x.cell? ⟨g, off + 2, none⟩ = some (.string az) ∧ x.cell? ⟨g, off + 3, none⟩ = some (.slice A5 al c5)) ∧ (x.cell? ⟨g, off + 4, none⟩ = some (.int .i64 bf) ∧ x.cell? ⟨g, off + 4 + 1, none⟩ = some (.int .i64 bn) ∧ x.cell? ⟨g, off + 4 + 2, none⟩ = some (.string bz) ∧ x.cell? ⟨g, off + 4 + 3, none⟩ = some (.slice A4 bl c4)))) x8 := (HN.out x8 hb8).1) | (go_at_call 98; (with_reducible refine HC2.out.mono ?_); rintro e6 x6 ⟨f6, n6, s6, B6, l6, d6, rfl, hb6, HT6⟩; have hS2 : (fun x : World => ((x.cell? ⟨w.heap.size, 0, none⟩ = some (.int .i64 4) ∧ x.cell? ⟨w.heap.size, 1, none⟩ = some (.int .i64 0) ∧ x.cell? ⟨w.heap.size, 2, none⟩ = some (.string ⟨#[]⟩) ∧ x.cell? ⟨w.heap.size, 3, none⟩ = some (.slice (some ⟨g, off, none⟩) 2 c)) ∧ (x.cell? ⟨g, off, none⟩ = some (.int .i64 af) ∧ x.cell? ⟨g, off + 1, none⟩ = some (.int .i64 an) ∧ x.cell? ⟨g, off + 2, none⟩ = some (.string az) ∧ x.cell? ⟨g, off + 3, none⟩ = some (.slice A5 al c5)) ∧ (x.cell? ⟨g, off + 4, none⟩ = some (.int .i64 bf) ∧ x.cell? ⟨g, off + 4 + 1, none⟩ = some (.int .i64 bn) ∧ x.cell? ⟨g, off + 4 + 2, none⟩ = some (.string bz) ∧ x.cell? ⟨g, off + 4 + 3, none⟩ = some (.slice A4 bl c4)))) x6 := (HN.out x6 hb6).1; obtain ⟨_, ⟨z0, z1, z2, z3, z4, z5, z6, z7, z8⟩⟩ := HN.out x6 hb6))
  all_goals
    have hq := (HN.out x6 hb6).2.put (.int .i64 4) (.int .i64 0) (.string ⟨#[]⟩) (.slice (some ⟨x6.heap.size, 0, none⟩) 2 2)
    clear hb6 hb8 hS0 hS1 hS2
    go_wp2_with fail
    have hT6 := HT6.out
    generalize ((((x6.setCell ⟨w.heap.size + 1, 0, none⟩ (.int .i64 4)).setCell ⟨w.heap.size + 1, 1, none⟩ (.int .i64 0)).setCell ⟨w.heap.size + 1, 2, none⟩ (.string ⟨#[]⟩)).setCell ⟨w.heap.size + 1, 3, none⟩ (.slice (some ⟨x6.heap.size, 0, none⟩) 2 2)) = U0 at *
    obtain ⟨_, u1, u2, u3, u4, _⟩ := hq.on (below_new U0 (.cells #[.int .i64 f8, .int .i64 n8, .string s8, .slice B8 l8 d8, .int .i64 f6, .int .i64 n6, .string s6, .slice B6 l6 d6] 25))
    generalize U0.alloc (.cells #[.int .i64 f8, .int .i64 n8, .string s8, .slice B8 l8 d8, .int .i64 f6, .int .i64 n6, .string s6, .slice B6 l6 d6] 25) = U2 at *
    exact bodyPost_ret (v := .agg #[.int .i64 4, .int .i64 0, .string ⟨#[]⟩, .slice (some ⟨x6.heap.size, 0, none⟩) 2 2]) (by simp [results, Tryd.results98, go_sem, u1, u2, u3, u4]) rfl hT6
theorem good_any : ∀ n, GoodIs n
  | 0 => fun P t v w hn _ _ => by cases t <;> simp [Ty.sz] at hn
  | n + 1 => fun P t v w hn hb h => by
    by_cases hl : t.args = []
    · exact good_leaf P t v w hl h
    · cases t with
      | app x b =>
        cases hs : (Ty.app x b).sides with
        | none => exact good_anode n (good_any n) P x b v w hn hb hs h
        | some p =>
          obtain ⟨a, b'⟩ := p
          have e := sides_fn hs
          rw [e] at hn hb h ⊢
          exact good_fnode n (good_any n) P a b' v w hn hb h
      | all s a => exact absurd hb (by simp [Ty.bareT])
      | _ => exact absurd rfl hl
set_option maxRecDepth 100000 in
set_option maxHeartbeats 1000000 in
theorem goodT_any (P : Nat → Prop) (v : Value) (zs : List Int) (w : World) (h : IntsAt P w v zs) : Calls Tryd.prog 51 #[v] w (TyMade w (goodZ zs)) := by
  obtain ⟨A, c, rfl⟩ := h.slice
  have HPL := Lib.hid (fun (x : World) (hb : Below w.heap.size w x) => plain_any P _ zs x (h.on hb))
  have HG : Hid (∀ (x : World) (tv : Value) (Q : Nat → Prop), TyAt Q x (plainZ zs) tv → Calls Tryd.prog 98 #[tv] x (TyMade x (goodZ zs))) := fun x tv Q ht => good_any _ Q (plainZ zs) tv x (Nat.le_refl _) (builtP_bare _ _) ht
  obtain ⟨W, eW, q1, b1, z1⟩ := one_box w (.int .i64 0) (.int .i64 0) (.string ⟨#[]⟩) (.slice none 0 0) 25
  have HEW := Lib.hid eW
  have HQ1 := Lib.hid q1
  have HB1 := Lib.hid b1
  clear eW q1 b1 h
  generalize goodZ zs = gz at *
  generalize plainZ zs = pz at *
  go_enter Tryd.func51, Tryd.ntmps51
  go_wp2_with fail
  rw [HEW.out]
  go_wp2_with fail
  refine (HPL.out W HB1.out).mono ?_
  rintro e y ⟨v1, rfl, ht, hb⟩
  obtain ⟨f1, n1, s1, A1, l1, c1, rfl⟩ := ht.flat
  have HC := Lib.hid (HG.out y _ _ ht)
  have HBY := Lib.hid hb
  clear ht hb
  go_wp2_with fail
  refine HC.out.mono ?_
  rintro e x ⟨v2, rfl, ht, hb⟩
  obtain ⟨f2, n2, s2, A2, l2, c2, rfl⟩ := ht.flat
  have hb2 := HBY.out.trans (hb.mono HBY.out.size)
  have hbw := HB1.out.trans (hb2.mono HB1.out.size)
  obtain ⟨x0, x1, x2, x3, x4, x5, x6, x7, x8⟩ := HQ1.out.on hb2
  have hsz := HBY.out.size
  have hv := (ht.keep (.box (b := w.heap.size) (fun (hx : y.heap.size ≤ w.heap.size) => by omega) (.int .i64 f2) (.int .i64 n2) (.string s2) (.slice A2 l2 c2))).mono (Q := fun b => w.heap.size ≤ b) (fun b (hb : y.heap.size ≤ b) => (by omega : w.heap.size ≤ b))
  have hbx := below_box hbw (Nat.le_refl _) (.int .i64 f2) (.int .i64 n2) (.string s2) (.slice A2 l2 c2)
  have HE : Hid (TyMade w gz (.returned (.agg #[.int .i64 f2, .int .i64 n2, .string s2, .slice A2 l2 c2])) ((((x.setCell ⟨w.heap.size, 0, none⟩ (.int .i64 f2)).setCell ⟨w.heap.size, 1, none⟩ (.int .i64 n2)).setCell ⟨w.heap.size, 2, none⟩ (.string s2)).setCell ⟨w.heap.size, 3, none⟩ (.slice A2 l2 c2))) := ⟨_, rfl, hv, hbx⟩
  clear hv hbx hbw hb2 ht hb
  go_wp2
  exact bodyPost_ret (v := .agg #[.int .i64 f2, .int .i64 n2, .string s2, .slice A2 l2 c2]) (by simp [results, Tryd.results51, go_sem, x1, x2, x3, x4]) rfl HE.out
end Go.Proofs.YtbdfjboojokgdaaDoor
