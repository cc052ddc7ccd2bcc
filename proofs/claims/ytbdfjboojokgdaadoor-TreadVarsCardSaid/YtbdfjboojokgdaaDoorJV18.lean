/- The contract of tread's application (chapter 5). Conditions: at most 2^40 tokens; symbols bear no number. -/
import Derived.Test.YtbdfjboojokgdaaDoorJV15
import Derived.Test.YtbdfjboojokgdaaDoorJV17
import Derived.Deep.AppendLies
import Derived.Deep.LoopGhost
namespace Go.Proofs.YtbdfjboojokgdaaDoor
open Go.RowKit Lx

/-- A row of types as a slice of types. -/
theorem ARow.tys {base : Nat} {w : World} {us : List Ty} {v : Value} (h : ARow base w us v) : TysAt (fun b => base ≤ b) w us v := by
  obtain ⟨cs, ho, ht⟩ := h
  rcases ho.2 with ⟨h1, h2⟩ | ⟨g, cap, cur, h1, h2, h3, h4, h5, h6, h7⟩
  · have : us = [] := List.eq_nil_of_length_eq_zero h2
    subst this
    rw [h1]; exact tys_nil _ _ _ _ (Nat.zero_le _)
  · rw [h1] at ho
    refine ⟨some ⟨g, 0, none⟩, cap, fun i j => (cs[i * 4 + j]?).getD (.int .i64 0), h1, h4, h5, ?_, fun i hi => ?_⟩
    · rcases Nat.eq_zero_or_pos us.length with h0 | hpos
      · exact .inl (List.eq_nil_of_length_eq_zero h0)
      · refine .inr ⟨g, 0, rfl, h2, lt_of_block h3, fun i j hi hj => ?_⟩
        have h9 := World.ownsRow.cellAt ho (i * 4 + j) (by omega)
        rw [show 0 + i * 4 + j = i * 4 + j by omega, h9]
        have hlen : i * 4 + j < cs.length := by rw [ho.1]; omega
        show cs[i * 4 + j]? = some ((cs[i * 4 + j]?).getD (.int .i64 0))
        rw [List.getElem?_eq_getElem hlen, Option.getD_some]
    · obtain ⟨x0, x1, x2, x3, c0, c1, c2, c3, hx⟩ := ht i hi
      simp only [Nat.add_zero, c0, c1, c2, c3, Option.getD_some]
      exact hx.mono (fun _ hb => hb.1)
theorem leaf_at {toks : List Tok} {rb g cap i o k : Nat} {w Z : World} (t : Ty) (r : List Tok) (f1 n1 : Int) (s1 : ByteArray) (A1 : Option Addr) (l1 c1 : Nat) (hk : w.heap.size ≤ k) (hrz : Rd toks rb g cap i o Z) (hfz : Fr (fun b => b = rb) w Z) (hty : TyAt (fun b => k + 2 ≤ b) Z t (.agg #[.int .i64 f1, .int .i64 n1, .string s1, .slice A1 l1 c1])) (hg : g < w.heap.size) (hrb : rb < w.heap.size) (hi : toks.length - r.length = i) :
    ReadRes toks rb g cap o (.ok t r) w (.returned (.tuple #[.agg #[.int .i64 f1, .int .i64 n1, .string s1, .slice A1 l1 c1], .agg #[.int .i64 0, .int .i64 0]])) (put6 Z k (k + 1) (.int .i64 f1) (.int .i64 n1) (.string s1) (.slice A1 l1 c1) (.int .i64 0) (.int .i64 0)) := by
  have hend := put6_end hrz hfz hk hg hrb (.int .i64 f1) (.int .i64 n1) (.string s1) (.slice A1 l1 c1) (.int .i64 0) (.int .i64 0)
  have hte := (put6_ty hty (k := k) (by omega) (.int .i64 f1) (.int .i64 n1) (.string s1) (.slice A1 l1 c1) (.int .i64 0) (.int .i64 0)).mono (Q := fun b => w.heap.size ≤ b) (fun b (hb : k + 2 ≤ b) => (by omega : w.heap.size ≤ b))
  exact ⟨_, rfl, hte, by rw [hi]; exact hend.1, hend.2⟩
theorem no_at {toks : List Tok} {rb g cap i o o' k : Nat} {w Z : World} (e p : Nat) (hk : w.heap.size ≤ k) (hrz : Rd toks rb g cap i o' Z) (hfz : Fr (fun b => b = rb) w Z) (hg : g < w.heap.size) (hrb : rb < w.heap.size) :
    ReadRes toks rb g cap o (.no e p) w (.returned (.tuple #[.agg #[.int .i64 0, .int .i64 0, .string ⟨#[]⟩, .slice none 0 0], .agg #[.int .i64 e, .int .i64 p]])) (put6 Z k (k + 1) (.int .i64 0) (.int .i64 0) (.string ⟨#[]⟩) (.slice none 0 0) (.int .i64 e) (.int .i64 p)).drew := by
  have hend := put6_end hrz hfz hk hg hrb (.int .i64 0) (.int .i64 0) (.string ⟨#[]⟩) (.slice none 0 0) (.int .i64 e) (.int .i64 p)
  exact ⟨rfl, ⟨_, _, hend.1.on (Below.refl _ _).drew⟩, hend.2.drew⟩
theorem put6_c {w : World} {b c : Nat} {a0 a1 : Value} {t : TypeId} (h : w.heap[c]? = some (.cells #[a0, a1] t)) (hbc : b ≠ c) (x0 x1 x2 x3 y0 y1 : Value) : (put6 w b c x0 x1 x2 x3 y0 y1).heap[c]? = some (.cells #[y0, y1] t) := by
  unfold put6
  have h1 : ((((w.setCell ⟨b, 0, none⟩ x0).setCell ⟨b, 1, none⟩ x1).setCell ⟨b, 2, none⟩ x2).setCell ⟨b, 3, none⟩ x3).heap[c]? = some (.cells #[a0, a1] t) := by
    rw [Below.heap_setCell _ _ _ _ (Ne.symm hbc), Below.heap_setCell _ _ _ _ (Ne.symm hbc), Below.heap_setCell _ _ _ _ (Ne.symm hbc), Below.heap_setCell _ _ _ _ (Ne.symm hbc)]; exact h
  have h2 := heap_setCell_same _ c 0 _ t y0 h1
  exact heap_setCell_same _ c 1 _ t y1 h2
theorem put6_b {w : World} {b c : Nat} {a0 a1 a2 a3 : Value} {t : TypeId} (h : w.heap[b]? = some (.cells #[a0, a1, a2, a3] t)) (hbc : b ≠ c) (x0 x1 x2 x3 y0 y1 : Value) : (put6 w b c x0 x1 x2 x3 y0 y1).heap[b]? = some (.cells #[x0, x1, x2, x3] t) := by
  unfold put6
  rw [Below.heap_setCell _ _ _ _ hbc, Below.heap_setCell _ _ _ _ hbc]
  have h1 := heap_setCell_same _ b 0 _ t x0 h
  have h2 := heap_setCell_same _ b 1 _ t x1 h1
  have h3 := heap_setCell_same _ b 2 _ t x2 h2
  exact heap_setCell_same _ b 3 _ t x3 h3
theorem ARow.keepH {base : Nat} {w w' : World} {us : List Ty} {v : Value} (h : ARow base w us v) (hs : w.heap.size ≤ w'.heap.size) (hb : ∀ k, base ≤ k → k < w.heap.size → w'.heap[k]? = w.heap[k]?) : ARow base w' us v := by
  obtain ⟨cs, ho, ht⟩ := h
  have hlt := World.ownsRow.lt ho
  refine ⟨cs, ?_, fun i hi => ?_⟩
  · refine ⟨ho.1, ?_⟩
    rcases ho.2 with h2 | ⟨q, cap, cur, h1, h2, h3, h4⟩
    · exact .inl h2
    · exact .inr ⟨q, cap, cur, h1, h2, (hb q h2 (lt_of_block h3)).trans h3, h4⟩
  · obtain ⟨x0, x1, x2, x3, c0, c1, c2, c3, hx⟩ := ht i hi
    exact ⟨x0, x1, x2, x3, c0, c1, c2, c3, hx.keep ⟨hs, fun b off hp hl => World.cell?_of_block (a := ⟨b, off, none⟩) (hb b hp.1 hl)⟩⟩
theorem news_four (w : World) (u0 u1 u2 u3 : Value) (t : TypeId) : ∀ j x, [u0, u1, u2, u3][j]? = some x → (w.alloc (.cells #[u0, u1, u2, u3] t)).cell? ((⟨w.heap.size, 0, none⟩ : Addr).add j) = some x := by
  intro j x hj
  match j with
  | 0 => simp at hj; subst hj; simp [go_sem, Addr.add]
  | 1 => simp at hj; subst hj; simp [go_sem, Addr.add]
  | 2 => simp at hj; subst hj; simp [go_sem, Addr.add]
  | 3 => simp at hj; subst hj; simp [go_sem, Addr.add]
  | j + 4 => simp at hj
theorem one_ty (f n : Int) (s : ByteArray) (A : Option Addr) (l c : Nat) : ∀ u ∈ [Value.int .i64 f, .int .i64 n, .string s, .slice A l c], u.oneCell' = true := by simp [Value.oneCell']
def appL (n : Nat) (l : List Tok) (o : Nat) : Option Got :=
  match atomN n l o with
  | some (.ok x q) => appsN n x q o
  | some (.no e p) => some (.no e p)
  | none => none
def AppIs (toks : List Tok) (rb g cap n : Nat) : Prop := ∀ (i o : Nat) (w : World) (res : Got), Rd toks rb g cap i o w → o ≤ 40 → appL n (toks.drop i) o = some res → Calls Tryd.prog 128 #[.pointer (some ⟨rb, 0, none⟩)] w (ReadRes toks rb g cap o res w)
/-- The boxes of application's frame. -/
structure ABox (rb : Nat) (w0 wr : World) (ys : Nat) (f1 n1 : Int) (s1 : ByteArray) (A1 : Option Addr) (l1 c1 : Nat) (e p : Int) : Prop where
  b0 : wr.heap[w0.heap.size]? = some (.cells #[.pointer (some ⟨rb, 0, none⟩)] 175)
  b1 : wr.heap[w0.heap.size + 1]? = some (.cells #[.int .i64 0, .int .i64 0, .string ⟨#[]⟩, .slice none 0 0] 25)
  b2 : wr.heap[w0.heap.size + 2]? = some (.cells #[.int .i64 0, .int .i64 0] 50)
  b5 : wr.heap[ys]? = some (.cells #[.int .i64 f1, .int .i64 n1, .string s1, .slice A1 l1 c1] 25)
  b6 : wr.heap[ys + 1]? = some (.cells #[.int .i64 e, .int .i64 p] 50)
  fr : Fr (fun b => b = rb) w0 wr
theorem ABox.on {rb : Nat} {w0 wr w' : World} {ys : Nat} {f1 n1 : Int} {s1 : ByteArray} {A1 : Option Addr} {l1 c1 : Nat} {e p : Int} (h : ABox rb w0 wr ys f1 n1 s1 A1 l1 c1 e p) (hf : Fr (fun b => b = rb) wr w') (hrb : rb < w0.heap.size) (hys : w0.heap.size + 3 ≤ ys) : ABox rb w0 w' ys f1 n1 s1 A1 l1 c1 e p :=
  ⟨(hf.block _ (lt_of_block h.b0) (by omega)).trans h.b0, (hf.block _ (lt_of_block h.b1) (by omega)).trans h.b1, (hf.block _ (lt_of_block h.b2) (by omega)).trans h.b2, (hf.block _ (lt_of_block h.b5) (by omega)).trans h.b5, (hf.block _ (lt_of_block h.b6) (by omega)).trans h.b6, h.fr.trans hf⟩
/-- What the loop of application knows. -/
def AppRel (toks : List Tok) (rb g cap o : Nat) (w0 : World) (ys : Nat) (x : Ty) (f1 n1 : Int) (s1 : ByteArray) (A1 : Option Addr) (l1 c1 : Nat) (res : Got) (nn k : Nat) (ov : Value) (wr : World) : Prop :=
  (∃ us ip, ABox rb w0 wr ys f1 n1 s1 A1 l1 c1 0 0 ∧ TyAt (fun b => w0.heap.size + 3 ≤ b ∧ b < ys) wr x (.agg #[.int .i64 f1, .int .i64 n1, .string s1, .slice A1 l1 c1]) ∧ Rd toks rb g cap ip o wr ∧ ARow (ys + 2) wr us ov ∧ us.length ≤ ip ∧ k ≤ nn ∧ appsN k (x.give us) (toks.drop ip) o = some res) ∨
  (∃ e p ip o' A n c, res = .no e p ∧ (e = 12 ∨ e = 13) ∧ ABox rb w0 wr ys f1 n1 s1 A1 l1 c1 e p ∧ Rd toks rb g cap ip o' wr ∧ ov = .slice A n c)
theorem app3 (w : World) (rb : Nat) : ∃ W, ((w.alloc (.cells #[.pointer (some ⟨rb, 0, none⟩)] 175)).alloc (.cells #[.int .i64 0, .int .i64 0, .string ⟨#[]⟩, .slice none 0 0] 25)).alloc (.cells #[.int .i64 0, .int .i64 0] 50) = W ∧
    W.heap[w.heap.size]? = some (.cells #[.pointer (some ⟨rb, 0, none⟩)] 175) ∧ W.heap[w.heap.size + 1]? = some (.cells #[.int .i64 0, .int .i64 0, .string ⟨#[]⟩, .slice none 0 0] 25) ∧ W.heap[w.heap.size + 2]? = some (.cells #[.int .i64 0, .int .i64 0] 50) ∧ Below w.heap.size w W ∧ W.heap.size = w.heap.size + 3 := by
  obtain ⟨w1, e1⟩ : ∃ w1, w.alloc (.cells #[.pointer (some ⟨rb, 0, none⟩)] 175) = w1 := ⟨_, rfl⟩
  have z1 : w1.heap.size = w.heap.size + 1 := by rw [← e1]; simp
  have k1 := (MapKept.heap_alloc w (.cells #[.pointer (some ⟨rb, 0, none⟩)] 175)).1
  have b1 := below_new w (.cells #[.pointer (some ⟨rb, 0, none⟩)] 175)
  rw [e1] at k1 b1 ⊢
  obtain ⟨W, eW, h0, h1, hb, hz⟩ := new2 w1 (.int .i64 0) (.int .i64 0) (.string ⟨#[]⟩) (.slice none 0 0) (.int .i64 0) (.int .i64 0)
  rw [z1] at h0 h1
  exact ⟨W, eW, (hb.block _ (by omega)).trans k1, h0, h1, b1.trans (hb.mono b1.size), by omega⟩
set_option maxRecDepth 100000 in
set_option maxHeartbeats 1000000 in
theorem app_of (toks : List Tok) (rb g cap n : Nat) (ih : ∀ m, m ≤ n → AtomIs toks rb g cap m) (hl : toks.length ≤ 1099511627776) (hz : ∀ t ∈ toks, SymZ t) : AppIs toks rb g cap n := by
  intro i o w res h ho hres
  obtain ⟨W, eW, k0, k1, k2, b1, z1⟩ := app3 w rb
  have hg := h.lt
  have hrb := h.rb_lt
  have hrW := h.on b1
  unfold appL at hres
  obtain ⟨ga, hga⟩ : ∃ ga, atomN n (toks.drop i) o = some ga := by
    cases ha : atomN n (toks.drop i) o with
    | none => rw [ha] at hres; cases hres
    | some ga => exact ⟨ga, rfl⟩
  rw [hga] at hres
  have HAT := Lib.hid (ih n (Nat.le_refl _) i o W ga hrW ho hga)
  have herr := (err_all n).1 (toks.drop i) o
  have hsf := (suff_all n).1 (toks.drop i) o
  rw [hga] at herr hsf
  have HERR := Lib.hid herr
  have HSF := Lib.hid hsf
  have HEW := Lib.hid eW
  have HB := Lib.hid b1
  have HK0 := Lib.hid k0
  have HK1 := Lib.hid k1
  have HK2 := Lib.hid k2
  have HRES := Lib.hid hres
  have HIH := Lib.hid ih
  have HSZ := Lib.hid hz
  have ho40 := ho
  have HZ1 := Lib.hid z1
  have hWs : w.heap.size + 3 ≤ W.heap.size := by omega
  have c0 := cell_of_one k0
  have hcl := lt_of_block k0
  have heq := eq_at
  have hgd := guard_at
  clear eW k0 k1 k2 b1 z1 h hrW hres herr hsf hga ih hz
  go_enter Tryd.func128, Tryd.ntmps128
  go_upto_region 1 with (fail)
  rw [HEW.out]
  go_wp2_with fail
  (with_reducible refine HAT.out.mono ?_)
  intro e1 y hy
  -- behind the first atom: its boxes
  have HL : Hid (∃ (x : Ty) (f1 n1 : Int) (s1 : ByteArray) (A1 : Option Addr) (l1 c1 : Nat) (ea pa : Int), e1 = .returned (.tuple #[.agg #[.int .i64 f1, .int .i64 n1, .string s1, .slice A1 l1 c1], .agg #[.int .i64 ea, .int .i64 pa]]) ∧ W.heap.size ≤ y.heap.size ∧ ∀ Y : World, (y.alloc (.cells #[.int .i64 f1, .int .i64 n1, .string s1, .slice A1 l1 c1] 25)).alloc (.cells #[.int .i64 ea, .int .i64 pa] 50) = Y → AppRel toks rb g cap o w y.heap.size x f1 n1 s1 A1 l1 c1 res n n (.slice none 0 0) Y) := by
    have hres := HRES.out
    cases ga with
    | no e p =>
      obtain ⟨rfl, ⟨i', o', hr⟩, hf⟩ := hy
      simp only [Option.some.injEq] at hres
      refine ⟨.con ⟨#[]⟩, 0, 0, ⟨#[]⟩, none, 0, 0, e, p, rfl, hf.size, fun Y eY => .inr ?_⟩
      obtain ⟨Y', eY', m0, m1, mb, mz⟩ := new2 y (.int .i64 0) (.int .i64 0) (.string ⟨#[]⟩) (.slice none 0 0) (.int .i64 e) (.int .i64 p)
      have : Y = Y' := eY.symm.trans eY'
      subst this
      have hfy := hf.trans (Fr.of_below mb)
      have hs := hf.size
      refine ⟨e, p, i', o', none, 0, 0, hres.symm, HERR.out e p rfl, ⟨?_, ?_, ?_, m0, m1, (Fr.of_below HB.out).trans hfy⟩, hr.on mb, rfl⟩
      · exact (hfy.block _ (by omega) (by omega)).trans HK0.out
      · exact (hfy.block _ (by omega) (by omega)).trans HK1.out
      · exact (hfy.block _ (by omega) (by omega)).trans HK2.out
    | ok x q =>
      obtain ⟨tv, rfl, hty, hr, hf⟩ := hy
      obtain ⟨f1, n1, s1, A1, l1, c1, rfl⟩ := hty.flat
      refine ⟨x, f1, n1, s1, A1, l1, c1, 0, 0, rfl, hf.size, fun Y eY => .inl ?_⟩
      obtain ⟨Y', eY', m0, m1, mb, mz⟩ := new2 y (.int .i64 f1) (.int .i64 n1) (.string s1) (.slice A1 l1 c1) (.int .i64 0) (.int .i64 0)
      have : Y = Y' := eY.symm.trans eY'
      subst this
      have hfy := hf.trans (Fr.of_below mb)
      have hs := hf.size
      have hdq : toks.drop (toks.length - q.length) = q := drop_suf (HSF.out x q rfl).1
      refine ⟨[], toks.length - q.length, ⟨?_, ?_, ?_, m0, m1, (Fr.of_below HB.out).trans hfy⟩, ?_, hr.on mb, ARow.nil _ _, Nat.zero_le _, Nat.le_refl _, ?_⟩
      · exact (hfy.block _ (by omega) (by omega)).trans HK0.out
      · exact (hfy.block _ (by omega) (by omega)).trans HK1.out
      · exact (hfy.block _ (by omega) (by omega)).trans HK2.out
      · exact (hty.bound.on mb).mono (fun b (hb : W.heap.size ≤ b ∧ b < y.heap.size) => (by omega : w.heap.size + 3 ≤ b ∧ b < y.heap.size))
      · rw [hdq]; exact hres
  clear hy
  refine Exists.elim HL.out (fun x hx => ?_)
  obtain ⟨f1, n1, s1, A1, l1, c1, ea, pa, rfl, hsy, hrel0⟩ := hx
  obtain ⟨Y, eY⟩ : ∃ Y, (y.alloc (.cells #[.int .i64 f1, .int .i64 n1, .string s1, .slice A1 l1 c1] 25)).alloc (.cells #[.int .i64 ea, .int .i64 pa] 50) = Y := ⟨_, rfl⟩
  have HR0 := Lib.hid (hrel0 Y eY)
  have HEY := Lib.hid eY
  have hys : w.heap.size + 3 ≤ y.heap.size := by omega
  clear hrel0 eY hsy HL c0 hcl HK0 HK1 HK2 HAT HERR HSF HRES
  go_upto_region 3 with (fail)
  rw [HEY.out]
  go_wp2_with fail
  generalize y.heap.size = ys at *
  go_loopg [7] n (fun k ov wr => AppRel toks rb g cap o w ys x f1 n1 s1 A1 l1 c1 res n k ov wr)
  case atStart => exact HR0.out
  case round =>
    rcases hrel with ⟨us, ip, hb, hft, hr, hrow, hul, hkn, hap⟩ | ⟨e, p, ip, o', A9, n9, c9, hre, he, hb, hr, hov⟩
    · obtain ⟨A9, c9, rfl⟩ := hrow.form
      have HBX := Lib.hid hb
      have HFT := Lib.hid hft
      have HRD := Lib.hid hr
      have HROW := Lib.hid hrow
      have HAP := Lib.hid hap
      cases hd : toks.drop ip with
      | nil => rw [hd] at hap; cases gk <;> simp [appsN] at hap
      | cons t q =>
      obtain ⟨hi, ht, hdq, hlen⟩ := drop_at hd
      rw [hd] at hap
      cases gk with
      | zero => simp [appsN] at hap
      | succ m =>
      have hbg := begins_any toks rb g cap ip o w.heap.size wr hr hb.b0 hi (HSZ.out _ (List.getElem_mem hi))
      rw [ht] at hbg
      have e6 := pair_cells hb.b6
      have e5 := four_cells hb.b5
      have e1 := four_cells hb.b1
      have e2 := pair_cells hb.b2
      have e0 := cell_of_one hb.b0
      obtain ⟨q0, q1, q2, q3, q4⟩ := e6
      simp only [appsN] at hap
      cases hq : begT t with
      | false =>
        rw [hq] at hap hbg
        simp only [Bool.false_eq_true, if_false, Option.some.injEq] at hap
        have HBG := Lib.hid hbg
        have HRE := Lib.hid hap
        clear hb hft hr hrow hap hbg hq e5 e1 e2 e0
        go_wp2_with fail
        (with_reducible refine HBG.out.mono ?_)
        rintro e1 y1 ⟨rfl, hb1⟩
        have HBX1 := Lib.hid (HBX.out.on (Fr.of_below hb1) hrb hys)
        have HRD1 := Lib.hid (HRD.out.on hb1)
        have HFT1 := Lib.hid ((HFT.out.on hb1).mono (Q := fun b => w.heap.size + 3 ≤ b) (fun b hb => hb.1))
        have HTS := Lib.hid ((HROW.out.tys.on hb1).mono (Q := fun b => w.heap.size + 3 ≤ b) (fun b (hb : ys + 2 ≤ b) => (by omega : w.heap.size + 3 ≤ b)))
        have HAP1 := Lib.hid (app_any (fun b => w.heap.size + 3 ≤ b) x us _ _ y1 HFT1.out HTS.out (by omega))
        clear hb1
        obtain ⟨q0, q1, q2, q3, q4⟩ := pair_cells HBX1.out.b6
        obtain ⟨j0, j1, j2, j3, j4, j5, j6, j7, j8⟩ := four_cells HBX1.out.b5
        go_wp2_with fail
        (with_reducible refine HAP1.out.mono ?_)
        rintro e2 z ⟨tv, rfl, hty, hbz⟩
        obtain ⟨f2, n2, s2, A2, l2, c2, rfl⟩ := hty.flat
        have HBX2 := HBX1.out.on (Fr.of_below hbz) hrb hys
        obtain ⟨u0, u1, u2, u3, u4, u5, u6, u7, u8⟩ := four_cells HBX2.b1
        obtain ⟨v0, v1, v2, v3, v4⟩ := pair_cells HBX2.b2
        have hy1 : w.heap.size + 3 ≤ y1.heap.size := by have := lt_of_block HBX1.out.b5; omega
        have HE := Lib.hid (leaf_at (k := w.heap.size + 1) (x.give us) (t :: q) f2 n2 s2 A2 l2 c2 (by omega) (HRD1.out.on hbz) HBX2.fr (hty.mono (Q := fun b => w.heap.size + 1 + 2 ≤ b) (fun b (hb : y1.heap.size ≤ b) => (by omega : w.heap.size + 1 + 2 ≤ b))) hg hrb (by rw [List.length_cons]; omega))
        rw [HRE.out] at HE
        clear hty hbz HBX2
        go_wp2_with fail
        exact bodyPost_ret (v := .tuple #[.agg #[.int .i64 f2, .int .i64 n2, .string s2, .slice A2 l2 c2], .agg #[.int .i64 0, .int .i64 0]]) (by simp [results, Tryd.results128, go_sem, u0, u1, u2, u3, v0, v1]) rfl HE.out
      | true =>
        rw [hq] at hap hbg
        simp only [if_true] at hap
        obtain ⟨ga2, hga2⟩ : ∃ ga2, atomN m (t :: q) o = some ga2 := by
          cases ha : atomN m (t :: q) o with
          | none => rw [ha] at hap; cases hap
          | some ga2 => exact ⟨ga2, rfl⟩
        rw [hga2] at hap
        have HBG := Lib.hid hbg
        have herr2 := (err_all m).1 (t :: q) o
        have hsf2 := (suff_all m).1 (t :: q) o
        rw [hga2] at herr2 hsf2
        obtain ⟨cs, ho, hte⟩ := hrow
        have hOL := World.ownsRow.lt ho
        have HRES := Lib.hid hap
        have hm0 : m ≤ n := by omega
        have HAT := Lib.hid (fun (Z : World) (hrz : Rd toks rb g cap ip o Z) => HIH.out m hm0 ip o Z ga2 hrz ho40 (by rw [hd]; exact hga2))
        have hwr : ys + 1 < wr.heap.size := lt_of_block hb.b6
        have HOL := Lib.hid hOL
        have HHO := Lib.hid ho
        have HTE := Lib.hid hte
        have hdd := hd
        clear hb hft hr ho hte hap hbg hq e5 e1 e2 e0 hd hga2 hOL hm0
        go_wp2_with fail
        (with_reducible refine HBG.out.mono ?_)
        rintro e1 y1 ⟨rfl, hb1⟩
        obtain ⟨y2, ey2, l8, b2, z2⟩ := box4h y1 (.int .i64 0) (.int .i64 0) (.string ⟨#[]⟩) (.slice none 0 0) 25
        have hs1 := hb1.size
        have hb12 := hb1.trans (b2.mono hs1)
        have HB12 := Lib.hid hb12
        have HBX1 := HBX.out.on (Fr.of_below hb12) hrb hys
        have c0 := cell_of_one HBX1.b0
        have hcl := lt_of_block HBX1.b0
        have HCALL := Lib.hid (HAT.out y2 (HRD.out.on hb12))
        have HEY2 := Lib.hid ey2
        have HL8 := Lib.hid l8
        have hT8 : wr.heap.size ≤ y1.heap.size := hs1
        have hT9 : y1.heap.size < y2.heap.size := by omega
        clear hb1 ey2 l8 b2 z2 hb12 HAT HBG hs1
        go_upto_region 6 with (fail)
        rw [HEY2.out]
        go_wp2_with fail
        (with_reducible refine HCALL.out.mono ?_)
        intro e3 z hx
        have HC : Hid (∃ (f2 n2 : Int) (s2 : ByteArray) (A2 : Option Addr) (l2 c2 : Nat) (e2 p2 : Int), e3 = .returned (.tuple #[.agg #[.int .i64 f2, .int .i64 n2, .string s2, .slice A2 l2 c2], .agg #[.int .i64 e2, .int .i64 p2]]) ∧ y2.heap.size ≤ z.heap.size ∧ z.heap[y1.heap.size]? = some (.cells #[.int .i64 0, .int .i64 0, .string ⟨#[]⟩, .slice none 0 0] 25) ∧ z.heap[ys + 1]? = some (.cells #[.int .i64 0, .int .i64 0] 50) ∧
            ∀ Q : World, Q = (put6 z y1.heap.size (ys + 1) (.int .i64 f2) (.int .i64 n2) (.string s2) (.slice A2 l2 c2) (.int .i64 e2) (.int .i64 p2)).alloc (.cells #[.int .i64 f2, .int .i64 n2, .string s2, .slice A2 l2 c2] 25) → Q.ownsRow (ys + 2) 25 4 (.slice A9 us.length c9) us.length cs ∧
              ∀ (w2 : World) (gq cap2 : Nat), w2.ownsRow (ys + 2) 25 4 (.slice (some ⟨gq, 0, none⟩) (us.length + 1) cap2) (us.length + 1) (cs ++ [.int .i64 f2, .int .i64 n2, .string s2, .slice A2 l2 c2]) → Q.grownBy w2 (Value.slice A9 us.length c9).ownBlock → ((Value.slice A9 us.length c9).ownBlock = some gq ∨ gq = Q.heap.size) → AppRel toks rb g cap o w ys x f1 n1 s1 A1 l1 c1 res n m (.slice (some ⟨gq, 0, none⟩) (us.length + 1) cap2) w2) := by
          -- what holds whatever was told
          have hcore : ∀ (f2 n2 : Int) (s2 : ByteArray) (A2 : Option Addr) (l2 c2 : Nat) (e2 p2 : Int), Fr (fun b => b = rb) y2 z → y2.heap.size ≤ z.heap.size ∧ z.heap[y1.heap.size]? = some (.cells #[.int .i64 0, .int .i64 0, .string ⟨#[]⟩, .slice none 0 0] 25) ∧ z.heap[ys + 1]? = some (.cells #[.int .i64 0, .int .i64 0] 50) ∧ ∀ Q : World, Q = (put6 z y1.heap.size (ys + 1) (.int .i64 f2) (.int .i64 n2) (.string s2) (.slice A2 l2 c2) (.int .i64 e2) (.int .i64 p2)).alloc (.cells #[.int .i64 f2, .int .i64 n2, .string s2, .slice A2 l2 c2] 25) →
              z.heap.size ≤ Q.heap.size ∧ Below 0 z Q ∧ (∀ k, k < z.heap.size → k ≠ y1.heap.size → k ≠ ys + 1 → Q.heap[k]? = z.heap[k]?) ∧ Q.heap[ys + 1]? = some (.cells #[.int .i64 e2, .int .i64 p2] 50) ∧ ABox rb w Q ys f1 n1 s1 A1 l1 c1 e2 p2 ∧ ARow (ys + 2) Q us (.slice A9 us.length c9) ∧ Q.ownsRow (ys + 2) 25 4 (.slice A9 us.length c9) us.length cs ∧ TyAt (fun b => w.heap.size + 3 ≤ b ∧ b < ys) Q x (.agg #[.int .i64 f1, .int .i64 n1, .string s1, .slice A1 l1 c1]) ∧ (∀ k, k < wr.heap.size → k ≠ rb → k ≠ ys + 1 → Q.heap[k]? = wr.heap[k]?) := fun f2 n2 s2 A2 l2 c2 e2 p2 hf => by
            have hsz := hf.size
            have h8 := (hf.block y1.heap.size (by omega) (by omega)).trans HL8.out
            have hbz := HBX1.on hf hrb hys
            refine ⟨hsz, h8, hbz.b6, fun Q hQ => ?_⟩
            have hblk : ∀ k, k < z.heap.size → k ≠ y1.heap.size → k ≠ ys + 1 → Q.heap[k]? = z.heap[k]? := fun k hk h1 h2 => by
              rw [hQ, (below_new _ _).block k (by rw [put6_size]; exact hk), put6_block _ _ _ _ _ _ _ _ _ k h1 h2]
            have hqs : z.heap.size ≤ Q.heap.size := by rw [hQ]; simp [put6_size]
            have h6 : Q.heap[ys + 1]? = some (.cells #[.int .i64 e2, .int .i64 p2] 50) := by
              rw [hQ, (below_new _ _).block _ (by rw [put6_size]; omega)]
              exact put6_c hbz.b6 (by omega) _ _ _ _ _ _
            have hz0 : Below 0 z Q := by
              rw [hQ]
              exact (put6_zero z y1.heap.size (ys + 1) _ _ _ _ _ _).trans ((below_new _ _).mono (Nat.zero_le _))
            have hwq : ∀ k, k < wr.heap.size → k ≠ rb → k ≠ ys + 1 → Q.heap[k]? = wr.heap[k]? := fun k hk h1 h2 => by
              rw [hblk k (by omega) (by omega) h2, hf.block k (by omega) h1, HB12.out.block k hk]
            have hfq : Fr (fun b => b = rb) w Q := by
              have h9 := hbz.fr
              exact ⟨hz0.os.trans h9.os, hz0.tape.trans h9.tape, hz0.output.trans h9.output, Nat.le_trans h9.size hqs, fun k hk hn => (hblk k (Nat.lt_of_lt_of_le hk h9.size) (by omega) (by omega)).trans (h9.block k hk hn)⟩
            have hq8 : wr.heap.size ≤ Q.heap.size := by omega
            have harow : ARow (ys + 2) wr us (.slice A9 us.length c9) := ⟨cs, HHO.out, HTE.out⟩
            refine ⟨hqs, hz0, hblk, h6, ⟨?_, ?_, ?_, ?_, h6, hfq⟩, harow.keepH hq8 (fun k h1 h2 => hwq k h2 (by omega) (by omega)), own_keep HHO.out (fun k hk => by have := HOL.out k hk; exact hwq k this.2 (by omega) (by omega)), HFT.out.keep ⟨hq8, fun b off hp hlt => World.cell?_of_block (a := ⟨b, off, none⟩) (hwq b hlt (by omega) (by omega))⟩, hwq⟩
            · exact (hblk _ (lt_of_block hbz.b0) (by omega) (by omega)).trans hbz.b0
            · exact (hblk _ (lt_of_block hbz.b1) (by omega) (by omega)).trans hbz.b1
            · exact (hblk _ (lt_of_block hbz.b2) (by omega) (by omega)).trans hbz.b2
            · exact (hblk _ (lt_of_block hbz.b5) (by omega) (by omega)).trans hbz.b5
          have hw2 : ∀ (Q w2 : World), Q.grownBy w2 (Value.slice A9 us.length c9).ownBlock → ∀ k, k < Q.heap.size → k < ys + 2 → w2.heap[k]? = Q.heap[k]? := fun Q w2 hg2 k hk h2 => hg2.block k hk (fun e => by have := (HOL.out k e.symm).1; omega)
          have hbx2 : ∀ (Q w2 : World) (e2 p2 : Int), Q.grownBy w2 (Value.slice A9 us.length c9).ownBlock → ABox rb w Q ys f1 n1 s1 A1 l1 c1 e2 p2 → ABox rb w w2 ys f1 n1 s1 A1 l1 c1 e2 p2 := fun Q w2 e2 p2 hg2 hb => by
            have h9 := hw2 Q w2 hg2
            have hf9 := hb.fr
            exact ⟨(h9 _ (lt_of_block hb.b0) (by omega)).trans hb.b0, (h9 _ (lt_of_block hb.b1) (by omega)).trans hb.b1, (h9 _ (lt_of_block hb.b2) (by omega)).trans hb.b2, (h9 _ (lt_of_block hb.b5) (by omega)).trans hb.b5, (h9 _ (lt_of_block hb.b6) (by omega)).trans hb.b6,
              hg2.os.trans hf9.os, hg2.tape.trans hf9.tape, hg2.output.trans hf9.output, Nat.le_trans hf9.size hg2.size, fun k hk hn => (h9 k (Nat.lt_of_lt_of_le hk hf9.size) (by omega)).trans (hf9.block k hk hn)⟩
          have hres := HRES.out
          cases ga2 with
          | no e p =>
            obtain ⟨rfl, ⟨i', o', hr⟩, hf⟩ := hx
            simp only [Option.some.injEq] at hres
            obtain ⟨g1, g2', g3, hQ0⟩ := hcore 0 0 ⟨#[]⟩ none 0 0 e p hf
            refine ⟨0, 0, ⟨#[]⟩, none, 0, 0, e, p, rfl, g1, g2', g3, fun Q hQ => ?_⟩
            obtain ⟨hqs, hz0, hblk, h6, hbq, hrowq, hoq, hfq, hwq⟩ := hQ0 Q hQ
            refine ⟨hoq, fun w2 gq cap2 ho2 hg2 hat => .inr ⟨e, p, i', o', _, _, _, hres.symm, herr2 e p rfl, hbx2 Q w2 e p hg2 hbq, ?_, rfl⟩⟩
            have hrl := hr.rb_lt
            exact hr.fr (Nat.le_trans hqs hg2.size) ((hw2 Q w2 hg2 rb (by omega) (by omega)).trans (hblk rb (by omega) (by omega) (by omega))) ((hw2 Q w2 hg2 g (by have := hr.lt; omega) (by omega)).trans (hblk g hr.lt (by omega) (by omega)))
          | ok a r =>
            obtain ⟨tv, rfl, hty, hr, hf⟩ := hx
            obtain ⟨f2, n2, s2, A2, l2, c2, rfl⟩ := hty.flat
            obtain ⟨g1, g2', g3, hQ0⟩ := hcore f2 n2 s2 A2 l2 c2 0 0 hf
            refine ⟨f2, n2, s2, A2, l2, c2, 0, 0, rfl, g1, g2', g3, fun Q hQ => ?_⟩
            obtain ⟨hqs, hz0, hblk, h6, hbq, hrowq, hoq, hfq, hwq⟩ := hQ0 Q hQ
            have hsr := hsf2 a r rfl
            have hdr : toks.drop (toks.length - r.length) = r := drop_suf (i := ip) (by rw [hdd]; exact hsr.1)
            have hrl2 := hsr.2
            rw [List.length_cons] at hrl2
            refine ⟨hoq, fun w2 gq cap2 ho2 hg2 hat => .inl ⟨us ++ [a], toks.length - r.length, hbx2 Q w2 0 0 hg2 hbq, ?_, ?_, ?_, ?_, by omega, ?_⟩⟩
            · exact hfq.keep ⟨hg2.size, fun b off hp hlt => World.cell?_of_block (a := ⟨b, off, none⟩) (hw2 Q w2 hg2 b hlt (by omega))⟩
            · have hrl := hr.rb_lt
              exact hr.fr (Nat.le_trans hqs hg2.size) ((hw2 Q w2 hg2 rb (by omega) (by omega)).trans (hblk rb (by omega) (by omega) (by omega))) ((hw2 Q w2 hg2 g (by have := hr.lt; omega) (by omega)).trans (hblk g hr.lt (by omega) (by omega)))
            · obtain ⟨cs', hoo, htt⟩ := hrowq
              have hcs : cs' = cs := by
                rcases hoo.2 with ⟨h1, h2⟩ | ⟨q1, cap1, cur1, h1, _, h3, _, _, _, h7⟩
                · have e1 := hoo.1; have e2 := hoq.1; rw [h2] at e1 e2; exact (List.eq_nil_of_length_eq_zero (l := cs') (by omega)).trans (List.eq_nil_of_length_eq_zero (l := cs) (by omega)).symm
                · rcases hoq.2 with ⟨k1, k2⟩ | ⟨q2, cap2', cur2, k1, _, k3, _, _, _, k7⟩
                  · rw [h1] at k1; cases k1
                  · rw [h1] at k1; injection k1 with k1; injection k1 with k1; injection k1 with k1
                    subst k1
                    rw [h3] at k3; injection k3 with k3; injection k3 with k3
                    subst k3
                    rw [← h7, ← k7]
              subst hcs
              have hta : TyAt (fun b => ys + 2 ≤ b ∧ (Value.slice A9 us.length c9).ownBlock ≠ some b) Q a (.agg #[.int .i64 f2, .int .i64 n2, .string s2, .slice A2 l2 c2]) := by
                have h9 := hty.bound.keep (w' := Q) ⟨hqs, fun b off (hp : y2.heap.size ≤ b ∧ b < z.heap.size) hlt => World.cell?_of_block (a := ⟨b, off, none⟩) (hblk b hlt (by omega) (by omega))⟩
                exact h9.mono (fun b hb => ⟨by omega, fun e => by have := (HOL.out b e).2; omega⟩)
              have h5 := ARow.push (v' := .slice (some ⟨gq, 0, none⟩) (us.length + 1) cap2) hoo htt hta ho2 hg2 (by
                rcases hat with h9 | h9
                · exact .inl (by rw [h9]; rfl)
                · exact .inr (by rw [h9]; rfl))
              exact h5
            · rw [List.length_append, List.length_singleton]; omega
            · rw [hdr, Ty.give_snoc]; exact hres
        clear hx
        refine Exists.elim HC.out (fun f2 hc2 => ?_)
        obtain ⟨n2, s2, A2, l2, c2, e2, p2, rfl, hzz, h8, h6, hQ⟩ := hc2
        obtain ⟨P, eP⟩ : ∃ P, put6 z y1.heap.size (ys + 1) (.int .i64 f2) (.int .i64 n2) (.string s2) (.slice A2 l2 c2) (.int .i64 e2) (.int .i64 p2) = P := ⟨_, rfl⟩
        have hP8 := put6_b h8 (show y1.heap.size ≠ ys + 1 by omega) (.int .i64 f2) (.int .i64 n2) (.string s2) (.slice A2 l2 c2) (.int .i64 e2) (.int .i64 p2)
        have hPs : z.heap.size ≤ P.heap.size := by rw [← eP, put6_size]; exact Nat.le_refl _
        rw [eP] at hP8 hQ
        obtain ⟨a0, a1, a2, a3, a4, a5, a6, a7, a8⟩ := four_cells h8
        obtain ⟨d0, d1, d2, d3, d4⟩ := pair_cells h6
        obtain ⟨j0, j1, j2, j3, j4, j5, j6, j7, j8⟩ := four_cells hP8
        have hQ2 := hQ _ rfl
        have HOWN := Lib.hid hQ2.1
        have HSTEP := Lib.hid hQ2.2
        have HNEW := Lib.hid (news_four P (.int .i64 f2) (.int .i64 n2) (.string s2) (.slice A2 l2 c2) 25)
        have HONE := Lib.hid (one_ty f2 n2 s2 A2 l2 c2)
        unfold put6 at eP
        have HEP := Lib.hid eP
        have hPb : ys + 2 ≤ P.heap.size := by omega
        have hus : us.length ≤ 1099511627776 := by omega
        obtain ⟨i0, hi0, hz0, hzs, hzb⟩ := info_parts' Tryd.info25
        clear hQ hQ2 eP hP8 h8 h6 HC HBX HBX1 HL8 HCALL HRES
        go_upto_region 7 with (fail)
        rw [HEP.out]
        go_wp2_with (at_builtin; refine wpList_append_lies _ rfl (.tmp 27) (.tmp 29) 23 rfl (ys + 2) 25 i0 (.agg #[.int .i64 0, .int .i64 0, .string ⟨#[]⟩, .slice none 0 0]) 4 56 Tryd.underlying23 hi0 hz0 hzs hzb rfl (by decide) (.slice A9 us.length c9) us.length cs rfl HOWN.out ⟨P.heap.size, 0, none⟩ 1 1 [.int .i64 f2, .int .i64 n2, .string s2, .slice A2 l2 c2] rfl rfl HNEW.out HONE.out (by omega) (by unfold maxLen; omega) (by omega) (by simp; omega) (P.heap.size + 1) (by simp) ?_; intro gq cap2 w2 h2 g2 hat _; have HREL := Lib.hid (HSTEP.out w2 gq cap2 h2 g2 (by rcases hat with h9 | h9; (· exact .inl h9); (right; rw [h9]; simp))); clear h2 g2 hat)
        go_roundg m
        case rel => exact HREL.out
        case measure => omega
    · subst hov
      subst hre
      have he0 : ((e : Int) == 0) = false := by rw [beq_eq_false_iff_ne]; omega
      have heI : (0 : Int) < (e : Int) := by omega
      obtain ⟨q0, q1, q2, q3, q4⟩ := pair_cells hb.b6
      obtain ⟨u0, u1, u2, u3, u4, u5, u6, u7, u8⟩ := four_cells hb.b1
      obtain ⟨v0, v1, v2, v3, v4⟩ := pair_cells hb.b2
      have HE := Lib.hid (no_at (k := w.heap.size + 1) (o := o) e p (by omega) hr hb.fr hg hrb)
      clear hb hr he
      go_wp2_with fail
      go_region
      all_goals
        go_wp2_with fail
        exact bodyPost_ret (v := .tuple #[.agg #[.int .i64 0, .int .i64 0, .string ⟨#[]⟩, .slice none 0 0], .agg #[.int .i64 e, .int .i64 p]]) (by simp [results, Tryd.results128, go_sem, u0, u1, u2, u3, v0, v1]) rfl HE.out
end Go.Proofs.YtbdfjboojokgdaaDoor
