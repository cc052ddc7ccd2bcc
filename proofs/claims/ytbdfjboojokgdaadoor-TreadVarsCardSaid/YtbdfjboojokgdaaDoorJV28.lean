/- The contract of tread.Scheme (chapter 5). Conditions: at most 2^40 tokens, the last one an end; symbols bear no number; what is read is not too great. The contracts of the program's small functions of lex: digit, sign, Keys, symbol; and of strings.Clone. Condition, where it is named: the list of symbols stands in memory as the program's text lays it. The contracts of the program's number and name (lex). Conditions: the text is not empty, and has at most 2^40 bytes. -/
import Derived.Test.YtbdfjboojokgdaaDoorJV27
import Derived.Test.YtbdfjboojokgdaaDoorJV13
import Derived.Test.YtbdfjboojokgdaaDoorJV05
import Derived.Lib.Hide
namespace Go.Proofs.YtbdfjboojokgdaaDoor
open Go.RowKit Lx

/-- What is told of a scheme. -/
inductive GotS
  | ok (ps : List (ByteArray × Ty)) (t : Ty) (r : List Tok)
  | no (e p : Nat)
def withP (ps : List (ByteArray × Ty)) : Got → GotS
  | .ok t r => .ok ps t r
  | .no e p => .no e p
def schemeRaw (l : List Tok) : GotS :=
  match predsRaw l with
  | some (ps, q) => if 16 < ps.length then .no 2 ((l.head?.map Tok.place).getD 0) else withP ps (typeL q 0)
  | none => withP [] (typeL l 0)
def SchemeRes (toks : List Tok) (out : GotS) (w : World) (e : Ending) (w' : World) : Prop :=
  match out with
  | .ok ps t r => ∃ Av nv cv Ap cp f n s A l c, e = .returned (.tuple #[.agg #[.slice Av nv cv, .slice none 0 0, .slice Ap ps.length cp, .int .i64 f, .int .i64 n, .string s, .slice A l c], .int .i64 ((toks.length - r.length : Nat) : Int), .agg #[.int .i64 0, .int .i64 0]]) ∧ OwnS w.heap.size w' (.slice Av nv cv) (funs (ps.map (·.2)) t).free ∧ PRow w.heap.size w' ps (.slice Ap ps.length cp) ∧ TyAt (fun b => w.heap.size ≤ b) w' t (.agg #[.int .i64 f, .int .i64 n, .string s, .slice A l c]) ∧ Below w.heap.size w w'
  | .no ec p => e = .returned (.tuple #[.agg #[.slice none 0 0, .slice none 0 0, .slice none 0 0, .int .i64 0, .int .i64 0, .string ⟨#[]⟩, .slice none 0 0], .int .i64 0, .agg #[.int .i64 ec, .int .i64 p]]) ∧ Below w.heap.size w w'
def put9 (w : World) (b : Nat) (x0 x1 x2 x3 x4 x5 x6 y0 y1 : Value) : World :=
  ((((((((w.setCell ⟨b, 0, none⟩ x0).setCell ⟨b, 1, none⟩ x1).setCell ⟨b, 2, none⟩ x2).setCell ⟨b, 3, none⟩ x3).setCell ⟨b, 4, none⟩ x4).setCell ⟨b, 5, none⟩ x5).setCell ⟨b, 6, none⟩ x6).setCell ⟨b + 1, 0, none⟩ y0).setCell ⟨b + 1, 1, none⟩ y1
theorem put9_below {B : Nat} {w w' : World} {k : Nat} (h : Below B w w') (hk : B ≤ k) (x0 x1 x2 x3 x4 x5 x6 y0 y1 : Value) : Below B w (put9 w' k x0 x1 x2 x3 x4 x5 x6 y0 y1) := by
  unfold put9
  exact ((((((((h.setCell hk _).setCell hk _).setCell hk _).setCell hk _).setCell hk _).setCell hk _).setCell hk _).setCell (by show B ≤ k + 1; omega) _).setCell (by show B ≤ k + 1; omega) _
theorem put9_block (w : World) (b : Nat) (x0 x1 x2 x3 x4 x5 x6 y0 y1 : Value) (k : Nat) (hb : k ≠ b) (hc : k ≠ b + 1) : (put9 w b x0 x1 x2 x3 x4 x5 x6 y0 y1).heap[k]? = w.heap[k]? := by
  unfold put9
  rw [Below.heap_setCell _ _ _ _ hc, Below.heap_setCell _ _ _ _ hc, Below.heap_setCell _ _ _ _ hb, Below.heap_setCell _ _ _ _ hb, Below.heap_setCell _ _ _ _ hb, Below.heap_setCell _ _ _ _ hb, Below.heap_setCell _ _ _ _ hb, Below.heap_setCell _ _ _ _ hb, Below.heap_setCell _ _ _ _ hb]
theorem put9_size (w : World) (b : Nat) (x0 x1 x2 x3 x4 x5 x6 y0 y1 : Value) : (put9 w b x0 x1 x2 x3 x4 x5 x6 y0 y1).heap.size = w.heap.size := by simp [put9]
theorem seven_cells {w : World} {b : Nat} {v0 v1 v2 v3 v4 v5 v6 : Value} {t : TypeId} (h : w.heap[b]? = some (.cells #[v0, v1, v2, v3, v4, v5, v6] t)) : w.cell? ⟨b, 0, none⟩ = some v0 ∧ w.cell? ⟨b, 1, none⟩ = some v1 ∧ w.cell? ⟨b, 2, none⟩ = some v2 ∧ w.cell? ⟨b, 3, none⟩ = some v3 ∧ w.cell? ⟨b, 4, none⟩ = some v4 ∧ w.cell? ⟨b, 5, none⟩ = some v5 ∧ w.cell? ⟨b, 6, none⟩ = some v6 ∧ w.frozen? ⟨b, 0, none⟩ = false ∧ w.frozen? ⟨b, 1, none⟩ = false ∧ w.frozen? ⟨b, 2, none⟩ = false ∧ w.frozen? ⟨b, 3, none⟩ = false ∧ w.frozen? ⟨b, 4, none⟩ = false ∧ w.frozen? ⟨b, 5, none⟩ = false ∧ w.frozen? ⟨b, 6, none⟩ = false ∧ b < w.heap.size :=
  ⟨by simp [World.cell?, h], by simp [World.cell?, h], by simp [World.cell?, h], by simp [World.cell?, h], by simp [World.cell?, h], by simp [World.cell?, h], by simp [World.cell?, h], by simp [World.frozen?, h], by simp [World.frozen?, h], by simp [World.frozen?, h], by simp [World.frozen?, h], by simp [World.frozen?, h], by simp [World.frozen?, h], by simp [World.frozen?, h], lt_of_block h⟩
theorem scheme_boxes (w : World) : ∃ W, (w.alloc (.cells #[.slice none 0 0, .slice none 0 0, .slice none 0 0, .int .i64 0, .int .i64 0, .string ⟨#[]⟩, .slice none 0 0] 70)).alloc (.cells #[.int .i64 0, .int .i64 0] 50) = W ∧
    W.heap[w.heap.size]? = some (.cells #[.slice none 0 0, .slice none 0 0, .slice none 0 0, .int .i64 0, .int .i64 0, .string ⟨#[]⟩, .slice none 0 0] 70) ∧ W.heap[w.heap.size + 1]? = some (.cells #[.int .i64 0, .int .i64 0] 50) ∧ Below w.heap.size w W ∧ W.heap.size = w.heap.size + 2 := by
  refine ⟨_, rfl, ?_, ?_, below2 w _ _, by simp⟩
  · exact ((below_new _ _).block _ (by simp)).trans (MapKept.heap_alloc w (.cells #[.slice none 0 0, .slice none 0 0, .slice none 0 0, .int .i64 0, .int .i64 0, .string ⟨#[]⟩, .slice none 0 0] 70)).1
  · simpa using (MapKept.heap_alloc (w.alloc (.cells #[.slice none 0 0, .slice none 0 0, .slice none 0 0, .int .i64 0, .int .i64 0, .string ⟨#[]⟩, .slice none 0 0] 70)) (.cells #[.int .i64 0, .int .i64 0] 50)).1
theorem box2h (w : World) (y0 y1 : Value) (t : TypeId) : ∃ W, w.alloc (.cells #[y0, y1] t) = W ∧ W.heap[w.heap.size]? = some (.cells #[y0, y1] t) ∧ Below w.heap.size w W ∧ W.heap.size = w.heap.size + 1 :=
  ⟨_, rfl, (MapKept.heap_alloc w _).1, below_new w _, by simp⟩
theorem tok_below {w w' : World} {g : Nat} {toks : List Tok} (h : TokC w g toks) (hg : g < w.heap.size) (hb : Below w.heap.size w w') : TokC w' g toks := h.block (hb.block g hg)
theorem PsAt.wide {B C : Nat} {w : World} {ps : List (ByteArray × Ty)} {v : Value} (h : PsAt B w ps v) (hB : B ≤ C) : PsAt C w ps v := by
  obtain ⟨A, c, e, hr⟩ := h
  refine ⟨A, c, e, ?_⟩
  rcases hr with h9 | ⟨b, e2, hlt, hlB, hc⟩
  · exact .inl h9
  · refine .inr ⟨b, e2, hlt, by omega, fun i hi => ?_⟩
    obtain ⟨f, n, s, A', l, c', k0, k1, k2, k3, k4, hx⟩ := hc i hi
    exact ⟨f, n, s, A', l, c', k0, k1, k2, k3, k4, hx.mono (fun y (hy : y < B) => (by omega : y < C))⟩
theorem PsAt.nil (B : Nat) (w : World) : PsAt B w [] (.slice none 0 0) := ⟨none, 0, rfl, .inl rfl⟩
theorem sc_world (z : World) (yb : Nat) (a b e p x0 x1 x2 x3 : Value) (h8 : z.heap[yb]? = some (.cells #[a, b] 50)) : ∃ U, ((z.setCell ⟨yb, 0, none⟩ e).setCell ⟨yb, 1, none⟩ p).alloc (.cells #[x0, x1, x2, x3] 25) = U ∧ U.heap[yb]? = some (.cells #[e, p] 50) ∧ U.heap[z.heap.size]? = some (.cells #[x0, x1, x2, x3] 25) ∧ (∀ k, k < z.heap.size → k ≠ yb → U.heap[k]? = z.heap[k]?) ∧ (∀ B, B ≤ yb → Below B z U) ∧ U.heap.size = z.heap.size + 1 := by
  have hlt := lt_of_block h8
  have h1 := heap_setCell_same _ yb 1 _ _ p (heap_setCell_same z yb 0 _ _ e h8)
  have hs : ((z.setCell ⟨yb, 0, none⟩ e).setCell ⟨yb, 1, none⟩ p).heap.size = z.heap.size := by simp
  have hb := below_new ((z.setCell ⟨yb, 0, none⟩ e).setCell ⟨yb, 1, none⟩ p) (.cells #[x0, x1, x2, x3] 25)
  have hn := (MapKept.heap_alloc ((z.setCell ⟨yb, 0, none⟩ e).setCell ⟨yb, 1, none⟩ p) (.cells #[x0, x1, x2, x3] 25)).1
  rw [hs] at hb hn
  refine ⟨_, rfl, (hb.block yb hlt).trans h1, hn, fun k hk hne => ?_, fun B hB => ?_, by simp⟩
  · rw [hb.block k hk, Below.heap_setCell _ _ _ _ hne, Below.heap_setCell _ _ _ _ hne]
  · exact (((Below.refl B z).setCell (p := ⟨yb, 0, none⟩) hB e).setCell (p := ⟨yb, 1, none⟩) hB p).trans (hb.mono (by omega))
set_option maxRecDepth 100000 in
set_option maxHeartbeats 1000000 in
theorem schemeC_any (toks : List Tok) (g cap i : Nat) (w : World) (hT : TokC w g toks) (hgw : g < w.heap.size) (hi : i < toks.length) (hl : toks.length ≤ 1099511627776) (hz : ∀ t ∈ toks, SymZ t) (hE : EndsT toks)
    (hsz : ∀ ps t r, schemeRaw (toks.drop i) = .ok ps t r → (∀ p ∈ ps, p.2.short) ∧ t.short ∧ (funs (ps.map (·.2)) t).sz ≤ 274877906944) :
    Calls Tryd.prog 44 #[.slice (some ⟨g, 0, none⟩) toks.length cap, .int .i64 i] w (SchemeRes toks (schemeRaw (toks.drop i)) w) := by
  obtain ⟨W, eW, k0, k1, b1, z1⟩ := scheme_boxes w
  have HPC := Lib.hid (predsC_any toks g cap i W (tok_below hT hgw b1) (by omega) hi hl hz hE)
  have hTC : ∀ (j : Nat) (q : List Tok) (y : World), q = toks.drop j → EndsT q → Below W.heap.size W y → Calls Tryd.prog 37 #[.slice (some ⟨g, 0, none⟩) toks.length cap, .int .i64 j] y (PlaceRes toks (typeL q 0) y) := fun j q y hq hEq hb => by
    subst hq
    exact typeC_any toks g cap _ j y _ ((tok_below hT hgw (b1.trans (hb.mono b1.size)))) (by have := hb.size; omega) hl hz (typeL_is hEq 0)
  have HTC := Lib.hid hTC
  have hhead : (((toks.drop i).head?.map Tok.place).getD 0) = toks[i].place := by rw [List.drop_eq_getElem_cons hi]; rfl
  have HHD := Lib.hid hhead
  have HED := Lib.hid (hE.drop hi)
  have HEW := Lib.hid eW
  have HB := Lib.hid b1
  have HK0 := Lib.hid k0
  have HK1 := Lib.hid k1
  have hWs : w.heap.size + 2 ≤ W.heap.size := by omega
  have HZ1 := Lib.hid z1
  have HSZ := Lib.hid hsz
  have HET := Lib.hid hE
  have heq := eq_at
  have hgd := guard_at
  have HSR : Hid (schemeRaw (toks.drop i) = match predsRaw (toks.drop i) with
    | some (ps, q) => if 16 < ps.length then .no 2 (((toks.drop i).head?.map Tok.place).getD 0) else withP ps (typeL q 0)
    | none => withP [] (typeL (toks.drop i) 0)) := rfl
  clear eW b1 k0 k1 z1 hT hz hE hTC hhead hsz
  -- which type is asked for, behind which predicates
  go_enter Tryd.func44, Tryd.ntmps44
  go_upto_region 1 with (fail)
  rw [HEW.out]
  go_wp2_with fail
  (with_reducible refine HPC.out.mono ?_)
  intro e1 y hy
  have HCASE : Hid ((∃ p : Nat, schemeRaw (toks.drop i) = .no 2 p ∧ e1 = .returned (.tuple #[.slice none 0 0, .int .i64 0, .agg #[.int .i64 2, .int .i64 p]]) ∧ Below W.heap.size W y) ∨
      (∃ (ps : List (ByteArray × Ty)) (q : List Tok) (j : Nat) (A : Option Addr) (c : Nat), schemeRaw (toks.drop i) = withP ps (typeL q 0) ∧ q = toks.drop j ∧ EndsT q ∧ j ≤ toks.length ∧ ps.length ≤ 16 ∧ e1 = .returned (.tuple #[.slice A ps.length c, .int .i64 j, .agg #[.int .i64 0, .int .i64 0]]) ∧ PRow W.heap.size y ps (.slice A ps.length c) ∧ Below W.heap.size W y)) := by
    cases hp : predsRaw (toks.drop i) with
    | none =>
      rw [hp] at hy
      right
      exact ⟨[], toks.drop i, i, none, 0, by rw [HSR.out, hp], rfl, HED.out, by omega, by simp, hy.1, PRow.nil _ _, hy.2⟩
    | some pq =>
      obtain ⟨ps, q⟩ := pq
      rw [hp] at hy
      rcases hy with ⟨h16, he, hb⟩ | ⟨h16, A, c, he, hrow, hb, hsuf, hne⟩
      · left
        refine ⟨toks[i].place, ?_, he, hb⟩
        rw [HSR.out, hp]; simp only; rw [if_pos h16, HHD.out]
      · right
        have hlq := List.length_pos_iff.2 hne
        have hll := hsuf.length_le
        have hqd : q = toks.drop (toks.length - q.length) := List.suffix_iff_eq_drop.1 hsuf
        refine ⟨ps, q, toks.length - q.length, A, c, ?_, hqd, ?_, by omega, h16, he, hrow, hb⟩
        · rw [HSR.out, hp]; simp only; rw [if_neg (by omega)]
        · rw [hqd]; exact HET.out.drop (by omega)
  clear hy HSR HHD HED
  rcases HCASE.out with ⟨p, hsr, rfl, hb⟩ | ⟨ps, q, j, Ap, cp, hsr, hqj, hEq, hj, h16, rfl, hprow, hb⟩
  · obtain ⟨Y, eY, l0, b2, z2⟩ := box2h y (.int .i64 2) (.int .i64 p) 50
    have hbY := hb.trans (b2.mono hb.size)
    have hsy := hb.size
    obtain ⟨c0, c1, c2, c3, c4⟩ := pair_cells l0
    obtain ⟨u0, u1, u2, u3, u4, u5, u6, u7, u8, u9, u10, u11, u12, u13, u14⟩ := seven_cells ((hbY.block w.heap.size (by omega)).trans HK0.out)
    obtain ⟨v0, v1, v2, v3, v4⟩ := pair_cells ((hbY.block (w.heap.size + 1) (by omega)).trans HK1.out)
    have HE := Lib.hid (HB.out.trans (hbY.mono HB.out.size))
    have HEY := Lib.hid eY
    have HZ2 := Lib.hid z2
    have HSR2 := Lib.hid hsr
    clear hb eY l0 b2 z2 hbY HCASE hsr
    go_upto_region 2 with (fail)
    rw [HEY.out]
    go_wp2_with fail
    go_region
    all_goals
      go_wp2_with fail
      exact bodyPost_ret (v := .tuple #[.agg #[.slice none 0 0, .slice none 0 0, .slice none 0 0, .int .i64 0, .int .i64 0, .string ⟨#[]⟩, .slice none 0 0], .int .i64 0, .agg #[.int .i64 2, .int .i64 p]]) (by simp [results, Tryd.results44, go_sem, u0, u1, u2, u3, u4, u5, u6, v0, v1]) rfl (by show SchemeRes toks (schemeRaw (toks.drop i)) w _ _; rw [HSR2.out]; exact ⟨rfl, (put9_below HE.out (Nat.le_refl _) (.slice none 0 0) (.slice none 0 0) (.slice none 0 0) (.int .i64 0) (.int .i64 0) (.string ⟨#[]⟩) (.slice none 0 0) (.int .i64 2) (.int .i64 p)).drew⟩)
  · obtain ⟨Y, eY, l0, b2, z2⟩ := box2h y (.int .i64 0) (.int .i64 0) 50
    have hbY := hb.trans (b2.mono hb.size)
    have hsy := hb.size
    obtain ⟨c0, c1, c2, c3, c4⟩ := pair_cells l0
    have HL0 := Lib.hid l0
    have HM0 := Lib.hid ((hbY.block w.heap.size (by omega)).trans HK0.out)
    have HM1 := Lib.hid ((hbY.block (w.heap.size + 1) (by omega)).trans HK1.out)
    have HBY := Lib.hid (HB.out.trans (hbY.mono HB.out.size))
    have HPROW := Lib.hid hprow
    have HYK := Lib.hid b2
    have HPS := Lib.hid (hprow.ps.on (Nat.le_refl _) b2)
    have HCALL := Lib.hid (HTC.out j q Y hqj hEq hbY)
    have HEY := Lib.hid eY
    have hyY : y.heap.size < Y.heap.size := by omega
    have HZ2 := Lib.hid z2
    have HSR2 := Lib.hid hsr
    have HEQ := Lib.hid hEq
    have herr := fun e p (h : typeL q 0 = .no e p) => (err_all (3 * q.length + 2)).2.2 q 0 e p (by rw [typeL_is hEq 0, h])
    have HERR := Lib.hid herr
    have hji : (j : Int) ≤ 1099511627776 := by omega
    clear hb eY l0 b2 z2 hbY HCASE hsr hprow hqj hEq herr
    go_upto_region 2 with (fail)
    rw [HEY.out]
    go_wp2_with fail
    (with_reducible refine HCALL.out.mono ?_)
    intro e2 z hx
    cases hty : typeL q 0 with
    | no e p =>
      rw [hty] at hx
      obtain ⟨rfl, hbz⟩ := hx
      have he := HERR.out e p hty
      have he0 : ((e : Int) == 0) = false := by rw [beq_eq_false_iff_ne]; omega
      have heI : (0 : Int) < (e : Int) := by omega
      have hz8 := (hbz.block y.heap.size hyY).trans HL0.out
      obtain ⟨i0, i1, i2, i3, i4⟩ := pair_cells hz8
      obtain ⟨U, eU, hU8, hU9, hUk, hUb, hUs⟩ := sc_world z y.heap.size _ _ (.int .i64 e) (.int .i64 p) (.int .i64 0) (.int .i64 0) (.string ⟨#[]⟩) (.slice none 0 0) hz8
      have hzs := hbz.size
      obtain ⟨j0, j1, j2, j3, j4⟩ := pair_cells hU8
      obtain ⟨u0, u1, u2, u3, u4, u5, u6, u7, u8, u9, u10, u11, u12, u13, u14⟩ := seven_cells ((hUk w.heap.size (by omega) (by omega)).trans ((hbz.block w.heap.size (by omega)).trans HM0.out))
      obtain ⟨v0, v1, v2, v3, v4⟩ := pair_cells ((hUk (w.heap.size + 1) (by omega) (by omega)).trans ((hbz.block (w.heap.size + 1) (by omega)).trans HM1.out))
      have HE := Lib.hid ((HBY.out.trans (hbz.mono HBY.out.size)).trans (hUb w.heap.size (by omega)))
      have HSR3 : Hid (schemeRaw (toks.drop i) = .no e p) := by show _ = _; rw [HSR2.out, hty]; rfl
      have HEU := Lib.hid eU
      have HUS := Lib.hid hUs
      have hne8 : w.heap.size + 1 < y.heap.size := by omega
      clear hbz hz8 eU hU8 hU9 hUk hUb hUs hty he
      go_upto_region 5 with (fail)
      rw [HEU.out]
      go_wp2_with fail
      go_region
      all_goals
        go_wp2_with fail
        exact bodyPost_ret (v := .tuple #[.agg #[.slice none 0 0, .slice none 0 0, .slice none 0 0, .int .i64 0, .int .i64 0, .string ⟨#[]⟩, .slice none 0 0], .int .i64 0, .agg #[.int .i64 e, .int .i64 p]]) (by simp [results, Tryd.results44, go_sem, u0, u1, u2, u3, u4, u5, u6, v0, v1]) rfl (by show SchemeRes toks (schemeRaw (toks.drop i)) w _ _; rw [HSR3.out]; exact ⟨rfl, (put9_below HE.out (Nat.le_refl _) (.slice none 0 0) (.slice none 0 0) (.slice none 0 0) (.int .i64 0) (.int .i64 0) (.string ⟨#[]⟩) (.slice none 0 0) (.int .i64 e) (.int .i64 p)).drew⟩)
    | ok t r =>
      rw [hty] at hx
      obtain ⟨tv, rfl, htt, hbz⟩ := hx
      obtain ⟨f, n, s, A, l, c, rfl⟩ := htt.flat
      have hz8 := (hbz.block y.heap.size hyY).trans HL0.out
      obtain ⟨i0, i1, i2, i3, i4⟩ := pair_cells hz8
      obtain ⟨U, eU, hU8, hU9, hUk, hUb, hUs⟩ := sc_world z y.heap.size _ _ (.int .i64 0) (.int .i64 0) (.int .i64 f) (.int .i64 n) (.string s) (.slice A l c) hz8
      have hzs := hbz.size
      have HSR3 : Hid (schemeRaw (toks.drop i) = .ok ps t r) := by show _ = _; rw [HSR2.out, hty]; rfl
      obtain ⟨hs1, hs2, hs3⟩ := HSZ.out ps t r HSR3.out
      obtain ⟨j0, j1, j2, j3, j4⟩ := pair_cells hU8
      obtain ⟨d0, d1, d2, d3, d4, d5, d6, d7, d8⟩ := four_cells hU9
      have HM0U := Lib.hid ((hUk w.heap.size (by omega) (by omega)).trans ((hbz.block w.heap.size (by omega)).trans HM0.out))
      have HM1U := Lib.hid ((hUk (w.heap.size + 1) (by omega) (by omega)).trans ((hbz.block (w.heap.size + 1) (by omega)).trans HM1.out))
      have HEw := Lib.hid ((HBY.out.trans (hbz.mono HBY.out.size)).trans (hUb w.heap.size (by omega)))
      have HPSU : Hid (PsAt y.heap.size U ps (.slice Ap ps.length cp)) := (HPS.out.on (Nat.le_of_lt hyY) hbz).on (Nat.le_refl _) (hUb y.heap.size (Nat.le_refl _))
      have HTU : Hid (TyAt (fun b => Y.heap.size ≤ b) U t (.agg #[.int .i64 f, .int .i64 n, .string s, .slice A l c])) := htt.bound.keep (w' := U) ⟨by omega, fun b off (hp : Y.heap.size ≤ b ∧ b < z.heap.size) _ => World.cell?_of_block (a := ⟨b, off, none⟩) (hUk b hp.2 (by omega))⟩ |>.mono (fun b hb => hb.1)
      have HV := Lib.hid (fun x (hb : Below U.heap.size U x) => variables_any (fun b => Y.heap.size ≤ b) ps t _ _ x (PsAt.wide (HPSU.out.on (by omega) hb) (by have := hb.size; omega)) (HTU.out.on hb) h16 hs1 hs2 hs3)
      have HVD := Lib.hid (HV.out U.drew (Below.refl _ U).drew)
      have HKV : Hid (∀ (v : World) (Av : Option Addr) (nv cv : Nat), OwnS U.drew.heap.size v (.slice Av nv cv) (funs (ps.map (·.2)) t).free → Below U.drew.heap.size U.drew v →
          v.heap[w.heap.size]? = some (.cells #[.slice none 0 0, .slice none 0 0, .slice none 0 0, .int .i64 0, .int .i64 0, .string ⟨#[]⟩, .slice none 0 0] 70) ∧ v.heap[w.heap.size + 1]? = some (.cells #[.int .i64 0, .int .i64 0] 50) ∧ v.heap[z.heap.size]? = some (.cells #[.int .i64 f, .int .i64 n, .string s, .slice A l c] 25) ∧
          SchemeRes toks (.ok ps t r) w (.returned (.tuple #[.agg #[.slice Av nv cv, .slice none 0 0, .slice Ap ps.length cp, .int .i64 f, .int .i64 n, .string s, .slice A l c], .int .i64 ((toks.length - r.length : Nat) : Int), .agg #[.int .i64 0, .int .i64 0]])) (put9 v w.heap.size (.slice Av nv cv) (.slice none 0 0) (.slice Ap ps.length cp) (.int .i64 f) (.int .i64 n) (.string s) (.slice A l c) (.int .i64 0) (.int .i64 0))) := fun v Av nv cv hou hbv => by
        have hbU : Below U.heap.size U v := (Below.refl U.heap.size U).drew.trans hbv
        have hvs := hbU.size
        have h9 := put9_block v w.heap.size (.slice Av nv cv) (.slice none 0 0) (.slice Ap ps.length cp) (.int .i64 f) (.int .i64 n) (.string s) (.slice A l c) (.int .i64 0) (.int .i64 0)
        have h8 := put9_size v w.heap.size (.slice Av nv cv) (.slice none 0 0) (.slice Ap ps.length cp) (.int .i64 f) (.int .i64 n) (.string s) (.slice A l c) (.int .i64 0) (.int .i64 0)
        have h7 := put9_below (HEw.out.trans (hbU.mono HEw.out.size)) (Nat.le_refl _) (.slice Av nv cv) (.slice none 0 0) (.slice Ap ps.length cp) (.int .i64 f) (.int .i64 n) (.string s) (.slice A l c) (.int .i64 0) (.int .i64 0)
        refine ⟨(hbU.block _ (by omega)).trans HM0U.out, (hbU.block _ (by omega)).trans HM1U.out, (hbU.block _ (by omega)).trans hU9, ?_⟩
        generalize put9 v w.heap.size (.slice Av nv cv) (.slice none 0 0) (.slice Ap ps.length cp) (.int .i64 f) (.int .i64 n) (.string s) (.slice A l c) (.int .i64 0) (.int .i64 0) = Z at *
        have hou2 := hou
        refine ⟨Av, nv, cv, Ap, cp, f, n, s, A, l, c, rfl, ?_, ?_, ?_, h7⟩
        · have hz9 : OwnS U.drew.heap.size Z (.slice Av nv cv) (funs (ps.map (·.2)) t).free := own_keep hou (fun k hk => by
            have hk1 : U.heap.size ≤ k := (World.ownsRow.lt hou k hk).1
            exact h9 k (by omega) (by omega))
          exact own_lower hz9 (show w.heap.size ≤ U.heap.size from HEw.out.size)
        · refine (HPROW.out.keepH (w' := Z) (by omega) (fun k h1 h2 => ?_)).lower (by omega)
          rw [h9 k (by omega) (by omega), hbU.block k (by omega), hUk k (by omega) (by omega), hbz.block k (by omega), HYK.out.block k h2]
        · exact ((HTU.out.on hbU).keep (w' := Z) ⟨by omega, fun b off (hp : Y.heap.size ≤ b) _ => World.cell?_of_block (a := ⟨b, off, none⟩) (h9 b (by omega) (by omega))⟩).mono (fun b hb => by have : Y.heap.size ≤ b := hb; omega)
      have HEU := Lib.hid eU
      have HUS := Lib.hid hUs
      have hne8 : w.heap.size + 1 < y.heap.size := by omega
      have hne9 : w.heap.size + 1 < z.heap.size := by omega
      generalize hpq : ((toks.length - r.length : Nat) : Int) = pq at *
      clear hbz hz8 eU hU8 hU9 hUk hUb hUs hty htt hs1 hs2 hs3 HV
      go_upto_region 5 with (fail)
      rw [HEU.out]
      go_upto_region 7 with (fail)
      go_region_law (go_simp; go_at_call 94; (with_reducible refine HVD.out.mono ?_); rintro e3 v ⟨⟨u, rfl, hou⟩, hbv⟩; obtain ⟨Av, cv, rfl⟩ := own_form hou; have hk := HKV.out v Av _ cv hou hbv; obtain ⟨u0, u1, u2, u3, u4, u5, u6, u7, u8, u9, u10, u11, u12, u13, u14⟩ := seven_cells hk.1; obtain ⟨v0, v1, v2, v3, v4⟩ := pair_cells hk.2.1; obtain ⟨g0, g1, g2, g3, g4, g5, g6, g7, g8⟩ := four_cells hk.2.2.1; have HF := Lib.hid hk.2.2.2; clear hk hou hbv)
      all_goals
        go_wp2_with fail
        refine bodyPost_ret (v := .tuple #[.agg #[.slice Av (funs (ps.map (·.2)) t).free.length cv, .slice none 0 0, .slice Ap ps.length cp, .int .i64 f, .int .i64 n, .string s, .slice A l c], .int .i64 pq, .agg #[.int .i64 0, .int .i64 0]]) (by simp [results, Tryd.results44, go_sem, u0, u1, u2, u3, u4, u5, u6, v0, v1]) rfl ?_
        show SchemeRes toks (schemeRaw (toks.drop i)) w _ _
        rw [HSR3.out]
        exact HF.out
end Go.Proofs.YtbdfjboojokgdaaDoor
namespace Go.Proofs.YtbdfjboojokgdaaDoor.Lx
open Go.RowKit

set_option maxHeartbeats 400000 in
theorem digit_any (c : Int) (w : World) :
    Calls Tryd.prog 119 #[.int .u8 c] w fun e w' => e = .returned (.bool (rangeB 48 57 c)) ∧ w = w' := by
  go_enter Tryd.func119, Tryd.ntmps119
  go_wp2
  all_goals go_ret
  all_goals exact ⟨ret_bool (by simp [rangeB]; omega), rfl⟩

theorem name_two (c : UInt8) : nameB 97 122 ⟨#[97, c]⟩ = signB (c.toNat : Int) := by
  cases h : signB (c.toNat : Int) with
  | true =>
    refine nameB_true ⟨Nat.lt_of_lt_of_eq (by decide) (show 2 = _ from rfl), (show (2 : Nat) ≤ 32 by decide), fun i hi => ?_⟩
    have : i = 0 ∨ i = 1 := by have : i < 2 := hi; omega
    rcases this with rfl | rfl
    · rfl
    · exact h
  | false =>
    refine nameB_false (fun hn => ?_)
    have := hn.2.2 1 (Nat.lt_of_lt_of_eq (by decide) (show 2 = _ from rfl))
    have h9 : testB 97 122 1 (c.toNat : Int) = true := this
    unfold testB at h9
    simp [h] at h9

set_option maxHeartbeats 400000 in
theorem sign_any (x : ByteArray) (c : UInt8) (w : World) (hx : x.data.toList = [c]) :
    Calls Tryd.prog 147 #[.string x] w fun e w' => e = .returned (.bool (signB (c.toNat : Int))) ∧ Below w.heap.size w w' := by
  have hb : (⟨#[97]⟩ : ByteArray) ++ x = ⟨#[97, c]⟩ := bytes_ext (by simp [hx])
  have h1 : x.size = 1 := by rw [Lib.size_eq, hx]; rfl
  have HB := Lib.hid hb
  have h1' : x.size ≤ 1 := by omega
  clear hb hx h1
  go_enter Tryd.func147, Tryd.ntmps147
  go_wp2_with fail
  rw [HB.out]
  refine (lower_any (⟨#[97, c]⟩ : ByteArray) _ (show (2 : Nat) ≤ maxLen by decide)).mono ?_
  rintro e w1 ⟨rfl, hb⟩
  rw [name_two]
  go_wp2
  go_ret
  exact ⟨rfl, hb⟩

set_option maxHeartbeats 400000 in
theorem keys_any (w : World) :
    Calls Tryd.prog 149 #[] w fun e w' => e = .returned (.slice (some ⟨w.heap.size, 0, none⟩) 7 7) ∧ Texts w.heap.size keysL w' ∧ Below w.heap.size w w' := by
  go_enter Tryd.func149, Tryd.ntmps149
  go_wp2
  go_ret
  exact ⟨rfl, texts_new w keysL 9, (Below.refl _ _).alloc (Nat.le_refl _) _⟩

set_option maxHeartbeats 400000 in
theorem clone_any (s : ByteArray) (w : World) (h : s.size ≤ 281474976710656) :
    Calls Tryd.prog 150 #[.string s] w fun e w' => e = .returned (.string s) ∧ Below w.heap.size w w' := by
  go_enter Tryd.func150, Tryd.ntmps150
  go_wp2_with (go_at_call 163; refine (Tryd.stringslite_Clone _ _ h).mono ?_; rintro e w' ⟨rfl, hb⟩)
  go_ret
  exact ⟨rfl, hb⟩

theorem run_index_sym (A : Array Value) (k : Nat) (x : ByteArray) (W : World) (hk : k < 13) (hA : A[k]? = some (.string x)) :
    (Instr.index 189 (.agg A) (.int .i64 k)).run Tryd.prog W = .ok (.string x) W := by
  have h : Tryd.prog.underlying 189 = some (.array 13 9) := Tryd.underlying189
  have hn : (0 : Int) ≤ k ∧ (k : Int) < 13 := by omega
  have z9 := Tryd.sizeOf9
  have a9 := Tryd.isAgg9
  simp [Instr.index, run_underlying h, asIntOf, hn, go_sem, hk, z9, a9, hA]
def symA : Array Value := (symsL.map (fun l => Value.string ⟨l.toArray⟩)).toArray
/-- What symbol answered. -/
def symV (l : List UInt8) : Value := if symL l = [] then .tuple #[.agg #[.int .i64 0, .string ⟨#[]⟩, .int .i64 0, .int .i64 0], .int .i64 10] else .tuple #[aggT 4 (symL l) 0 0, .int .i64 0]

set_option maxRecDepth 100000 in
set_option maxHeartbeats 1000000 in
theorem symbol_any (s : ByteArray) (w : World) (hS : Texts 0 symsL w) (h0 : 0 < w.heap.size) :
    Calls Tryd.prog 121 #[.string s] w fun e w' => e = .returned (symV s.data.toList) ∧ Below w.heap.size w w' := by
  have c0 := hS 0 (by decide)
  have c1 := hS 1 (by decide)
  have c2 := hS 2 (by decide)
  have c3 := hS 3 (by decide)
  have c4 := hS 4 (by decide)
  have c5 := hS 5 (by decide)
  have c6 := hS 6 (by decide)
  have c7 := hS 7 (by decide)
  have c8 := hS 8 (by decide)
  have c9 := hS 9 (by decide)
  have c10 := hS 10 (by decide)
  have c11 := hS 11 (by decide)
  have c12 := hS 12 (by decide)
  have HS := Lib.hid hS
  clear hS
  go_enter Tryd.func121, Tryd.ntmps121
  go_wp2_with fail
  clear c0 c1 c2 c3 c4 c5 c6 c7 c8 c9 c10 c11 c12
  have hA : ∀ k (h : k < symsL.length), symA[k]? = some (.string ⟨symsL[k].toArray⟩) := fun k h => by simp [symA, h]
  have HA := Lib.hid hA
  have hAz : symA.size = 13 := rfl
  clear hA
  rw [show (#[Value.string ⟨symsL[0].toArray⟩, Value.string ⟨symsL[1].toArray⟩, Value.string ⟨symsL[2].toArray⟩, Value.string ⟨symsL[3].toArray⟩, Value.string ⟨symsL[4].toArray⟩, Value.string ⟨symsL[5].toArray⟩, Value.string ⟨symsL[6].toArray⟩, Value.string ⟨symsL[7].toArray⟩, Value.string ⟨symsL[8].toArray⟩, Value.string ⟨symsL[9].toArray⟩, Value.string ⟨symsL[10].toArray⟩, Value.string ⟨symsL[11].toArray⟩, Value.string ⟨symsL[12].toArray⟩] : Array Value) = symA from rfl]
  generalize symA = A at *
  go_loop [5, 7] (fun _ i => ∃ k : Nat, k ≤ 13 ∧ i = .int .i64 k ∧ Hid (symsL.find? (fun p => p.isPrefixOf s.data.toList) = (symsL.drop k).find? (fun p => p.isPrefixOf s.data.toList))) (fun _ i => 13 - (intOf i).toNat)
  case atStart => exact ⟨0, by omega, rfl, rfl⟩
  case round =>
    obtain ⟨k, hk, rfl, hfi⟩ := hrel
    by_cases hlt : k < 13
    · have hks : k < symsL.length := hlt
      have hc := HA.out k hks
      have HF := Lib.hid (find_from hks hfi.out)
      have hpos : symsL[k] ≠ [] := by
        have : ∀ x ∈ symsL, x ≠ [] := by decide
        exact this _ (List.getElem_mem hks)
      have HPOS := Lib.hid hpos
      clear hpos
      generalize symsL[k] = x at *
      have hki : (k : Int) < 13 := by omega
      have hk0 : (0 : Int) ≤ (k : Int) := by omega
      have hrun := fun W => run_index_sym A k _ W hlt hc
      clear hfi hks hc
      go_wp2_with fail
      refine (Tryd.strings_HasPrefix _ _ _).mono ?_
      rintro e w' ⟨rfl, rfl⟩
      rw [show Lib.hasPrefix s.data.toList (⟨x.toArray⟩ : ByteArray).data.toList = x.isPrefixOf s.data.toList by unfold Lib.hasPrefix; simp]
      by_cases hp : x.isPrefixOf s.data.toList = true
      · have HE : Hid (symL s.data.toList = x) := HF.out.1 hp
        rw [hp]
        clear hp
        go_wp2
        exact bodyPost_ret (v := .tuple #[.agg #[.int .i64 4, .string ⟨x.toArray⟩, .int .i64 0, .int .i64 0], .int .i64 0]) (by simp [results, Tryd.results121, go_sem]) rfl ⟨by unfold symV; rw [HE.out, if_neg HPOS.out]; rfl, (Below.refl _ _).alloc (Nat.le_refl _) _⟩
      · have hp' : x.isPrefixOf s.data.toList = false := Bool.eq_false_iff.2 hp
        have HR : Hid (symsL.find? (fun p => p.isPrefixOf s.data.toList) = (symsL.drop (k + 1)).find? (fun p => p.isPrefixOf s.data.toList)) := HF.out.2 hp'
        rw [hp']
        clear hp hp'
        go_wp2
        go_round
        case rel => exact ⟨k + 1, by omega, by go_num, HR⟩
        case measure => simp [intOf]; omega
    · obtain rfl : k = 13 := by omega
      have HE : Hid (symL s.data.toList = []) := by show symL _ = []; unfold symL; rw [hfi.out]; rfl
      go_wp2
      exact bodyPost_ret (v := .tuple #[.agg #[.int .i64 0, .string ⟨#[]⟩, .int .i64 0, .int .i64 0], .int .i64 10]) (by simp [results, Tryd.results121, go_sem]) rfl ⟨by unfold symV; rw [if_pos HE.out], (Below.refl _ _).alloc (Nat.le_refl _) _⟩
end Go.Proofs.YtbdfjboojokgdaaDoor.Lx
namespace Go.Proofs.YtbdfjboojokgdaaDoor.Lx
open Go.RowKit

/-- What number answered. -/
def numR (l : List UInt8) : Value := oneV (if 2147483647 < numV (l.takeWhile digB) then .error 11 else .ok (3, l.takeWhile digB, numV (l.takeWhile digB)))
theorem numV_tw_ge (l : List UInt8) (k : Nat) (h : k ≤ (l.takeWhile digB).length) : numV (l.take k) ≤ numV (l.takeWhile digB) := by
  have e : l.takeWhile digB = l.take k ++ (l.takeWhile digB).drop k := by
    conv => lhs; rw [← List.take_append_drop k (l.takeWhile digB)]
    rw [show (l.takeWhile digB).take k = l.take k by
      rw [← tw_take digB l, List.take_take, Nat.min_eq_left h]]
  rw [e]; exact numV_mono _ _

set_option maxRecDepth 100000 in
set_option maxHeartbeats 1000000 in
theorem number_any (s : ByteArray) (w : World) (hm : s.size ≤ 1099511627776) :
    Calls Tryd.prog 120 #[.string s] w fun e w' => e = .returned (numR s.data.toList) ∧ Below w.heap.size w w' := by
  have HTL : Hid ((s.data.toList.takeWhile digB).length ≤ s.size) := by show _ ≤ _; rw [Lib.size_eq]; exact tw_le _ _
  go_enter Tryd.func120, Tryd.ntmps120
  go_wp2_with fail
  go_loop [4, 5] (fun v i => ∃ k : Nat, k ≤ s.size ∧ i = .int .i64 k ∧ v = .int .i64 (numV (s.data.toList.take k)) ∧ numV (s.data.toList.take k) ≤ 2147483647 ∧ Hid (k ≤ (s.data.toList.takeWhile digB).length)) (fun _ i => s.size - (intOf i).toNat)
  case atStart => exact ⟨0, by omega, rfl, rfl, by simp [numV], Nat.zero_le _⟩
  case round =>
    obtain ⟨k, hk, rfl, rfl, hV, hr⟩ := hrel
    by_cases hgo : ∃ h : k < s.size, digB s[k] = true
    · obtain ⟨hlt, hd⟩ := hgo
      have hkl : k < s.data.toList.length := by rw [← Lib.size_eq]; exact hlt
      have HR : Hid (k + 1 ≤ (s.data.toList.takeWhile digB).length) := tw_step digB s.data.toList k hr.out hkl (by rw [get_data s k hlt]; exact hd)
      have hnx := numV_snoc (s.data.toList.take k) s[k]
      rw [← take_get s k hlt] at hnx
      have hdv := dig_val hd
      have hd1 : 48 ≤ s[k].toNat := hdv.1
      have hd2 : s[k].toNat ≤ 57 := hdv.2
      have hd' : rangeB 48 57 (s[k].toNat : Int) = true := hd
      have HNX : Hid (((numV (s.data.toList.take (k + 1)) : Nat) : Int) = 10 * ((numV (s.data.toList.take k) : Nat) : Int) + ((s[k].toNat : Int) - 48)) := by show _ = _; omega
      have hge := numV_tw_ge s.data.toList (k + 1) HR.out
      have hdec : decide (k < s.size) = true := by simpa using hlt
      by_cases hbig : 2147483647 < numV (s.data.toList.take (k + 1))
      · have HE : Hid (numR s.data.toList = oneV (.error 11)) := by show _ = _; unfold numR; rw [if_pos (by omega)]
        have hb' : (2147483647 : Int) < 10 * ((numV (s.data.toList.take k) : Nat) : Int) + ((s[k].toNat : Int) - 48) := by have := HNX.out; omega
        clear hnx hge hbig hdv hd
        generalize numV (s.data.toList.take k) = V at *
        have hmod : ((s[k].toNat : Int) - 48) % 256 = (s[k].toNat : Int) - 48 := by omega
        go_wp2_with (go_at_call 119; refine (digit_any _ _).mono ?_; rintro e w' ⟨rfl, rfl⟩)
        exact bodyPost_ret (v := .tuple #[.agg #[.int .i64 0, .string ⟨#[]⟩, .int .i64 0, .int .i64 0], .int .i64 11]) (by simp [results, Tryd.results120, go_sem]) rfl ⟨by rw [HE.out]; rfl, (Below.refl _ _).alloc (Nat.le_refl _) _⟩
      · have hb' : ¬ (2147483647 : Int) < 10 * ((numV (s.data.toList.take k) : Nat) : Int) + ((s[k].toNat : Int) - 48) := by have := HNX.out; omega
        have HNB : Hid (numV (s.data.toList.take (k + 1)) ≤ 2147483647) := by show _ ≤ _; omega
        clear hnx hge hbig hdv hd
        generalize numV (s.data.toList.take k) = V at *
        have hmod : ((s[k].toNat : Int) - 48) % 256 = (s[k].toNat : Int) - 48 := by omega
        go_wp2_with (go_at_call 119; refine (digit_any _ _).mono ?_; rintro e w' ⟨rfl, rfl⟩)
        go_round
        case rel => exact ⟨k + 1, by omega, by go_num, by rw [HNX.out], HNB.out, HR⟩
        case measure => simp [intOf]; omega
    · have htw : (s.data.toList.takeWhile digB).length = k := by
        by_cases hlt : k < s.size
        · have hkl : k < s.data.toList.length := by rw [← Lib.size_eq]; exact hlt
          refine tw_stop digB s.data.toList k hr.out hkl ?_
          rw [get_data s k hlt]
          cases e9 : digB s[k] with
          | false => rfl
          | true => exact absurd ⟨hlt, e9⟩ hgo
        · have := HTL.out; have := hr.out; omega
      have HTK : Hid (s.data.toList.takeWhile digB = s.data.toList.take k) := by show _ = _; rw [← htw]; exact (tw_take _ _).symm
      have HE : Hid (numR s.data.toList = oneV (.ok (3, s.data.toList.take k, numV (s.data.toList.take k)))) := by show _ = _; unfold numR; rw [HTK.out, if_neg (by omega)]
      have hxt := extract_take s k
      have hxz : (s.extract 0 k).size ≤ 281474976710656 := by rw [ByteArray.size_extract]; omega
      have HX := Lib.hid hxt
      clear htw hxt
      generalize hVV : numV (s.data.toList.take k) = V at *
      have HVV := Lib.hid hVV
      clear hVV
      have hcase : (∃ h : k < s.size, rangeB 48 57 (s[k].toNat : Int) = false) ∨ decide (k < s.size) = false := by
        by_cases hlt : k < s.size
        · left; refine ⟨hlt, ?_⟩
          cases e9 : digB s[k] with
          | false => exact e9
          | true => exact absurd ⟨hlt, e9⟩ hgo
        · right; simpa using hlt
      clear hgo
      rcases hcase with ⟨hlt, hnd⟩ | hdec
      all_goals
        go_wp2_with (first | (go_at_call 119; refine (digit_any _ _).mono ?_; rintro e w' ⟨rfl, rfl⟩))
        refine (clone_any _ _ hxz).mono ?_
        rintro e w1 ⟨rfl, hb⟩
        rw [HX.out]
        obtain ⟨hc, hf⟩ := bcell hb
        have hz : w.heap.size < w1.heap.size := by have := hb.size; simp at this; omega
        have HW : Hid (Below w.heap.size w w1) := ((Below.refl _ _).alloc (Nat.le_refl _) _).trans (hb.mono (by simp))
        clear hb
        go_wp2
        exact bodyPost_ret (v := .tuple #[.agg #[.int .i64 3, .string ⟨(s.data.toList.take k).toArray⟩, .int .i64 V, .int .i64 0], .int .i64 0]) (by simp [results, Tryd.results120, go_sem, hc]) rfl ⟨by rw [HE.out]; rfl, ((((HW.out.setCell (Nat.le_refl _) _).setCell (Nat.le_refl _) _).setCell (Nat.le_refl _) _).setCell (Nat.le_refl _) _)⟩
end Go.Proofs.YtbdfjboojokgdaaDoor.Lx
