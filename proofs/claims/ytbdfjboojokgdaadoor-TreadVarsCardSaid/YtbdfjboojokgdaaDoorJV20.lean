/- The contracts of tread's told, Type and Atom (chapter 5). Conditions: at most 2^40 tokens, the last one an end; symbols bear no number. The contract of tread's pred (chapter 5). Conditions: at most 2^40 tokens; symbols bear no number. -/
import Derived.Test.YtbdfjboojokgdaaDoorJV19
namespace Go.Proofs.YtbdfjboojokgdaaDoor
open Go.RowKit Lx

theorem told_boxes (w : World) (x0 x1 x2 x3 y0 y1 : Value) : ∃ W, (((w.alloc (.cells #[x0, x1, x2, x3] 25)).alloc (.cells #[y0, y1] 50)).alloc (.cells #[.int .i64 0, .int .i64 0, .string ⟨#[]⟩, .slice none 0 0] 25)).alloc (.cells #[.int .i64 0, .int .i64 0] 50) = W ∧
    W.heap[w.heap.size]? = some (.cells #[x0, x1, x2, x3] 25) ∧ W.heap[w.heap.size + 1]? = some (.cells #[y0, y1] 50) ∧ W.heap[w.heap.size + 2]? = some (.cells #[.int .i64 0, .int .i64 0, .string ⟨#[]⟩, .slice none 0 0] 25) ∧ W.heap[w.heap.size + 3]? = some (.cells #[.int .i64 0, .int .i64 0] 50) ∧ Below w.heap.size w W ∧ W.heap.size = w.heap.size + 4 := by
  obtain ⟨V, eV, a0, a1, ab, az⟩ := new2 w x0 x1 x2 x3 y0 y1
  obtain ⟨U, eU, c0, c1, cb, cz⟩ := new2 V (.int .i64 0) (.int .i64 0) (.string ⟨#[]⟩) (.slice none 0 0) (.int .i64 0) (.int .i64 0)
  rw [az] at c0 c1
  refine ⟨U, by rw [← eU, ← eV], (cb.block _ (by omega)).trans a0, (cb.block _ (by omega)).trans a1, c0, c1, ab.trans (cb.mono ab.size), by omega⟩
/-- What told tells: the type and the place behind it, or the refusal alone. -/
def ToldV (x0 x1 x2 x3 : Value) (i e p : Int) : Value := if e = 0 ∧ p = 0 then .tuple #[.agg #[x0, x1, x2, x3], .int .i64 i, .agg #[.int .i64 0, .int .i64 0]] else .tuple #[.agg #[.int .i64 0, .int .i64 0, .string ⟨#[]⟩, .slice none 0 0], .int .i64 0, .agg #[.int .i64 e, .int .i64 p]]
set_option maxRecDepth 100000 in
set_option maxHeartbeats 1000000 in
theorem told_ok (f n : Int) (s : ByteArray) (A : Option Addr) (l c : Nat) (i : Int) (w : World) : Calls Tryd.prog 85 #[.agg #[.int .i64 f, .int .i64 n, .string s, .slice A l c], .int .i64 i, .agg #[.int .i64 0, .int .i64 0]] w fun e w' => e = .returned (.tuple #[.agg #[.int .i64 f, .int .i64 n, .string s, .slice A l c], .int .i64 i, .agg #[.int .i64 0, .int .i64 0]]) ∧ Below w.heap.size w w' := by
  obtain ⟨W, eW, k0, k1, k2, k3, b1, z1⟩ := told_boxes w (.int .i64 f) (.int .i64 n) (.string s) (.slice A l c) (.int .i64 0) (.int .i64 0)
  have heq := eq_at
  have hgd := guard_at
  have HEW := Lib.hid eW
  have HB := Lib.hid b1
  obtain ⟨a0, a1, a2, a3, a4, a5, a6, a7, a8⟩ := four_cells k0
  obtain ⟨c0, c1, c2, c3, c4⟩ := pair_cells k1
  obtain ⟨u0, u1, u2, u3, u4, u5, u6, u7, u8⟩ := four_cells k2
  obtain ⟨v0, v1, v2, v3, v4⟩ := pair_cells k3
  have HZ1 := Lib.hid z1
  clear eW b1 k0 k1 k2 k3 z1
  go_enter Tryd.func85, Tryd.ntmps85
  go_upto_region 1 with (fail)
  rw [HEW.out]
  go_wp2_with fail
  exact bodyPost_ret (v := .tuple #[.agg #[.int .i64 f, .int .i64 n, .string s, .slice A l c], .int .i64 i, .agg #[.int .i64 0, .int .i64 0]]) (by simp [results, Tryd.results85, go_sem, u0, u1, u2, u3, v0, v1]) rfl ⟨rfl, ((((((HB.out.setCell (by show w.heap.size ≤ w.heap.size + 2; omega) _).setCell (by show w.heap.size ≤ w.heap.size + 2; omega) _).setCell (by show w.heap.size ≤ w.heap.size + 2; omega) _).setCell (by show w.heap.size ≤ w.heap.size + 2; omega) _).setCell (by show w.heap.size ≤ w.heap.size + 3; omega) _).setCell (by show w.heap.size ≤ w.heap.size + 3; omega) _)⟩
set_option maxRecDepth 100000 in
set_option maxHeartbeats 1000000 in
theorem told_no (f n : Int) (s : ByteArray) (A : Option Addr) (l c : Nat) (i : Int) (e p : Nat) (he : 0 < e) (w : World) : Calls Tryd.prog 85 #[.agg #[.int .i64 f, .int .i64 n, .string s, .slice A l c], .int .i64 i, .agg #[.int .i64 e, .int .i64 p]] w fun r w' => r = .returned (.tuple #[.agg #[.int .i64 0, .int .i64 0, .string ⟨#[]⟩, .slice none 0 0], .int .i64 0, .agg #[.int .i64 e, .int .i64 p]]) ∧ Below w.heap.size w w' := by
  obtain ⟨W, eW, k0, k1, k2, k3, b1, z1⟩ := told_boxes w (.int .i64 f) (.int .i64 n) (.string s) (.slice A l c) (.int .i64 e) (.int .i64 p)
  have heq := eq_at
  have hgd := guard_at
  have HEW := Lib.hid eW
  have HB := Lib.hid b1
  have he0 : ((e : Int) == 0) = false := by rw [beq_eq_false_iff_ne]; omega
  have heI : (0 : Int) < (e : Int) := by omega
  obtain ⟨a0, a1, a2, a3, a4, a5, a6, a7, a8⟩ := four_cells k0
  obtain ⟨c0, c1, c2, c3, c4⟩ := pair_cells k1
  obtain ⟨u0, u1, u2, u3, u4, u5, u6, u7, u8⟩ := four_cells k2
  obtain ⟨v0, v1, v2, v3, v4⟩ := pair_cells k3
  have HZ1 := Lib.hid z1
  clear eW b1 k0 k1 k2 k3 z1 he
  go_enter Tryd.func85, Tryd.ntmps85
  go_upto_region 1 with (fail)
  rw [HEW.out]
  go_wp2_with fail
  go_region
  all_goals
    go_wp2_with fail
    refine bodyPost_ret (v := .tuple #[.agg #[.int .i64 0, .int .i64 0, .string ⟨#[]⟩, .slice none 0 0], .int .i64 0, .agg #[.int .i64 e, .int .i64 p]]) (by simp [results, Tryd.results85, go_sem, u0, u1, u2, u3, v0, v1]) rfl ?_
    have hb := ((((((HB.out.setCell (p := ⟨w.heap.size + 2, 0, none⟩) (by show w.heap.size ≤ w.heap.size + 2; omega) (.int .i64 0)).setCell (p := ⟨w.heap.size + 2, 1, none⟩) (by show w.heap.size ≤ w.heap.size + 2; omega) (.int .i64 0)).setCell (p := ⟨w.heap.size + 2, 2, none⟩) (by show w.heap.size ≤ w.heap.size + 2; omega) (.string ⟨#[]⟩)).setCell (p := ⟨w.heap.size + 2, 3, none⟩) (by show w.heap.size ≤ w.heap.size + 2; omega) (.slice none 0 0)).setCell (p := ⟨w.heap.size + 3, 0, none⟩) (by show w.heap.size ≤ w.heap.size + 3; omega) (.int .i64 e)).setCell (p := ⟨w.heap.size + 3, 1, none⟩) (by show w.heap.size ≤ w.heap.size + 3; omega) (.int .i64 p)).drew
    exact ⟨rfl, hb⟩
/-- What a reading from a place on told. -/
def PlaceRes (toks : List Tok) (res : Got) (w : World) (e : Ending) (w' : World) : Prop :=
  match res with
  | .ok t q => ∃ tv, e = .returned (.tuple #[tv, .int .i64 ((toks.length - q.length : Nat) : Int), .agg #[.int .i64 0, .int .i64 0]]) ∧ TyAt (fun b => w.heap.size ≤ b) w' t tv ∧ Below w.heap.size w w'
  | .no ec p => e = .returned (.tuple #[.agg #[.int .i64 0, .int .i64 0, .string ⟨#[]⟩, .slice none 0 0], .int .i64 0, .agg #[.int .i64 ec, .int .i64 p]]) ∧ Below w.heap.size w w'
theorem type_boxes (w : World) (g n cap i : Nat) : ∃ W, ((w.alloc (.cells #[.int .i64 0, .int .i64 0, .string ⟨#[]⟩, .slice none 0 0] 25)).alloc (.cells #[.int .i64 0, .int .i64 0] 50)).alloc (.cells #[.slice (some ⟨g, 0, none⟩) n cap, .int .i64 i, .int .i64 0] 142) = W ∧
    W.heap[w.heap.size]? = some (.cells #[.int .i64 0, .int .i64 0, .string ⟨#[]⟩, .slice none 0 0] 25) ∧ W.heap[w.heap.size + 1]? = some (.cells #[.int .i64 0, .int .i64 0] 50) ∧ W.heap[w.heap.size + 1 + 1]? = some (.cells #[.slice (some ⟨g, 0, none⟩) n cap, .int .i64 i, .int .i64 0] 142) ∧ Below w.heap.size w W ∧ W.heap.size = w.heap.size + 3 := by
  obtain ⟨V, eV, a0, a1, ab, az⟩ := nil2 w
  rw [eV]
  have c2 := (MapKept.heap_alloc V (.cells #[.slice (some ⟨g, 0, none⟩) n cap, .int .i64 i, .int .i64 0] 142)).1
  have cb := below_new V (.cells #[.slice (some ⟨g, 0, none⟩) n cap, .int .i64 i, .int .i64 0] 142)
  rw [az] at c2
  exact ⟨_, rfl, (cb.block _ (by omega)).trans a0, (cb.block _ (by omega)).trans a1, c2, ab.trans (cb.mono ab.size), by simp; omega⟩
theorem below6 {B : Nat} {w w' : World} {k : Nat} (h : Below B w w') (hk : B ≤ k) (x0 x1 x2 x3 y0 y1 : Value) : Below B w (put6 w' k (k + 1) x0 x1 x2 x3 y0 y1) := by
  unfold put6
  exact (((((h.setCell hk _).setCell hk _).setCell hk _).setCell hk _).setCell (by show B ≤ k + 1; omega) _).setCell (by show B ≤ k + 1; omega) _
set_option maxRecDepth 100000 in
set_option maxHeartbeats 1000000 in
theorem typeC_any (toks : List Tok) (g cap n i : Nat) (w : World) (res : Got) (hT : TokC w g toks) (hgw : g < w.heap.size) (hl : toks.length ≤ 1099511627776) (hz : ∀ t ∈ toks, SymZ t) (hres : typeN n (toks.drop i) 0 = some res) :
    Calls Tryd.prog 37 #[.slice (some ⟨g, 0, none⟩) toks.length cap, .int .i64 i] w (PlaceRes toks res w) := by
  obtain ⟨W, eW, k0, k1, k2, b1, z1⟩ := type_boxes w g toks.length cap i
  have hr : Rd toks (w.heap.size + 1 + 1) g cap i 0 W := ⟨k2, by omega, by omega, hT.block (b1.block g hgw)⟩
  have HC := Lib.hid ((reader_all toks (w.heap.size + 1 + 1) g cap hl hz n).2 i 0 W res hr (by omega) hres)
  have HEW := Lib.hid eW
  have HB := Lib.hid b1
  have HK0 := Lib.hid k0
  have HK1 := Lib.hid k1
  have hWs : w.heap.size + 3 ≤ W.heap.size := by omega
  have HZ1 := Lib.hid z1
  have herr := fun e p (h : res = .no e p) => (err_all n).2.2 _ _ e p (hres.trans (by rw [h]))
  clear eW b1 k0 k1 k2 z1 hr hT hres hz
  go_enter Tryd.func37, Tryd.ntmps37
  go_upto_region 2 with (fail)
  rw [HEW.out]
  go_wp2_with fail
  (with_reducible refine HC.out.mono ?_)
  intro e1 y hy
  cases res with
  | no e p =>
    obtain ⟨rfl, ⟨i', o', hr⟩, hf⟩ := hy
    have he := herr e p rfl
    obtain ⟨Y, eY, l0, l1, b2, z2⟩ := new2 y (.int .i64 0) (.int .i64 0) (.string ⟨#[]⟩) (.slice none 0 0) (.int .i64 e) (.int .i64 p)
    have hfy := hf.trans (Fr.of_below b2)
    obtain ⟨p0, p1, p2, p3, p4, p5, p6⟩ := three_cells (hr.on b2).blk
    have hY0 := (hfy.block w.heap.size (by omega) (by omega)).trans HK0.out
    have hY1 := (hfy.block (w.heap.size + 1) (by omega) (by omega)).trans HK1.out
    obtain ⟨a0, a1, a2, a3, a4, a5, a6, a7, a8⟩ := four_cells l0
    obtain ⟨c0, c1, c2, c3, c4⟩ := pair_cells l1
    have hsy := hf.size
    have HEY := Lib.hid eY
    have HBY := Lib.hid (HB.out.trans (Fr.below hfy (by omega) (fun k hk => by omega)))
    have HTO := Lib.hid (told_no 0 0 ⟨#[]⟩ none 0 0 i' e p (by omega) Y)
    have HY0 := Lib.hid hY0
    have HY1 := Lib.hid hY1
    have hy0 := lt_of_block hY0
    have hy1 := lt_of_block hY1
    have HZ2 := Lib.hid z2
    clear hr hf hfy eY l0 l1 b2 z2 hY0 hY1
    go_upto_region 3 with (fail)
    rw [HEY.out]
    go_wp2_with fail
    (with_reducible refine HTO.out.mono ?_)
    rintro e2 z ⟨rfl, hbz⟩
    obtain ⟨u0, u1, u2, u3, u4, u5, u6, u7, u8⟩ := four_cells ((hbz.block _ hy0).trans HY0.out)
    obtain ⟨v0, v1, v2, v3, v4⟩ := pair_cells ((hbz.block _ hy1).trans HY1.out)
    have HE := Lib.hid (HBY.out.trans (hbz.mono HBY.out.size))
    clear hbz
    go_wp2_with fail
    exact bodyPost_ret (v := .tuple #[.agg #[.int .i64 0, .int .i64 0, .string ⟨#[]⟩, .slice none 0 0], .int .i64 0, .agg #[.int .i64 e, .int .i64 p]]) (by simp [results, Tryd.results37, go_sem, u0, u1, u2, u3, v0, v1]) rfl ⟨rfl, below6 HE.out (Nat.le_refl _) (.int .i64 0) (.int .i64 0) (.string ⟨#[]⟩) (.slice none 0 0) (.int .i64 e) (.int .i64 p)⟩
  | ok t q =>
    obtain ⟨tv, rfl, hty, hr, hf⟩ := hy
    obtain ⟨f1, n1, s1, A1, l1, c1, rfl⟩ := hty.flat
    obtain ⟨Y, eY, l0, l2, b2, z2⟩ := new2 y (.int .i64 f1) (.int .i64 n1) (.string s1) (.slice A1 l1 c1) (.int .i64 0) (.int .i64 0)
    have hfy := hf.trans (Fr.of_below b2)
    obtain ⟨p0, p1, p2, p3, p4, p5, p6⟩ := three_cells (hr.on b2).blk
    have hY0 := (hfy.block w.heap.size (by omega) (by omega)).trans HK0.out
    have hY1 := (hfy.block (w.heap.size + 1) (by omega) (by omega)).trans HK1.out
    obtain ⟨a0, a1, a2, a3, a4, a5, a6, a7, a8⟩ := four_cells l0
    obtain ⟨c0, c1', c2, c3, c4⟩ := pair_cells l2
    have hsy := hf.size
    have HEY := Lib.hid eY
    have HBY := Lib.hid (HB.out.trans (Fr.below hfy (by omega) (fun k hk => by omega)))
    have HTO := Lib.hid (told_ok f1 n1 s1 A1 l1 c1 ((toks.length - q.length : Nat) : Int) Y)
    have HTY := Lib.hid ((hty.on b2).mono (Q := fun b => w.heap.size + 2 ≤ b) (fun b (hb : W.heap.size ≤ b) => (by omega : w.heap.size + 2 ≤ b)))
    have HY0 := Lib.hid hY0
    have HY1 := Lib.hid hY1
    have hy0 := lt_of_block hY0
    have hy1 := lt_of_block hY1
    have HZ2 := Lib.hid z2
    clear hr hf hfy eY l0 l2 b2 z2 hY0 hY1 hty herr
    go_upto_region 3 with (fail)
    rw [HEY.out]
    generalize hpq : ((toks.length - q.length : Nat) : Int) = pq at *
    have HPQ := Lib.hid hpq
    clear hpq
    go_wp2_with fail
    (with_reducible refine HTO.out.mono ?_)
    rintro e2 z ⟨rfl, hbz⟩
    obtain ⟨u0, u1, u2, u3, u4, u5, u6, u7, u8⟩ := four_cells ((hbz.block _ hy0).trans HY0.out)
    obtain ⟨v0, v1, v2, v3, v4⟩ := pair_cells ((hbz.block _ hy1).trans HY1.out)
    have HE := Lib.hid (HBY.out.trans (hbz.mono HBY.out.size))
    have HTZ := Lib.hid (HTY.out.on hbz)
    clear hbz
    go_wp2_with fail
    exact bodyPost_ret (v := .tuple #[.agg #[.int .i64 f1, .int .i64 n1, .string s1, .slice A1 l1 c1], .int .i64 pq, .agg #[.int .i64 0, .int .i64 0]]) (by simp [results, Tryd.results37, go_sem, u0, u1, u2, u3, v0, v1]) rfl
      ⟨_, by rw [HPQ.out], (put6_ty HTZ.out (k := w.heap.size) (by omega) (.int .i64 f1) (.int .i64 n1) (.string s1) (.slice A1 l1 c1) (.int .i64 0) (.int .i64 0)).mono (fun b (hb : w.heap.size + 2 ≤ b) => (by omega : w.heap.size ≤ b)), below6 HE.out (Nat.le_refl _) (.int .i64 f1) (.int .i64 n1) (.string s1) (.slice A1 l1 c1) (.int .i64 0) (.int .i64 0)⟩
set_option maxRecDepth 100000 in
set_option maxHeartbeats 1000000 in
theorem atomC_any (toks : List Tok) (g cap n i : Nat) (w : World) (res : Got) (hT : TokC w g toks) (hgw : g < w.heap.size) (hl : toks.length ≤ 1099511627776) (hz : ∀ t ∈ toks, SymZ t) (hres : atomN n (toks.drop i) 0 = some res) :
    Calls Tryd.prog 39 #[.slice (some ⟨g, 0, none⟩) toks.length cap, .int .i64 i] w (PlaceRes toks res w) := by
  obtain ⟨W, eW, k0, k1, k2, b1, z1⟩ := type_boxes w g toks.length cap i
  have hr : Rd toks (w.heap.size + 1 + 1) g cap i 0 W := ⟨k2, by omega, by omega, hT.block (b1.block g hgw)⟩
  have HC := Lib.hid ((reader_all toks (w.heap.size + 1 + 1) g cap hl hz n).1 i 0 W res hr (by omega) hres)
  have HEW := Lib.hid eW
  have HB := Lib.hid b1
  have HK0 := Lib.hid k0
  have HK1 := Lib.hid k1
  have hWs : w.heap.size + 3 ≤ W.heap.size := by omega
  have HZ1 := Lib.hid z1
  have herr := fun e p (h : res = .no e p) => (err_all n).1 _ _ e p (hres.trans (by rw [h]))
  clear eW b1 k0 k1 k2 z1 hr hT hres hz
  go_enter Tryd.func39, Tryd.ntmps39
  go_upto_region 2 with (fail)
  rw [HEW.out]
  go_wp2_with fail
  (with_reducible refine HC.out.mono ?_)
  intro e1 y hy
  cases res with
  | no e p =>
    obtain ⟨rfl, ⟨i', o', hr⟩, hf⟩ := hy
    have he := herr e p rfl
    obtain ⟨Y, eY, l0, l1, b2, z2⟩ := new2 y (.int .i64 0) (.int .i64 0) (.string ⟨#[]⟩) (.slice none 0 0) (.int .i64 e) (.int .i64 p)
    have hfy := hf.trans (Fr.of_below b2)
    obtain ⟨p0, p1, p2, p3, p4, p5, p6⟩ := three_cells (hr.on b2).blk
    have hY0 := (hfy.block w.heap.size (by omega) (by omega)).trans HK0.out
    have hY1 := (hfy.block (w.heap.size + 1) (by omega) (by omega)).trans HK1.out
    obtain ⟨a0, a1, a2, a3, a4, a5, a6, a7, a8⟩ := four_cells l0
    obtain ⟨c0, c1, c2, c3, c4⟩ := pair_cells l1
    have hsy := hf.size
    have HEY := Lib.hid eY
    have HBY := Lib.hid (HB.out.trans (Fr.below hfy (by omega) (fun k hk => by omega)))
    have HTO := Lib.hid (told_no 0 0 ⟨#[]⟩ none 0 0 i' e p (by omega) Y)
    have HY0 := Lib.hid hY0
    have HY1 := Lib.hid hY1
    have hy0 := lt_of_block hY0
    have hy1 := lt_of_block hY1
    have HZ2 := Lib.hid z2
    clear hr hf hfy eY l0 l1 b2 z2 hY0 hY1
    go_upto_region 3 with (fail)
    rw [HEY.out]
    go_wp2_with fail
    (with_reducible refine HTO.out.mono ?_)
    rintro e2 z ⟨rfl, hbz⟩
    obtain ⟨u0, u1, u2, u3, u4, u5, u6, u7, u8⟩ := four_cells ((hbz.block _ hy0).trans HY0.out)
    obtain ⟨v0, v1, v2, v3, v4⟩ := pair_cells ((hbz.block _ hy1).trans HY1.out)
    have HE := Lib.hid (HBY.out.trans (hbz.mono HBY.out.size))
    clear hbz
    go_wp2_with fail
    exact bodyPost_ret (v := .tuple #[.agg #[.int .i64 0, .int .i64 0, .string ⟨#[]⟩, .slice none 0 0], .int .i64 0, .agg #[.int .i64 e, .int .i64 p]]) (by simp [results, Tryd.results39, go_sem, u0, u1, u2, u3, v0, v1]) rfl ⟨rfl, below6 HE.out (Nat.le_refl _) (.int .i64 0) (.int .i64 0) (.string ⟨#[]⟩) (.slice none 0 0) (.int .i64 e) (.int .i64 p)⟩
  | ok t q =>
    obtain ⟨tv, rfl, hty, hr, hf⟩ := hy
    obtain ⟨f1, n1, s1, A1, l1, c1, rfl⟩ := hty.flat
    obtain ⟨Y, eY, l0, l2, b2, z2⟩ := new2 y (.int .i64 f1) (.int .i64 n1) (.string s1) (.slice A1 l1 c1) (.int .i64 0) (.int .i64 0)
    have hfy := hf.trans (Fr.of_below b2)
    obtain ⟨p0, p1, p2, p3, p4, p5, p6⟩ := three_cells (hr.on b2).blk
    have hY0 := (hfy.block w.heap.size (by omega) (by omega)).trans HK0.out
    have hY1 := (hfy.block (w.heap.size + 1) (by omega) (by omega)).trans HK1.out
    obtain ⟨a0, a1, a2, a3, a4, a5, a6, a7, a8⟩ := four_cells l0
    obtain ⟨c0, c1', c2, c3, c4⟩ := pair_cells l2
    have hsy := hf.size
    have HEY := Lib.hid eY
    have HBY := Lib.hid (HB.out.trans (Fr.below hfy (by omega) (fun k hk => by omega)))
    have HTO := Lib.hid (told_ok f1 n1 s1 A1 l1 c1 ((toks.length - q.length : Nat) : Int) Y)
    have HTY := Lib.hid ((hty.on b2).mono (Q := fun b => w.heap.size + 2 ≤ b) (fun b (hb : W.heap.size ≤ b) => (by omega : w.heap.size + 2 ≤ b)))
    have HY0 := Lib.hid hY0
    have HY1 := Lib.hid hY1
    have hy0 := lt_of_block hY0
    have hy1 := lt_of_block hY1
    have HZ2 := Lib.hid z2
    clear hr hf hfy eY l0 l2 b2 z2 hY0 hY1 hty herr
    go_upto_region 3 with (fail)
    rw [HEY.out]
    generalize hpq : ((toks.length - q.length : Nat) : Int) = pq at *
    have HPQ := Lib.hid hpq
    clear hpq
    go_wp2_with fail
    (with_reducible refine HTO.out.mono ?_)
    rintro e2 z ⟨rfl, hbz⟩
    obtain ⟨u0, u1, u2, u3, u4, u5, u6, u7, u8⟩ := four_cells ((hbz.block _ hy0).trans HY0.out)
    obtain ⟨v0, v1, v2, v3, v4⟩ := pair_cells ((hbz.block _ hy1).trans HY1.out)
    have HE := Lib.hid (HBY.out.trans (hbz.mono HBY.out.size))
    have HTZ := Lib.hid (HTY.out.on hbz)
    clear hbz
    go_wp2_with fail
    exact bodyPost_ret (v := .tuple #[.agg #[.int .i64 f1, .int .i64 n1, .string s1, .slice A1 l1 c1], .int .i64 pq, .agg #[.int .i64 0, .int .i64 0]]) (by simp [results, Tryd.results39, go_sem, u0, u1, u2, u3, v0, v1]) rfl
      ⟨_, by rw [HPQ.out], (put6_ty HTZ.out (k := w.heap.size) (by omega) (.int .i64 f1) (.int .i64 n1) (.string s1) (.slice A1 l1 c1) (.int .i64 0) (.int .i64 0)).mono (fun b (hb : w.heap.size + 2 ≤ b) => (by omega : w.heap.size ≤ b)), below6 HE.out (Nat.le_refl _) (.int .i64 f1) (.int .i64 n1) (.string s1) (.slice A1 l1 c1) (.int .i64 0) (.int .i64 0)⟩
end Go.Proofs.YtbdfjboojokgdaaDoor
namespace Go.Proofs.YtbdfjboojokgdaaDoor
open Go.RowKit Lx

theorem five_cells {w : World} {b : Nat} {v0 v1 v2 v3 v4 : Value} {t : TypeId} (h : w.heap[b]? = some (.cells #[v0, v1, v2, v3, v4] t)) : w.cell? ⟨b, 0, none⟩ = some v0 ∧ w.cell? ⟨b, 1, none⟩ = some v1 ∧ w.cell? ⟨b, 2, none⟩ = some v2 ∧ w.cell? ⟨b, 3, none⟩ = some v3 ∧ w.cell? ⟨b, 4, none⟩ = some v4 ∧ w.frozen? ⟨b, 0, none⟩ = false ∧ w.frozen? ⟨b, 1, none⟩ = false ∧ w.frozen? ⟨b, 2, none⟩ = false ∧ w.frozen? ⟨b, 3, none⟩ = false ∧ w.frozen? ⟨b, 4, none⟩ = false ∧ b < w.heap.size :=
  ⟨by simp [World.cell?, h], by simp [World.cell?, h], by simp [World.cell?, h], by simp [World.cell?, h], by simp [World.cell?, h], by simp [World.frozen?, h], by simp [World.frozen?, h], by simp [World.frozen?, h], by simp [World.frozen?, h], by simp [World.frozen?, h], lt_of_block h⟩
def put5 (w : World) (b : Nat) (x0 x1 x2 x3 x4 : Value) : World := ((((w.setCell ⟨b, 0, none⟩ x0).setCell ⟨b, 1, none⟩ x1).setCell ⟨b, 2, none⟩ x2).setCell ⟨b, 3, none⟩ x3).setCell ⟨b, 4, none⟩ x4
theorem put5_block (w : World) (b : Nat) (x0 x1 x2 x3 x4 : Value) (k : Nat) (hb : k ≠ b) : (put5 w b x0 x1 x2 x3 x4).heap[k]? = w.heap[k]? := by
  unfold put5
  rw [Below.heap_setCell _ _ _ _ hb, Below.heap_setCell _ _ _ _ hb, Below.heap_setCell _ _ _ _ hb, Below.heap_setCell _ _ _ _ hb, Below.heap_setCell _ _ _ _ hb]
theorem put5_size (w : World) (b : Nat) (x0 x1 x2 x3 x4 : Value) : (put5 w b x0 x1 x2 x3 x4).heap.size = w.heap.size := by simp [put5]
theorem put5_zero (w : World) (b : Nat) (x0 x1 x2 x3 x4 : Value) : Below 0 w (put5 w b x0 x1 x2 x3 x4) := by
  unfold put5
  exact (((((Below.refl 0 w).setCell (Nat.zero_le _) _).setCell (Nat.zero_le _) _).setCell (Nat.zero_le _) _).setCell (Nat.zero_le _) _).setCell (Nat.zero_le _) _
theorem put5_end {toks : List Tok} {rb g cap i o k : Nat} {w0 w : World} (hr : Rd toks rb g cap i o w) (hf : Fr (fun b => b = rb) w0 w) (hk : w0.heap.size ≤ k) (hg : g < w0.heap.size) (hrb : rb < w0.heap.size) (x0 x1 x2 x3 x4 : Value) :
    Rd toks rb g cap i o (put5 w k x0 x1 x2 x3 x4) ∧ Fr (fun b => b = rb) w0 (put5 w k x0 x1 x2 x3 x4) :=
  end_of hr hf hk hg hrb (fun j h1 _ => put5_block w k x0 x1 x2 x3 x4 j h1) (put5_size w k x0 x1 x2 x3 x4) (put5_zero w k x0 x1 x2 x3 x4).os (put5_zero w k x0 x1 x2 x3 x4).tape (put5_zero w k x0 x1 x2 x3 x4).output
theorem put5_ty {w : World} {t : Ty} {v : Value} {k c : Nat} (h : TyAt (fun b => c ≤ b) w t v) (hk : k < c) (x0 x1 x2 x3 x4 : Value) : TyAt (fun b => c ≤ b) (put5 w k x0 x1 x2 x3 x4) t v :=
  h.keep ⟨by rw [put5_size]; exact Nat.le_refl _, fun b off (hb : c ≤ b) _ => World.cell?_of_block (a := ⟨b, off, none⟩) (put5_block w k x0 x1 x2 x3 x4 b (by omega))⟩
/-- What pred told of what stands there. -/
def PredRes (toks : List Tok) (rb g cap o : Nat) (l : List Tok) (res : Option Got) (w : World) (e : Ending) (w' : World) : Prop :=
  match l, res with
  | t :: _, some (.ok x q) => ∃ f n s A l c, e = .returned (.tuple #[.agg #[.string (mkB t.text), .int .i64 f, .int .i64 n, .string s, .slice A l c], .bool true]) ∧ TyAt (fun b => w.heap.size + 1 ≤ b) w' x (.agg #[.int .i64 f, .int .i64 n, .string s, .slice A l c]) ∧ Rd toks rb g cap (toks.length - q.length) o w' ∧ Fr (fun b => b = rb) w w'
  | _, _ => (∃ s0 f n s A l c, e = .returned (.tuple #[.agg #[.string s0, .int .i64 f, .int .i64 n, .string s, .slice A l c], .bool false])) ∧ (∃ i' o', Rd toks rb g cap i' o' w') ∧ Fr (fun b => b = rb) w w'
theorem box5 (w : World) : ∃ W, w.alloc (.cells #[.string ⟨#[]⟩, .int .i64 0, .int .i64 0, .string ⟨#[]⟩, .slice none 0 0] 82) = W ∧ W.heap[w.heap.size]? = some (.cells #[.string ⟨#[]⟩, .int .i64 0, .int .i64 0, .string ⟨#[]⟩, .slice none 0 0] 82) ∧ Below w.heap.size w W ∧ W.heap.size = w.heap.size + 1 :=
  ⟨_, rfl, (MapKept.heap_alloc w _).1, below_new w _, by simp⟩
set_option maxRecDepth 100000 in
set_option maxHeartbeats 1000000 in
theorem pred_any (toks : List Tok) (rb g cap n i o : Nat) (w : World) (t : Tok) (q : List Tok) (h : Rd toks rb g cap i o w) (ho : o ≤ 40) (hl : toks.length ≤ 1099511627776) (hz : ∀ t ∈ toks, SymZ t) (hd : toks.drop i = t :: q) (res : Option Got) (hres : if t.kind = 2 then atomN n q o = res ∧ res ≠ none else res = none) :
    Calls Tryd.prog 132 #[.pointer (some ⟨rb, 0, none⟩)] w (PredRes toks rb g cap o (t :: q) res w) := by
  obtain ⟨hi, ht, hdq, hlen⟩ := drop_at hd
  obtain ⟨W, eW, k0, b1, z1⟩ := box5 w
  have hW := h.on b1
  have hg := h.lt
  have hrb := h.rb_lt
  have htk := token_any toks rb g cap i o W hW hi
  rw [ht] at htk
  have HTK := Lib.hid htk
  have HEW := Lib.hid eW
  have HRW := Lib.hid hW
  have HB := Lib.hid b1
  have HK0 := Lib.hid k0
  have HZ1 := Lib.hid z1
  have hzW : w.heap.size + 1 ≤ W.heap.size := by omega
  have hiI : (i : Int) ≤ 1099511627776 := by omega
  have heq := eq_at
  have hgd := guard_at
  have HTV : Hid (tokV t = .agg #[.int .i64 t.kind, .string (mkB t.text), .int .i64 t.num, .int .i64 t.place]) := rfl
  clear eW b1 hW k0 z1 htk
  have HY : Hid (∀ y : World, Below W.heap.size W y → ∃ Y, y.alloc (.cells #[.int .i64 t.kind, .string (mkB t.text), .int .i64 t.num, .int .i64 t.place] 133) = Y ∧ Y.heap[y.heap.size]? = some (.cells #[.int .i64 t.kind, .string (mkB t.text), .int .i64 t.num, .int .i64 t.place] 133) ∧ Rd toks rb g cap i o Y ∧ Fr (fun b => b = rb) w Y ∧ Y.heap[w.heap.size]? = some (.cells #[.string ⟨#[]⟩, .int .i64 0, .int .i64 0, .string ⟨#[]⟩, .slice none 0 0] 82) ∧ w.heap.size + 1 ≤ y.heap.size ∧ y.heap.size < Y.heap.size) := fun y hb => by
    obtain ⟨Y, e1, e2, e3, e4⟩ := box4h y (.int .i64 t.kind) (.string (mkB t.text)) (.int .i64 t.num) (.int .i64 t.place) 133
    have hby := hb.trans (e3.mono hb.size)
    have hs := hb.size
    exact ⟨Y, e1, e2, HRW.out.on hby, (Fr.of_below HB.out).trans (Fr.of_below hby), (hby.block _ (by omega)).trans HK0.out, by omega, by omega⟩
  by_cases h2 : t.kind = 2
  · rw [if_pos h2] at hres
    obtain ⟨hres, hne⟩ := hres
    obtain ⟨ga, rfl⟩ : ∃ ga, res = some ga := by
      cases res with
      | none => exact absurd rfl hne
      | some ga => exact ⟨ga, rfl⟩
    have herr := (err_all n).1 q o
    rw [hres] at herr
    have HERR := Lib.hid herr
    have HAT := Lib.hid (fun (Z : World) (hr : Rd toks rb g cap (i + 1) o Z) => (reader_all toks rb g cap hl hz n).1 (i + 1) o Z ga hr ho (by rw [hdq]; exact hres))
    have hk : (t.kind : Int) = 2 := by omega
    clear h hres hd ht hdq hne hz herr
    go_enter Tryd.func132, Tryd.ntmps132
    go_upto_region 1 with (fail)
    rw [HEW.out]
    go_wp2_with fail
    (with_reducible refine HTK.out.mono ?_)
    rintro e1 y ⟨rfl, hb⟩
    obtain ⟨Y, eY, l0, hr, hf, l1, s1, s2⟩ := HY.out y hb
    rw [HTV.out]
    have HEY := Lib.hid eY
    obtain ⟨a0, a1, a2, a3, a4, a5, a6, a7, a8⟩ := four_cells l0
    obtain ⟨Z, eZ⟩ : ∃ Z, Y.setCell ⟨rb, 1, none⟩ (.int .i64 ((i : Int) + 1)) = Z := ⟨_, rfl⟩
    have hkz : ∀ k, k ≠ rb → Z.heap[k]? = Y.heap[k]? := fun k hk => by rw [← eZ]; exact Below.heap_setCell _ _ _ _ hk
    have hrz : Rd toks rb g cap (i + 1) o Z := by
      have h9 := hr.place (i + 1)
      rw [show (((i + 1 : Nat)) : Int) = (i : Int) + 1 by push_cast; rfl, eZ] at h9
      exact h9
    have hfz : Fr (fun b => b = rb) w Z := by rw [← eZ]; exact hf.trans (rd_fr _ _ _ _)
    obtain ⟨p0, p1, p2, p3, p4, p5, p6⟩ := three_cells hr.blk
    have HM0 := Lib.hid ((hkz w.heap.size (by omega)).trans l1)
    have HM4 := Lib.hid ((hkz y.heap.size (by omega)).trans l0)
    have hzz : Y.heap.size ≤ Z.heap.size := by rw [← eZ]; simp
    have hzY : y.heap.size < Z.heap.size := by omega
    have HEZ := Lib.hid eZ
    have HFZ := Lib.hid hfz
    have HCALL := Lib.hid (HAT.out Z hrz)
    clear hb eY l0 hr hf l1 eZ hkz hrz hfz hzz HAT
    generalize (t.kind : Int) = tk at *
    subst hk
    go_upto_region 2 with (fail)
    rw [HEY.out]
    go_upto_region 5 with (fail)
    rw [HEZ.out]
    go_wp2_with fail
    (with_reducible refine HCALL.out.mono ?_)
    intro e2 z hx
    cases ga with
    | no e p =>
      obtain ⟨rfl, ⟨i', o', hr⟩, hf⟩ := hx
      have he := HERR.out e p rfl
      have he0 : ((e : Int) == 0) = false := by rw [beq_eq_false_iff_ne]; omega
      have heI : (0 : Int) < (e : Int) := by omega
      obtain ⟨U, eU, n0, n1, b2, z2⟩ := new2 z (.int .i64 0) (.int .i64 0) (.string ⟨#[]⟩) (.slice none 0 0) (.int .i64 e) (.int .i64 p)
      have hsz := hf.size
      have hfu := hf.trans (Fr.of_below b2)
      obtain ⟨j0, j1, j2, j3, j4, j5, j6, j7, j8⟩ := four_cells n0
      obtain ⟨c0, c1, c2, c3, c4⟩ := pair_cells n1
      obtain ⟨d0, d1, d2, d3, d4, d5, d6, d7, d8⟩ := four_cells ((hfu.block y.heap.size (by omega) (by omega)).trans HM4.out)
      obtain ⟨u0, u1, u2, u3, u4, u5, u6, u7, u8, u9, u10⟩ := five_cells ((hfu.block w.heap.size (by omega) (by omega)).trans HM0.out)
      have hend := put5_end (hr.on b2) (HFZ.out.trans hfu) (Nat.le_refl _) hg hrb (.string (mkB t.text)) (.int .i64 0) (.int .i64 0) (.string ⟨#[]⟩) (.slice none 0 0)
      have HE := Lib.hid hend
      have HEU := Lib.hid eU
      have HZ2 := Lib.hid z2
      clear hr hf hfu eU n0 n1 b2 z2 hend
      go_upto_region 6 with (fail)
      rw [HEU.out]
      go_region
      all_goals
        go_wp2_with fail
        refine bodyPost_ret (v := .tuple #[.agg #[.string (mkB t.text), .int .i64 0, .int .i64 0, .string ⟨#[]⟩, .slice none 0 0], .bool false]) (by simp [results, Tryd.results132, go_sem, u0, u1, u2, u3, u4]) rfl ?_
        exact ⟨⟨_, _, _, _, _, _, _, rfl⟩, ⟨_, _, HE.out.1.on (Below.refl _ _).drew⟩, HE.out.2.drew⟩
    | ok x r =>
      obtain ⟨tv, rfl, hty, hr, hf⟩ := hx
      obtain ⟨f1, n1, sx, A1, l1, c1, rfl⟩ := hty.flat
      obtain ⟨U, eU, m0, m1, b2, z2⟩ := new2 z (.int .i64 f1) (.int .i64 n1) (.string sx) (.slice A1 l1 c1) (.int .i64 0) (.int .i64 0)
      have hsz := hf.size
      have hfu := hf.trans (Fr.of_below b2)
      obtain ⟨j0, j1, j2, j3, j4, j5, j6, j7, j8⟩ := four_cells m0
      obtain ⟨c0, c1', c2, c3, c4⟩ := pair_cells m1
      obtain ⟨d0, d1, d2, d3, d4, d5, d6, d7, d8⟩ := four_cells ((hfu.block y.heap.size (by omega) (by omega)).trans HM4.out)
      obtain ⟨u0, u1, u2, u3, u4, u5, u6, u7, u8, u9, u10⟩ := five_cells ((hfu.block w.heap.size (by omega) (by omega)).trans HM0.out)
      have hend := put5_end (hr.on b2) (HFZ.out.trans hfu) (Nat.le_refl _) hg hrb (.string (mkB t.text)) (.int .i64 f1) (.int .i64 n1) (.string sx) (.slice A1 l1 c1)
      have hte := put5_ty ((hty.on b2).mono (Q := fun b => w.heap.size + 1 ≤ b) (fun b (hb : Z.heap.size ≤ b) => (by omega : w.heap.size + 1 ≤ b))) (k := w.heap.size) (by omega) (.string (mkB t.text)) (.int .i64 f1) (.int .i64 n1) (.string sx) (.slice A1 l1 c1)
      have HE := Lib.hid hend
      have HTE := Lib.hid hte
      have HEU := Lib.hid eU
      have HZ2 := Lib.hid z2
      clear hr hf hfu eU m0 m1 b2 z2 hend hte hty
      go_upto_region 6 with (fail)
      rw [HEU.out]
      go_region
      all_goals
        go_wp2_with fail
        refine bodyPost_ret (v := .tuple #[.agg #[.string (mkB t.text), .int .i64 f1, .int .i64 n1, .string sx, .slice A1 l1 c1], .bool true]) (by simp [results, Tryd.results132, go_sem, u0, u1, u2, u3, u4]) rfl ?_
        exact ⟨_, _, _, _, _, _, rfl, HTE.out.on (Below.refl _ _).drew, HE.out.1.on (Below.refl _ _).drew, HE.out.2.drew⟩
  · rw [if_neg h2] at hres
    subst hres
    have hk2 : ((t.kind : Int) == 2) = false := by rw [beq_eq_false_iff_ne]; omega
    clear h hd ht hdq hz
    go_enter Tryd.func132, Tryd.ntmps132
    go_upto_region 1 with (fail)
    rw [HEW.out]
    go_wp2_with fail
    (with_reducible refine HTK.out.mono ?_)
    rintro e1 y ⟨rfl, hb⟩
    obtain ⟨Y, eY, l0, hr, hf, l1, s1, s2⟩ := HY.out y hb
    rw [HTV.out]
    have HEY := Lib.hid eY
    obtain ⟨a0, a1, a2, a3, a4, a5, a6, a7, a8⟩ := four_cells l0
    obtain ⟨u0, u1, u2, u3, u4, u5, u6, u7, u8, u9, u10⟩ := five_cells l1
    have HE := Lib.hid (put5_end hr hf (Nat.le_refl _) hg hrb (.string ⟨#[]⟩) (.int .i64 0) (.int .i64 0) (.string ⟨#[]⟩) (.slice none 0 0))
    clear hb eY l0 hr hf l1
    go_upto_region 2 with (fail)
    rw [HEY.out]
    go_wp2_with fail
    refine bodyPost_ret (v := .tuple #[.agg #[.string ⟨#[]⟩, .int .i64 0, .int .i64 0, .string ⟨#[]⟩, .slice none 0 0], .bool false]) (by simp [results, Tryd.results132, go_sem, u0, u1, u2, u3, u4]) rfl ?_
    exact ⟨⟨_, _, _, _, _, _, _, rfl⟩, ⟨_, _, HE.out.1⟩, HE.out.2⟩
end Go.Proofs.YtbdfjboojokgdaaDoor
