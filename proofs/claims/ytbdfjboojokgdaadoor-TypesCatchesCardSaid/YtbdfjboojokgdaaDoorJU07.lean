/- The contract of types.Fun: a range over slices.Backward. Condition: at most 2^40 arguments. -/
import Derived.Test.YtbdfjboojokgdaaDoorJU01
import Derived.Test.YtbdfjboojokgdaaDoorJU06
namespace Go.Proofs.YtbdfjboojokgdaaDoor
open Go.RowKit Go.Shelf
attribute [local go_sem] Oper.semAt_some

/-- The function's type from all of a row to a type. -/
def funs : List Ty → Ty → Ty
  | [], t => t
  | a :: r, t => .fn a (funs r t)
/-- What stands behind rounds, by the numbers that came. -/
def foldF (ts : List Ty) (t : Ty) (pre : List Nat) : Ty := pre.foldl (fun t k => Ty.fn (ts[k]?.getD (.con ⟨#[]⟩)) t) t
theorem foldF_snoc (ts : List Ty) (t : Ty) (pre : List Nat) (k : Nat) : foldF ts t (pre ++ [k]) = Ty.fn (ts[k]?.getD (.con ⟨#[]⟩)) (foldF ts t pre) := by simp [foldF]
theorem foldF_dn (ts : List Ty) (t : Ty) : ∀ k, k ≤ ts.length → foldF ts t (dn ts.length k) = funs (ts.drop (ts.length - k)) t := by
  intro k
  induction k with
  | zero => intro _; simp [dn, foldF, funs]
  | succ k ih =>
    intro hk
    rw [dn_succ, foldF_snoc, ih (by omega)]
    have h1 : ts.length - 1 - k < ts.length := by omega
    have h2 : ts.drop (ts.length - (k + 1)) = ts[ts.length - 1 - k] :: ts.drop (ts.length - k) := by
      have e : ts.length - (k + 1) = ts.length - 1 - k := by omega
      rw [e, List.drop_eq_getElem_cons h1]
      have e2 : ts.length - 1 - k + 1 = ts.length - k := by omega
      rw [e2]
    rw [h2, funs, List.getElem?_eq_getElem h1]
    rfl
theorem TyAt.some {P : Nat → Prop} {w w' : World} {t : Ty} {v : Value} (h : TyAt P w t v) (hs : w.heap.size ≤ w'.heap.size) (hc : ∀ b off u, P b → w.cell? ⟨b, off, none⟩ = some u → w'.cell? ⟨b, off, none⟩ = some u) : TyAt P w' t v := by
  induction h with
  | intro t A c u hc' hm hrow _ ih =>
    refine .intro t A c u hc' hm ?_ ih
    rcases hrow with h | ⟨b, off, e, hp, hlt, hcell⟩
    · exact .inl h
    · exact .inr ⟨b, off, e, hp, Nat.lt_of_lt_of_le hlt hs, fun i j hi hj => hc b _ _ hp (hcell i j hi hj)⟩
/-- A box that holds a type that lies elsewhere. -/
def BoxT (P : Nat → Prop) (W : World) (B : Nat) (t : Ty) : Prop := ∃ (f n : Int) (s : ByteArray) (A : Option Addr) (l c : Nat), BoxB W B (.int .i64 f) (.int .i64 n) (.string s) (.slice A l c) ∧ TyAt P W t (.agg #[.int .i64 f, .int .i64 n, .string s, .slice A l c])
theorem BoxB.ownG {W W' : World} {row : Option Nat} {B : Nat} {a0 a1 a2 a3 : Value} (h : BoxB W B a0 a1 a2 a3) (hg : W.grownBy W' row) (hr : ∀ r, row = some r → ∃ o : Obj, W.heap[r]? = some o ∧ o.isCells = false) : BoxB W' B a0 a1 a2 a3 :=
  (hg.block B h.lt (fun e => by
    obtain ⟨o, ho, hc⟩ := hr B e.symm
    rw [show W.heap[B]? = _ from h] at ho
    cases ho; cases hc)).trans h
theorem BoxT.ownG {P : Nat → Prop} {W W' : World} {row : Option Nat} {B : Nat} {t : Ty} (h : BoxT P W B t) (hg : W.grownBy W' row) (hr : ∀ r, row = some r → ∃ o : Obj, W.heap[r]? = some o ∧ o.isCells = false) : BoxT P W' B t := by
  obtain ⟨f, n, s, A, l, c, h1, h2⟩ := h
  exact ⟨f, n, s, A, l, c, h1.ownG hg hr, h2.some hg.size (fun b off u _ hu => cell_kept hu hg hr)⟩
theorem BoxT.on {P : Nat → Prop} {W W' : World} {B : Nat} {t : Ty} (h : BoxT P W B t) (hb : Below W.heap.size W W') : BoxT P W' B t := by
  obtain ⟨f, n, s, A, l, c, h1, h2⟩ := h
  exact ⟨f, n, s, A, l, c, h1.on hb, h2.on hb⟩
theorem BoxB.four' {w : World} {b : Nat} {a0 a1 a2 a3 : Value} (h : BoxB w b a0 a1 a2 a3) : Box4 w b a0 a1 a2 a3 := by
  have h' : w.heap[b]? = some (.cells #[a0, a1, a2, a3] 25) := h
  exact ⟨h.lt, by simp [World.cell?, h'], by simp [World.cell?, h'], by simp [World.cell?, h'], by simp [World.cell?, h'], by simp [World.frozen?, h'], by simp [World.frozen?, h'], by simp [World.frozen?, h'], by simp [World.frozen?, h']⟩
theorem BoxB.put {w : World} {b : Nat} {a0 a1 a2 a3 : Value} (h : BoxB w b a0 a1 a2 a3) (x0 x1 x2 x3 : Value) : BoxB ((((w.setCell ⟨b, 0, none⟩ x0).setCell ⟨b, 1, none⟩ x1).setCell ⟨b, 2, none⟩ x2).setCell ⟨b, 3, none⟩ x3) b x0 x1 x2 x3 := by
  have h' : w.heap[b]? = some (.cells #[a0, a1, a2, a3] 25) := h
  unfold BoxB
  simp [World.setCell, Array.getElem?_modify, h']
theorem box_block {y : World} {b k : Nat} (h : k ≠ b) (v0 v1 v2 v3 : Value) : ((((y.setCell ⟨b, 0, none⟩ v0).setCell ⟨b, 1, none⟩ v1).setCell ⟨b, 2, none⟩ v2).setCell ⟨b, 3, none⟩ v3).heap[k]? = y.heap[k]? := by
  rw [Below.heap_setCell _ _ _ _ h, Below.heap_setCell _ _ _ _ h, Below.heap_setCell _ _ _ _ h, Below.heap_setCell _ _ _ _ h]
theorem funs_fn (a b : Ty) : Ty.give (.con ⟨#[45, 62]⟩) [a, b] = .fn a b := rfl
/-- The four functions that tell a row's cells. -/
theorem row4_of {P : Nat → Prop} {w : World} {ts : List Ty} {A : Option Addr} {n c : Nat} (h : TysAt P w ts (.slice A n c)) : ∃ (b off : Nat) (r : Row4), (0 < ts.length → b < w.heap.size) ∧ (ts.length = 0 ∨ A = some ⟨b, off, none⟩) ∧ r.cells w b off ts.length ∧ (∀ j, TyAt P w (ts[j]?.getD (.con ⟨#[]⟩)) (r.val j)) := by
  rcases Nat.eq_zero_or_pos ts.length with h0 | h0
  · exact ⟨0, 0, ⟨fun _ => 3, fun _ => 0, fun _ => ⟨#[]⟩, fun _ => none, fun _ => 0, fun _ => 0⟩, fun h => by omega, .inl h0, fun j hj => by omega, fun j => by rw [List.getElem?_eq_none (by omega)]; exact ty_leaf P w (.con ⟨#[]⟩) rfl none 0 (Nat.zero_le _)⟩
  · obtain ⟨b, off, A', c', rfl, hP, hb, _⟩ := h.at 0 h0
    have hch : ∀ j, ∃ q : Int × Int × ByteArray × Option Addr × Nat × Nat, (j < ts.length → w.cell? ⟨b, off + j * 4, none⟩ = some (.int .i64 q.1) ∧ w.cell? ⟨b, off + j * 4 + 1, none⟩ = some (.int .i64 q.2.1) ∧ w.cell? ⟨b, off + j * 4 + 2, none⟩ = some (.string q.2.2.1) ∧ w.cell? ⟨b, off + j * 4 + 3, none⟩ = some (.slice q.2.2.2.1 q.2.2.2.2.1 q.2.2.2.2.2)) ∧ TyAt P w (ts[j]?.getD (.con ⟨#[]⟩)) (.agg #[.int .i64 q.1, .int .i64 q.2.1, .string q.2.2.1, .slice q.2.2.2.1 q.2.2.2.2.1 q.2.2.2.2.2]) := by
      intro j
      by_cases hj : j < ts.length
      · obtain ⟨b', off', A1, c1, e, _, _, k0, k1, k2, k3, ht⟩ := h.at j hj
        injection e with e
        injection e with e1 e2
        subst e1 e2
        exact ⟨(_, _, _, A1, _, c1), fun _ => ⟨k0, k1, k2, k3⟩, by rw [List.getElem?_eq_getElem hj]; exact ht⟩
      · exact ⟨(3, 0, ⟨#[]⟩, none, 0, 0), fun h => absurd h hj, by rw [List.getElem?_eq_none (by omega)]; exact ty_leaf P w (.con ⟨#[]⟩) rfl none 0 (Nat.zero_le _)⟩
    refine ⟨b, off, ⟨fun j => (Classical.choose (hch j)).1, fun j => (Classical.choose (hch j)).2.1, fun j => (Classical.choose (hch j)).2.2.1, fun j => (Classical.choose (hch j)).2.2.2.1, fun j => (Classical.choose (hch j)).2.2.2.2.1, fun j => (Classical.choose (hch j)).2.2.2.2.2⟩, fun _ => hb, .inr rfl, fun j hj => (Classical.choose_spec (hch j)).1 hj, fun j => (Classical.choose_spec (hch j)).2⟩
set_option maxRecDepth 100000 in
set_option maxHeartbeats 2000000 in
theorem fun_any (P : Nat → Prop) (t : Ty) (ts : List Ty) (vt vf : Value) (w : World) (ht : TyAt P w t vt) (hf : TysAt P w ts vf) (hlen : ts.length ≤ 1099511627776) : Calls Tryd.prog 60 #[vt, vf] w (TyMade w (funs ts t)) := by
  obtain ⟨f1, n1, s1, A1, l1, c1, rfl⟩ := ht.flat
  obtain ⟨A, c, rfl, hc, hm⟩ := hf.form
  have HOW := Lib.hid (fun (w' : World) (hb : Below w.heap.size w w') => own_any t P _ w' (ht.on hb))
  have HF := Lib.hid hf.bound'
  clear ht hf
  refine (callsIn_wide (n := 3)).1 ?_
  refine callsIn_of_wp_marks Tryd.func60 rfl trivial ?_ rfl
  simp only [Tryd.ntmps60, List.size_toArray, List.length_cons, List.length_nil, Nat.reduceAdd, Nat.reduceSub, Array.replicate_succ, Array.replicate_zero, List.push_toArray, List.append_toArray, List.nil_append, List.cons_append]
  obtain ⟨W, eW, q1, q2, b2, z2⟩ := two_boxes w (.int .i64 f1) (.int .i64 n1) (.string s1) (.slice A1 l1 c1) (.int .i64 0) (.int .i64 0) (.string ⟨#[]⟩) (.slice none 0 0) 25 25
  have r2 : BoxB W (w.heap.size + 1) (.int .i64 0) (.int .i64 0) (.string ⟨#[]⟩) (.slice none 0 0) := by
    have h := BoxB.new (w.alloc (.cells #[.int .i64 f1, .int .i64 n1, .string s1, .slice A1 l1 c1] 25)) (.int .i64 0) (.int .i64 0) (.string ⟨#[]⟩) (.slice none 0 0)
    simp only [World.size_alloc] at h
    rw [eW] at h; exact h
  have HEW := Lib.hid eW
  have HB2 := Lib.hid b2
  have HR2 := Lib.hid r2
  clear q1 q2 eW b2 r2
  gi_wp2_with fail
  rw [HEW.out]
  refine ⟨trivial, (callsIn_wide.2 (HOW.out W HB2.out)).mono ?_⟩
  rintro e y ⟨v, rfl, hv, hb⟩
  obtain ⟨f2, n2, s2, A2, l2, c2, rfl⟩ := hv.flat
  have bY := HB2.out.trans (hb.mono HB2.out.size)
  have rY := HR2.out.on hb
  have hb5 := below2 y (.cells #[.int .i64 f2, .int .i64 n2, .string s2, .slice A2 l2 c2] 25) (.cells #[.slice A ts.length c] 23)
  have k5 := (BoxB.new y (.int .i64 f2) (.int .i64 n2) (.string s2) (.slice A2 l2 c2)).on (below_new _ (.cells #[.slice A ts.length c] 23))
  have kS : Boxed ((y.alloc (.cells #[.int .i64 f2, .int .i64 n2, .string s2, .slice A2 l2 c2] 25)).alloc (.cells #[.slice A ts.length c] 23)) (y.heap.size + 1) 23 (.slice A ts.length c) := by
    have h := Boxed.new (y.alloc (.cells #[.int .i64 f2, .int .i64 n2, .string s2, .slice A2 l2 c2] 25)) 23 (.slice A ts.length c)
    simp only [World.size_alloc] at h; exact h
  have zX : ((y.alloc (.cells #[.int .i64 f2, .int .i64 n2, .string s2, .slice A2 l2 c2] 25)).alloc (.cells #[.slice A ts.length c] 23)).heap.size = y.heap.size + 2 := by simp
  have hzy : w.heap.size + 2 ≤ y.heap.size := by have := hb.size; omega
  have hvX := (hv.bound.mono (Q := fun x => w.heap.size + 2 ≤ x ∧ x ≠ y.heap.size) (fun x hx => ⟨by have := hx.1; omega, by have := hx.2; omega⟩)).on hb5
  clear hv hb
  gi_wp2_with fail
  refine ⟨trivial, (back_in Fence.wide _ trivial rfl _ _ ⟨_, _, _, rfl⟩).mono ?_⟩
  rintro e w' ⟨rfl, rfl⟩
  obtain ⟨X, eX⟩ : ∃ X, (y.alloc (.cells #[.int .i64 f2, .int .i64 n2, .string s2, .slice A2 l2 c2] 25)).alloc (.cells #[.slice A ts.length c] 23) = X := ⟨_, rfl⟩
  gi_wp2
  rw [eX] at k5 kS zX hvX hb5
  clear eX
  obtain ⟨b, off, r, hbl, hA, hcells, hvals⟩ := row4_of HF.out
  have bX : Below w.heap.size w X := bY.trans (hb5.mono bY.size)
  have rX := rY.on hb5
  have hI0 : BoxT (fun x => w.heap.size + 2 ≤ x ∧ x ≠ y.heap.size) X y.heap.size (foldF ts t []) := ⟨f2, n2, s2, A2, l2, c2, k5, hvX⟩
  have hcX : r.cells X b off ts.length := fun j hj => by
    obtain ⟨c0, c1, c2, c3⟩ := hcells j hj
    have hbw := hbl (by omega)
    exact ⟨(bX.cell (p := ⟨b, _, none⟩) hbw).trans c0, (bX.cell (p := ⟨b, _, none⟩) hbw).trans c1, (bX.cell (p := ⟨b, _, none⟩) hbw).trans c2, (bX.cell (p := ⟨b, _, none⟩) hbw).trans c3⟩
  clear hb5 bY rY
  refine wpIn_rangeFunc_ownH rfl (by omega) (gf := 134) (lb := #[.pointer (some ⟨y.heap.size + 1, 0, none⟩)]) rfl trivial (enters_of Tryd.func134 (by kernel_rfl) rfl)
    (back_stops Fence.wide 2 trivial rfl (by omega) (y.heap.size + 1) w.heap.size b off ts.length c A r X hlen hbl hA (by omega) (by omega) kS.cell hcX) KB.trans (KB.b (by omega) (by omega)) (Below.refl _ _) (fun _ => rfl)
    (fun pre W => (BoxT (fun x => w.heap.size + 2 ≤ x ∧ x ≠ y.heap.size) W y.heap.size (foldF ts t pre) ∧ BoxB W (w.heap.size + 1) (.int .i64 0) (.int .i64 0) (.string ⟨#[]⟩) (.slice none 0 0)) ∧ (Below w.heap.size w W ∧ (X.heap.size ≤ W.heap.size ∧ Boxed W (y.heap.size + 1) 23 (.slice A ts.length c))))
    (fun _ _ _ => False)
    (OwnFrom.and (OwnFrom.and (Own.from (fun s X Y row hs hg hr => hs.ownG hg hr) _) (Own.from (fun s X Y row hs hg hr => hs.ownG hg hr) _)) (OwnFrom.and (ownFrom_below (Nat.le_refl _) (by omega)) (OwnFrom.and (fun _ _ _ _ hs hg _ => Nat.le_trans hs hg.size) (Own.from (boxed_own _ _ _) _))))
    (fun _ _ _ _ _ hs _ _ => hs)
    ⟨⟨hI0, rX⟩, bX, Nat.le_refl _, kS⟩
    (fun x a' W => ∃ Bx, y.heap.size + 2 ≤ Bx ∧ BoxB W Bx (.int .i64 (r.f x)) (.int .i64 (r.n x)) (.string (r.s x)) (.slice (r.A x) (r.l x) (r.c x)) ∧ a' = { tmps := #[.agg #[.int .i64 f1, .int .i64 n1, .string s1, .slice A1 l1 c1], .slice A ts.length c, .pointer (some ⟨w.heap.size, 0, none⟩), undef, .pointer (some ⟨w.heap.size + 1, 0, none⟩), .pointer (some ⟨y.heap.size, 0, none⟩), undef, .pointer (some ⟨Bx, 0, none⟩), .agg #[.int .i64 f1, .int .i64 n1, .string s1, .slice A1 l1 c1], .agg #[.int .i64 f2, .int .i64 n2, .string s2, .slice A2 l2 c2], .slice A ts.length c, .func (.func 134) #[] #[.pointer (some ⟨y.heap.size + 1, 0, none⟩)], .int .i64 (x : Int), .agg #[.int .i64 (r.f x), .int .i64 (r.n x), .string (r.s x), .slice (r.A x) (r.l x) (r.c x)], undef, undef, undef, undef, undef, undef, undef], defers := [] })
    (fun x a' _ X Y row hs hg hr => by obtain ⟨Bx, h1, h2, h3⟩ := hs; exact ⟨Bx, h1, h2.ownG hg (fun r e => (hr r e).2), h3⟩)
    ?assign ?body ?done ?stop
  case assign =>
    rintro l pre x W K ⟨⟨h1, h2⟩, h3, h4⟩ hK
    unfold Row4.val
    have hn := below_new W (.cells #[.int .i64 (r.f x), .int .i64 (r.n x), .string (r.s x), .slice (r.A x) (r.l x) (r.c x)] 25)
    have hz0' : y.heap.size + 2 ≤ W.heap.size := by rw [← zX]; exact h4.1
    have hz0 : y.heap.size + 1 < W.heap.size := by omega
    gi_wp2
    refine hK _ _ ((KeepsOthers.alloc _ _).from _) ⟨(Below.refl _ W).alloc h3.size _, Below.heap_alloc _ _ _ hz0⟩ ⟨⟨h1.on hn, h2.on hn⟩, h3.alloc h3.size _, Nat.le_trans h4.1 hn.size, h4.2.alloc _⟩ ⟨W.heap.size, hz0', BoxB.new W _ _ _ _, rfl⟩
  case body =>
    rintro l pre x a' W hl ⟨r', hr'⟩ ⟨⟨h1, h2⟩, h3, h4⟩ ⟨Bx, hBx, bx, rfl⟩ hlt
    obtain ⟨f5, n5, s5, A5, l5, c5, k5, ht5⟩ := h1
    have hzW : y.heap.size + 2 ≤ W.heap.size := by rw [← zX]; exact h4.1
    have HC1 : Hid (Calls Tryd.prog 63 #[.string ⟨#[45, 62]⟩] W.drew fun e y1 => ∃ f n s A l c, e = .returned (.agg #[.int .i64 f, .int .i64 n, .string s, .slice A l c]) ∧ TyAt (fun x => w.heap.size + 2 ≤ x ∧ x ≠ y.heap.size) y1 (.con ⟨#[45, 62]⟩) (.agg #[.int .i64 f, .int .i64 n, .string s, .slice A l c]) ∧ Below W.heap.size W y1) := by
      refine (con_any _ _).mono ?_
      rintro e y1 ⟨v, rfl, hv, hb⟩
      obtain ⟨f, n, s, A, l, c, rfl⟩ := hv.flat
      exact ⟨f, n, s, A, l, c, rfl, hv.mono (fun x hx => by have hx' : W.heap.size ≤ x := hx; exact ⟨by omega, by omega⟩), (Below.refl _ W).drew.trans hb⟩
    have HC2 : Hid (∀ y1, Below W.heap.size W y1 → Calls Tryd.prog 64 #[.agg #[.int .i64 (r.f x), .int .i64 (r.n x), .string (r.s x), .slice (r.A x) (r.l x) (r.c x)]] y1 fun e y2 => ∃ f n s A l c, e = .returned (.agg #[.int .i64 f, .int .i64 n, .string s, .slice A l c]) ∧ TyAt (fun x => w.heap.size + 2 ≤ x ∧ x ≠ y.heap.size) y2 (ts[x]?.getD (.con ⟨#[]⟩)) (.agg #[.int .i64 f, .int .i64 n, .string s, .slice A l c]) ∧ Below W.heap.size W y2 ∧ Below y1.heap.size y1 y2) := fun y1 hb1 => by
      have hb := h3.trans (hb1.mono h3.size)
      refine (own_any _ _ _ _ ((hvals x).on hb)).mono ?_
      rintro e y2 ⟨v, rfl, hv, hb2⟩
      obtain ⟨f, n, s, A, l, c, rfl⟩ := hv.flat
      exact ⟨f, n, s, A, l, c, rfl, hv.mono (fun x hx => by have hx' : y1.heap.size ≤ x := hx; have := hb1.size; exact ⟨by omega, by omega⟩), hb1.trans (hb2.mono hb1.size), hb2⟩
    have HC3 : Hid (∀ (y2 : World) (f6 n6 : Int) (s6 : ByteArray) (A6 : Option Addr) (l6 c6 : Nat) (f7 n7 : Int) (s7 : ByteArray) (A7 : Option Addr) (l7 c7 : Nat), Below W.heap.size W y2 → TyAt (fun x => w.heap.size + 2 ≤ x ∧ x ≠ y.heap.size) y2 (.con ⟨#[45, 62]⟩) (.agg #[.int .i64 f6, .int .i64 n6, .string s6, .slice A6 l6 c6]) → TyAt (fun x => w.heap.size + 2 ≤ x ∧ x ≠ y.heap.size) y2 (ts[x]?.getD (.con ⟨#[]⟩)) (.agg #[.int .i64 f7, .int .i64 n7, .string s7, .slice A7 l7 c7]) →
        Calls Tryd.prog 103 #[.agg #[.int .i64 f6, .int .i64 n6, .string s6, .slice A6 l6 c6], .slice (some ⟨y2.heap.size, 0, none⟩) 2 2] (y2.alloc (.cells #[.int .i64 f7, .int .i64 n7, .string s7, .slice A7 l7 c7, .int .i64 f5, .int .i64 n5, .string s5, .slice A5 l5 c5] 25)) fun e y4 => ∃ f n s A l c, e = .returned (.agg #[.int .i64 f, .int .i64 n, .string s, .slice A l c]) ∧ TyAt (fun x => w.heap.size + 2 ≤ x ∧ x ≠ y.heap.size) y4 (foldF ts t (pre ++ [x])) (.agg #[.int .i64 f, .int .i64 n, .string s, .slice A l c]) ∧ Below W.heap.size W y4 ∧ Box4 y4 y.heap.size (.int .i64 f5) (.int .i64 n5) (.string s5) (.slice A5 l5 c5)) := by
      intro y2 f6 n6 s6 A6 l6 c6 f7 n7 s7 A7 l7 c7 hb h6 h7
      have hn := below_new y2 (.cells #[.int .i64 f7, .int .i64 n7, .string s7, .slice A7 l7 c7, .int .i64 f5, .int .i64 n5, .string s5, .slice A5 l5 c5] 25)
      have hz := hb.size
      have htw := (two_new h7 (ht5.on hb) 25 2 (Nat.le_refl _) (by unfold maxLen; omega)).mono (Q := fun x => w.heap.size + 2 ≤ x ∧ x ≠ y.heap.size) (fun q hq => by
        rcases hq with hq | hq
        · exact hq
        · exact ⟨by omega, by omega⟩)
      refine (give_any _ _ _ _ _ _ (h6.on hn) htw).mono ?_
      rintro e y4 ⟨v, rfl, hv, hb4⟩
      obtain ⟨f, n, s, A, l, c, rfl⟩ := hv.flat
      have hb5 := hb.trans ((hn.trans (hb4.mono hn.size)).mono hz)
      refine ⟨f, n, s, A, l, c, rfl, ?_, hb5, (k5.on hb5).four'⟩
      rw [foldF_snoc, ← funs_fn]
      refine hv.mono (fun q hq => ?_)
      rcases hq with hq | hq
      · exact hq
      · have : (y2.alloc (.cells #[.int .i64 f7, .int .i64 n7, .string s7, .slice A7 l7 c7, .int .i64 f5, .int .i64 n5, .string s5, .slice A5 l5 c5] 25)).heap.size = y2.heap.size + 1 := by simp
        exact ⟨by omega, by omega⟩
    have HBX := Lib.hid bx
    have HK5 := Lib.hid k5
    have hcx : ∀ y1, Below W.heap.size W y1 → (Bx < y1.heap.size ∧ y1.cell? ⟨Bx, 0, none⟩ = some (.int .i64 (r.f x)) ∧ y1.cell? ⟨Bx, 1, none⟩ = some (.int .i64 (r.n x)) ∧ y1.cell? ⟨Bx, 2, none⟩ = some (.string (r.s x)) ∧ y1.cell? ⟨Bx, 3, none⟩ = some (.slice (r.A x) (r.l x) (r.c x))) ∧ (y.heap.size < y1.heap.size ∧ y1.cell? ⟨y.heap.size, 0, none⟩ = some (.int .i64 f5) ∧ y1.cell? ⟨y.heap.size, 1, none⟩ = some (.int .i64 n5) ∧ y1.cell? ⟨y.heap.size, 2, none⟩ = some (.string s5) ∧ y1.cell? ⟨y.heap.size, 3, none⟩ = some (.slice A5 l5 c5)) := fun y1 hb => ⟨(bx.on hb).four, (k5.on hb).four⟩
    have HCX := Lib.hid hcx
    obtain ⟨⟨x0, x1, x2, x3, x4⟩, ⟨y0, y1, y2, y3, y4⟩⟩ := hcx W (Below.refl _ _)
    have HV := Lib.hid hvals
    have HH2 := Lib.hid h2
    have HH3 := Lib.hid h3
    have HH4 := Lib.hid h4
    clear hvals hcx bx k5 ht5 h2 h3 h4 hcX hcells hI0 rX bX kS hvX
    have HFIN : Hid (∀ (u3 : World) (f8 n8 : Int) (s8 : ByteArray) (A8 : Option Addr) (l8 c8 : Nat), TyAt (fun x => w.heap.size + 2 ≤ x ∧ x ≠ y.heap.size) u3 (foldF ts t (pre ++ [x])) (.agg #[.int .i64 f8, .int .i64 n8, .string s8, .slice A8 l8 c8]) → Below W.heap.size W u3 →
        (fun W' => KeepsFrom X.heap.size W W' ∧ KB w.heap.size (y.heap.size + 1) W W' ∧ (BoxT (fun x => w.heap.size + 2 ≤ x ∧ x ≠ y.heap.size) W' y.heap.size (foldF ts t (pre ++ [x])) ∧ BoxB W' (w.heap.size + 1) (.int .i64 0) (.int .i64 0) (.string ⟨#[]⟩) (.slice none 0 0)) ∧ (Below w.heap.size w W' ∧ (X.heap.size ≤ W'.heap.size ∧ Boxed W' (y.heap.size + 1) 23 (.slice A ts.length c))))
          ((((u3.setCell ⟨y.heap.size, 0, none⟩ (.int .i64 f8)).setCell ⟨y.heap.size, 1, none⟩ (.int .i64 n8)).setCell ⟨y.heap.size, 2, none⟩ (.string s8)).setCell ⟨y.heap.size, 3, none⟩ (.slice A8 l8 c8))) := by
      intro u3 f8 n8 s8 A8 l8 c8 ht hb
      have hzz : ((((u3.setCell ⟨y.heap.size, 0, none⟩ (.int .i64 f8)).setCell ⟨y.heap.size, 1, none⟩ (.int .i64 n8)).setCell ⟨y.heap.size, 2, none⟩ (.string s8)).setCell ⟨y.heap.size, 3, none⟩ (.slice A8 l8 c8)).heap.size = u3.heap.size := by simp
      have hz := hb.size
      refine ⟨⟨by omega, fun k o _ ho hc => ?_⟩, ⟨below_box (hb.mono HH3.out.size) (by omega) _ _ _ _, ?_⟩, ⟨⟨f8, n8, s8, A8, l8, c8, (HK5.out.on hb).put _ _ _ _, ht.keep (.box (fun h => h.2 rfl) _ _ _ _)⟩, ?_⟩, below_box (HH3.out.trans (hb.mono HH3.out.size)) (by omega) _ _ _ _, by have := HH4.out.1; omega, ?_⟩
      · have hne : k ≠ y.heap.size := fun e => by
          subst e
          rw [show W.heap[y.heap.size]? = _ from HK5.out] at ho
          cases ho; cases hc
        rw [box_block hne]
        exact (hb.block k (Array.getElem?_eq_some_iff.1 ho).1).trans ho
      · rw [box_block (by omega)]; exact hb.block _ (by omega)
      · unfold BoxB; rw [box_block (by omega)]; exact HH2.out.on hb
      · unfold Boxed; rw [box_block (by omega)]; exact (hb.block _ (by omega)).trans HH4.out.2
    have hmo : Tryd.prog.follows Departure.mixedOrders = true := by kernel_rfl
    gi_wp2_with fail
    gi_region_with_o (first | (refine ⟨trivial, ?_⟩; gi_at_call 63; refine (CallsIn.inRound l (callsIn_wide.2 HC1.out)).mono ?_; rintro e u1 ⟨f6, n6, s6, A6, l6, c6, rfl, ht6, hb6⟩; obtain ⟨⟨xa0, xa1, xa2, xa3, xa4⟩, ⟨ya0, ya1, ya2, ya3, ya4⟩⟩ := HCX.out u1 hb6) | (refine ⟨trivial, ?_⟩; gi_at_call 64; refine (CallsIn.inRound l (callsIn_wide.2 (HC2.out _ hb6))).mono ?_; rintro e u2 ⟨f7, n7, s7, A7, l7, c7, rfl, ht7, hb7, hb67⟩; obtain ⟨⟨xb0, xb1, xb2, xb3, xb4⟩, ⟨yb0, yb1, yb2, yb3, yb4⟩⟩ := HCX.out u2 hb7) | (refine ⟨trivial, ?_⟩; gi_at_call 103; refine (CallsIn.inRound l (callsIn_wide.2 (HC3.out _ _ _ _ _ _ _ _ _ _ _ _ _ hb7 (ht6.on hb67) ht7))).mono ?_; rintro e u3 ⟨f8, n8, s8, A8, l8, c8, rfl, ht8, hb8, ⟨z0, z1, z2, z3, z4, z5, z6, z7, z8⟩⟩))
    all_goals exact HFIN.out _ _ _ _ _ _ _ ht8 hb8
  case done =>
    rintro D zs W hD rfl ⟨⟨h1, h2⟩, h3, h4⟩ hK
    rw [foldF_dn ts t _ (Nat.le_refl _)] at h1
    simp only [Nat.sub_self, List.drop_zero] at h1
    obtain ⟨f5, n5, s5, A5, l5, c5, k5, ht5⟩ := h1
    obtain ⟨y0, y1, y2, y3, y4⟩ := k5.four
    obtain ⟨z0, z1, z2, z3, z4, z5, z6, z7, z8⟩ := h2.four'
    gi_wp2
    have hDne : D ≠ w.heap.size + 1 := by omega
    have hK' := (box_block (y := W) hDne (.int .i64 f5) (.int .i64 n5) (.string s5) (.slice A5 l5 c5)).trans hK
    have hbox := h2.put (.int .i64 f5) (.int .i64 n5) (.string s5) (.slice A5 l5 c5)
    have hty := ht5.keep (.box (w := W) (b := w.heap.size + 1) (fun h => by have := h.1; omega) (.int .i64 f5) (.int .i64 n5) (.string s5) (.slice A5 l5 c5))
    have hbel := below_box h3 (b := w.heap.size + 1) (by omega) (.int .i64 f5) (.int .i64 n5) (.string s5) (.slice A5 l5 c5)
    refine ⟨by simp, .inl ⟨_, _, rfl, run_takeDeferred hK', ?_⟩⟩
    generalize (((W.setCell ⟨w.heap.size + 1, 0, none⟩ (.int .i64 f5)).setCell ⟨w.heap.size + 1, 1, none⟩ (.int .i64 n5)).setCell ⟨w.heap.size + 1, 2, none⟩ (.string s5)).setCell ⟨w.heap.size + 1, 3, none⟩ (.slice A5 l5 c5) = V at *
    have hty2 := hty.some (w' := V.putObj D (.deferred none)) (grownBy_putObj' V D (.deferred none)).size (fun b off u _ hu => cell_kept hu (grownBy_putObj' V D (.deferred none)) (fun r e => by cases e; exact ⟨_, hK', rfl⟩))
    have hbox2 : BoxB (V.putObj D (.deferred none)) (w.heap.size + 1) (.int .i64 f5) (.int .i64 n5) (.string s5) (.slice A5 l5 c5) := (World.putObj_heap_other (by omega)).trans hbox
    have hbel2 := hbel.trans (belowK_b (w := w) (Nat.le_refl _) V D _ (.deferred none) (by omega) hK' rfl rfl)
    generalize V.putObj D (.deferred none) = V2 at *
    obtain ⟨v0, v1, v2, v3, v4⟩ := hbox2.four
    exact ⟨.agg #[.int .i64 f5, .int .i64 n5, .string s5, .slice A5 l5 c5], by simp [results, Tryd.results60, go_sem, v1, v2, v3, v4], _, rfl, hty2.mono (fun x hx => (by have := hx.1; omega : w.heap.size ≤ x)), hbel2⟩
  case stop =>
    rintro D c pre W _ _ h _
    exact h.elim
end Go.Proofs.YtbdfjboojokgdaaDoor
