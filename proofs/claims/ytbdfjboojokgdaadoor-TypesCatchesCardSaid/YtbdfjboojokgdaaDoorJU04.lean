/- The contracts of types.applied, arrow, sides and bare. No conditions but those that each theorem names. -/
import Derived.Test.YtbdfjboojokgdaaDoorJU03
namespace Go.Proofs.YtbdfjboojokgdaaDoor
open Go.RowKit

def Ty.isApp : Ty → Bool
  | .app _ _ => true | _ => false
/-- Is a type the constructor of functions' types? -/
def Ty.isArrow : Ty → Bool
  | .con s => s == ⟨#[45, 62]⟩ | _ => false
def arrowS : ByteArray := ⟨#[45, 62]⟩
/-- What a function's type leads from, and to. -/
def Ty.sides : Ty → Option (Ty × Ty)
  | .app (.app f a) b => if f.isArrow then some (a, b) else none
  | _ => none
def Ty.fn (a b : Ty) : Ty := .app (.app (.con ⟨#[45, 62]⟩) a) b
theorem arrow_eq (s : ByteArray) : (s == (⟨#[45, 62]⟩ : ByteArray)) = true ↔ s = ⟨#[45, 62]⟩ := by
  constructor
  · intro h
    cases s with
    | mk d =>
      have h' : (d == #[45, 62]) = true := h
      rw [beq_iff_eq] at h'
      rw [h']
  · intro h; rw [h]; decide
set_option maxRecDepth 100000 in
set_option maxHeartbeats 1000000 in
theorem applied_any (P : Nat → Prop) (t : Ty) (v : Value) (w : World) (h : TyAt P w t v) : Calls Tryd.prog 111 #[v] w fun e w' => e = .returned (.bool t.isApp) ∧ Below w.heap.size w w' := by
  obtain ⟨A, c, rfl, _, _⟩ := h.form
  clear h
  cases t <;> simp only [Ty.form, Ty.num, Ty.name, Ty.args, Ty.isApp, List.length_cons, List.length_nil]
  all_goals
    go_enter Tryd.func111, Tryd.ntmps111
    go_wp2
    go_ret
    exact ⟨rfl, below_new w _⟩
theorem beq_lists {a b : ByteArray} {q : Bool} (h : (a == b) = q) : (a.toList == b.toList) = q := by
  have h' : (a.data == b.data) = q := h
  rw [Lib.toList_data, Lib.toList_data]
  cases q with
  | true => rw [beq_iff_eq] at h' ⊢; rw [h']
  | false => rw [beq_eq_false_iff_ne] at h' ⊢; exact fun e => h' (Array.toList_inj.1 e)
theorem list_arrow (s : ByteArray) : (s == (⟨#[45, 62]⟩ : ByteArray)) = (s.toList == [45, 62]) := by
  have h := beq_lists (a := s) (b := ⟨#[45, 62]⟩) rfl
  rw [← h]
  have e : (⟨#[45, 62]⟩ : ByteArray).toList = [45, 62] := by rw [Lib.toList_data]
  rw [e]
set_option maxRecDepth 100000 in
set_option maxHeartbeats 1000000 in
theorem arrow_any (P : Nat → Prop) (t : Ty) (v : Value) (w : World) (h : TyAt P w t v) : Calls Tryd.prog 112 #[v] w fun e w' => e = .returned (.bool t.isArrow) ∧ Below w.heap.size w w' := by
  obtain ⟨A, c, rfl, _, _⟩ := h.form
  clear h
  cases t <;> simp only [Ty.form, Ty.num, Ty.name, Ty.args, Ty.isArrow, List.length_cons, List.length_nil]
  all_goals
    go_enter Tryd.func112, Tryd.ntmps112
    go_wp2
    go_ret
    first | exact ⟨rfl, below_new w _⟩ | exact ⟨ret_bool (list_arrow _).symm, below_new w _⟩
/-- What sides told: both sides, in the memory of what was handed in. -/
def SidesRes (P : Nat → Prop) (w : World) (t : Ty) (e : Ending) (w' : World) : Prop := Below w.heap.size w w' ∧
  ((t.sides = none ∧ e = .returned (.tuple #[.agg #[.int .i64 0, .int .i64 0, .string ⟨#[]⟩, .slice none 0 0], .agg #[.int .i64 0, .int .i64 0, .string ⟨#[]⟩, .slice none 0 0], .bool false])) ∨
   ∃ (a b : Ty) (f1 n1 : Int) (s1 : ByteArray) (A1 : Option Addr) (l1 c1 : Nat) (f2 n2 : Int) (s2 : ByteArray) (A2 : Option Addr) (l2 c2 : Nat), t.sides = some (a, b) ∧ e = .returned (.tuple #[.agg #[.int .i64 f1, .int .i64 n1, .string s1, .slice A1 l1 c1], .agg #[.int .i64 f2, .int .i64 n2, .string s2, .slice A2 l2 c2], .bool true]) ∧
     TyAt P w' a (.agg #[.int .i64 f1, .int .i64 n1, .string s1, .slice A1 l1 c1]) ∧ TyAt P w' b (.agg #[.int .i64 f2, .int .i64 n2, .string s2, .slice A2 l2 c2]))
theorem sides_leaf {t : Ty} (h : t.isApp = false) : t.sides = none := by cases t <;> first | rfl | cases h
theorem three_boxes (w : World) (a0 a1 a2 a3 b0 b1 b2 b3 c0 c1 c2 c3 : Value) (t1 t2 t3 : TypeId) : ∃ W, ((w.alloc (.cells #[a0, a1, a2, a3] t1)).alloc (.cells #[b0, b1, b2, b3] t2)).alloc (.cells #[c0, c1, c2, c3] t3) = W ∧
    Box4 W w.heap.size a0 a1 a2 a3 ∧ Box4 W (w.heap.size + 1) b0 b1 b2 b3 ∧ Box4 W (w.heap.size + 1 + 1) c0 c1 c2 c3 ∧ Below w.heap.size w W ∧ W.heap.size = w.heap.size + 3 := by
  refine ⟨_, rfl, ?_, ?_, ?_, below3 w _ _ _, by simp⟩
  · exact ((Box4.new w a0 a1 a2 a3 t1).on (below_new _ _)).on (below_new _ _)
  · have h := (Box4.new (w.alloc (.cells #[a0, a1, a2, a3] t1)) b0 b1 b2 b3 t2).on (below_new _ (.cells #[c0, c1, c2, c3] t3))
    simp only [World.size_alloc] at h; exact h
  · have h := Box4.new ((w.alloc (.cells #[a0, a1, a2, a3] t1)).alloc (.cells #[b0, b1, b2, b3] t2)) c0 c1 c2 c3 t3
    simp only [World.size_alloc] at h; exact h
theorem two_boxes (w : World) (a0 a1 a2 a3 b0 b1 b2 b3 : Value) (t1 t2 : TypeId) : ∃ W, (w.alloc (.cells #[a0, a1, a2, a3] t1)).alloc (.cells #[b0, b1, b2, b3] t2) = W ∧
    Box4 W w.heap.size a0 a1 a2 a3 ∧ Box4 W (w.heap.size + 1) b0 b1 b2 b3 ∧ Below w.heap.size w W ∧ W.heap.size = w.heap.size + 2 := by
  refine ⟨_, rfl, ?_, ?_, below2 w _ _, by simp⟩
  · exact (Box4.new w a0 a1 a2 a3 t1).on (below_new _ _)
  · have h := Box4.new (w.alloc (.cells #[a0, a1, a2, a3] t1)) b0 b1 b2 b3 t2
    simp only [World.size_alloc] at h; exact h
theorem one_box (w : World) (a0 a1 a2 a3 : Value) (t1 : TypeId) : ∃ W, w.alloc (.cells #[a0, a1, a2, a3] t1) = W ∧ Box4 W w.heap.size a0 a1 a2 a3 ∧ Below w.heap.size w W ∧ W.heap.size = w.heap.size + 1 :=
  ⟨_, rfl, Box4.new w a0 a1 a2 a3 t1, below_new w _, by simp⟩
def zTy : Value := .agg #[.int .i64 0, .int .i64 0, .string ⟨#[]⟩, .slice none 0 0]
set_option maxRecDepth 100000 in
set_option maxHeartbeats 1000000 in
theorem sides_any (P : Nat → Prop) (t : Ty) (v : Value) (w : World) (h : TyAt P w t v) : Calls Tryd.prog 110 #[v] w (SidesRes P w t) := by
  obtain ⟨f1, n1, s1, A1, l1, c1, rfl⟩ := h.flat
  have HC := Lib.hid (fun (w' : World) (hb : Below w.heap.size w w') => applied_any P t _ w' (h.on hb))
  obtain ⟨W, eW, q1, q2, q3, b3, z3⟩ := three_boxes w (.int .i64 f1) (.int .i64 n1) (.string s1) (.slice A1 l1 c1) (.int .i64 0) (.int .i64 0) (.string ⟨#[]⟩) (.slice none 0 0) (.int .i64 0) (.int .i64 0) (.string ⟨#[]⟩) (.slice none 0 0) 25 25 25
  have HEW := Lib.hid eW
  have HQ1 := Lib.hid q1
  have HQ2 := Lib.hid q2
  have HQ3 := Lib.hid q3
  have HB3 := Lib.hid b3
  clear eW q1 q2 q3 b3
  by_cases hap : t.isApp = true
  · obtain ⟨x, b, rfl⟩ : ∃ x b, t = .app x b := by cases t <;> first | exact ⟨_, _, rfl⟩ | cases hap
    obtain ⟨A, c, e9, _, _⟩ := h.form
    simp only [Ty.form, Ty.num, Ty.name, Ty.args, List.length_cons, List.length_nil, Value.agg.injEq, Array.mk.injEq, List.cons.injEq, Value.int.injEq, Value.string.injEq, Value.slice.injEq, true_and, and_true] at e9
    obtain ⟨rfl, rfl, rfl, rfl, rfl, rfl⟩ := e9
    obtain ⟨sv, esv, hs⟩ := h.tys
    simp only [Ty.form, Ty.num, Ty.name, Ty.args, Value.agg.injEq, Array.mk.injEq, List.cons.injEq, true_and, and_true] at esv hs
    subst esv
    obtain ⟨g, off, A3, c3, rfl, hPg, hgl, k0, k1, k2, k3, hx⟩ := hs.at 0 (by simp)
    obtain ⟨_, _, A4, c4, e4, _, _, m0, m1, m2, m3, hb⟩ := hs.at 1 (by simp)
    injection e4 with e4
    injection e4 with e5 e6
    subst e5 e6
    simp only [List.getElem_cons_zero, List.getElem_cons_succ, Nat.zero_mul, Nat.one_mul, Nat.add_zero] at k0 k1 k2 k3 m0 m1 m2 m3 hx hb
    have HX := Lib.hid hx
    have HBT := Lib.hid hb
    have HKS := Lib.hid (show w.cell? ⟨g, off, none⟩ = some (.int .i64 x.form) ∧ w.cell? ⟨g, off + 1, none⟩ = some (.int .i64 x.num) ∧ w.cell? ⟨g, off + 2, none⟩ = some (.string x.name) ∧ w.cell? ⟨g, off + 3, none⟩ = some (.slice A3 x.args.length c3) from ⟨k0, k1, k2, k3⟩)
    have HMS := Lib.hid (show w.cell? ⟨g, off + 4, none⟩ = some (.int .i64 b.form) ∧ w.cell? ⟨g, off + 4 + 1, none⟩ = some (.int .i64 b.num) ∧ w.cell? ⟨g, off + 4 + 2, none⟩ = some (.string b.name) ∧ w.cell? ⟨g, off + 4 + 3, none⟩ = some (.slice A4 b.args.length c4) from ⟨m0, m1, m2, m3⟩)
    rw [hap] at HC
    have HC2 := Lib.hid (fun (w' : World) (hb : Below w.heap.size w w') => applied_any P x _ w' (hx.on hb))
    clear hx hb hs h k0 k1 k2 k3 m0 m1 m2 m3 hap
    by_cases hap : x.isApp = true
    · obtain ⟨f, a, rfl⟩ : ∃ f a, x = .app f a := by cases x <;> first | exact ⟨_, _, rfl⟩ | cases hap
      rw [hap] at HC2
      obtain ⟨sv, esv, hs⟩ := HX.out.tys
      simp only [Ty.form, Ty.num, Ty.name, Ty.args, Value.agg.injEq, Array.mk.injEq, List.cons.injEq, true_and, and_true] at esv hs
      subst esv
      obtain ⟨g3, off3, A5, c5, e5, hP3, hg3, k0, k1, k2, k3, hf⟩ := hs.at 0 (by simp)
      subst e5
      obtain ⟨_, _, A6, c6, e6, _, _, m0, m1, m2, m3, ha⟩ := hs.at 1 (by simp)
      injection e6 with e6
      injection e6 with e7 e8
      subst e7 e8
      simp only [List.getElem_cons_zero, List.getElem_cons_succ, Nat.zero_mul, Nat.one_mul, Nat.add_zero] at k0 k1 k2 k3 m0 m1 m2 m3 hf ha
      have HFS := Lib.hid (show w.cell? ⟨g3, off3, none⟩ = some (.int .i64 f.form) ∧ w.cell? ⟨g3, off3 + 1, none⟩ = some (.int .i64 f.num) ∧ w.cell? ⟨g3, off3 + 2, none⟩ = some (.string f.name) ∧ w.cell? ⟨g3, off3 + 3, none⟩ = some (.slice A5 f.args.length c5) from ⟨k0, k1, k2, k3⟩)
      have HAS := Lib.hid (show w.cell? ⟨g3, off3 + 4, none⟩ = some (.int .i64 a.form) ∧ w.cell? ⟨g3, off3 + 4 + 1, none⟩ = some (.int .i64 a.num) ∧ w.cell? ⟨g3, off3 + 4 + 2, none⟩ = some (.string a.name) ∧ w.cell? ⟨g3, off3 + 4 + 3, none⟩ = some (.slice A6 a.args.length c6) from ⟨m0, m1, m2, m3⟩)
      have HAT := Lib.hid ha
      have HC3 := Lib.hid (fun (w' : World) (hb : Below w.heap.size w w') => arrow_any P f _ w' (hf.on hb))
      clear hf ha hs k0 k1 k2 k3 m0 m1 m2 m3 hap HX
      have HKS' : Hid (w.cell? ⟨g, off, none⟩ = some (.int .i64 4) ∧ w.cell? ⟨g, off + 1, none⟩ = some (.int .i64 0) ∧ w.cell? ⟨g, off + 2, none⟩ = some (.string ⟨#[]⟩) ∧ w.cell? ⟨g, off + 3, none⟩ = some (.slice (some ⟨g3, off3, none⟩) 2 c3)) := HKS
      have HC2' : Hid (∀ w', Below w.heap.size w w' → Calls Tryd.prog 111 #[.agg #[.int .i64 4, .int .i64 0, .string ⟨#[]⟩, .slice (some ⟨g3, off3, none⟩) 2 c3]] w' fun e w'' => e = .returned (.bool true) ∧ Below w'.heap.size w' w'') := HC2
      clear HKS HC2
      by_cases har : f.isArrow = true
      · rw [har] at HC3
        have HN : Hid ((Ty.app (.app f a) b).sides = some (a, b)) := by show (if f.isArrow then some (a, b) else none) = _; rw [har]; rfl
        clear har
        generalize f.form = ff, f.num = fn', f.name = fs, f.args.length = fl at *
        generalize a.form = af, a.num = an, a.name = az, a.args.length = al at *
        generalize b.form = bf, b.num = bn, b.name = bs, b.args.length = bl at *
        go_enter Tryd.func110, Tryd.ntmps110
        go_wp2_with fail
        rw [HEW.out]
        refine (HC.out _ HB3.out).mono ?_
        rintro e y ⟨rfl, hb⟩
        have hby := HB3.out.trans (hb.mono HB3.out.size)
        obtain ⟨x0, x1, x2, x3, x4, x5, x6, x7, x8⟩ := HQ1.out.on hb
        obtain ⟨j0, j1, j2, j3⟩ := HKS'.out
        have j0' := (hby.cell (p := ⟨g, off, none⟩) hgl).trans j0
        have j1' := (hby.cell (p := ⟨g, off + 1, none⟩) hgl).trans j1
        have j2' := (hby.cell (p := ⟨g, off + 2, none⟩) hgl).trans j2
        have j3' := (hby.cell (p := ⟨g, off + 3, none⟩) hgl).trans j3
        have HB := Lib.hid hb
        have HBY := Lib.hid hby
        clear hb hby j0 j1 j2 j3
        go_wp2_with fail
        refine (HC2'.out _ HBY.out).mono ?_
        rintro e y' ⟨rfl, hb⟩
        have hwy := HB.out.trans (hb.mono HB.out.size)
        have hbz := HBY.out.trans (hb.mono HBY.out.size)
        clear x0 x1 x2 x3 x4 x5 x6 x7 x8 j0' j1' j2' j3'
        obtain ⟨x0, x1, x2, x3, x4, x5, x6, x7, x8⟩ := HQ1.out.on hwy
        obtain ⟨j0, j1, j2, j3⟩ := HKS'.out
        have j3' := (hbz.cell (p := ⟨g, off + 3, none⟩) hgl).trans j3
        obtain ⟨i0, i1, i2, i3⟩ := HFS.out
        have i0' := (hbz.cell (p := ⟨g3, off3, none⟩) hg3).trans i0
        have i1' := (hbz.cell (p := ⟨g3, off3 + 1, none⟩) hg3).trans i1
        have i2' := (hbz.cell (p := ⟨g3, off3 + 2, none⟩) hg3).trans i2
        have i3' := (hbz.cell (p := ⟨g3, off3 + 3, none⟩) hg3).trans i3
        have HWY := Lib.hid hwy
        have HBZ := Lib.hid hbz
        clear hb hwy hbz j0 j1 j2 j3 i0 i1 i2 i3
        go_wp2_with fail
        refine (HC3.out _ HBZ.out).mono ?_
        rintro e u ⟨rfl, hb⟩
        have hwu := HWY.out.trans (hb.mono HWY.out.size)
        have hbu := HBZ.out.trans (hb.mono HBZ.out.size)
        clear x0 x1 x2 x3 x4 x5 x6 x7 x8 j3' i0' i1' i2' i3'
        obtain ⟨x0, x1, x2, x3, x4, x5, x6, x7, x8⟩ := HQ1.out.on hwu
        obtain ⟨y0, y1, y2, y3, y4, y5, y6, y7, y8⟩ := HQ2.out.on hwu
        obtain ⟨z0, z1, z2, z3, z4, z5, z6, z7, z8⟩ := HQ3.out.on hwu
        obtain ⟨j0, j1, j2, j3⟩ := HKS'.out
        have j3' := (hbu.cell (p := ⟨g, off + 3, none⟩) hgl).trans j3
        obtain ⟨i0, i1, i2, i3⟩ := HAS.out
        have i0' := (hbu.cell (p := ⟨g3, off3 + 4, none⟩) hg3).trans i0
        have i1' := (hbu.cell (p := ⟨g3, off3 + 4 + 1, none⟩) hg3).trans i1
        have i2' := (hbu.cell (p := ⟨g3, off3 + 4 + 2, none⟩) hg3).trans i2
        have i3' := (hbu.cell (p := ⟨g3, off3 + 4 + 3, none⟩) hg3).trans i3
        obtain ⟨m0, m1, m2, m3⟩ := HMS.out
        have m0' := (hbu.cell (p := ⟨g, off + 4, none⟩) hgl).trans m0
        have m1' := (hbu.cell (p := ⟨g, off + 4 + 1, none⟩) hgl).trans m1
        have m2' := (hbu.cell (p := ⟨g, off + 4 + 2, none⟩) hgl).trans m2
        have m3' := (hbu.cell (p := ⟨g, off + 4 + 3, none⟩) hgl).trans m3
        have HBU := Lib.hid hbu
        clear hb hwu hbu j0 j1 j2 j3 i0 i1 i2 i3 m0 m1 m2 m3
        have HYZ := Lib.hid (show Box4 u (w.heap.size + 1) (.int .i64 0) (.int .i64 0) (.string ⟨#[]⟩) (.slice none 0 0) ∧ Box4 u (w.heap.size + 1 + 1) (.int .i64 0) (.int .i64 0) (.string ⟨#[]⟩) (.slice none 0 0) from ⟨⟨y0, y1, y2, y3, y4, y5, y6, y7, y8⟩, ⟨z0, z1, z2, z3, z4, z5, z6, z7, z8⟩⟩)
        go_wp2_with fail
        go_region
        go_wp2
        have hfin : ∀ {t : Ty} {v : Value}, TyAt P w t v → TyAt P ((((((((u.setCell ⟨w.heap.size + 1, 0, none⟩ (.int .i64 af)).setCell ⟨w.heap.size + 1, 1, none⟩ (.int .i64 an)).setCell ⟨w.heap.size + 1, 2, none⟩ (.string az)).setCell ⟨w.heap.size + 1, 3, none⟩ (.slice A6 al c6)).setCell ⟨w.heap.size + 1 + 1, 0, none⟩ (.int .i64 bf)).setCell ⟨w.heap.size + 1 + 1, 1, none⟩ (.int .i64 bn)).setCell ⟨w.heap.size + 1 + 1, 2, none⟩ (.string bs)).setCell ⟨w.heap.size + 1 + 1, 3, none⟩ (.slice A4 bl c4)).drew t v := fun h =>
          ((((h.bound.on HBU.out).keep (.box (fun hx => by have := hx.2; omega) _ _ _ _)).keep (.box (fun hx => by have := hx.2; omega) _ _ _ _)).on (Below.refl _ _).drew).mono (fun x hx => hx.1)
        exact bodyPost_ret (v := .tuple #[.agg #[.int .i64 af, .int .i64 an, .string az, .slice A6 al c6], .agg #[.int .i64 bf, .int .i64 bn, .string bs, .slice A4 bl c4], .bool true]) (by simp [results, Tryd.results110, go_sem, y1, y2, y3, y4, z1, z2, z3, z4]) rfl
          ⟨(below_box (below_box HBU.out (by omega) _ _ _ _) (by omega) _ _ _ _).drew, .inr ⟨a, b, _, _, _, _, _, _, _, _, _, _, _, _, HN.out, rfl, hfin HAT.out, hfin HBT.out⟩⟩
      · have har' : f.isArrow = false := by simpa using har
        rw [har'] at HC3
        have HN : Hid ((Ty.app (.app f a) b).sides = none) := by show (if f.isArrow then some (a, b) else none) = _; rw [har']; rfl
        clear har har'
        generalize f.form = ff, f.num = fn', f.name = fs, f.args.length = fl at *
        go_enter Tryd.func110, Tryd.ntmps110
        go_wp2_with fail
        rw [HEW.out]
        refine (HC.out _ HB3.out).mono ?_
        rintro e y ⟨rfl, hb⟩
        have hby := HB3.out.trans (hb.mono HB3.out.size)
        obtain ⟨x0, x1, x2, x3, x4, x5, x6, x7, x8⟩ := HQ1.out.on hb
        obtain ⟨j0, j1, j2, j3⟩ := HKS'.out
        have j0' := (hby.cell (p := ⟨g, off, none⟩) hgl).trans j0
        have j1' := (hby.cell (p := ⟨g, off + 1, none⟩) hgl).trans j1
        have j2' := (hby.cell (p := ⟨g, off + 2, none⟩) hgl).trans j2
        have j3' := (hby.cell (p := ⟨g, off + 3, none⟩) hgl).trans j3
        have HB := Lib.hid hb
        have HBY := Lib.hid hby
        clear hb hby j0 j1 j2 j3
        go_wp2_with fail
        refine (HC2'.out _ HBY.out).mono ?_
        rintro e y' ⟨rfl, hb⟩
        have hwy := HB.out.trans (hb.mono HB.out.size)
        have hbz := HBY.out.trans (hb.mono HBY.out.size)
        clear x0 x1 x2 x3 x4 x5 x6 x7 x8 j0' j1' j2' j3'
        obtain ⟨x0, x1, x2, x3, x4, x5, x6, x7, x8⟩ := HQ1.out.on hwy
        obtain ⟨j0, j1, j2, j3⟩ := HKS'.out
        have j3' := (hbz.cell (p := ⟨g, off + 3, none⟩) hgl).trans j3
        obtain ⟨i0, i1, i2, i3⟩ := HFS.out
        have i0' := (hbz.cell (p := ⟨g3, off3, none⟩) hg3).trans i0
        have i1' := (hbz.cell (p := ⟨g3, off3 + 1, none⟩) hg3).trans i1
        have i2' := (hbz.cell (p := ⟨g3, off3 + 2, none⟩) hg3).trans i2
        have i3' := (hbz.cell (p := ⟨g3, off3 + 3, none⟩) hg3).trans i3
        have HWY := Lib.hid hwy
        have HBZ := Lib.hid hbz
        clear hb hwy hbz j0 j1 j2 j3 i0 i1 i2 i3
        go_wp2_with fail
        refine (HC3.out _ HBZ.out).mono ?_
        rintro e u ⟨rfl, hb⟩
        have hwu := HWY.out.trans (hb.mono HWY.out.size)
        have hbu := HBZ.out.trans (hb.mono HBZ.out.size)
        obtain ⟨y0, y1, y2, y3, y4, y5, y6, y7, y8⟩ := HQ2.out.on hwu
        obtain ⟨z0, z1, z2, z3, z4, z5, z6, z7, z8⟩ := HQ3.out.on hwu
        have HBU := Lib.hid hbu
        clear hb hwu hbu
        go_wp2
        exact bodyPost_ret (v := .tuple #[zTy, zTy, .bool false]) (by simp [results, Tryd.results110, go_sem, zTy, y1, y2, y3, y4, z1, z2, z3, z4]) rfl ⟨below_box (below_box HBU.out (by omega) _ _ _ _) (by omega) _ _ _ _, .inl ⟨HN.out, rfl⟩⟩
    · have hap' : x.isApp = false := by simpa using hap
      have HN : Hid ((Ty.app x b).sides = none) := by show _ = _; cases x <;> first | rfl | cases hap'
      rw [hap'] at HC2
      clear hap hap'
      generalize x.form = xf, x.num = xn, x.name = xs, x.args.length = xl at *
      go_enter Tryd.func110, Tryd.ntmps110
      go_wp2_with fail
      rw [HEW.out]
      refine (HC.out _ HB3.out).mono ?_
      rintro e y ⟨rfl, hb⟩
      have hby := HB3.out.trans (hb.mono HB3.out.size)
      obtain ⟨x0, x1, x2, x3, x4, x5, x6, x7, x8⟩ := HQ1.out.on hb
      obtain ⟨j0, j1, j2, j3⟩ := HKS.out
      have j0' := (hby.cell (p := ⟨g, off, none⟩) hgl).trans j0
      have j1' := (hby.cell (p := ⟨g, off + 1, none⟩) hgl).trans j1
      have j2' := (hby.cell (p := ⟨g, off + 2, none⟩) hgl).trans j2
      have j3' := (hby.cell (p := ⟨g, off + 3, none⟩) hgl).trans j3
      have HB := Lib.hid hb
      have HBY := Lib.hid hby
      clear hb hby j0 j1 j2 j3
      go_wp2_with fail
      refine (HC2.out _ HBY.out).mono ?_
      rintro e y' ⟨rfl, hb⟩
      have hwy := HB.out.trans (hb.mono HB.out.size)
      obtain ⟨y0, y1, y2, y3, y4, y5, y6, y7, y8⟩ := HQ2.out.on hwy
      obtain ⟨z0, z1, z2, z3, z4, z5, z6, z7, z8⟩ := HQ3.out.on hwy
      have HBF := Lib.hid (HBY.out.trans (hb.mono HBY.out.size))
      clear hb hwy
      go_wp2
      exact bodyPost_ret (v := .tuple #[zTy, zTy, .bool false]) (by simp [results, Tryd.results110, go_sem, zTy, y1, y2, y3, y4, z1, z2, z3, z4]) rfl ⟨below_box (below_box HBF.out (by omega) _ _ _ _) (by omega) _ _ _ _, .inl ⟨HN.out, rfl⟩⟩
  · have hap' : t.isApp = false := by simpa using hap
    have HN := Lib.hid (sides_leaf hap')
    rw [hap'] at HC
    clear h hap hap'
    go_enter Tryd.func110, Tryd.ntmps110
    go_wp2_with fail
    rw [HEW.out]
    refine (HC.out _ HB3.out).mono ?_
    rintro e y ⟨rfl, hb⟩
    obtain ⟨y0, y1, y2, y3, y4, y5, y6, y7, y8⟩ := HQ2.out.on hb
    obtain ⟨z0, z1, z2, z3, z4, z5, z6, z7, z8⟩ := HQ3.out.on hb
    have HB := Lib.hid (HB3.out.trans (hb.mono HB3.out.size))
    clear hb
    go_wp2
    exact bodyPost_ret (v := .tuple #[zTy, zTy, .bool false]) (by simp [results, Tryd.results110, go_sem, zTy, y1, y2, y3, y4, z1, z2, z3, z4]) rfl ⟨below_box (below_box HB.out (by omega) _ _ _ _) (by omega) _ _ _ _, .inl ⟨HN.out, rfl⟩⟩
end Go.Proofs.YtbdfjboojokgdaaDoor
