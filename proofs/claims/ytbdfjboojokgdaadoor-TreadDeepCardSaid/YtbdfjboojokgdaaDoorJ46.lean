/- The contract of the document's Function (chapter 4): is a type a function's? No conditions but those that each theorem names. The contracts of the document's bracket, Decimal (of one digit) and Print of types (chapter 4): the small cases. Conditions: the print has at most 2^40 bytes; numbers of what is not known are 0 to 9. The contract of the document's Print of types (chapter 4). Conditions: the print has at most 2^40 bytes; numbers of what is not known are 0 to 9. -/
import Derived.Test.YtbdfjboojokgdaaDoorLook
import Derived.Test.YtbdfjboojokgdaaDoorPrInj
import Derived.Test.YtbdfjboojokgdaaDoorWrite
import Derived.Deep.RegionHeld3
namespace Go.Proofs.YtbdfjboojokgdaaDoor
open Go.RowKit

theorem isArrow_con {f : Ty} (h : f.isArrow = true) : f = .con ⟨#[45, 62]⟩ := by
  cases f with
  | con s => rw [(arrow_eq s).1 h]
  | _ => cases h
theorem sides_fn {t a b : Ty} (h : t.sides = some (a, b)) : t = Ty.fn a b := by
  unfold Ty.sides at h
  split at h
  · split at h
    · rename_i hf
      simp only [Option.some.injEq, Prod.mk.injEq] at h
      obtain ⟨rfl, rfl⟩ := h
      rw [isArrow_con hf]; rfl
    · cases h
  · cases h
set_option maxRecDepth 100000 in
set_option maxHeartbeats 1000000 in
theorem function_any (P : Nat → Prop) (t : Ty) (v : Value) (w : World) (h : TyAt P w t v) : Calls Tryd.prog 75 #[v] w fun e w' => e = .returned (.bool t.sides.isSome) ∧ Below w.heap.size w w' := by
  by_cases hap : t.isApp = true
  · obtain ⟨x, b, rfl⟩ : ∃ x b, t = .app x b := by cases t <;> first | exact ⟨_, _, rfl⟩ | cases hap
    obtain ⟨sv, rfl, hs⟩ := h.tys
    simp only [Ty.form, Ty.num, Ty.name, Ty.args] at hs ⊢
    obtain ⟨A, c, rfl, _, _⟩ := hs.form
    obtain ⟨g, off, A3, c3, rfl, hPg, hgl, k0, k1, k2, k3, hx⟩ := hs.at 0 (by simp)
    simp only [List.getElem_cons_zero, Nat.zero_mul, Nat.add_zero, List.length_cons, List.length_nil, Nat.zero_add, Nat.reduceAdd] at k0 k1 k2 k3 hx ⊢
    clear h hs hap
    by_cases hax : x.isApp = true
    · obtain ⟨f, a, rfl⟩ : ∃ f a, x = .app f a := by cases x <;> first | exact ⟨_, _, rfl⟩ | cases hax
      obtain ⟨sv, esv, hs⟩ := hx.tys
      simp only [Ty.form, Ty.num, Ty.name, Ty.args, Value.agg.injEq, Array.mk.injEq, List.cons.injEq, true_and, and_true, List.length_cons, List.length_nil, Nat.zero_add, Nat.reduceAdd] at esv hs k0 k1 k2 k3
      subst esv
      obtain ⟨g3, off3, A5, c5, e5, hP3, hg3, m0, m1, m2, m3, hf⟩ := hs.at 0 (by simp)
      subst e5
      simp only [List.getElem_cons_zero, Nat.zero_mul, Nat.add_zero] at m0 m1 m2 m3 hf
      clear hs hx hf hax
      have hcase : (f.form == 3) = false ∨ ∃ s, f = .con s := by cases f <;> first | exact .inl rfl | exact .inr ⟨_, rfl⟩
      rcases hcase with h3 | ⟨s, rfl⟩
      · have HE : Hid ((Ty.app (.app f a) b).sides.isSome = false) := by
          show (if f.isArrow then some (a, b) else none).isSome = false
          rw [if_neg (fun h => by rw [isArrow_con h] at h3; cases h3)]; rfl
        generalize f.form = ff, f.num = fn', f.name = fs, f.args.length = fl at *
        go_enter Tryd.func75, Tryd.ntmps75
        go_wp2
        go_ret
        exact ⟨ret_bool HE.out.symm, below2 w _ _⟩
      · have HE : Hid ((Ty.app (.app (.con s) a) b).sides.isSome = (s.toList == [45, 62])) := by
          show (if (Ty.con s).isArrow then some (a, b) else none).isSome = _
          rw [← list_arrow]
          cases hq : (s == (⟨#[45, 62]⟩ : ByteArray)) with
          | true => rw [if_pos (show (Ty.con s).isArrow = true from hq)]; rfl
          | false => rw [if_neg (show ¬ (Ty.con s).isArrow = true from fun h => by have h' : (s == (⟨#[45, 62]⟩ : ByteArray)) = true := h; rw [hq] at h'; cases h')]; rfl
        simp only [Ty.form, Ty.num, Ty.name, Ty.args, List.length_nil] at m0 m1 m2 m3
        go_enter Tryd.func75, Tryd.ntmps75
        go_wp2
        go_ret
        exact ⟨ret_bool HE.out.symm, below2 w _ _⟩
    · have HE : Hid ((Ty.app x b).sides.isSome = false) := by show _ = _; cases x <;> first | rfl | exact absurd rfl hax
      have h4 : (x.form != 4) = true := by cases x <;> first | rfl | exact absurd rfl hax
      clear hx hax
      generalize x.form = xf, x.num = xn, x.name = xs, x.args.length = xl at *
      go_enter Tryd.func75, Tryd.ntmps75
      go_wp2
      go_ret
      exact ⟨ret_bool HE.out.symm, below_new w _⟩
  · have hap' : t.isApp = false := by simpa using hap
    have HE : Hid (t.sides.isSome = false) := by show _ = _; rw [sides_leaf hap']; rfl
    obtain ⟨A, c, rfl, _, _⟩ := h.form
    have h4 : (t.form != 4) = true := by cases t <;> first | rfl | cases hap'
    clear h hap hap'
    generalize t.form = xf, t.num = xn, t.name = xs, t.args.length = xl at *
    go_enter Tryd.func75, Tryd.ntmps75
    go_wp2
    go_ret
    exact ⟨ret_bool HE.out.symm, below_new w _⟩
end Go.Proofs.YtbdfjboojokgdaaDoor
namespace Go.Proofs.YtbdfjboojokgdaaDoor
open Go.RowKit

theorem mk_size (x : List UInt8) : (⟨x.toArray⟩ : ByteArray).size = x.length := by show x.toArray.size = _; simp
theorem append_mk2 (a b : List UInt8) : (⟨a.toArray⟩ : ByteArray) ++ ⟨b.toArray⟩ = ⟨(a ++ b).toArray⟩ := by
  apply ByteArray.ext
  simp [ByteArray.data_append]
theorem ofNat_toNat (n : Nat) (h : n < 256) : (UInt8.ofNat n).toNat = n := by simp [UInt8.toNat_ofNat']; omega
/-- string([]byte{x}). -/
theorem convert_one (w : World) (x : Int) (h0 : 0 ≤ x) (h1 : x < 256) :
    (convert 123 9 (.slice (some ⟨w.heap.size, 0, none⟩) 1 1)).run Tryd.prog (w.alloc (.cells #[.int .u8 x] 5)) = .ok (.string ⟨#[UInt8.ofNat x.toNat]⟩) (w.alloc (.cells #[.int .u8 x] 5)) := by
  have hx : (((UInt8.ofNat x.toNat).toNat : Nat) : Int) = x := by rw [ofNat_toNat _ (by omega)]; omega
  refine run_convert_bytes_back (w.alloc (.cells #[.int .u8 x] 5)) 123 9 5 ⟨w.heap.size, 0, none⟩ 1 [UInt8.ofNat x.toNat] Tryd.underlying123 Tryd.underlying5 Tryd.underlying9 fun j hj => ?_
  obtain rfl : j = 0 := by simpa using hj
  simp only [List.getElem_cons_zero]
  rw [hx]
  simp [Addr.add, go_sem]
set_option maxRecDepth 100000 in
set_option maxHeartbeats 1000000 in
theorem decimal_one (n : Int) (w : World) (h0 : 0 ≤ n) (h1 : n < 10) : Calls Tryd.prog 77 #[.int .i64 n] w fun e w' => e = .returned (.string ⟨(Lib.decDigits n.toNat).toArray⟩) ∧ Below w.heap.size w w' := by
  have hcv := convert_one w (48 + n % 10) (by omega) (by omega)
  have b1 : decide (n < 10) = true := by simp; omega
  have HD : Hid (UInt8.ofNat (48 + n % 10).toNat = 48 + UInt8.ofNat (n.toNat) ∧ Lib.decDigits n.toNat = [UInt8.ofNat (48 + n % 10).toNat]) := by
    have hn : n = 0 ∨ n = 1 ∨ n = 2 ∨ n = 3 ∨ n = 4 ∨ n = 5 ∨ n = 6 ∨ n = 7 ∨ n = 8 ∨ n = 9 := by omega
    rcases hn with rfl | rfl | rfl | rfl | rfl | rfl | rfl | rfl | rfl | rfl <;> exact ⟨by decide, by rw [Lib.decDigits]; rfl⟩
  have HD2 := Lib.hid HD.out.2
  clear HD
  generalize UInt8.ofNat (48 + n % 10).toNat = c at *
  go_enter Tryd.func77, Tryd.ntmps77
  go_wp2
  go_ret
  exact ⟨by rw [HD2.out]; rfl, below_new w _⟩
set_option maxRecDepth 100000 in
set_option maxHeartbeats 1000000 in
theorem bracket_any (s : List UInt8) (c : Bool) (w : World) (h : s.length ≤ 1099511627776) : Calls Tryd.prog 76 #[.string ⟨s.toArray⟩, .bool c] w fun e w' => e = .returned (.string ⟨(if c then [40] ++ s ++ [41] else s).toArray⟩) ∧ w' = w := by
  have hs := mk_size s
  cases c with
  | false =>
    go_enter Tryd.func76, Tryd.ntmps76
    go_wp2
    go_ret
    exact ⟨rfl, rfl⟩
  | true =>
    have HE : Hid ((⟨#[40]⟩ : ByteArray) ++ ⟨s.toArray⟩ ++ ⟨#[41]⟩ = ⟨([40] ++ s ++ [41]).toArray⟩) := by
      show _ = _
      rw [← append_mk2, ← append_mk2]
    go_enter Tryd.func76, Tryd.ntmps76
    go_wp2
    go_ret
    exact ⟨by rw [HE.out]; rfl, rfl⟩
end Go.Proofs.YtbdfjboojokgdaaDoor
namespace Go.Proofs.YtbdfjboojokgdaaDoor
open Go.RowKit

/-- What the document's Print tells of a type. -/
def RefPr (P : Nat → Prop) (t : Ty) : Prop := ∀ (v : Value) (w : World), TyAt P w t v → Calls Tryd.prog 32 #[v] w fun e w' => e = .returned (.string ⟨t.pr.toArray⟩) ∧ Below w.heap.size w w'
/-- Numbers of one digit. -/
def Ty.ten : Ty → Prop
  | .hole n => 0 ≤ n ∧ n < 10
  | .app a b => a.ten ∧ b.ten
  | .all _ a => a.ten
  | _ => True
theorem bare_first (t : Ty) : (t.sides.isSome || (t.form == 5)) = decide (t.bare < 2) := by
  cases t with
  | app x b => cases hs : (Ty.app x b).sides <;> simp [Ty.bare, hs, Ty.form]
  | _ => simp [Ty.bare, Ty.form, Ty.sides]
theorem bare_right (t : Ty) : (t.form == 5) = decide (t.bare < 1) := by
  cases t with
  | app x b => cases hs : (Ty.app x b).sides <;> simp [Ty.bare, hs, Ty.form]
  | _ => simp [Ty.bare, Ty.form]
theorem bare_second (t : Ty) : ((t.form == 4) || (t.form == 5)) = decide (t.bare < 3) := by
  cases t with
  | app x b => cases hs : (Ty.app x b).sides <;> simp [Ty.bare, hs, Ty.form]
  | _ => simp [Ty.bare, Ty.form]
theorem brk_if (p : Nat) (t : Ty) (s : List UInt8) : (if decide (t.bare < p) = true then [40] ++ s ++ [41] else s) = brk p t s := by
  unfold brk; by_cases h : t.bare < p <;> simp [h]
set_option maxRecDepth 100000 in
set_option maxHeartbeats 1000000 in
theorem refprint_hole (P : Nat → Prop) (n : Int) (h0 : 0 ≤ n) (h1 : n < 10) : RefPr P (.hole n) := by
  intro v w h
  obtain ⟨A, c, rfl, _, _⟩ := h.form
  simp only [Ty.form, Ty.num, Ty.name, Ty.args, List.length_nil] at h ⊢
  have HF := Lib.hid (fun (w' : World) (hb : Below w.heap.size w w') => function_any P _ _ w' (h.on hb))
  have HD := Lib.hid (fun (w' : World) => decimal_one n w' h0 h1)
  have hl : (Lib.decDigits n.toNat).length ≤ 1 := by
    have hn : n = 0 ∨ n = 1 ∨ n = 2 ∨ n = 3 ∨ n = 4 ∨ n = 5 ∨ n = 6 ∨ n = 7 ∨ n = 8 ∨ n = 9 := by omega
    rcases hn with rfl | rfl | rfl | rfl | rfl | rfl | rfl | rfl | rfl | rfl <;> (rw [Lib.decDigits]; decide)
  have hz := mk_size (Lib.decDigits n.toNat)
  have HE : Hid ((⟨#[63]⟩ : ByteArray) ++ ⟨(Lib.decDigits n.toNat).toArray⟩ = ⟨(Ty.hole n).pr.toArray⟩) := by
    show _ = _
    rw [Ty.pr, ← append_mk2]
  obtain ⟨W, eW, q1, b1, z1⟩ := one_box w (.int .i64 1) (.int .i64 n) (.string ⟨#[]⟩) (.slice A 0 c) 25
  have HEW := Lib.hid eW
  have HQ := Lib.hid q1
  have HB := Lib.hid b1
  obtain ⟨x0, x1, x2, x3, x4, _⟩ := q1
  clear eW b1 h
  generalize Lib.decDigits n.toNat = D at *
  go_enter Tryd.func32, Tryd.ntmps32
  go_wp2_with fail
  rw [HEW.out]
  go_wp2_with fail
  refine (HF.out W HB.out).mono ?_
  rintro e y ⟨rfl, hb1⟩
  obtain ⟨y0, y1, y2, y3, y4, _⟩ := HQ.out.on hb1
  have hsd : (Ty.hole n).sides.isSome = false := rfl
  rw [hsd]
  go_wp2_with fail
  refine (HD.out _).mono ?_
  rintro e y2 ⟨rfl, hb2⟩
  go_wp2
  go_ret
  exact ⟨by rw [HE.out]; rfl, (HB.out.trans (hb1.mono HB.out.size)).trans (hb2.mono (by have := hb1.size; have := HB.out.size; omega))⟩
set_option maxRecDepth 100000 in
set_option maxHeartbeats 1000000 in
theorem refprint_name (P : Nat → Prop) (t : Ty) (s : ByteArray) (ht : t = .var s ∨ t = .con s) (hlen : t.pr.length ≤ 1099511627776) : RefPr P t := by
  intro v w h
  obtain ⟨A, c, rfl, _, _⟩ := h.form
  have hs : t.name = s ∧ t.num = 0 ∧ t.args = [] ∧ (t.form = 2 ∨ t.form = 3) ∧ t.sides.isSome = false := by
    rcases ht with rfl | rfl <;> simp [Ty.name, Ty.num, Ty.args, Ty.form, Ty.sides]
  have hsl : s.data.toList.length ≤ 1099511627776 := by
    rcases ht with rfl | rfl
    · exact hlen
    · rw [Ty.pr] at hlen
      split at hlen
      · rename_i ha
        have := (arrow_eq s).1 ha
        subst this
        decide
      · exact hlen
  have HE : Hid (t.pr = if ((t.form == 3) && (s.toList == [45, 62])) = true then [40] ++ s.data.toList ++ [41] else s.data.toList) := by
    show _ = _
    rcases ht with rfl | rfl
    · rfl
    · rw [Ty.pr, ← list_arrow]
      simp only [Ty.form, Ty.isArrow, beq_self_eq_true, Bool.true_and]
      split
      · rename_i ha
        have := (arrow_eq s).1 ha
        subst this; rfl
      · rename_i ha
        exact if_neg ha
  have HF := Lib.hid (fun (w' : World) (hb : Below w.heap.size w w') => function_any P _ _ w' (h.on hb))
  have HBR := Lib.hid (fun (c : Bool) (w' : World) => bracket_any s.data.toList c w' hsl)
  obtain ⟨e1, e2, e3, hf, e5⟩ := hs
  rw [e3, e1, e2] at HF
  rw [e3, e1, e2]
  rw [e5] at HF
  obtain ⟨W, eW, q1, b1, z1⟩ := one_box w (.int .i64 t.form) (.int .i64 0) (.string s) (.slice A 0 c) 25
  have HEW := Lib.hid eW
  have HQ := Lib.hid q1
  have HB := Lib.hid b1
  clear eW b1 h hlen q1 e1 e2 e3 e5 ht
  generalize t.pr = D at *
  generalize t.form = ff at *
  rcases hf with rfl | rfl
  · go_enter Tryd.func32, Tryd.ntmps32
    go_wp2_with fail
    rw [HEW.out]
    go_wp2_with fail
    refine (HF.out W HB.out).mono ?_
    rintro e y ⟨rfl, hb1⟩
    obtain ⟨y0, y1, y2, y3, y4, _⟩ := HQ.out.on hb1
    go_wp2_with fail
    refine (HBR.out false _).mono ?_
    rintro e y2 ⟨rfl, rfl⟩
    go_wp2
    go_ret
    exact ⟨by rw [HE.out]; rfl, HB.out.trans (hb1.mono HB.out.size)⟩
  · cases ha : s.toList == [45, 62]
    all_goals
      go_enter Tryd.func32, Tryd.ntmps32
      go_wp2_with fail
      rw [HEW.out]
      go_wp2_with fail
      refine (HF.out W HB.out).mono ?_
      rintro e y ⟨rfl, hb1⟩
      obtain ⟨y0, y1, y2, y3, y4, _⟩ := HQ.out.on hb1
      go_wp2_with fail
      refine (HBR.out _ _).mono ?_
      rintro e y2 ⟨rfl, rfl⟩
      go_wp2
      go_ret
      exact ⟨by rw [HE.out, ha]; rfl, HB.out.trans (hb1.mono HB.out.size)⟩
set_option maxRecDepth 100000 in
set_option maxHeartbeats 1000000 in
theorem refprint_all (P : Nat → Prop) (s : ByteArray) (a : Ty) (ih : RefPr P a) (hlen : (Ty.all s a).pr.length ≤ 1099511627776) : RefPr P (.all s a) := by
  intro v w h
  obtain ⟨sv, rfl, hs⟩ := h.tys
  have HF := Lib.hid (fun (w' : World) (hb : Below w.heap.size w w') => function_any P _ _ w' (h.on hb))
  simp only [Ty.form, Ty.num, Ty.name, Ty.args] at hs HF ⊢
  obtain ⟨A, c, rfl, _, _⟩ := hs.form
  obtain ⟨g, off, A3, c3, rfl, hPg, hgl, k0, k1, k2, k3, hx⟩ := hs.at 0 (by simp)
  simp only [List.getElem_cons_zero, Nat.zero_mul, Nat.add_zero, List.length_cons, List.length_nil, Nat.zero_add] at k0 k1 k2 k3 hx HF ⊢
  have HX := Lib.hid hx
  have HA := Lib.hid (fun (w' : World) (hb : Below w.heap.size w w') => ih _ w' (hx.on hb))
  rw [Ty.pr] at hlen
  simp only [List.length_append, List.length_cons, List.length_nil] at hlen
  have hz1 := mk_size a.pr
  have hz2 : s.size = s.data.toList.length := by show s.data.size = _; simp
  have HE : Hid ((⟨#[102, 111, 114, 97, 108, 108, 32]⟩ : ByteArray) ++ s ++ ⟨#[46, 32]⟩ ++ ⟨a.pr.toArray⟩ = ⟨(Ty.all s a).pr.toArray⟩) := by
    show _ = _
    rw [Ty.pr, ← append_mk2, ← append_mk2, ← append_mk2]
  have hsd : (Ty.all s a).sides.isSome = false := rfl
  rw [hsd] at HF
  obtain ⟨W, eW, q1, b1, z1⟩ := one_box w (.int .i64 5) (.int .i64 0) (.string s) (.slice (some ⟨g, off, none⟩) 1 c) 25
  have HEW := Lib.hid eW
  have HQ := Lib.hid q1
  have HB := Lib.hid b1
  clear eW b1 h hs hx q1 ih hsd
  have HK : Hid (∀ q : World, Below w.heap.size w q → q.cell? ⟨g, off, none⟩ = some (.int .i64 a.form) ∧ q.cell? ⟨g, off + 1, none⟩ = some (.int .i64 a.num) ∧ q.cell? ⟨g, off + 2, none⟩ = some (.string a.name) ∧ q.cell? ⟨g, off + 3, none⟩ = some (.slice A3 a.args.length c3)) := fun q hb =>
    ⟨(hb.cell (p := ⟨g, _, none⟩) hgl).trans k0, (hb.cell (p := ⟨g, _, none⟩) hgl).trans k1, (hb.cell (p := ⟨g, _, none⟩) hgl).trans k2, (hb.cell (p := ⟨g, _, none⟩) hgl).trans k3⟩
  generalize (Ty.all s a).pr = D at *
  generalize a.pr = E at *
  have ha1 : (⟨#[102, 111, 114, 97, 108, 108, 32]⟩ : ByteArray).size = 7 := rfl
  have ha2 : (⟨#[46, 32]⟩ : ByteArray).size = 2 := rfl
  have hd1 : ∀ q : World, (Op.stringOp .add ⟨#[102, 111, 114, 97, 108, 108, 32]⟩ s).run Tryd.prog q = .ok (.string (⟨#[102, 111, 114, 97, 108, 108, 32]⟩ ++ s)) q := fun q => run_string_add_sum q _ _ (by omega)
  have hd2 : ∀ q : World, (Op.stringOp .add (⟨#[102, 111, 114, 97, 108, 108, 32]⟩ ++ s) ⟨#[46, 32]⟩).run Tryd.prog q = .ok (.string (⟨#[102, 111, 114, 97, 108, 108, 32]⟩ ++ s ++ ⟨#[46, 32]⟩)) q := fun q => run_string_add_sum q _ _ (by rw [ByteArray.size_append]; omega)
  have hd3 : ∀ q : World, (Op.stringOp .add (⟨#[102, 111, 114, 97, 108, 108, 32]⟩ ++ s ++ ⟨#[46, 32]⟩) ⟨E.toArray⟩).run Tryd.prog q = .ok (.string (⟨#[102, 111, 114, 97, 108, 108, 32]⟩ ++ s ++ ⟨#[46, 32]⟩ ++ ⟨E.toArray⟩)) q := fun q => run_string_add_sum q _ _ (by rw [ByteArray.size_append, ByteArray.size_append]; omega)
  clear ha1 ha2
  generalize a.form = f1, a.num = n1, a.name = s1, a.args.length = l1 at *
  generalize s.data.toList.length = L at *
  clear k0 k1 k2 k3
  go_enter Tryd.func32, Tryd.ntmps32
  go_wp2_with fail
  rw [HEW.out]
  refine (HF.out W HB.out).mono ?_
  rintro e y ⟨rfl, hb1⟩
  have HB1 : Hid (Below w.heap.size w y) := HB.out.trans (hb1.mono HB.out.size)
  have HQ1 := Lib.hid (HQ.out.on hb1)
  clear hb1
  obtain ⟨y0, y1, y2, y3, y4, _⟩ := HQ1.out
  obtain ⟨k0, k1, k2, k3⟩ := HK.out y HB1.out
  have hyd : Below w.heap.size w y.drew := HB1.out.drew
  have keep : Hid (∀ q : World, Below y.heap.size y q → (q.cell? ⟨w.heap.size, 2, none⟩ = some (.string s) ∧ q.cell? ⟨w.heap.size, 3, none⟩ = some (.slice (some ⟨g, off, none⟩) 1 c)) ∧ (q.cell? ⟨g, off, none⟩ = some (.int .i64 f1) ∧ q.cell? ⟨g, off + 1, none⟩ = some (.int .i64 n1) ∧ q.cell? ⟨g, off + 2, none⟩ = some (.string s1) ∧ q.cell? ⟨g, off + 3, none⟩ = some (.slice A3 l1 c3))) := fun q hb => by
    obtain ⟨_, _, _, z3, z4, _⟩ := HQ1.out.on hb
    exact ⟨⟨z3, z4⟩, HK.out q (HB1.out.trans (hb.mono HB1.out.size))⟩
  have hS0 := keep.out y.drew (Below.refl _ y).drew
  go_wp2_with fail
  go_region_held3 (fun q => (q.cell? ⟨w.heap.size, 2, none⟩ = some (.string s) ∧ q.cell? ⟨w.heap.size, 3, none⟩ = some (.slice (some ⟨g, off, none⟩) 1 c)) ∧ (q.cell? ⟨g, off, none⟩ = some (.int .i64 f1) ∧ q.cell? ⟨g, off + 1, none⟩ = some (.int .i64 n1) ∧ q.cell? ⟨g, off + 2, none⟩ = some (.string s1) ∧ q.cell? ⟨g, off + 3, none⟩ = some (.slice A3 l1 c3))) (first | with_reducible exact hS0 | with_reducible exact hS1)
    (first | (go_at_call 32; (with_reducible refine (HA.out _ hyd).mono ?_); rintro e q1 ⟨rfl, hb1⟩; have hb2 : Below y.heap.size y q1 := (Below.refl _ y).drew.trans (hb1.mono (by simp)); have hS1 := keep.out q1 hb2))
  go_wp2
  go_ret
  exact ⟨by rw [HE.out]; rfl, HB1.out.trans (hb2.mono HB1.out.size)⟩
end Go.Proofs.YtbdfjboojokgdaaDoor
