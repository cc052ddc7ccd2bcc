/- The contract of the document's Print of types (chapter 4). Conditions: the print has at most 2^40 bytes; numbers of what is not known are 0 to 9. -/
import Derived.Test.YtbdfjboojokgdaaDoorRefP
namespace Go.Proofs.YtbdfjboojokgdaaDoor
open Go.RowKit

/-- What the document's Print tells of a type. -/
def RefPr (P : Nat → Prop) (t : Ty) : Prop := ∀ (v : Value) (w : World), TyAt P w t v → Calls Tryd.prog 32 #[v] w fun e w' => e = .returned (.string ⟨t.pr.toArray⟩) ∧ Below w.heap.size w w'
/-- Numbers of one digit. -/
def Ty.ten : Ty → Prop
  | .hole n => 0 ≤ n ∧ n < 10
  | .app a b => a.ten ∧ b.ten
  | .all _ a => a.ten
  | _ => True
theorem bare_first (t : Ty) : (t.sides.isSome || (t.form == 5)) = decide (t.bare < 2) := by
  cases t with
  | app x b => cases hs : (Ty.app x b).sides <;> simp [Ty.bare, hs, Ty.form]
  | _ => simp [Ty.bare, Ty.form, Ty.sides]
theorem bare_right (t : Ty) : (t.form == 5) = decide (t.bare < 1) := by
  cases t with
  | app x b => cases hs : (Ty.app x b).sides <;> simp [Ty.bare, hs, Ty.form]
  | _ => simp [Ty.bare, Ty.form]
theorem bare_second (t : Ty) : ((t.form == 4) || (t.form == 5)) = decide (t.bare < 3) := by
  cases t with
  | app x b => cases hs : (Ty.app x b).sides <;> simp [Ty.bare, hs, Ty.form]
  | _ => simp [Ty.bare, Ty.form]
theorem brk_if (p : Nat) (t : Ty) (s : List UInt8) : (if decide (t.bare < p) = true then [40] ++ s ++ [41] else s) = brk p t s := by
  unfold brk; by_cases h : t.bare < p <;> simp [h]
set_option maxRecDepth 100000 in
set_option maxHeartbeats 1000000 in
theorem refprint_hole (P : Nat → Prop) (n : Int) (h0 : 0 ≤ n) (h1 : n < 10) : RefPr P (.hole n) := by
  intro v w h
  obtain ⟨A, c, rfl, _, _⟩ := h.form
  simp only [Ty.form, Ty.num, Ty.name, Ty.args, List.length_nil] at h ⊢
  have HF := Lib.hid (fun (w' : World) (hb : Below w.heap.size w w') => function_any P _ _ w' (h.on hb))
  have HD := Lib.hid (fun (w' : World) => decimal_one n w' h0 h1)
  have hl : (Lib.decDigits n.toNat).length ≤ 1 := by
    have hn : n = 0 ∨ n = 1 ∨ n = 2 ∨ n = 3 ∨ n = 4 ∨ n = 5 ∨ n = 6 ∨ n = 7 ∨ n = 8 ∨ n = 9 := by omega
    rcases hn with rfl | rfl | rfl | rfl | rfl | rfl | rfl | rfl | rfl | rfl <;> (rw [Lib.decDigits]; decide)
  have hz := mk_size (Lib.decDigits n.toNat)
  have HE : Hid ((⟨#[63]⟩ : ByteArray) ++ ⟨(Lib.decDigits n.toNat).toArray⟩ = ⟨(Ty.hole n).pr.toArray⟩) := by
    show _ = _
    rw [Ty.pr, ← append_mk2]
  obtain ⟨W, eW, q1, b1, z1⟩ := one_box w (.int .i64 1) (.int .i64 n) (.string ⟨#[]⟩) (.slice A 0 c) 25
  have HEW := Lib.hid eW
  have HQ := Lib.hid q1
  have HB := Lib.hid b1
  obtain ⟨x0, x1, x2, x3, x4, _⟩ := q1
  clear eW b1 h
  generalize Lib.decDigits n.toNat = D at *
  go_enter Tryd.func32, Tryd.ntmps32
  go_wp2_with fail
  rw [HEW.out]
  go_wp2_with fail
  refine (HF.out W HB.out).mono ?_
  rintro e y ⟨rfl, hb1⟩
  obtain ⟨y0, y1, y2, y3, y4, _⟩ := HQ.out.on hb1
  have hsd : (Ty.hole n).sides.isSome = false := rfl
  rw [hsd]
  go_wp2_with fail
  refine (HD.out _).mono ?_
  rintro e y2 ⟨rfl, hb2⟩
  go_wp2
  go_ret
  exact ⟨by rw [HE.out]; rfl, (HB.out.trans (hb1.mono HB.out.size)).trans (hb2.mono (by have := hb1.size; have := HB.out.size; omega))⟩
set_option maxRecDepth 100000 in
set_option maxHeartbeats 1000000 in
theorem refprint_name (P : Nat → Prop) (t : Ty) (s : ByteArray) (ht : t = .var s ∨ t = .con s) (hlen : t.pr.length ≤ 1099511627776) : RefPr P t := by
  intro v w h
  obtain ⟨A, c, rfl, _, _⟩ := h.form
  have hs : t.name = s ∧ t.num = 0 ∧ t.args = [] ∧ (t.form = 2 ∨ t.form = 3) ∧ t.sides.isSome = false := by
    rcases ht with rfl | rfl <;> simp [Ty.name, Ty.num, Ty.args, Ty.form, Ty.sides]
  have hsl : s.data.toList.length ≤ 1099511627776 := by
    rcases ht with rfl | rfl
    · exact hlen
    · rw [Ty.pr] at hlen
      split at hlen
      · rename_i ha
        have := (arrow_eq s).1 ha
        subst this
        decide
      · exact hlen
  have HE : Hid (t.pr = if ((t.form == 3) && (s.toList == [45, 62])) = true then [40] ++ s.data.toList ++ [41] else s.data.toList) := by
    show _ = _
    rcases ht with rfl | rfl
    · rfl
    · rw [Ty.pr, ← list_arrow]
      simp only [Ty.form, Ty.isArrow, beq_self_eq_true, Bool.true_and]
      split
      · rename_i ha
        have := (arrow_eq s).1 ha
        subst this; rfl
      · rename_i ha
        exact if_neg ha
  have HF := Lib.hid (fun (w' : World) (hb : Below w.heap.size w w') => function_any P _ _ w' (h.on hb))
  have HBR := Lib.hid (fun (c : Bool) (w' : World) => bracket_any s.data.toList c w' hsl)
  obtain ⟨e1, e2, e3, hf, e5⟩ := hs
  rw [e3, e1, e2] at HF
  rw [e3, e1, e2]
  rw [e5] at HF
  obtain ⟨W, eW, q1, b1, z1⟩ := one_box w (.int .i64 t.form) (.int .i64 0) (.string s) (.slice A 0 c) 25
  have HEW := Lib.hid eW
  have HQ := Lib.hid q1
  have HB := Lib.hid b1
  clear eW b1 h hlen q1 e1 e2 e3 e5 ht
  generalize t.pr = D at *
  generalize t.form = ff at *
  rcases hf with rfl | rfl
  · go_enter Tryd.func32, Tryd.ntmps32
    go_wp2_with fail
    rw [HEW.out]
    go_wp2_with fail
    refine (HF.out W HB.out).mono ?_
    rintro e y ⟨rfl, hb1⟩
    obtain ⟨y0, y1, y2, y3, y4, _⟩ := HQ.out.on hb1
    go_wp2_with fail
    refine (HBR.out false _).mono ?_
    rintro e y2 ⟨rfl, rfl⟩
    go_wp2
    go_ret
    exact ⟨by rw [HE.out]; rfl, HB.out.trans (hb1.mono HB.out.size)⟩
  · cases ha : s.toList == [45, 62]
    all_goals
      go_enter Tryd.func32, Tryd.ntmps32
      go_wp2_with fail
      rw [HEW.out]
      go_wp2_with fail
      refine (HF.out W HB.out).mono ?_
      rintro e y ⟨rfl, hb1⟩
      obtain ⟨y0, y1, y2, y3, y4, _⟩ := HQ.out.on hb1
      go_wp2_with fail
      refine (HBR.out _ _).mono ?_
      rintro e y2 ⟨rfl, rfl⟩
      go_wp2
      go_ret
      exact ⟨by rw [HE.out, ha]; rfl, HB.out.trans (hb1.mono HB.out.size)⟩
set_option maxRecDepth 100000 in
set_option maxHeartbeats 1000000 in
theorem refprint_all (P : Nat → Prop) (s : ByteArray) (a : Ty) (ih : RefPr P a) (hlen : (Ty.all s a).pr.length ≤ 1099511627776) : RefPr P (.all s a) := by
  intro v w h
  obtain ⟨sv, rfl, hs⟩ := h.tys
  have HF := Lib.hid (fun (w' : World) (hb : Below w.heap.size w w') => function_any P _ _ w' (h.on hb))
  simp only [Ty.form, Ty.num, Ty.name, Ty.args] at hs HF ⊢
  obtain ⟨A, c, rfl, _, _⟩ := hs.form
  obtain ⟨g, off, A3, c3, rfl, hPg, hgl, k0, k1, k2, k3, hx⟩ := hs.at 0 (by simp)
  simp only [List.getElem_cons_zero, Nat.zero_mul, Nat.add_zero, List.length_cons, List.length_nil, Nat.zero_add] at k0 k1 k2 k3 hx HF ⊢
  have HX := Lib.hid hx
  have HA := Lib.hid (fun (w' : World) (hb : Below w.heap.size w w') => ih _ w' (hx.on hb))
  rw [Ty.pr] at hlen
  simp only [List.length_append, List.length_cons, List.length_nil] at hlen
  have hz1 := mk_size a.pr
  have hz2 : s.size = s.data.toList.length := by show s.data.size = _; simp
  have HE : Hid ((⟨#[102, 111, 114, 97, 108, 108, 32]⟩ : ByteArray) ++ s ++ ⟨#[46, 32]⟩ ++ ⟨a.pr.toArray⟩ = ⟨(Ty.all s a).pr.toArray⟩) := by
    show _ = _
    rw [Ty.pr, ← append_mk2, ← append_mk2, ← append_mk2]
  have hsd : (Ty.all s a).sides.isSome = false := rfl
  rw [hsd] at HF
  obtain ⟨W, eW, q1, b1, z1⟩ := one_box w (.int .i64 5) (.int .i64 0) (.string s) (.slice (some ⟨g, off, none⟩) 1 c) 25
  have HEW := Lib.hid eW
  have HQ := Lib.hid q1
  have HB := Lib.hid b1
  clear eW b1 h hs hx q1 ih hsd
  have HK : Hid (∀ q : World, Below w.heap.size w q → q.cell? ⟨g, off, none⟩ = some (.int .i64 a.form) ∧ q.cell? ⟨g, off + 1, none⟩ = some (.int .i64 a.num) ∧ q.cell? ⟨g, off + 2, none⟩ = some (.string a.name) ∧ q.cell? ⟨g, off + 3, none⟩ = some (.slice A3 a.args.length c3)) := fun q hb =>
    ⟨(hb.cell (p := ⟨g, _, none⟩) hgl).trans k0, (hb.cell (p := ⟨g, _, none⟩) hgl).trans k1, (hb.cell (p := ⟨g, _, none⟩) hgl).trans k2, (hb.cell (p := ⟨g, _, none⟩) hgl).trans k3⟩
  generalize (Ty.all s a).pr = D at *
  generalize a.pr = E at *
  have ha1 : (⟨#[102, 111, 114, 97, 108, 108, 32]⟩ : ByteArray).size = 7 := rfl
  have ha2 : (⟨#[46, 32]⟩ : ByteArray).size = 2 := rfl
  have hd1 : ∀ q : World, (Op.stringOp .add ⟨#[102, 111, 114, 97, 108, 108, 32]⟩ s).run Tryd.prog q = .ok (.string (⟨#[102, 111, 114, 97, 108, 108, 32]⟩ ++ s)) q := fun q => run_string_add_sum q _ _ (by omega)
  have hd2 : ∀ q : World, (Op.stringOp .add (⟨#[102, 111, 114, 97, 108, 108, 32]⟩ ++ s) ⟨#[46, 32]⟩).run Tryd.prog q = .ok (.string (⟨#[102, 111, 114, 97, 108, 108, 32]⟩ ++ s ++ ⟨#[46, 32]⟩)) q := fun q => run_string_add_sum q _ _ (by rw [ByteArray.size_append]; omega)
  have hd3 : ∀ q : World, (Op.stringOp .add (⟨#[102, 111, 114, 97, 108, 108, 32]⟩ ++ s ++ ⟨#[46, 32]⟩) ⟨E.toArray⟩).run Tryd.prog q = .ok (.string (⟨#[102, 111, 114, 97, 108, 108, 32]⟩ ++ s ++ ⟨#[46, 32]⟩ ++ ⟨E.toArray⟩)) q := fun q => run_string_add_sum q _ _ (by rw [ByteArray.size_append, ByteArray.size_append]; omega)
  clear ha1 ha2
  generalize a.form = f1, a.num = n1, a.name = s1, a.args.length = l1 at *
  generalize s.data.toList.length = L at *
  clear k0 k1 k2 k3
  go_enter Tryd.func32, Tryd.ntmps32
  go_wp2_with fail
  rw [HEW.out]
  refine (HF.out W HB.out).mono ?_
  rintro e y ⟨rfl, hb1⟩
  have HB1 : Hid (Below w.heap.size w y) := HB.out.trans (hb1.mono HB.out.size)
  have HQ1 := Lib.hid (HQ.out.on hb1)
  clear hb1
  obtain ⟨y0, y1, y2, y3, y4, _⟩ := HQ1.out
  obtain ⟨k0, k1, k2, k3⟩ := HK.out y HB1.out
  have hyd : Below w.heap.size w y.drew := HB1.out.drew
  have keep : Hid (∀ q : World, Below y.heap.size y q → (q.cell? ⟨w.heap.size, 2, none⟩ = some (.string s) ∧ q.cell? ⟨w.heap.size, 3, none⟩ = some (.slice (some ⟨g, off, none⟩) 1 c)) ∧ (q.cell? ⟨g, off, none⟩ = some (.int .i64 f1) ∧ q.cell? ⟨g, off + 1, none⟩ = some (.int .i64 n1) ∧ q.cell? ⟨g, off + 2, none⟩ = some (.string s1) ∧ q.cell? ⟨g, off + 3, none⟩ = some (.slice A3 l1 c3))) := fun q hb => by
    obtain ⟨_, _, _, z3, z4, _⟩ := HQ1.out.on hb
    exact ⟨⟨z3, z4⟩, HK.out q (HB1.out.trans (hb.mono HB1.out.size))⟩
  have hS0 := keep.out y.drew (Below.refl _ y).drew
  go_wp2_with fail
  go_region_held3 (fun q => (q.cell? ⟨w.heap.size, 2, none⟩ = some (.string s) ∧ q.cell? ⟨w.heap.size, 3, none⟩ = some (.slice (some ⟨g, off, none⟩) 1 c)) ∧ (q.cell? ⟨g, off, none⟩ = some (.int .i64 f1) ∧ q.cell? ⟨g, off + 1, none⟩ = some (.int .i64 n1) ∧ q.cell? ⟨g, off + 2, none⟩ = some (.string s1) ∧ q.cell? ⟨g, off + 3, none⟩ = some (.slice A3 l1 c3))) (first | with_reducible exact hS0 | with_reducible exact hS1)
    (first | (go_at_call 32; (with_reducible refine (HA.out _ hyd).mono ?_); rintro e q1 ⟨rfl, hb1⟩; have hb2 : Below y.heap.size y q1 := (Below.refl _ y).drew.trans (hb1.mono (by simp)); have hS1 := keep.out q1 hb2))
  go_wp2
  go_ret
  exact ⟨by rw [HE.out]; rfl, HB1.out.trans (hb2.mono HB1.out.size)⟩
end Go.Proofs.YtbdfjboojokgdaaDoor
