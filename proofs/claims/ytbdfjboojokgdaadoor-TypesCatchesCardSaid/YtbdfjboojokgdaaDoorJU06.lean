/- The contracts of types.write and Print. Conditions: numbers of what is not known are below 100; the print has at most 2^40 bytes. -/
import Derived.Test.YtbdfjboojokgdaaDoorJU05
namespace Go.Proofs.YtbdfjboojokgdaaDoor
open Go.RowKit

theorem Bld.below {B b : Nat} {l : List UInt8} {w w' : World} (h : Bld B b l w) (hb : Below w.heap.size w w') : Bld B b l w' := by
  have key : ∀ p, Lib.BuilderAtF 125 5 B b p (Lib.byteCells l) w → Lib.BuilderAtF 125 5 B b p (Lib.byteCells l) w' := by
    rintro p ⟨hB, v, hk, ⟨hl, hown⟩, hne⟩
    have lt : ∀ {k : Nat} {o : Obj}, w.heap[k]? = some o → k < w.heap.size := fun {k o} h => by
      rcases Nat.lt_or_ge k w.heap.size with h9 | h9
      · exact h9
      · rw [Array.getElem?_eq_none h9] at h; cases h
    refine ⟨hB, v, (hb.block b (lt hk)).trans hk, ⟨hl, ?_⟩, hne⟩
    rcases hown with h | ⟨g, cap, cur, fz, h1, h2, h3, h4⟩
    · exact .inl h
    · exact .inr ⟨g, cap, cur, fz, h1, h2, (hb.block g (lt h3)).trans h3, h4⟩
  exact ⟨h.1.elim (fun x => .inl (key _ x)) (fun x => .inr (key _ x)), Nat.le_trans h.2 hb.size⟩
/-- A box, whole. -/
def BoxB (w : World) (b : Nat) (a0 a1 a2 a3 : Value) : Prop := w.heap[b]? = some (.cells #[a0, a1, a2, a3] 25)
theorem BoxB.new (w : World) (a0 a1 a2 a3 : Value) : BoxB (w.alloc (.cells #[a0, a1, a2, a3] 25)) w.heap.size a0 a1 a2 a3 := (MapKept.heap_alloc w _).1
theorem BoxB.lt {w : World} {b : Nat} {a0 a1 a2 a3 : Value} (h : BoxB w b a0 a1 a2 a3) : b < w.heap.size := by
  rcases Nat.lt_or_ge b w.heap.size with h9 | h9
  · exact h9
  · unfold BoxB at h; rw [Array.getElem?_eq_none h9] at h; cases h
theorem BoxB.on {w w' : World} {b : Nat} {a0 a1 a2 a3 : Value} (h : BoxB w b a0 a1 a2 a3) (hb : Below w.heap.size w w') : BoxB w' b a0 a1 a2 a3 := (hb.block b h.lt).trans h
theorem BoxB.kept {w w' : World} {b c : Nat} {a0 a1 a2 a3 : Value} (h : BoxB w b a0 a1 a2 a3) (hk : Lib.OthersKept 5 (some c) w w') (hne : b ≠ c) : BoxB w' b a0 a1 a2 a3 :=
  hk b _ h (fun e => hne (by injection e)) (fun cs fz e => by injection e with _ e; revert e; decide)
theorem BoxB.four {w : World} {b : Nat} {a0 a1 a2 a3 : Value} (h : BoxB w b a0 a1 a2 a3) : b < w.heap.size ∧ w.cell? ⟨b, 0, none⟩ = some a0 ∧ w.cell? ⟨b, 1, none⟩ = some a1 ∧ w.cell? ⟨b, 2, none⟩ = some a2 ∧ w.cell? ⟨b, 3, none⟩ = some a3 := by
  have h' : w.heap[b]? = some (.cells #[a0, a1, a2, a3] 25) := h
  exact ⟨h.lt, by simp [World.cell?, h'], by simp [World.cell?, h'], by simp [World.cell?, h'], by simp [World.cell?, h']⟩
theorem kept_below {w w' : World} {c : Nat} (hb : Below w.heap.size w w') : Lib.OthersKept 5 (some c) w w' := fun k o hk _ _ => by
  rcases Nat.lt_or_ge k w.heap.size with h9 | h9
  · exact (hb.block k h9).trans hk
  · rw [Array.getElem?_eq_none h9] at hk; cases hk
/-- What write did. -/
def Wrote (B b : Nat) (l : List UInt8) (w : World) (e : Ending) (w' : World) : Prop := e = .returned (.tuple #[]) ∧ Bld B b l w' ∧ Below B w w' ∧ Lib.OthersKept 5 (some b) w w'
/-- All that holds of a world behind the first of what write does. -/
structure WSt (P : Nat → Prop) (B b : Nat) (l : List UInt8) (w y : World) : Prop where
  bld : Bld B b l y
  below : Below B w y
  kept : Lib.OthersKept 5 (some b) w y
  lt : b < w.heap.size
  leB : B ≤ w.heap.size
theorem WSt.on {P : Nat → Prop} {B b : Nat} {l : List UInt8} {w y y' : World} (h : WSt P B b l w y) (hb : Below y.heap.size y y') : WSt P B b l w y' :=
  ⟨h.bld.below hb, h.below.trans (hb.mono (Nat.le_trans h.leB h.below.size)), h.kept.trans (kept_below hb), h.lt, h.leB⟩
theorem WSt.step {P : Nat → Prop} {B b : Nat} {l l' : List UInt8} {w y y' : World} (h : WSt P B b l w y) (h1 : Bld B b l' y') (h2 : Below B y y') (h3 : Lib.OthersKept 5 (some b) y y') : WSt P B b l' w y' :=
  ⟨h1, h.below.trans h2, h.kept.trans h3, h.lt, h.leB⟩
theorem WSt.start {P : Nat → Prop} {B b : Nat} {l : List UInt8} {w : World} (h : Bld B b l w) : WSt P B b l w w := ⟨h, Below.refl _ _, Lib.OthersKept.refl _ _ _, h.lt, h.2⟩
def WR (P : Nat → Prop) (B b : Nat) (t : Ty) (p : Nat) : Prop := ∀ (v : Value) (l : List UInt8) (w : World), TyAt P w t v → Bld B b l w → l.length + (t.prAt p).length ≤ 1099511627776 →
    Calls Tryd.prog 73 #[.pointer (some ⟨b, 0, none⟩), v, .int .i64 p] w (Wrote B b (l ++ t.prAt p) w)
/-- One more text. -/
theorem ws_any {P : Nat → Prop} {B b : Nat} {l : List UInt8} {w y : World} (s : ByteArray) (h : WSt P B b l w y) (hlen : l.length + s.size ≤ 140737488355328) :
    Calls Tryd.prog 109 #[.pointer (some ⟨b, 0, none⟩), .string s] y fun e y' => e = .returned (.tuple #[.int .i64 s.size, .nilIface]) ∧ WSt P B b (l ++ s.data.toList) w y' ∧ Below B y y' ∧ Lib.OthersKept 5 (some b) y y' := by
  refine (writeString_b B b l s y h.bld hlen).mono ?_
  rintro e y' ⟨rfl, h1, h2, h3⟩
  exact ⟨rfl, h.step h1 h2 h3, h2, h3⟩
set_option maxRecDepth 100000 in
set_option maxHeartbeats 1000000 in
theorem write_high (P : Nat → Prop) (B b : Nat) (hPB : ∀ x, P x → x < B) (t : Ty) (p : Nat) (hhi : t.bare < p) (ih : WR P B b t 0) : WR P B b t p := by
  intro v l w h hbd hlen
  obtain ⟨A, c, rfl, hc9, hm9⟩ := h.form
  have HBA := Lib.hid (fun (w' : World) (hb : Below w.heap.size w w') => bare_any P t _ w' (h.on hb))
  have HSI := Lib.hid (fun (w' : World) (hb : Below w.heap.size w w') => sides_any P t _ w' (h.on hb))
  have HAP := Lib.hid (fun (w' : World) (hb : Below w.heap.size w w') => applied_any P t _ w' (h.on hb))
  have HAR := Lib.hid (fun (w' : World) (hb : Below w.heap.size w w') => arrow_any P t _ w' (h.on hb))
  have hx := BoxB.new w (.int .i64 t.form) (.int .i64 t.num) (.string t.name) (.slice A t.args.length c)
  have hb0 := below_new w (.cells #[.int .i64 t.form, .int .i64 t.num, .string t.name, .slice A t.args.length c] 25)
  obtain ⟨W, eW⟩ : ∃ W, w.alloc (.cells #[.int .i64 t.form, .int .i64 t.num, .string t.name, .slice A t.args.length c] 25) = W := ⟨_, rfl⟩
  rw [eW] at hx hb0
  have HEW := Lib.hid eW
  have HX := Lib.hid hx
  have HB := Lib.hid hb0
  have HS0 := Lib.hid ((WSt.start (P := P) hbd).on hb0)
  have HT := Lib.hid h
  have hbw := hbd.lt
  have hBw := hbd.2
  have HPB := Lib.hid hPB
  clear eW hx hb0 hbd h hPB
  have hpi : ((t.bare : Int) < (p : Int)) := by omega
  have hp0 : t.prAt p = [40] ++ t.prAt 0 ++ [41] := by unfold Ty.prAt brk; rw [if_pos hhi, if_neg (Nat.not_lt_zero _)]
  have HP0 := Lib.hid hp0
  rw [hp0] at hlen
  simp only [List.length_append, List.length_cons, List.length_nil] at hlen
  have HIH := Lib.hid ih
  clear ih hp0 HSI HAP HAR hhi
  generalize t.bare = tb at *
  generalize t.form = tf, t.num = tn, t.name = ts, t.args.length = tl at *
  go_enter Tryd.func73, Tryd.ntmps73
  go_wp2_with fail
  rw [HEW.out]
  refine (HBA.out _ HB.out).mono ?_
  rintro e y1 ⟨rfl, hb1⟩
  have HX1 := Lib.hid (HX.out.on hb1)
  have HS1 := Lib.hid (HS0.out.on hb1)
  have HBY1 := Lib.hid (HB.out.trans (hb1.mono HB.out.size))
  obtain ⟨x0, x1, x2, x3, x4⟩ := HX1.out.four
  clear hb1
  go_wp2_with fail
  refine (ws_any ⟨#[40]⟩ HS1.out (by show l.length + 1 ≤ _; omega)).mono ?_
  rintro e y2 ⟨rfl, hs2, hb2, hk2⟩
  have HX2 := Lib.hid (HX1.out.kept hk2 (by omega))
  have HS2 : Hid (WSt P B b (l ++ [40]) w y2) := hs2
  clear x0 x1 x2 x3 x4 hs2
  obtain ⟨x0, x1, x2, x3, x4⟩ := HX2.out.four
  have HTY := Lib.hid (HT.out.keep (.of_belowB HPB.out HS2.out.below))
  clear hb2 hk2
  go_wp2_with fail
  refine (HIH.out _ _ _ HTY.out HS2.out.bld (by simp; omega)).mono ?_
  rintro e y3 ⟨rfl, d1, d2, d3⟩
  have HS3 := Lib.hid (HS2.out.step d1 d2 d3)
  clear d1 d2 d3
  go_wp2_with fail
  refine (ws_any ⟨#[41]⟩ HS3.out (by simp only [List.length_append, List.length_cons, List.length_nil]; show _ + 1 ≤ _; omega)).mono ?_
  rintro e y4 ⟨rfl, hs4, _, _⟩
  have HS4 : Hid (WSt P B b (l ++ [40] ++ t.prAt 0 ++ [41]) w y4) := hs4
  clear hs4
  go_wp2
  exact bodyPost_ret (v := .tuple #[]) (results_none rfl _ _ _) rfl ⟨rfl, by rw [HP0.out]; simpa using HS4.out.bld, HS4.out.below, HS4.out.kept⟩
set_option maxRecDepth 100000 in
set_option maxHeartbeats 1000000 in
theorem write_fun (P : Nat → Prop) (B b : Nat) (hPB : ∀ x, P x → x < B) (t : Ty) (p : Nat) (hlo : p ≤ t.bare) (a c' : Ty) (hsd : t.sides = some (a, c')) (iha : WR P B b a 2) (ihb : WR P B b c' 1) : WR P B b t p := by
  intro v l w h hbd hlen
  obtain ⟨A, c, rfl, hc9, hm9⟩ := h.form
  have HBA := Lib.hid (fun (w' : World) (hb : Below w.heap.size w w') => bare_any P t _ w' (h.on hb))
  have HSI := Lib.hid (fun (w' : World) (hb : Below w.heap.size w w') => sides_any P t _ w' (h.on hb))
  have HAP := Lib.hid (fun (w' : World) (hb : Below w.heap.size w w') => applied_any P t _ w' (h.on hb))
  have HAR := Lib.hid (fun (w' : World) (hb : Below w.heap.size w w') => arrow_any P t _ w' (h.on hb))
  have hx := BoxB.new w (.int .i64 t.form) (.int .i64 t.num) (.string t.name) (.slice A t.args.length c)
  have hb0 := below_new w (.cells #[.int .i64 t.form, .int .i64 t.num, .string t.name, .slice A t.args.length c] 25)
  obtain ⟨W, eW⟩ : ∃ W, w.alloc (.cells #[.int .i64 t.form, .int .i64 t.num, .string t.name, .slice A t.args.length c] 25) = W := ⟨_, rfl⟩
  rw [eW] at hx hb0
  have HEW := Lib.hid eW
  have HX := Lib.hid hx
  have HB := Lib.hid hb0
  have HS0 := Lib.hid ((WSt.start (P := P) hbd).on hb0)
  have HT := Lib.hid h
  have hbw := hbd.lt
  have hBw := hbd.2
  have HPB := Lib.hid hPB
  clear eW hx hb0 hbd h hPB
  have hpi : ¬ ((t.bare : Int) < (p : Int)) := by omega
  have hp0 : t.prAt p = t.pr := by unfold Ty.prAt brk; rw [if_neg (by omega)]
  rw [Ty.pr_fun hsd] at hp0
  have HP0 := Lib.hid hp0
  rw [hp0] at hlen
  simp only [List.length_append, List.length_cons, List.length_nil] at hlen
  have HIA := Lib.hid iha
  have HIB := Lib.hid ihb
  have h5 : (t.form == 5) = false := by obtain ⟨f, rfl, _⟩ := sides_shape hsd; rfl
  have HSD := Lib.hid hsd
  clear iha ihb hp0 HAP HAR hlo hsd
  generalize t.bare = tb at *
  generalize t.form = tf, t.num = tn, t.name = ts, t.args.length = tl at *
  go_enter Tryd.func73, Tryd.ntmps73
  go_wp2_with fail
  rw [HEW.out]
  refine (HBA.out _ HB.out).mono ?_
  rintro e y1 ⟨rfl, hb1⟩
  have HX1 := Lib.hid (HX.out.on hb1)
  have HS1 := Lib.hid (HS0.out.on hb1)
  have HBY1 := Lib.hid (HB.out.trans (hb1.mono HB.out.size))
  obtain ⟨x0, x1, x2, x3, x4⟩ := HX1.out.four
  clear hb1
  go_wp2_with fail
  refine (HSI.out _ HBY1.out).mono ?_
  rintro e y2 ⟨hb2, hr⟩
  have HX2 := Lib.hid (HX1.out.on hb2)
  have HS2 := Lib.hid (HS1.out.on hb2)
  have HBY2 := Lib.hid (HBY1.out.trans (hb2.mono HBY1.out.size))
  clear x0 x1 x2 x3 x4 hb2
  obtain ⟨x0, x1, x2, x3, x4⟩ := HX2.out.four
  obtain ⟨f1, n1, s1, A1, l1, c1, f2, n2, s2, A2, l2, c2, rfl, ha, hb⟩ : ∃ (f1 n1 : Int) (s1 : ByteArray) (A1 : Option Addr) (l1 c1 : Nat) (f2 n2 : Int) (s2 : ByteArray) (A2 : Option Addr) (l2 c2 : Nat), e = .returned (.tuple #[.agg #[.int .i64 f1, .int .i64 n1, .string s1, .slice A1 l1 c1], .agg #[.int .i64 f2, .int .i64 n2, .string s2, .slice A2 l2 c2], .bool true]) ∧ TyAt P y2 a (.agg #[.int .i64 f1, .int .i64 n1, .string s1, .slice A1 l1 c1]) ∧ TyAt P y2 c' (.agg #[.int .i64 f2, .int .i64 n2, .string s2, .slice A2 l2 c2]) := by
    rw [HSD.out] at hr
    rcases hr with ⟨h9, _⟩ | ⟨a', b', f1, n1, s1, A1, l1, c1, f2, n2, s2, A2, l2, c2, h9, he, ha, hb⟩
    · cases h9
    · simp only [Option.some.injEq, Prod.mk.injEq] at h9
      obtain ⟨rfl, rfl⟩ := h9
      exact ⟨f1, n1, s1, A1, l1, c1, f2, n2, s2, A2, l2, c2, he, ha, hb⟩
  clear hr
  have hb3 := below2 y2 (.cells #[.int .i64 f1, .int .i64 n1, .string s1, .slice A1 l1 c1] 25) (.cells #[.int .i64 f2, .int .i64 n2, .string s2, .slice A2 l2 c2] 25)
  have k1 := (BoxB.new y2 (.int .i64 f1) (.int .i64 n1) (.string s1) (.slice A1 l1 c1)).on (below_new _ (.cells #[.int .i64 f2, .int .i64 n2, .string s2, .slice A2 l2 c2] 25))
  have k2 := BoxB.new (y2.alloc (.cells #[.int .i64 f1, .int .i64 n1, .string s1, .slice A1 l1 c1] 25)) (.int .i64 f2) (.int .i64 n2) (.string s2) (.slice A2 l2 c2)
  simp only [World.size_alloc] at k2
  obtain ⟨y3, e3⟩ : ∃ y3, (y2.alloc (.cells #[.int .i64 f1, .int .i64 n1, .string s1, .slice A1 l1 c1] 25)).alloc (.cells #[.int .i64 f2, .int .i64 n2, .string s2, .slice A2 l2 c2] 25) = y3 := ⟨_, rfl⟩
  rw [e3] at hb3 k1 k2
  have HE3 := Lib.hid e3
  have HK1 := Lib.hid k1
  have HK2 := Lib.hid k2
  have HS3 := Lib.hid (HS2.out.on hb3)
  have HTA := Lib.hid (ha.on hb3)
  have HTB := Lib.hid (hb.on hb3)
  have hz2 := HX2.out.lt
  have hby2 : b < y2.heap.size := Nat.lt_of_lt_of_le hbw HBY2.out.size
  clear hb3 k1 k2 e3 ha hb HT
  go_wp2_with fail
  rw [HE3.out]
  refine (HIA.out _ _ _ HTA.out HS3.out.bld (by omega)).mono ?_
  rintro e y4 ⟨rfl, d1, d2, d3⟩
  have HS4 := Lib.hid (HS3.out.step d1 d2 d3)
  have HK4 := Lib.hid (HK2.out.kept d3 (by omega))
  have HT4 := Lib.hid (HTB.out.keep (.of_belowB HPB.out d2))
  clear d1 d2 d3 x0 x1 x2 x3 x4
  go_wp2_with fail
  refine (ws_any ⟨#[32, 45, 62, 32]⟩ HS4.out (by simp only [List.length_append]; show _ + 4 ≤ _; omega)).mono ?_
  rintro e y5 ⟨rfl, hs5, hb5, hk5⟩
  have HS5 : Hid (WSt P B b (l ++ a.prAt 2 ++ [32, 45, 62, 32]) w y5) := hs5
  have HT5 := Lib.hid (HT4.out.keep (.of_belowB HPB.out hb5))
  obtain ⟨x0, x1, x2, x3, x4⟩ := (HK4.out.kept hk5 (by omega)).four
  clear hs5 hb5 hk5
  go_wp2_with fail
  refine (HIB.out _ _ _ HT5.out HS5.out.bld (by simp only [List.length_append, List.length_cons, List.length_nil]; omega)).mono ?_
  rintro e y6 ⟨rfl, d1, d2, d3⟩
  have HS6 := Lib.hid (HS5.out.step d1 d2 d3)
  clear d1 d2 d3
  go_wp2
  go_end0
  exact ⟨rfl, by rw [HP0.out]; simpa using HS6.out.bld, HS6.out.below, HS6.out.kept⟩
set_option maxRecDepth 100000 in
set_option maxHeartbeats 1000000 in
theorem write_app (P : Nat → Prop) (B b : Nat) (hPB : ∀ x, P x → x < B) (x' c' : Ty) (p : Nat) (hlo : p ≤ (Ty.app x' c').bare) (hsd : (Ty.app x' c').sides = none) (iha : WR P B b x' 2) (ihb : WR P B b c' 3) : WR P B b (.app x' c') p := by
  intro v l w h hbd hlen
  obtain ⟨sv, esv, hs⟩ := h.tys
  have HTS : Hid (TysAt P w [x', c'] sv) := hs
  clear hs
  obtain ⟨t, ht⟩ : ∃ t, t = Ty.app x' c' := ⟨_, rfl⟩
  have HP1 := Lib.hid (Ty.pr_app hsd)
  rw [← ht] at h hlo hsd hlen HP1 ⊢
  have hap : t.isApp = true := by rw [ht]; rfl
  have h5 : (t.form == 5) = false := by rw [ht]; rfl
  have hal : t.args.length = 2 := by rw [ht]; rfl
  rw [← ht] at esv
  obtain ⟨A, c, rfl, hc9, hm9⟩ := h.form
  have HBA := Lib.hid (fun (w' : World) (hb : Below w.heap.size w w') => bare_any P t _ w' (h.on hb))
  have HSI := Lib.hid (fun (w' : World) (hb : Below w.heap.size w w') => sides_any P t _ w' (h.on hb))
  have HAP := Lib.hid (fun (w' : World) (hb : Below w.heap.size w w') => applied_any P t _ w' (h.on hb))
  have HAR := Lib.hid (fun (w' : World) (hb : Below w.heap.size w w') => arrow_any P t _ w' (h.on hb))
  have hx := BoxB.new w (.int .i64 t.form) (.int .i64 t.num) (.string t.name) (.slice A t.args.length c)
  have hb0 := below_new w (.cells #[.int .i64 t.form, .int .i64 t.num, .string t.name, .slice A t.args.length c] 25)
  obtain ⟨W, eW⟩ : ∃ W, w.alloc (.cells #[.int .i64 t.form, .int .i64 t.num, .string t.name, .slice A t.args.length c] 25) = W := ⟨_, rfl⟩
  rw [eW] at hx hb0
  have HEW := Lib.hid eW
  have HX := Lib.hid hx
  have HB := Lib.hid hb0
  have HS0 := Lib.hid ((WSt.start (P := P) hbd).on hb0)
  have HT := Lib.hid h
  have hbw := hbd.lt
  have hBw := hbd.2
  have HPB := Lib.hid hPB
  clear eW hx hb0 hbd h hPB
  obtain rfl : sv = .slice A t.args.length c := by
    simp only [Value.agg.injEq, Array.mk.injEq, List.cons.injEq, and_true, true_and] at esv
    exact esv.symm
  rw [hal] at HTS
  have hpi : ¬ ((t.bare : Int) < (p : Int)) := by omega
  have hp0 : t.prAt p = t.pr := by unfold Ty.prAt brk; rw [if_neg (by omega)]
  rw [HP1.out] at hp0
  have HP0 := Lib.hid hp0
  rw [hp0] at hlen
  simp only [List.length_append, List.length_cons, List.length_nil] at hlen
  have HIA := Lib.hid iha
  have HIB := Lib.hid ihb
  have HSD := Lib.hid hsd
  rw [hap] at HAP
  rw [hal] at HX HEW HBA HSI HAP HT ⊢
  clear iha ihb hp0 HAR hlo hsd esv ht HP1 hap hal hc9
  generalize t.bare = tb at *
  generalize t.form = tf, t.num = tn, t.name = ts at *
  go_enter Tryd.func73, Tryd.ntmps73
  go_wp2_with fail
  rw [HEW.out]
  refine (HBA.out _ HB.out).mono ?_
  rintro e y1 ⟨rfl, hb1⟩
  have HX1 := Lib.hid (HX.out.on hb1)
  have HS1 := Lib.hid (HS0.out.on hb1)
  have HBY1 := Lib.hid (HB.out.trans (hb1.mono HB.out.size))
  obtain ⟨x0, x1, x2, x3, x4⟩ := HX1.out.four
  clear hb1
  go_wp2_with fail
  refine (HSI.out _ HBY1.out).mono ?_
  rintro e y2 ⟨hb2, hr⟩
  have HX2 := Lib.hid (HX1.out.on hb2)
  have HS2 := Lib.hid (HS1.out.on hb2)
  have HBY2 := Lib.hid (HBY1.out.trans (hb2.mono HBY1.out.size))
  clear x0 x1 x2 x3 x4 hb2
  obtain ⟨x0, x1, x2, x3, x4⟩ := HX2.out.four
  obtain rfl : e = .returned (.tuple #[.agg #[.int .i64 0, .int .i64 0, .string ⟨#[]⟩, .slice none 0 0], .agg #[.int .i64 0, .int .i64 0, .string ⟨#[]⟩, .slice none 0 0], .bool false]) := by
    rw [HSD.out] at hr
    rcases hr with ⟨_, h9⟩ | ⟨_, _, _, _, _, _, _, _, _, _, _, _, _, _, h9, _⟩
    · exact h9
    · cases h9
  clear hr
  have hb3 := below2 y2 (.cells #[.int .i64 0, .int .i64 0, .string ⟨#[]⟩, .slice none 0 0] 25) (.cells #[.int .i64 0, .int .i64 0, .string ⟨#[]⟩, .slice none 0 0] 25)
  obtain ⟨y3, e3⟩ : ∃ y3, (y2.alloc (.cells #[.int .i64 0, .int .i64 0, .string ⟨#[]⟩, .slice none 0 0] 25)).alloc (.cells #[.int .i64 0, .int .i64 0, .string ⟨#[]⟩, .slice none 0 0] 25) = y3 := ⟨_, rfl⟩
  rw [e3] at hb3
  have HE3 := Lib.hid e3
  have HX3 := Lib.hid (HX2.out.on hb3)
  have HS3 := Lib.hid (HS2.out.on hb3)
  have HBY3 := Lib.hid (HBY2.out.trans (hb3.mono HBY2.out.size))
  clear hb3 e3
  go_wp2_with fail
  rw [HE3.out]
  refine (HAP.out _ HBY3.out).mono ?_
  rintro e y4 ⟨rfl, hb4⟩
  have HX4 := Lib.hid (HX3.out.on hb4)
  have HS4 := Lib.hid (HS3.out.on hb4)
  clear x0 x1 x2 x3 x4 hb4
  obtain ⟨x0, x1, x2, x3, x4⟩ := HX4.out.four
  have HTS4 := Lib.hid (HTS.out.keep (.of_belowB HPB.out HS4.out.below))
  obtain ⟨g, off, A1, c1, rfl, hPg, hgl, k0, k1, k2, k3, hx⟩ := HTS4.out.at 0 (by simp)
  simp only [List.getElem_cons_zero, Nat.zero_mul, Nat.add_zero] at k0 k1 k2 k3 hx
  have HX' := Lib.hid hx
  clear hx
  generalize x'.form = xf, x'.num = xn, x'.name = xs, x'.args.length = xl at *
  go_wp2_with fail
  refine (HIA.out _ _ _ HX'.out HS4.out.bld (by omega)).mono ?_
  rintro e y5 ⟨rfl, d1, d2, d3⟩
  have HS5 := Lib.hid (HS4.out.step d1 d2 d3)
  have HX5 := Lib.hid (HX4.out.kept d3 (by omega))
  clear d1 d2 d3 x0 x1 x2 x3 x4 k0 k1 k2 k3
  go_wp2_with fail
  refine (ws_any ⟨#[32]⟩ HS5.out (by simp only [List.length_append]; show _ + 1 ≤ _; omega)).mono ?_
  rintro e y6 ⟨rfl, hs6, hb6, hk6⟩
  have HS6 : Hid (WSt P B b (l ++ x'.prAt 2 ++ [32]) w y6) := hs6
  obtain ⟨x0, x1, x2, x3, x4⟩ := (HX5.out.kept hk6 (by omega)).four
  have HTS6 := Lib.hid (HTS.out.keep (.of_belowB HPB.out HS6.out.below))
  obtain ⟨g', off', A2, c2, e9, hPg', hgl', k0, k1, k2, k3, hx⟩ := HTS6.out.at 1 (by simp)
  injection e9 with e9
  injection e9 with e9 e8
  subst e9 e8
  simp only [List.getElem_cons_succ, List.getElem_cons_zero, Nat.one_mul] at k0 k1 k2 k3 hx
  have HX' := Lib.hid hx
  clear hx hs6 hb6 hk6
  generalize c'.form = xf, c'.num = xn, c'.name = xs, c'.args.length = xl at *
  go_wp2_with fail
  refine (HIB.out _ _ _ HX'.out HS6.out.bld (by simp only [List.length_append, List.length_cons, List.length_nil]; omega)).mono ?_
  rintro e y7 ⟨rfl, d1, d2, d3⟩
  have HS7 := Lib.hid (HS6.out.step d1 d2 d3)
  clear d1 d2 d3
  go_wp2
  go_end0
  exact ⟨rfl, by rw [HP0.out]; simpa using HS7.out.bld, HS7.out.below, HS7.out.kept⟩
set_option maxRecDepth 100000 in
set_option maxHeartbeats 1000000 in
theorem write_arrow (P : Nat → Prop) (B b : Nat) (hPB : ∀ x, P x → x < B) (t : Ty) (p : Nat) (hlo : p ≤ t.bare) (hap : t.isApp = false) (harr : t.isArrow = true) : WR P B b t p := by
  have h5 : (t.form == 5) = false := by cases t <;> first | rfl | cases harr
  have hpr : t.pr = [40, 45, 62, 41] := by
    cases t with
    | con s => rw [Ty.pr, if_pos harr]
    | _ => cases harr
  intro v l w h hbd hlen
  obtain ⟨A, c, rfl, hc9, hm9⟩ := h.form
  have HBA := Lib.hid (fun (w' : World) (hb : Below w.heap.size w w') => bare_any P t _ w' (h.on hb))
  have HSI := Lib.hid (fun (w' : World) (hb : Below w.heap.size w w') => sides_any P t _ w' (h.on hb))
  have HAP := Lib.hid (fun (w' : World) (hb : Below w.heap.size w w') => applied_any P t _ w' (h.on hb))
  have HAR := Lib.hid (fun (w' : World) (hb : Below w.heap.size w w') => arrow_any P t _ w' (h.on hb))
  have hx := BoxB.new w (.int .i64 t.form) (.int .i64 t.num) (.string t.name) (.slice A t.args.length c)
  have hb0 := below_new w (.cells #[.int .i64 t.form, .int .i64 t.num, .string t.name, .slice A t.args.length c] 25)
  obtain ⟨W, eW⟩ : ∃ W, w.alloc (.cells #[.int .i64 t.form, .int .i64 t.num, .string t.name, .slice A t.args.length c] 25) = W := ⟨_, rfl⟩
  rw [eW] at hx hb0
  have HEW := Lib.hid eW
  have HX := Lib.hid hx
  have HB := Lib.hid hb0
  have HS0 := Lib.hid ((WSt.start (P := P) hbd).on hb0)
  have HT := Lib.hid h
  have hbw := hbd.lt
  have hBw := hbd.2
  have HPB := Lib.hid hPB
  clear eW hx hb0 hbd h hPB
  have hpi : ¬ ((t.bare : Int) < (p : Int)) := by omega
  have hp0 : t.prAt p = t.pr := by unfold Ty.prAt brk; rw [if_neg (by omega)]
  have HSD := Lib.hid (sides_leaf hap)
  rw [hap] at HAP
  rw [harr] at HAR
  rw [hpr] at hp0
  have HP0 := Lib.hid hp0
  rw [hp0] at hlen
  simp only [List.length_cons, List.length_nil] at hlen
  clear hp0 hlo hpr hap harr HT
  generalize t.bare = tb at *
  generalize t.form = tf, t.num = tn, t.name = ts, t.args.length = tl at *
  go_enter Tryd.func73, Tryd.ntmps73
  go_wp2_with fail
  rw [HEW.out]
  refine (HBA.out _ HB.out).mono ?_
  rintro e y1 ⟨rfl, hb1⟩
  have HX1 := Lib.hid (HX.out.on hb1)
  have HS1 := Lib.hid (HS0.out.on hb1)
  have HBY1 := Lib.hid (HB.out.trans (hb1.mono HB.out.size))
  obtain ⟨x0, x1, x2, x3, x4⟩ := HX1.out.four
  clear hb1
  go_wp2_with fail
  refine (HSI.out _ HBY1.out).mono ?_
  rintro e y2 ⟨hb2, hr⟩
  have HX2 := Lib.hid (HX1.out.on hb2)
  have HS2 := Lib.hid (HS1.out.on hb2)
  have HBY2 := Lib.hid (HBY1.out.trans (hb2.mono HBY1.out.size))
  clear x0 x1 x2 x3 x4 hb2
  obtain ⟨x0, x1, x2, x3, x4⟩ := HX2.out.four
  obtain rfl : e = .returned (.tuple #[.agg #[.int .i64 0, .int .i64 0, .string ⟨#[]⟩, .slice none 0 0], .agg #[.int .i64 0, .int .i64 0, .string ⟨#[]⟩, .slice none 0 0], .bool false]) := by
    rw [HSD.out] at hr
    rcases hr with ⟨_, h9⟩ | ⟨_, _, _, _, _, _, _, _, _, _, _, _, _, _, h9, _⟩
    · exact h9
    · cases h9
  clear hr
  have hb3 := below2 y2 (.cells #[.int .i64 0, .int .i64 0, .string ⟨#[]⟩, .slice none 0 0] 25) (.cells #[.int .i64 0, .int .i64 0, .string ⟨#[]⟩, .slice none 0 0] 25)
  obtain ⟨y3, e3⟩ : ∃ y3, (y2.alloc (.cells #[.int .i64 0, .int .i64 0, .string ⟨#[]⟩, .slice none 0 0] 25)).alloc (.cells #[.int .i64 0, .int .i64 0, .string ⟨#[]⟩, .slice none 0 0] 25) = y3 := ⟨_, rfl⟩
  rw [e3] at hb3
  have HE3 := Lib.hid e3
  have HX3 := Lib.hid (HX2.out.on hb3)
  have HS3 := Lib.hid (HS2.out.on hb3)
  have HBY3 := Lib.hid (HBY2.out.trans (hb3.mono HBY2.out.size))
  clear hb3 e3
  go_wp2_with fail
  rw [HE3.out]
  refine (HAP.out _ HBY3.out).mono ?_
  rintro e y4 ⟨rfl, hb4⟩
  have HX4 := Lib.hid (HX3.out.on hb4)
  have HS4 := Lib.hid (HS3.out.on hb4)
  have HBY4 := Lib.hid (HBY3.out.trans (hb4.mono HBY3.out.size))
  clear x0 x1 x2 x3 x4 hb4
  obtain ⟨x0, x1, x2, x3, x4⟩ := HX4.out.four
  go_wp2_with fail
  refine (HAR.out _ HBY4.out).mono ?_
  rintro e y5 ⟨rfl, hb5⟩
  have HX5 := Lib.hid (HX4.out.on hb5)
  have HS5 := Lib.hid (HS4.out.on hb5)
  clear x0 x1 x2 x3 x4 hb5
  go_wp2_with fail
  refine (ws_any ⟨#[40, 45, 62, 41]⟩ HS5.out (by show _ + 4 ≤ _; omega)).mono ?_
  rintro e y6 ⟨rfl, hs6, _, _⟩
  have HS6 : Hid (WSt P B b (l ++ [40, 45, 62, 41]) w y6) := hs6
  clear hs6
  go_wp2
  go_end0
  exact ⟨rfl, by rw [HP0.out]; exact HS6.out.bld, HS6.out.below, HS6.out.kept⟩
set_option maxRecDepth 100000 in
set_option maxHeartbeats 1000000 in
theorem write_hole (P : Nat → Prop) (B b : Nat) (hPB : ∀ x, P x → x < B) (n : Int) (hn0 : 0 ≤ n) (hn1 : n < 100) (p : Nat) (hlo : p ≤ 3) : WR P B b (.hole n) p := by
  obtain ⟨t, ht⟩ : ∃ t, t = Ty.hole n := ⟨_, rfl⟩
  have hlo : p ≤ t.bare := by rw [ht]; exact hlo
  have hap : t.isApp = false := by rw [ht]; rfl
  have harr : t.isArrow = false := by rw [ht]; rfl
  have h1 : t.form = 1 := by rw [ht]; rfl
  obtain ⟨m, rfl⟩ : ∃ m : Nat, n = m := ⟨n.toNat, by omega⟩
  have hnum : t.num = (m : Int) := by rw [ht]; rfl
  have hpr : t.pr = [63] ++ Lib.decDigits m := by rw [ht, Ty.pr]; rfl
  rw [← ht]
  intro v l w h hbd hlen
  obtain ⟨A, c, rfl, hc9, hm9⟩ := h.form
  have HBA := Lib.hid (fun (w' : World) (hb : Below w.heap.size w w') => bare_any P t _ w' (h.on hb))
  have HSI := Lib.hid (fun (w' : World) (hb : Below w.heap.size w w') => sides_any P t _ w' (h.on hb))
  have HAP := Lib.hid (fun (w' : World) (hb : Below w.heap.size w w') => applied_any P t _ w' (h.on hb))
  have HAR := Lib.hid (fun (w' : World) (hb : Below w.heap.size w w') => arrow_any P t _ w' (h.on hb))
  have hx := BoxB.new w (.int .i64 t.form) (.int .i64 t.num) (.string t.name) (.slice A t.args.length c)
  have hb0 := below_new w (.cells #[.int .i64 t.form, .int .i64 t.num, .string t.name, .slice A t.args.length c] 25)
  obtain ⟨W, eW⟩ : ∃ W, w.alloc (.cells #[.int .i64 t.form, .int .i64 t.num, .string t.name, .slice A t.args.length c] 25) = W := ⟨_, rfl⟩
  rw [eW] at hx hb0
  have HEW := Lib.hid eW
  have HX := Lib.hid hx
  have HB := Lib.hid hb0
  have HS0 := Lib.hid ((WSt.start (P := P) hbd).on hb0)
  have HT := Lib.hid h
  have hbw := hbd.lt
  have hBw := hbd.2
  have HPB := Lib.hid hPB
  clear eW hx hb0 hbd h hPB
  have hpi : ¬ ((t.bare : Int) < (p : Int)) := by omega
  have hp0 : t.prAt p = t.pr := by unfold Ty.prAt brk; rw [if_neg (by omega)]
  have HSD := Lib.hid (sides_leaf hap)
  rw [hap] at HAP
  rw [harr] at HAR
  rw [hpr] at hp0
  have HP0 := Lib.hid hp0
  rw [hp0] at hlen
  simp only [List.length_append, List.length_cons, List.length_nil] at hlen
  have hm : m < 100 := by omega
  rw [h1, hnum] at HX HEW HBA HSI HAP HAR ⊢
  clear hp0 hlo hpr hap harr HT ht h1 hnum
  generalize t.bare = tb at *
  generalize t.name = ts, t.args.length = tl at *
  go_enter Tryd.func73, Tryd.ntmps73
  go_wp2_with fail
  rw [HEW.out]
  refine (HBA.out _ HB.out).mono ?_
  rintro e y1 ⟨rfl, hb1⟩
  have HX1 := Lib.hid (HX.out.on hb1)
  have HS1 := Lib.hid (HS0.out.on hb1)
  have HBY1 := Lib.hid (HB.out.trans (hb1.mono HB.out.size))
  obtain ⟨x0, x1, x2, x3, x4⟩ := HX1.out.four
  clear hb1
  go_wp2_with fail
  refine (HSI.out _ HBY1.out).mono ?_
  rintro e y2 ⟨hb2, hr⟩
  have HX2 := Lib.hid (HX1.out.on hb2)
  have HS2 := Lib.hid (HS1.out.on hb2)
  have HBY2 := Lib.hid (HBY1.out.trans (hb2.mono HBY1.out.size))
  clear x0 x1 x2 x3 x4 hb2
  obtain ⟨x0, x1, x2, x3, x4⟩ := HX2.out.four
  obtain rfl : e = .returned (.tuple #[.agg #[.int .i64 0, .int .i64 0, .string ⟨#[]⟩, .slice none 0 0], .agg #[.int .i64 0, .int .i64 0, .string ⟨#[]⟩, .slice none 0 0], .bool false]) := by
    rw [HSD.out] at hr
    rcases hr with ⟨_, h9⟩ | ⟨_, _, _, _, _, _, _, _, _, _, _, _, _, _, h9, _⟩
    · exact h9
    · cases h9
  clear hr
  have hb3 := below2 y2 (.cells #[.int .i64 0, .int .i64 0, .string ⟨#[]⟩, .slice none 0 0] 25) (.cells #[.int .i64 0, .int .i64 0, .string ⟨#[]⟩, .slice none 0 0] 25)
  obtain ⟨y3, e3⟩ : ∃ y3, (y2.alloc (.cells #[.int .i64 0, .int .i64 0, .string ⟨#[]⟩, .slice none 0 0] 25)).alloc (.cells #[.int .i64 0, .int .i64 0, .string ⟨#[]⟩, .slice none 0 0] 25) = y3 := ⟨_, rfl⟩
  rw [e3] at hb3
  have HE3 := Lib.hid e3
  have HX3 := Lib.hid (HX2.out.on hb3)
  have HS3 := Lib.hid (HS2.out.on hb3)
  have HBY3 := Lib.hid (HBY2.out.trans (hb3.mono HBY2.out.size))
  clear hb3 e3
  go_wp2_with fail
  rw [HE3.out]
  refine (HAP.out _ HBY3.out).mono ?_
  rintro e y4 ⟨rfl, hb4⟩
  have HX4 := Lib.hid (HX3.out.on hb4)
  have HS4 := Lib.hid (HS3.out.on hb4)
  have HBY4 := Lib.hid (HBY3.out.trans (hb4.mono HBY3.out.size))
  clear x0 x1 x2 x3 x4 hb4
  obtain ⟨x0, x1, x2, x3, x4⟩ := HX4.out.four
  go_wp2_with fail
  refine (HAR.out _ HBY4.out).mono ?_
  rintro e y5 ⟨rfl, hb5⟩
  have HX5 := Lib.hid (HX4.out.on hb5)
  have HS5 := Lib.hid (HS4.out.on hb5)
  clear x0 x1 x2 x3 x4 hb5
  obtain ⟨x0, x1, x2, x3, x4⟩ := HX5.out.four
  go_wp2_with fail
  refine (Tryd.strconv_Itoa_small m hm y5).mono ?_
  rintro e y6 ⟨rfl, hy6⟩
  obtain rfl := hy6.symm
  have hsz : ((⟨#[63]⟩ : ByteArray) ++ ⟨(Lib.decDigits m).toArray⟩).data.toList = [63] ++ Lib.decDigits m := by simp
  have hss : ((⟨#[63]⟩ : ByteArray) ++ ⟨(Lib.decDigits m).toArray⟩).size = 1 + (Lib.decDigits m).length := by rw [Lib.size_eq, hsz]; simp; omega
  have HSZ := Lib.hid hsz
  have HSS := Lib.hid hss
  clear hsz hss
  go_wp2_with fail
  refine (ws_any _ HS5.out (by rw [HSS.out]; omega)).mono ?_
  rintro e y6 ⟨rfl, hs6, _, _⟩
  rw [HSZ.out] at hs6
  have HS6 := Lib.hid hs6
  clear hs6
  go_wp2
  go_end0
  exact ⟨rfl, by rw [HP0.out]; exact HS6.out.bld, HS6.out.below, HS6.out.kept⟩
set_option maxRecDepth 100000 in
set_option maxHeartbeats 1000000 in
theorem write_name (P : Nat → Prop) (B b : Nat) (hPB : ∀ x, P x → x < B) (t : Ty) (p : Nat) (hlo : p ≤ t.bare) (hap : t.isApp = false) (harr : t.isArrow = false) (h5 : (t.form == 5) = false) (h1 : (t.form == 1) = false) (hpr : t.pr = t.name.data.toList) : WR P B b t p := by
  intro v l w h hbd hlen
  obtain ⟨A, c, rfl, hc9, hm9⟩ := h.form
  have HBA := Lib.hid (fun (w' : World) (hb : Below w.heap.size w w') => bare_any P t _ w' (h.on hb))
  have HSI := Lib.hid (fun (w' : World) (hb : Below w.heap.size w w') => sides_any P t _ w' (h.on hb))
  have HAP := Lib.hid (fun (w' : World) (hb : Below w.heap.size w w') => applied_any P t _ w' (h.on hb))
  have HAR := Lib.hid (fun (w' : World) (hb : Below w.heap.size w w') => arrow_any P t _ w' (h.on hb))
  have hx := BoxB.new w (.int .i64 t.form) (.int .i64 t.num) (.string t.name) (.slice A t.args.length c)
  have hb0 := below_new w (.cells #[.int .i64 t.form, .int .i64 t.num, .string t.name, .slice A t.args.length c] 25)
  obtain ⟨W, eW⟩ : ∃ W, w.alloc (.cells #[.int .i64 t.form, .int .i64 t.num, .string t.name, .slice A t.args.length c] 25) = W := ⟨_, rfl⟩
  rw [eW] at hx hb0
  have HEW := Lib.hid eW
  have HX := Lib.hid hx
  have HB := Lib.hid hb0
  have HS0 := Lib.hid ((WSt.start (P := P) hbd).on hb0)
  have HT := Lib.hid h
  have hbw := hbd.lt
  have hBw := hbd.2
  have HPB := Lib.hid hPB
  clear eW hx hb0 hbd h hPB
  have hpi : ¬ ((t.bare : Int) < (p : Int)) := by omega
  have hp0 : t.prAt p = t.pr := by unfold Ty.prAt brk; rw [if_neg (by omega)]
  have HSD := Lib.hid (sides_leaf hap)
  rw [hap] at HAP
  rw [harr] at HAR
  rw [hpr] at hp0
  have HP0 := Lib.hid hp0
  rw [hp0] at hlen
  clear hp0 hlo hpr hap harr HT
  generalize t.bare = tb at *
  generalize t.form = tf, t.num = tn, t.name = ts, t.args.length = tl at *
  go_enter Tryd.func73, Tryd.ntmps73
  go_wp2_with fail
  rw [HEW.out]
  refine (HBA.out _ HB.out).mono ?_
  rintro e y1 ⟨rfl, hb1⟩
  have HX1 := Lib.hid (HX.out.on hb1)
  have HS1 := Lib.hid (HS0.out.on hb1)
  have HBY1 := Lib.hid (HB.out.trans (hb1.mono HB.out.size))
  obtain ⟨x0, x1, x2, x3, x4⟩ := HX1.out.four
  clear hb1
  go_wp2_with fail
  refine (HSI.out _ HBY1.out).mono ?_
  rintro e y2 ⟨hb2, hr⟩
  have HX2 := Lib.hid (HX1.out.on hb2)
  have HS2 := Lib.hid (HS1.out.on hb2)
  have HBY2 := Lib.hid (HBY1.out.trans (hb2.mono HBY1.out.size))
  clear x0 x1 x2 x3 x4 hb2
  obtain ⟨x0, x1, x2, x3, x4⟩ := HX2.out.four
  obtain rfl : e = .returned (.tuple #[.agg #[.int .i64 0, .int .i64 0, .string ⟨#[]⟩, .slice none 0 0], .agg #[.int .i64 0, .int .i64 0, .string ⟨#[]⟩, .slice none 0 0], .bool false]) := by
    rw [HSD.out] at hr
    rcases hr with ⟨_, h9⟩ | ⟨_, _, _, _, _, _, _, _, _, _, _, _, _, _, h9, _⟩
    · exact h9
    · cases h9
  clear hr
  have hb3 := below2 y2 (.cells #[.int .i64 0, .int .i64 0, .string ⟨#[]⟩, .slice none 0 0] 25) (.cells #[.int .i64 0, .int .i64 0, .string ⟨#[]⟩, .slice none 0 0] 25)
  obtain ⟨y3, e3⟩ : ∃ y3, (y2.alloc (.cells #[.int .i64 0, .int .i64 0, .string ⟨#[]⟩, .slice none 0 0] 25)).alloc (.cells #[.int .i64 0, .int .i64 0, .string ⟨#[]⟩, .slice none 0 0] 25) = y3 := ⟨_, rfl⟩
  rw [e3] at hb3
  have HE3 := Lib.hid e3
  have HX3 := Lib.hid (HX2.out.on hb3)
  have HS3 := Lib.hid (HS2.out.on hb3)
  have HBY3 := Lib.hid (HBY2.out.trans (hb3.mono HBY2.out.size))
  clear hb3 e3
  go_wp2_with fail
  rw [HE3.out]
  refine (HAP.out _ HBY3.out).mono ?_
  rintro e y4 ⟨rfl, hb4⟩
  have HX4 := Lib.hid (HX3.out.on hb4)
  have HS4 := Lib.hid (HS3.out.on hb4)
  have HBY4 := Lib.hid (HBY3.out.trans (hb4.mono HBY3.out.size))
  clear x0 x1 x2 x3 x4 hb4
  obtain ⟨x0, x1, x2, x3, x4⟩ := HX4.out.four
  go_wp2_with fail
  refine (HAR.out _ HBY4.out).mono ?_
  rintro e y5 ⟨rfl, hb5⟩
  have HX5 := Lib.hid (HX4.out.on hb5)
  have HS5 := Lib.hid (HS4.out.on hb5)
  clear x0 x1 x2 x3 x4 hb5
  obtain ⟨x0, x1, x2, x3, x4⟩ := HX5.out.four
  go_wp2_with fail
  refine (ws_any ts HS5.out (by rw [Lib.size_eq]; omega)).mono ?_
  rintro e y6 ⟨rfl, hs6, _, _⟩
  have HS6 := Lib.hid hs6
  clear hs6
  go_wp2
  go_end0
  exact ⟨rfl, by rw [HP0.out]; exact HS6.out.bld, HS6.out.below, HS6.out.kept⟩
set_option maxRecDepth 100000 in
set_option maxHeartbeats 1000000 in
theorem write_all (P : Nat → Prop) (B b : Nat) (hPB : ∀ x, P x → x < B) (s : ByteArray) (a : Ty) (ih : WR P B b a 0) : WR P B b (.all s a) 0 := by
  obtain ⟨t, ht⟩ : ∃ t, t = Ty.all s a := ⟨_, rfl⟩
  have hlo : 0 ≤ t.bare := Nat.zero_le _
  have hap : t.isApp = false := by rw [ht]; rfl
  have h5 : t.form = 5 := by rw [ht]; rfl
  have hnm : t.name = s := by rw [ht]; rfl
  have hal : t.args.length = 1 := by rw [ht]; rfl
  have hag : t.args = [a] := by rw [ht]; rfl
  have hpr : t.pr = [102, 111, 114, 97, 108, 108, 32] ++ s.data.toList ++ [46, 32] ++ a.prAt 0 := by rw [ht, Ty.pr]; rfl
  rw [← ht]
  intro v l w h hbd hlen
  obtain ⟨sv, esv, hs⟩ := h.tys
  rw [hag] at hs
  have HTS := Lib.hid hs
  clear hs
  obtain ⟨A, c, rfl, hc9, hm9⟩ := h.form
  have HBA := Lib.hid (fun (w' : World) (hb : Below w.heap.size w w') => bare_any P t _ w' (h.on hb))
  have HSI := Lib.hid (fun (w' : World) (hb : Below w.heap.size w w') => sides_any P t _ w' (h.on hb))
  have hx := BoxB.new w (.int .i64 t.form) (.int .i64 t.num) (.string t.name) (.slice A t.args.length c)
  have hb0 := below_new w (.cells #[.int .i64 t.form, .int .i64 t.num, .string t.name, .slice A t.args.length c] 25)
  obtain ⟨W, eW⟩ : ∃ W, w.alloc (.cells #[.int .i64 t.form, .int .i64 t.num, .string t.name, .slice A t.args.length c] 25) = W := ⟨_, rfl⟩
  rw [eW] at hx hb0
  have HEW := Lib.hid eW
  have HX := Lib.hid hx
  have HB := Lib.hid hb0
  have HS0 := Lib.hid ((WSt.start (P := P) hbd).on hb0)
  have HT := Lib.hid h
  have hbw := hbd.lt
  have hBw := hbd.2
  have HPB := Lib.hid hPB
  clear eW hx hb0 hbd h hPB
  obtain rfl : sv = .slice A t.args.length c := by
    simp only [Value.agg.injEq, Array.mk.injEq, List.cons.injEq, and_true, true_and] at esv
    exact esv.symm
  have hpi : ¬ ((t.bare : Int) < ((0 : Nat) : Int)) := by omega
  have hp0 : t.prAt 0 = t.pr := by unfold Ty.prAt brk; rw [if_neg (by omega)]
  have HSD := Lib.hid (sides_leaf hap)
  rw [hpr] at hp0
  have HP0 := Lib.hid hp0
  rw [hp0] at hlen
  simp only [List.length_append, List.length_cons, List.length_nil] at hlen
  have HIH := Lib.hid ih
  rw [hal] at HTS
  rw [h5, hnm, hal] at HX HEW HBA HSI ⊢
  clear hp0 hlo hpr hap HT ht h5 hnm hal hag esv ih hc9
  generalize t.bare = tb at *
  generalize t.num = tn at *
  go_enter Tryd.func73, Tryd.ntmps73
  go_wp2_with fail
  rw [HEW.out]
  refine (HBA.out _ HB.out).mono ?_
  rintro e y1 ⟨rfl, hb1⟩
  have HX1 := Lib.hid (HX.out.on hb1)
  have HS1 := Lib.hid (HS0.out.on hb1)
  have HBY1 := Lib.hid (HB.out.trans (hb1.mono HB.out.size))
  obtain ⟨x0, x1, x2, x3, x4⟩ := HX1.out.four
  clear hb1
  go_wp2_with fail
  refine (HSI.out _ HBY1.out).mono ?_
  rintro e y2 ⟨hb2, hr⟩
  have HX2 := Lib.hid (HX1.out.on hb2)
  have HS2 := Lib.hid (HS1.out.on hb2)
  have HBY2 := Lib.hid (HBY1.out.trans (hb2.mono HBY1.out.size))
  clear x0 x1 x2 x3 x4 hb2
  obtain ⟨x0, x1, x2, x3, x4⟩ := HX2.out.four
  obtain rfl : e = .returned (.tuple #[.agg #[.int .i64 0, .int .i64 0, .string ⟨#[]⟩, .slice none 0 0], .agg #[.int .i64 0, .int .i64 0, .string ⟨#[]⟩, .slice none 0 0], .bool false]) := by
    rw [HSD.out] at hr
    rcases hr with ⟨_, h9⟩ | ⟨_, _, _, _, _, _, _, _, _, _, _, _, _, _, h9, _⟩
    · exact h9
    · cases h9
  clear hr
  have hb3 := below2 y2 (.cells #[.int .i64 0, .int .i64 0, .string ⟨#[]⟩, .slice none 0 0] 25) (.cells #[.int .i64 0, .int .i64 0, .string ⟨#[]⟩, .slice none 0 0] 25)
  obtain ⟨y3, e3⟩ : ∃ y3, (y2.alloc (.cells #[.int .i64 0, .int .i64 0, .string ⟨#[]⟩, .slice none 0 0] 25)).alloc (.cells #[.int .i64 0, .int .i64 0, .string ⟨#[]⟩, .slice none 0 0] 25) = y3 := ⟨_, rfl⟩
  rw [e3] at hb3
  have HE3 := Lib.hid e3
  have HX3 := Lib.hid (HX2.out.on hb3)
  have HS3 := Lib.hid (HS2.out.on hb3)
  have HBY3 := Lib.hid (HBY2.out.trans (hb3.mono HBY2.out.size))
  clear hb3 e3
  have hsz : ((⟨#[102, 111, 114, 97, 108, 108, 32]⟩ : ByteArray) ++ s ++ ⟨#[46, 32]⟩).data.toList = [102, 111, 114, 97, 108, 108, 32] ++ s.data.toList ++ [46, 32] := by simp
  have hss : ((⟨#[102, 111, 114, 97, 108, 108, 32]⟩ : ByteArray) ++ s ++ ⟨#[46, 32]⟩).size = 9 + s.data.toList.length := by rw [Lib.size_eq, hsz]; simp; omega
  have HSZ := Lib.hid hsz
  have HSS := Lib.hid hss
  have hs8 : s.size ≤ 1099511627776 := by rw [Lib.size_eq]; omega
  have hs9 : ((⟨#[102, 111, 114, 97, 108, 108, 32]⟩ : ByteArray) ++ s).size ≤ 1099511627783 := by rw [ByteArray.size_append]; show 7 + s.size ≤ _; omega
  clear hsz hss
  go_wp2_with fail
  rw [HE3.out]
  refine (ws_any _ HS3.out (by rw [HSS.out]; omega)).mono ?_
  rintro e y4 ⟨rfl, hs4, _, hk4⟩
  rw [HSZ.out] at hs4
  have HS4 := Lib.hid hs4
  have HX4 := Lib.hid (HX3.out.kept hk4 (by omega))
  clear hs4 hk4 x0 x1 x2 x3 x4
  obtain ⟨x0, x1, x2, x3, x4⟩ := HX4.out.four
  go_wp2_with fail
  have HTS4 := Lib.hid (HTS.out.keep (.of_belowB HPB.out HS4.out.below))
  obtain ⟨g, off, A1, c1, rfl, hPg, hgl, k0, k1, k2, k3, hx⟩ := HTS4.out.at 0 (by simp)
  simp only [List.getElem_cons_zero, Nat.zero_mul, Nat.add_zero] at k0 k1 k2 k3 hx
  have HX' := Lib.hid hx
  clear hx
  generalize a.form = xf, a.num = xn, a.name = xs, a.args.length = xl at *
  generalize hL : l ++ ([102, 111, 114, 97, 108, 108, 32] ++ s.data.toList ++ [46, 32]) = L at *
  have HL := Lib.hid hL
  clear hL
  have HLL : Hid (L.length = l.length + (9 + s.data.toList.length)) := by show _ = _; rw [← HL.out]; simp; omega
  go_loopw [45, 10] (fun i _ wr => (i = .int .i64 0 ∧ wr = y4) ∨ (i = .int .i64 1 ∧ WSt P B b (L ++ a.prAt 0) w wr)) (fun i _ _ => 1 - (intOf i).toNat)
  case atStart => exact .inl ⟨rfl, rfl⟩
  case round =>
    rcases hrel with ⟨rfl, rfl⟩ | ⟨rfl, hst⟩
    · have hbx := below_new wr (.cells #[.int .i64 xf, .int .i64 xn, .string xs, .slice A1 xl c1] 25)
      have HS5 := Lib.hid (HS4.out.on hbx)
      have HX5 := Lib.hid (HX'.out.on hbx)
      clear hbx
      go_wp2_with fail
      refine (HIH.out _ _ _ HX5.out HS5.out.bld (by have := HLL.out; omega)).mono ?_
      rintro e y6 ⟨rfl, d1, d2, d3⟩
      have HS6 := Lib.hid (HS5.out.step d1 d2 d3)
      clear d1 d2 d3
      go_wp2
      go_roundw
      case rel => exact .inr ⟨rfl, HS6.out⟩
      case measure => simp [intOf]
    · have HST := Lib.hid hst
      clear hst
      go_wp2
      go_end0
      exact ⟨rfl, by rw [HP0.out]; have h9 := HST.out.bld; rw [← HL.out] at h9; simpa using h9, HST.out.below, HST.out.kept⟩
theorem write_any (P : Nat → Prop) (B b : Nat) (hPB : ∀ x, P x → x < B) : ∀ (n : Nat) (t : Ty), t.sz ≤ n → t.small → ∀ p, p ≤ 3 → WR P B b t p := by
  intro n
  induction n with
  | zero => intro t h; cases t <;> simp [Ty.sz] at h
  | succ n ih =>
    intro t hn hsm
    have low : ∀ p, p ≤ 3 → p ≤ t.bare → WR P B b t p := by
      intro p hp3 hp
      cases t with
      | hole m => exact write_hole P B b hPB m hsm.1 hsm.2 p hp
      | var s => exact write_name P B b hPB (.var s) p hp rfl rfl rfl rfl rfl
      | con s =>
        cases har : (Ty.con s).isArrow with
        | true => exact write_arrow P B b hPB (.con s) p hp rfl har
        | false => exact write_name P B b hPB (.con s) p hp rfl har rfl rfl (by rw [Ty.pr, har]; rfl)
      | all s a =>
        have hp0 : p = 0 := Nat.le_zero.1 hp
        subst hp0
        exact write_all P B b hPB s a (ih a (by simp [Ty.sz] at hn; omega) hsm 0 (by omega))
      | app x y =>
        cases hs : (Ty.app x y).sides with
        | none => exact write_app P B b hPB x y p hp hs (ih x (by simp [Ty.sz] at hn; omega) hsm.1 2 (by omega)) (ih y (by simp [Ty.sz] at hn; omega) hsm.2 3 (by omega))
        | some q =>
          obtain ⟨f, e, _⟩ := sides_shape (a := q.1) (b := q.2) hs
          simp only [Ty.app.injEq] at e
          obtain ⟨rfl, rfl⟩ := e
          exact write_fun P B b hPB _ p hp q.1 q.2 hs (ih q.1 (by simp [Ty.sz] at hn; omega) hsm.1.2 2 (by omega)) (ih q.2 (by simp [Ty.sz] at hn; omega) hsm.2 1 (by omega))
    intro p hp
    rcases Nat.lt_or_ge t.bare p with h | h
    · exact write_high P B b hPB t p h (low 0 (by omega) (Nat.zero_le _))
    · exact low p hp h
set_option maxRecDepth 100000 in
set_option maxHeartbeats 1000000 in
theorem print_any (P : Nat → Prop) (t : Ty) (v : Value) (w : World) (h : TyAt P w t v) (hsm : t.small) (hlen : t.pr.length ≤ 1099511627776) :
    Calls Tryd.prog 31 #[v] w fun e w' => e = .returned (.string ⟨t.pr.toArray⟩) ∧ Below w.heap.size w w' := by
  have H := Lib.hid h.bound'
  obtain ⟨f1, n1, s1, A1, l1, c1, rfl⟩ := h.flat
  clear h
  go_enter Tryd.func31, Tryd.ntmps31
  go_wp2_with fail
  have hb1 := below2 w (.cells #[.int .i64 f1, .int .i64 n1, .string s1, .slice A1 l1 c1] 25) (.cells #[.pointer none, .slice none 0 0] 125)
  have hbl : Bld (w.heap.size + 1) (w.heap.size + 1) [] ((w.alloc (.cells #[.int .i64 f1, .int .i64 n1, .string s1, .slice A1 l1 c1] 25)).alloc (.cells #[.pointer none, .slice none 0 0] 125)) := by
    refine ⟨.inl ⟨Nat.le_refl _, .slice none 0 0, ?_, World.ownsRowF_of (World.ownsRow_nil _ _ _ _), by simp [Value.ownBlock]⟩, by simp⟩
    have h9 := (MapKept.heap_alloc (w.alloc (.cells #[.int .i64 f1, .int .i64 n1, .string s1, .slice A1 l1 c1] 25)) (.cells #[.pointer none, .slice none 0 0] 125)).1
    simpa using h9
  have hk := H.out.on hb1
  generalize (w.alloc (.cells #[.int .i64 f1, .int .i64 n1, .string s1, .slice A1 l1 c1] 25)).alloc (.cells #[.pointer none, .slice none 0 0] 125) = w0 at *
  have HB1 := Lib.hid hb1
  clear hb1
  have hwr := write_any _ (w.heap.size + 1) (w.heap.size + 1) (fun x (hx : x < w.heap.size) => Nat.lt_succ_of_lt hx) _ t (Nat.le_refl _) hsm 0 (by omega) _ [] w0 hk hbl (by unfold Ty.prAt brk; rw [if_neg (Nat.not_lt_zero _)]; simpa using hlen)
  have e0 : t.prAt 0 = t.pr := by unfold Ty.prAt brk; rw [if_neg (Nat.not_lt_zero _)]
  rw [e0, List.nil_append] at hwr
  refine hwr.mono ?_
  rintro e w1 ⟨rfl, d1, d2, _⟩
  have HD2 := Lib.hid (HB1.out.trans (d2.mono (Nat.le_succ _)))
  have hBw := d1.2
  have HD1 := Lib.hid d1
  clear d1 d2 hk hbl hwr e0
  go_wp2_with fail
  refine (Tryd.Builder_String_any_k (w.heap.size + 1) (w.heap.size + 1) t.pr w1 HD1.out.1 hBw).mono ?_
  rintro e w2 ⟨rfl, _, d2, _⟩
  have HE2 := Lib.hid (HD2.out.trans (d2.mono (Nat.le_succ _)))
  clear d2
  go_wp2
  go_ret
  exact ⟨rfl, HE2.out⟩
end Go.Proofs.YtbdfjboojokgdaaDoor
