/- The contract of the document's Subst (chapter 4): leaves and applications. Conditions: at most 2^20 names and nodes, types of at most 2^20 nodes each. -/
import Derived.Test.YtbdfjboojokgdaaDoorJS40
import Derived.Test.YtbdfjboojokgdaaDoorJS04
namespace Go.Proofs.YtbdfjboojokgdaaDoor
open Go.RowKit

def SubIs (n : Nat) : Prop := ∀ (P Q : Nat → Prop) (t : Ty) (σ : List (ByteArray × Ty)) (v nv bv : Value) (w : World), t.sz ≤ n → (∀ b, P b → b < w.heap.size) → TyAt P w t v → StrsAt Q w nv (σ.map (·.1)) → TysAt P w (σ.map (·.2)) bv → (∀ p ∈ σ, p.2.sz ≤ 1048576) → σ.length + t.sz ≤ 1048576 → Calls Tryd.prog 24 #[v, nv, bv] w (TyShares P w (t.sub σ))
/-- What is told lies in the result's box. -/
theorem sub_end {P : Nat → Prop} {w x : World} {t : Ty} {f n : Int} {s : ByteArray} {A : Option Addr} {l c : Nat} (hP : ∀ b, P b → b < w.heap.size) (h : TyAt (fun b => P b ∨ w.heap.size + 2 ≤ b) x t (.agg #[.int .i64 f, .int .i64 n, .string s, .slice A l c])) (hb : Below w.heap.size w x) : TyShares P w t (.returned (.agg #[.int .i64 f, .int .i64 n, .string s, .slice A l c])) ((((x.setCell ⟨w.heap.size + 1, 0, none⟩ (.int .i64 f)).setCell ⟨w.heap.size + 1, 1, none⟩ (.int .i64 n)).setCell ⟨w.heap.size + 1, 2, none⟩ (.string s)).setCell ⟨w.heap.size + 1, 3, none⟩ (.slice A l c)) :=
  ⟨_, rfl, (h.keep (.box (b := w.heap.size + 1) (fun hx => by rcases hx with hx | hx; (· have := hP _ hx; omega); omega) _ _ _ _)).mono (fun b hb => by rcases hb with hb | hb; (· exact .inl hb); exact .inr (by omega)), below_box hb (by omega) _ _ _ _⟩
set_option maxRecDepth 100000 in
set_option maxHeartbeats 2000000 in
theorem sub_leaf (P Q : Nat → Prop) (t : Ty) (σ : List (ByteArray × Ty)) (v nv bv : Value) (w : World) (hl : t.args = []) (hf : t.form ≠ 2) (hP : ∀ b, P b → b < w.heap.size) (h : TyAt P w t v) (hn : StrsAt Q w nv (σ.map (·.1))) (hb : TysAt P w (σ.map (·.2)) bv) : Calls Tryd.prog 24 #[v, nv, bv] w (TyShares P w (t.sub σ)) := by
  have hsub : t.sub σ = t := by cases t <;> first | rfl | (exact absurd rfl hf) | cases hl
  rw [hsub]
  have hf4 : t.form ≠ 4 := by cases t <;> simp [Ty.form, Ty.args] at *
  have hf5 : t.form ≠ 5 := by cases t <;> simp [Ty.form, Ty.args] at *
  have HT := Lib.hid (fun (x : World) (hx : Below w.heap.size w x) => h.on hx)
  obtain ⟨A, c, rfl, hc, hm⟩ := h.form
  obtain ⟨An, cn, rfl, _, _⟩ := hn.shape
  obtain ⟨Ab, cb, rfl, _, _⟩ := hb.form
  obtain ⟨W, eW, q1, q2, b2, z2⟩ := two_boxes w (.int .i64 t.form) (.int .i64 t.num) (.string t.name) (.slice A t.args.length c) (.int .i64 0) (.int .i64 0) (.string ⟨#[]⟩) (.slice none 0 0) 25 25
  have HEW := Lib.hid eW
  have HE : Hid (∀ x, Below w.heap.size w x → TyShares P w t (.returned (.agg #[.int .i64 t.form, .int .i64 t.num, .string t.name, .slice A t.args.length c])) ((((x.setCell ⟨w.heap.size + 1, 0, none⟩ (.int .i64 t.form)).setCell ⟨w.heap.size + 1, 1, none⟩ (.int .i64 t.num)).setCell ⟨w.heap.size + 1, 2, none⟩ (.string t.name)).setCell ⟨w.heap.size + 1, 3, none⟩ (.slice A t.args.length c))) := fun x hx => sub_end hP ((HT.out x hx).mono (fun b hb => .inl hb)) hx
  have HB2 := Lib.hid b2
  obtain ⟨x0, x1, x2, x3, x4, _⟩ := q1
  obtain ⟨z0, z1, z9, z3, z4, z5, z6, z7, z8⟩ := q2
  have g2 : (t.form == 2) = false := by rw [beq_eq_false_iff_ne]; exact hf
  have g4 : (t.form == 4) = false := by rw [beq_eq_false_iff_ne]; exact hf4
  have g5 : (t.form == 5) = false := by rw [beq_eq_false_iff_ne]; exact hf5
  clear eW b2 h hn hb hc hm hf hf4 hf5 hl hsub
  generalize t.form = tf, t.num = tn, t.name = ts, t.args.length = tl at *
  go_enter Tryd.func24, Tryd.ntmps24
  go_upto_region 1 with (fail)
  rw [HEW.out]
  go_wp2_with fail
  exact bodyPost_ret (v := .agg #[.int .i64 tf, .int .i64 tn, .string ts, .slice A tl c]) (by simp [results, Tryd.results24, go_sem, z1, z9, z3, z4]) rfl (HE.out W HB2.out)
set_option maxRecDepth 100000 in
set_option maxHeartbeats 2000000 in
theorem sub_var (P Q : Nat → Prop) (s : ByteArray) (σ : List (ByteArray × Ty)) (v nv bv : Value) (w : World) (hP : ∀ b, P b → b < w.heap.size) (h : TyAt P w (.var s) v) (hn : StrsAt Q w nv (σ.map (·.1))) (hb : TysAt P w (σ.map (·.2)) bv) : Calls Tryd.prog 24 #[v, nv, bv] w (TyShares P w ((Ty.var s).sub σ)) := by
  have HT := Lib.hid (fun (x : World) (hx : Below w.heap.size w x) => h.on hx)
  obtain ⟨A, c, rfl, hc, hm⟩ := h.form
  obtain ⟨An, cn, rfl, _, _⟩ := hn.shape
  obtain ⟨Ab, cb, rfl, _, _⟩ := hb.form
  simp only [Ty.form, Ty.num, Ty.name, Ty.args, List.length_nil, List.length_map] at HT ⊢
  simp only [List.length_map] at hn hb
  obtain ⟨W, eW, q1, q2, b2, z2⟩ := two_boxes w (.int .i64 2) (.int .i64 0) (.string s) (.slice A 0 c) (.int .i64 0) (.int .i64 0) (.string ⟨#[]⟩) (.slice none 0 0) 25 25
  have HEW := Lib.hid eW
  have HA := Lib.hid (at_any Q _ s _ W (hn.on b2))
  have HB2 := Lib.hid b2
  have HBY := Lib.hid (hb.on b2)
  have HP := Lib.hid hP
  obtain ⟨x0, x1, x2, x3, x4, _⟩ := q1
  obtain ⟨z0, z1, z9, z3, z4, z5, z6, z7, z8⟩ := q2
  clear eW b2 h hn hb hc hm hP
  go_enter Tryd.func24, Tryd.ntmps24
  go_wp2_with fail
  rw [HEW.out]
  go_wp2_with fail
  refine HA.out.mono ?_
  rintro e y ⟨⟨k, rfl, hk⟩, rfl⟩
  rcases hk with ⟨rfl, hno⟩ | ⟨i, rfl, hi, e1, e2⟩
  · have HE : Hid (TyShares P w ((Ty.var s).sub σ) (.returned (.agg #[.int .i64 2, .int .i64 0, .string s, .slice A 0 c])) ((((W.setCell ⟨w.heap.size + 1, 0, none⟩ (.int .i64 2)).setCell ⟨w.heap.size + 1, 1, none⟩ (.int .i64 0)).setCell ⟨w.heap.size + 1, 2, none⟩ (.string s)).setCell ⟨w.heap.size + 1, 3, none⟩ (.slice A 0 c))) := by
      rw [Ty.sub, lookS_none.2 hno]
      exact sub_end HP.out ((HT.out W HB2.out).mono (fun b hb => .inl hb)) HB2.out
    clear hno
    go_wp2_with fail
    exact bodyPost_ret (v := .agg #[.int .i64 2, .int .i64 0, .string s, .slice A 0 c]) (by simp [results, Tryd.results24, go_sem, z1, z9, z3, z4]) rfl HE.out
  · have hi' : i < σ.length := by simpa using hi
    obtain ⟨b, off, A5, c5, e5, hPb, hbl, m0, m1, m2, m3, hx⟩ := HBY.out.at i (by simpa using hi')
    subst e5
    have hg : (σ.map (·.2))[i]'(by simpa using hi') = σ[i].2 := by simp
    rw [hg] at m0 m1 m2 m3 hx
    have hlk : lookS σ s = some σ[i].2 := lookS_first i hi' (by simpa using e1) e2
    generalize σ[i].2 = u at *
    obtain ⟨f, n, s', A6, l6, c6, e6⟩ := hx.flat
    simp only [Value.agg.injEq, Array.mk.injEq, List.cons.injEq, and_true] at e6
    obtain ⟨e61, e62, e63, e64⟩ := e6
    rw [e61, e62, e63, e64] at hx
    rw [e61] at m0
    rw [e62] at m1
    rw [e63] at m2
    rw [e64] at m3
    clear e61 e62 e63 e64
    have HE : Hid (TyShares P w ((Ty.var s).sub σ) (.returned (.agg #[.int .i64 f, .int .i64 n, .string s', .slice A6 l6 c6])) ((((W.setCell ⟨w.heap.size + 1, 0, none⟩ (.int .i64 f)).setCell ⟨w.heap.size + 1, 1, none⟩ (.int .i64 n)).setCell ⟨w.heap.size + 1, 2, none⟩ (.string s')).setCell ⟨w.heap.size + 1, 3, none⟩ (.slice A6 l6 c6))) := by
      rw [Ty.sub, hlk]
      exact sub_end HP.out (hx.mono (fun b hb => .inl hb)) HB2.out
    have hki : (i : Int) < (σ.length : Int) := by omega
    have hk0 : (0 : Int) ≤ (i : Int) := by omega
    clear hx hlk hg e1 e2 hi
    go_wp2_with fail
    exact bodyPost_ret (v := .agg #[.int .i64 f, .int .i64 n, .string s', .slice A6 l6 c6]) (by simp [results, Tryd.results24, go_sem, z1, z9, z3, z4]) rfl HE.out
end Go.Proofs.YtbdfjboojokgdaaDoor
