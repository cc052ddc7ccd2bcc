/- The contract of the document's Print of types (chapter 4) at applications and functions' types. Conditions: the print has at most 2^40 bytes; numbers of what is not known are 0 to 9. -/
import Derived.Test.YtbdfjboojokgdaaDoorJV44
namespace Go.Proofs.YtbdfjboojokgdaaDoor
open Go.RowKit

set_option maxRecDepth 100000 in
set_option maxHeartbeats 1000000 in
theorem refprint_fun (P : Nat → Prop) (t x b : Ty) (hsn : t.sides = some (x, b)) (ihx : RefPr P x) (ihb : RefPr P b) (hlen : t.pr.length ≤ 1099511627776) : RefPr P t := by
  intro v w h
  obtain ⟨fa, eta, hfa⟩ := sides_shape hsn
  obtain ⟨sv, rfl, hs⟩ := h.tys
  have HF := Lib.hid (fun (w' : World) (hb : Below w.heap.size w w') => function_any P _ _ w' (h.on hb))
  rw [hsn] at HF
  have hpr := Ty.pr_fun hsn
  generalize hD : t.pr = D at *
  subst eta
  simp only [Ty.form, Ty.num, Ty.name, Ty.args] at hs HF ⊢
  obtain ⟨A, c, rfl, _, _⟩ := hs.form
  obtain ⟨g, off, fA, fc, rfl, hPg, hgl, _, _, _, k3, hx0⟩ := hs.at 0 (by simp)
  obtain ⟨g', off', bA, bc, e', _, _, m0, m1, m2, m3, hbt⟩ := hs.at 1 (by simp)
  injection e' with e'
  injection e' with e1 e2
  subst e1; subst e2
  obtain ⟨sv2, e9, hs2⟩ := hx0.tys
  simp only [List.getElem_cons_zero, List.length_cons, List.length_nil, Nat.zero_add, Nat.reduceAdd, Option.isSome_some, Ty.form, Ty.num, Ty.name, Ty.args, Value.agg.injEq, Array.mk.injEq, List.cons.injEq, true_and, and_true] at k3 HF e9 hs2 ⊢
  simp only [List.getElem_cons_zero, List.getElem_cons_succ, Nat.one_mul] at m0 m1 m2 m3 hbt
  subst e9
  obtain ⟨g3, off3, xA, xc, e3, hPg3, hgl3, n0, n1, n2, n3, hx⟩ := hs2.at 1 (by simp)
  subst e3
  simp only [List.getElem_cons_zero, List.getElem_cons_succ, Nat.one_mul] at n0 n1 n2 n3 hx
  have HX := Lib.hid (fun (q : World) (hb : Below w.heap.size w q) => hx.on hb)
  have HT := Lib.hid (fun (q : World) (hb : Below w.heap.size w q) => hbt.on hb)
  have HPX0 := Lib.hid (fun (q : World) (hb : Below w.heap.size w q) => ihx _ q (hx.on hb))
  have HPB0 := Lib.hid (fun (q : World) (hb : Below w.heap.size w q) => ihb _ q (hbt.on hb))
  have HF2 := Lib.hid (fun (q : World) (hb : Below w.heap.size w q) => function_any P _ _ q (hx.on hb))
  rw [hpr] at hlen
  have HE : Hid ((⟨(x.prAt 2).toArray⟩ : ByteArray) ++ ⟨#[32, 45, 62, 32]⟩ ++ ⟨(b.prAt 1).toArray⟩ = ⟨D.toArray⟩) := by
    show _ = _
    rw [hpr, ← append_mk2, ← append_mk2]
  simp only [List.length_append, List.length_cons, List.length_nil] at hlen
  have hlx : x.pr.length ≤ (x.prAt 2).length := by unfold Ty.prAt brk; split <;> simp; omega
  have hlb : b.pr.length ≤ (b.prAt 1).length := by unfold Ty.prAt brk; split <;> simp; omega
  have hz1 := mk_size (x.prAt 2)
  have hz2 := mk_size (b.prAt 1)
  have HBX0 := Lib.hid (fun (c : Bool) (q : World) => bracket_any x.pr c q (by omega))
  have HBB0 := Lib.hid (fun (c : Bool) (q : World) => bracket_any b.pr c q (by omega))
  have hcx := bare_first x
  have hcb := bare_right b
  have HIX : Hid (∀ c : Bool, c = decide (x.bare < 2) → (if c = true then [40] ++ x.pr ++ [41] else x.pr) = x.prAt 2) := fun c hc => by subst hc; exact brk_if 2 x x.pr
  have HIB : Hid (∀ c : Bool, c = decide (b.bare < 1) → (if c = true then [40] ++ b.pr ++ [41] else b.pr) = b.prAt 1) := fun c hc => by subst hc; exact brk_if 1 b b.pr
  obtain ⟨W, eW, q1, b1, z1⟩ := one_box w (.int .i64 4) (.int .i64 0) (.string ⟨#[]⟩) (.slice (some ⟨g, off, none⟩) 2 c) 25
  have HEW := Lib.hid eW
  have HQ := Lib.hid q1
  have HB := Lib.hid b1
  have HK : Hid (∀ q : World, Below w.heap.size w q → (q.cell? ⟨g, off + 3, none⟩ = some (.slice (some ⟨g3, off3, none⟩) 2 fc) ∧ q.cell? ⟨g3, off3 + 4, none⟩ = some (.int .i64 x.form) ∧ q.cell? ⟨g3, off3 + 4 + 1, none⟩ = some (.int .i64 x.num) ∧ q.cell? ⟨g3, off3 + 4 + 2, none⟩ = some (.string x.name) ∧ q.cell? ⟨g3, off3 + 4 + 3, none⟩ = some (.slice xA x.args.length xc)) ∧ (q.cell? ⟨g, off + 4, none⟩ = some (.int .i64 b.form) ∧ q.cell? ⟨g, off + 4 + 1, none⟩ = some (.int .i64 b.num) ∧ q.cell? ⟨g, off + 4 + 2, none⟩ = some (.string b.name) ∧ q.cell? ⟨g, off + 4 + 3, none⟩ = some (.slice bA b.args.length bc))) := fun q hb =>
    ⟨⟨(hb.cell (p := ⟨g, _, none⟩) hgl).trans k3, (hb.cell (p := ⟨g3, _, none⟩) hgl3).trans n0, (hb.cell (p := ⟨g3, _, none⟩) hgl3).trans n1, (hb.cell (p := ⟨g3, _, none⟩) hgl3).trans n2, (hb.cell (p := ⟨g3, _, none⟩) hgl3).trans n3⟩, ⟨(hb.cell (p := ⟨g, _, none⟩) hgl).trans m0, (hb.cell (p := ⟨g, _, none⟩) hgl).trans m1, (hb.cell (p := ⟨g, _, none⟩) hgl).trans m2, (hb.cell (p := ⟨g, _, none⟩) hgl).trans m3⟩⟩
  clear eW b1 h hs hs2 hx hx0 hbt q1 ihx ihb hsn k3 n0 n1 n2 n3 m0 m1 m2 m3 HX HT hpr hD hfa
  have hd1 : ∀ q : World, (Op.stringOp .add ⟨(x.prAt 2).toArray⟩ ⟨#[32, 45, 62, 32]⟩).run Tryd.prog q = .ok (.string (⟨(x.prAt 2).toArray⟩ ++ ⟨#[32, 45, 62, 32]⟩)) q := fun q => run_string_add_sum q _ _ (by show _ + 4 ≤ _; omega)
  have hd2 : ∀ q : World, (Op.stringOp .add (⟨(x.prAt 2).toArray⟩ ++ ⟨#[32, 45, 62, 32]⟩) ⟨(b.prAt 1).toArray⟩).run Tryd.prog q = .ok (.string (⟨(x.prAt 2).toArray⟩ ++ ⟨#[32, 45, 62, 32]⟩ ++ ⟨(b.prAt 1).toArray⟩)) q := fun q => run_string_add_sum q _ _ (by rw [ByteArray.size_append]; show _ + 4 + _ ≤ _; omega)
  clear hlen hlx hlb hz1 hz2
  generalize hX1 : (⟨(x.prAt 2).toArray⟩ : ByteArray) = X1 at *
  generalize hX2 : (⟨(b.prAt 1).toArray⟩ : ByteArray) = X2 at *
  generalize x.prAt 2 = E1' at *
  generalize b.prAt 1 = E2' at *
  generalize x.pr = E1 at *
  generalize b.pr = E2 at *
  generalize decide (x.bare < 2) = d1 at *
  generalize decide (b.bare < 1) = d2 at *
  generalize hsx : x.sides.isSome = sx at *
  generalize x.form = xf, x.num = xn, x.name = xs, x.args.length = xl at *
  generalize b.form = bf, b.num = bn, b.name = bs, b.args.length = bl at *
  have HHX := Lib.hid hX1
  have HHX2 := Lib.hid hX2
  have HCX := Lib.hid hcx
  have HCB := Lib.hid hcb
  clear hX1 hX2 hsx hcx hcb
  have HBX : Hid (∀ (cx : Bool), cx = (sx || (xf == 5)) → ∀ q : World, Calls Tryd.prog 76 #[.string ⟨E1.toArray⟩, .bool cx] q fun e q' => e = .returned (.string X1) ∧ q' = q) := fun cx hc q => by
    have h := HBX0.out cx q
    rw [HIX.out _ (hc.trans HCX.out), HHX.out] at h
    exact h
  have HBB : Hid (∀ (cb : Bool), cb = (bf == 5) → ∀ q : World, Calls Tryd.prog 76 #[.string ⟨E2.toArray⟩, .bool cb] q fun e q' => e = .returned (.string X2) ∧ q' = q) := fun cb hc q => by
    have h := HBB0.out cb q
    rw [HIB.out _ (hc.trans HCB.out), HHX2.out] at h
    exact h
  clear HBX0 HBB0 HIX HIB HCX HCB HHX HHX2
  cases sx
  · go_enter Tryd.func32, Tryd.ntmps32
    go_wp2_with fail
    rw [HEW.out]
    refine (HF.out W HB.out).mono ?_
    rintro e w1 ⟨rfl, hb1⟩
    have HB1 : Hid (Below w.heap.size w w1) := HB.out.trans (hb1.mono HB.out.size)
    obtain ⟨⟨k9, k0, k1, k2, k3⟩, m0, m1, m2, m3⟩ := HK.out w1 HB1.out
    have hg3 : g3 < w1.heap.size := Nat.lt_of_lt_of_le hgl3 HB1.out.size
    obtain ⟨y0, y1, y2, y3, y4, _⟩ := HQ.out.on hb1
    have hg1 : g < w1.heap.size := Nat.lt_of_lt_of_le hgl HB1.out.size
    clear hb1
    obtain ⟨y, ey, Q1, Q2, by1, zy⟩ := two_boxes w1 (.int .i64 xf) (.int .i64 xn) (.string xs) (.slice xA xl xc) (.int .i64 bf) (.int .i64 bn) (.string bs) (.slice bA bl bc) 25 25
    have HEY := Lib.hid ey
    have HQ1 := Lib.hid Q1
    have HQ2 := Lib.hid Q2
    have HBY := Lib.hid by1
    clear ey Q1 Q2 by1
    have hs1 : w1.heap.size < y.heap.size := by omega
    have hs2 : w1.heap.size + 1 < y.heap.size := by omega
    have HBY' : Hid (Below w.heap.size w y) := HB1.out.trans (HBY.out.mono HB1.out.size)
    go_wp2_with fail
    rw [HEY.out]
    refine (HF2.out y HBY'.out).mono ?_
    rintro e z ⟨rfl, hbz⟩
    have HBZ : Hid (Below w.heap.size w z) := HBY'.out.trans (hbz.mono HBY'.out.size)
    have HZ1 := Lib.hid (HQ1.out.on hbz)
    have HZ2 := Lib.hid (HQ2.out.on hbz)
    clear hbz
    have keep : Hid (∀ q : World, Below w.heap.size w q ∧ Below z.heap.size z q → (q.cell? ⟨w1.heap.size, 0, none⟩ = some (.int .i64 xf) ∧ q.cell? ⟨w1.heap.size, 1, none⟩ = some (.int .i64 xn) ∧ q.cell? ⟨w1.heap.size, 2, none⟩ = some (.string xs) ∧ q.cell? ⟨w1.heap.size, 3, none⟩ = some (.slice xA xl xc)) ∧ (q.cell? ⟨(w1.heap.size + 1), 0, none⟩ = some (.int .i64 bf) ∧ q.cell? ⟨(w1.heap.size + 1), 1, none⟩ = some (.int .i64 bn) ∧ q.cell? ⟨(w1.heap.size + 1), 2, none⟩ = some (.string bs) ∧ q.cell? ⟨(w1.heap.size + 1), 3, none⟩ = some (.slice bA bl bc))) := fun q hb => by
      obtain ⟨_, u1, u2, u3, u4, _⟩ := HZ1.out.on hb.2
      obtain ⟨_, v1, v2, v3, v4, _⟩ := HZ2.out.on hb.2
      exact ⟨⟨u1, u2, u3, u4⟩, v1, v2, v3, v4⟩
    have HPX : Hid (∀ q : World, Below w.heap.size w q ∧ Below z.heap.size z q → Calls Tryd.prog 32 #[.agg #[.int .i64 xf, .int .i64 xn, .string xs, .slice xA xl xc]] q fun e q' => e = .returned (.string ⟨E1.toArray⟩) ∧ Below w.heap.size w q' ∧ Below z.heap.size z q') := fun q hb => by
      refine (HPX0.out q hb.1).mono ?_
      rintro e q' ⟨rfl, hq⟩
      exact ⟨rfl, hb.1.trans (hq.mono hb.1.size), hb.2.trans (hq.mono hb.2.size)⟩
    have HPB : Hid (∀ q : World, Below w.heap.size w q ∧ Below z.heap.size z q → Calls Tryd.prog 32 #[.agg #[.int .i64 bf, .int .i64 bn, .string bs, .slice bA bl bc]] q fun e q' => e = .returned (.string ⟨E2.toArray⟩) ∧ Below w.heap.size w q' ∧ Below z.heap.size z q') := fun q hb => by
      refine (HPB0.out q hb.1).mono ?_
      rintro e q' ⟨rfl, hq⟩
      exact ⟨rfl, hb.1.trans (hq.mono hb.1.size), hb.2.trans (hq.mono hb.2.size)⟩
    have hYd : Below w.heap.size w z.drew ∧ Below z.heap.size z z.drew := ⟨HBZ.out.drew, (Below.refl _ z).drew⟩
    have hS0 := keep.out z.drew hYd
    clear k9 k0 k1 k2 k3 m0 m1 m2 m3 y0 y1 y2 y3 y4
    go_wp2_with fail
    refine wp_region_held_drew (S := fun q => (q.cell? ⟨w1.heap.size, 0, none⟩ = some (.int .i64 xf) ∧ q.cell? ⟨w1.heap.size, 1, none⟩ = some (.int .i64 xn) ∧ q.cell? ⟨w1.heap.size, 2, none⟩ = some (.string xs) ∧ q.cell? ⟨w1.heap.size, 3, none⟩ = some (.slice xA xl xc)) ∧ (q.cell? ⟨(w1.heap.size + 1), 0, none⟩ = some (.int .i64 bf) ∧ q.cell? ⟨(w1.heap.size + 1), 1, none⟩ = some (.int .i64 bn) ∧ q.cell? ⟨(w1.heap.size + 1), 2, none⟩ = some (.string bs) ∧ q.cell? ⟨(w1.heap.size + 1), 3, none⟩ = some (.slice bA bl bc))) (by kernel_rfl) hS0 (fun hHeld => ?_)
    refine wpAnyH_take (i := 0) (oi := ⟨some 26, _, _, _, _, _⟩) (v := .agg #[.int .i64 xf, .int .i64 xn, .string xs, .slice xA xl xc]) rfl (by kernel_rfl) (by kernel_rfl) (by kernel_rfl) (fun _ _ _ h => h) (Or.inl ⟨by rfl, ?_⟩) (by assumption) ?_
    · intro w9 hSw; go_simp
    try simp only [Act.put, List.setIfInBounds_toArray, List.set_cons_zero, List.set_cons_succ]
    refine wpAnyH_take (i := 2) (oi := ⟨some 28, _, _, _, _, _⟩) (v := .bool false) rfl (by kernel_rfl) (by kernel_rfl) (by kernel_rfl) (fun _ _ _ h => h) (Or.inl ⟨by rfl, ?_⟩) (by assumption) ?_
    · intro w9 hSw; go_simp
    try simp only [Act.put, List.setIfInBounds_toArray, List.set_cons_zero, List.set_cons_succ]
    refine wpAnyH_take (i := 10) (oi := ⟨some 36, _, _, _, _, _⟩) (v := .agg #[.int .i64 bf, .int .i64 bn, .string bs, .slice bA bl bc]) rfl (by kernel_rfl) (by kernel_rfl) (by kernel_rfl) (fun _ _ _ h => h) (Or.inl ⟨by rfl, ?_⟩) (by assumption) ?_
    · intro w9 hSw; go_simp
    try simp only [Act.put, List.setIfInBounds_toArray, List.set_cons_zero, List.set_cons_succ]
    refine wpAnyH_take (i := 12) (oi := ⟨some 38, _, _, _, _, _⟩) (v := .pointer (some ⟨w1.heap.size + 1, 0, none⟩)) rfl (by kernel_rfl) (by kernel_rfl) (by kernel_rfl) (fun _ _ _ h => h) (Or.inl ⟨by rfl, ?_⟩) (by assumption) ?_
    · intro w9 hSw; go_simp
    try simp only [Act.put, List.setIfInBounds_toArray, List.set_cons_zero, List.set_cons_succ]
    refine wpAnyH_take (i := 13) (oi := ⟨some 39, _, _, _, _, _⟩) (v := .int .i64 bf) rfl (by kernel_rfl) (by kernel_rfl) (by kernel_rfl) (fun _ _ _ h => h) (Or.inl ⟨by rfl, ?_⟩) (by assumption) ?_
    · intro w9 hSw; go_simp
    try simp only [Act.put, List.setIfInBounds_toArray, List.set_cons_zero, List.set_cons_succ]
    refine wpAnyH_take (i := 14) (oi := ⟨some 40, _, _, _, _, _⟩) (v := .bool (bf == 5)) rfl (by kernel_rfl) (by kernel_rfl) (by kernel_rfl) (fun _ _ _ h => h) (Or.inl ⟨by rfl, ?_⟩) (by assumption) ?_
    · intro w9 hSw; go_simp
    try simp only [Act.put, List.setIfInBounds_toArray, List.set_cons_zero, List.set_cons_succ]
    refine wpAnyH_ready (rs := [1]) (by kernel_rfl) (by simp) ?_
    refine AllReadyH.cons (o := ⟨some 27, _, _, _, _, _⟩) rfl (fun K hK => ?_) AllReadyH.nil
    go_simp
    (with_reducible refine (HPX.out _ hYd).mono ?_)
    rintro e q1 ⟨rfl, hb1⟩
    refine hK.out _ _ (keep.out q1 hb1) (fun hHeld => ?_)
    clear hK K
    try simp only [Act.put, List.setIfInBounds_toArray, List.set_cons_zero, List.set_cons_succ]
    refine wpAnyH_take (i := 3) (oi := ⟨some 29, _, _, _, _, _⟩) (v := .bool false) rfl (by kernel_rfl) (by kernel_rfl) (by kernel_rfl) (fun _ _ _ h => h) (Or.inl ⟨by rfl, ?_⟩) (by assumption) ?_
    · intro w9 hSw; go_simp
    try simp only [Act.put, List.setIfInBounds_toArray, List.set_cons_zero, List.set_cons_succ]
    refine wpAnyH_take (i := 4) (oi := ⟨some 30, _, _, _, _, _⟩) (v := .pointer (some ⟨w1.heap.size, 0, none⟩)) rfl (by kernel_rfl) (by kernel_rfl) (by kernel_rfl) (fun _ _ _ h => h) (Or.inl ⟨by rfl, ?_⟩) (by assumption) ?_
    · intro w9 hSw; go_simp
    try simp only [Act.put, List.setIfInBounds_toArray, List.set_cons_zero, List.set_cons_succ]
    refine wpAnyH_take (i := 5) (oi := ⟨some 31, _, _, _, _, _⟩) (v := .int .i64 xf) rfl (by kernel_rfl) (by kernel_rfl) (by kernel_rfl) (fun _ _ _ h => h) (Or.inl ⟨by rfl, ?_⟩) (by assumption) ?_
    · intro w9 hSw; go_simp
    try simp only [Act.put, List.setIfInBounds_toArray, List.set_cons_zero, List.set_cons_succ]
    refine wpAnyH_take (i := 6) (oi := ⟨some 32, _, _, _, _, _⟩) (v := .bool (xf == 5)) rfl (by kernel_rfl) (by kernel_rfl) (by kernel_rfl) (fun _ _ _ h => h) (Or.inl ⟨by rfl, ?_⟩) (by assumption) ?_
    · intro w9 hSw; go_simp
    try simp only [Act.put, List.setIfInBounds_toArray, List.set_cons_zero, List.set_cons_succ]
    refine wpAnyH_take (i := 7) (oi := ⟨some 33, _, _, _, _, _⟩) (v := .bool (xf == 5)) rfl (by kernel_rfl) (by kernel_rfl) (by kernel_rfl) (fun _ _ _ h => h) (Or.inl ⟨by rfl, ?_⟩) (by assumption) ?_
    · intro w9 hSw; go_simp
    try simp only [Act.put, List.setIfInBounds_toArray, List.set_cons_zero, List.set_cons_succ]
    refine wpAnyH_ready (rs := [8]) (by kernel_rfl) (by simp) ?_
    refine AllReadyH.cons (o := ⟨some 34, _, _, _, _, _⟩) rfl (fun K hK => ?_) AllReadyH.nil
    go_simp
    (with_reducible refine (HBX.out _ (by first | rfl | simp) _).mono ?_)
    rintro e q3 ⟨rfl, rfl⟩
    refine hK.out _ _ (by assumption) (fun hHeld => ?_)
    clear hK K
    try simp only [Act.put, List.setIfInBounds_toArray, List.set_cons_zero, List.set_cons_succ]
    refine wpAnyH_take (i := 9) (oi := ⟨some 35, _, _, _, _, _⟩) (v := .string (X1 ++ ⟨#[32, 45, 62, 32]⟩)) rfl (by kernel_rfl) (by kernel_rfl) (by kernel_rfl) (fun _ _ _ h => h) (Or.inl ⟨by rfl, ?_⟩) (by assumption) ?_
    · intro w9 hSw; go_simp
    try simp only [Act.put, List.setIfInBounds_toArray, List.set_cons_zero, List.set_cons_succ]
    refine wpAnyH_ready (rs := [11]) (by kernel_rfl) (by simp) ?_
    refine AllReadyH.cons (o := ⟨some 37, _, _, _, _, _⟩) rfl (fun K hK => ?_) AllReadyH.nil
    go_simp
    (with_reducible refine (HPB.out _ hb1).mono ?_)
    rintro e q2 ⟨rfl, hb2⟩
    refine hK.out _ _ (keep.out q2 hb2) (fun hHeld => ?_)
    clear hK K
    try simp only [Act.put, List.setIfInBounds_toArray, List.set_cons_zero, List.set_cons_succ]
    refine wpAnyH_ready (rs := [15]) (by kernel_rfl) (by simp) ?_
    refine AllReadyH.cons (o := ⟨some 41, _, _, _, _, _⟩) rfl (fun K hK => ?_) AllReadyH.nil
    go_simp
    (with_reducible refine (HBB.out _ (by first | rfl | simp) _).mono ?_)
    rintro e q4 ⟨rfl, rfl⟩
    refine hK.out _ _ (by assumption) (fun hHeld => ?_)
    clear hK K
    try simp only [Act.put, List.setIfInBounds_toArray, List.set_cons_zero, List.set_cons_succ]
    refine wpAnyH_take (i := 16) (oi := ⟨some 42, _, _, _, _, _⟩) (v := .string (X1 ++ ⟨#[32, 45, 62, 32]⟩ ++ X2)) rfl (by kernel_rfl) (by kernel_rfl) (by kernel_rfl) (fun _ _ _ h => h) (Or.inl ⟨by rfl, ?_⟩) (by assumption) ?_
    · intro w9 hSw; go_simp
    try simp only [Act.put, List.setIfInBounds_toArray, List.set_cons_zero, List.set_cons_succ]
    refine wpAnyH_take (i := 17) (oi := ⟨some 2, _, _, _, _, _⟩) (v := .string (X1 ++ ⟨#[32, 45, 62, 32]⟩ ++ X2)) rfl (by kernel_rfl) (by kernel_rfl) (by kernel_rfl) (fun _ _ _ h => h) (Or.inl ⟨by rfl, ?_⟩) (by assumption) ?_
    · intro w9 hSw; go_simp
    try simp only [Act.put, List.setIfInBounds_toArray, List.set_cons_zero, List.set_cons_succ]
    refine wpAnyH_done (by kernel_rfl) ?_ _
    go_wp2
    go_ret
    exact ⟨by rw [← HE.out]; rfl, hb2.1⟩
  · go_enter Tryd.func32, Tryd.ntmps32
    go_wp2_with fail
    rw [HEW.out]
    refine (HF.out W HB.out).mono ?_
    rintro e w1 ⟨rfl, hb1⟩
    have HB1 : Hid (Below w.heap.size w w1) := HB.out.trans (hb1.mono HB.out.size)
    obtain ⟨⟨k9, k0, k1, k2, k3⟩, m0, m1, m2, m3⟩ := HK.out w1 HB1.out
    have hg3 : g3 < w1.heap.size := Nat.lt_of_lt_of_le hgl3 HB1.out.size
    obtain ⟨y0, y1, y2, y3, y4, _⟩ := HQ.out.on hb1
    have hg1 : g < w1.heap.size := Nat.lt_of_lt_of_le hgl HB1.out.size
    clear hb1
    obtain ⟨y, ey, Q1, Q2, by1, zy⟩ := two_boxes w1 (.int .i64 xf) (.int .i64 xn) (.string xs) (.slice xA xl xc) (.int .i64 bf) (.int .i64 bn) (.string bs) (.slice bA bl bc) 25 25
    have HEY := Lib.hid ey
    have HQ1 := Lib.hid Q1
    have HQ2 := Lib.hid Q2
    have HBY := Lib.hid by1
    clear ey Q1 Q2 by1
    have hs1 : w1.heap.size < y.heap.size := by omega
    have hs2 : w1.heap.size + 1 < y.heap.size := by omega
    have HBY' : Hid (Below w.heap.size w y) := HB1.out.trans (HBY.out.mono HB1.out.size)
    go_wp2_with fail
    rw [HEY.out]
    refine (HF2.out y HBY'.out).mono ?_
    rintro e z ⟨rfl, hbz⟩
    have HBZ : Hid (Below w.heap.size w z) := HBY'.out.trans (hbz.mono HBY'.out.size)
    have HZ1 := Lib.hid (HQ1.out.on hbz)
    have HZ2 := Lib.hid (HQ2.out.on hbz)
    clear hbz
    have keep : Hid (∀ q : World, Below w.heap.size w q ∧ Below z.heap.size z q → (q.cell? ⟨w1.heap.size, 0, none⟩ = some (.int .i64 xf) ∧ q.cell? ⟨w1.heap.size, 1, none⟩ = some (.int .i64 xn) ∧ q.cell? ⟨w1.heap.size, 2, none⟩ = some (.string xs) ∧ q.cell? ⟨w1.heap.size, 3, none⟩ = some (.slice xA xl xc)) ∧ (q.cell? ⟨(w1.heap.size + 1), 0, none⟩ = some (.int .i64 bf) ∧ q.cell? ⟨(w1.heap.size + 1), 1, none⟩ = some (.int .i64 bn) ∧ q.cell? ⟨(w1.heap.size + 1), 2, none⟩ = some (.string bs) ∧ q.cell? ⟨(w1.heap.size + 1), 3, none⟩ = some (.slice bA bl bc))) := fun q hb => by
      obtain ⟨_, u1, u2, u3, u4, _⟩ := HZ1.out.on hb.2
      obtain ⟨_, v1, v2, v3, v4, _⟩ := HZ2.out.on hb.2
      exact ⟨⟨u1, u2, u3, u4⟩, v1, v2, v3, v4⟩
    have HPX : Hid (∀ q : World, Below w.heap.size w q ∧ Below z.heap.size z q → Calls Tryd.prog 32 #[.agg #[.int .i64 xf, .int .i64 xn, .string xs, .slice xA xl xc]] q fun e q' => e = .returned (.string ⟨E1.toArray⟩) ∧ Below w.heap.size w q' ∧ Below z.heap.size z q') := fun q hb => by
      refine (HPX0.out q hb.1).mono ?_
      rintro e q' ⟨rfl, hq⟩
      exact ⟨rfl, hb.1.trans (hq.mono hb.1.size), hb.2.trans (hq.mono hb.2.size)⟩
    have HPB : Hid (∀ q : World, Below w.heap.size w q ∧ Below z.heap.size z q → Calls Tryd.prog 32 #[.agg #[.int .i64 bf, .int .i64 bn, .string bs, .slice bA bl bc]] q fun e q' => e = .returned (.string ⟨E2.toArray⟩) ∧ Below w.heap.size w q' ∧ Below z.heap.size z q') := fun q hb => by
      refine (HPB0.out q hb.1).mono ?_
      rintro e q' ⟨rfl, hq⟩
      exact ⟨rfl, hb.1.trans (hq.mono hb.1.size), hb.2.trans (hq.mono hb.2.size)⟩
    have hYd : Below w.heap.size w z.drew ∧ Below z.heap.size z z.drew := ⟨HBZ.out.drew, (Below.refl _ z).drew⟩
    have hS0 := keep.out z.drew hYd
    clear k9 k0 k1 k2 k3 m0 m1 m2 m3 y0 y1 y2 y3 y4
    go_wp2_with fail
    refine wp_region_held_drew (S := fun q => (q.cell? ⟨w1.heap.size, 0, none⟩ = some (.int .i64 xf) ∧ q.cell? ⟨w1.heap.size, 1, none⟩ = some (.int .i64 xn) ∧ q.cell? ⟨w1.heap.size, 2, none⟩ = some (.string xs) ∧ q.cell? ⟨w1.heap.size, 3, none⟩ = some (.slice xA xl xc)) ∧ (q.cell? ⟨(w1.heap.size + 1), 0, none⟩ = some (.int .i64 bf) ∧ q.cell? ⟨(w1.heap.size + 1), 1, none⟩ = some (.int .i64 bn) ∧ q.cell? ⟨(w1.heap.size + 1), 2, none⟩ = some (.string bs) ∧ q.cell? ⟨(w1.heap.size + 1), 3, none⟩ = some (.slice bA bl bc))) (by kernel_rfl) hS0 (fun hHeld => ?_)
    refine wpAnyH_take (i := 0) (oi := ⟨some 26, _, _, _, _, _⟩) (v := .agg #[.int .i64 xf, .int .i64 xn, .string xs, .slice xA xl xc]) rfl (by kernel_rfl) (by kernel_rfl) (by kernel_rfl) (fun _ _ _ h => h) (Or.inl ⟨by rfl, ?_⟩) (by assumption) ?_
    · intro w9 hSw; go_simp
    try simp only [Act.put, List.setIfInBounds_toArray, List.set_cons_zero, List.set_cons_succ]
    refine wpAnyH_take (i := 2) (oi := ⟨some 28, _, _, _, _, _⟩) (v := .bool true) rfl (by kernel_rfl) (by kernel_rfl) (by kernel_rfl) (fun _ _ _ h => h) (Or.inl ⟨by rfl, ?_⟩) (by assumption) ?_
    · intro w9 hSw; go_simp
    try simp only [Act.put, List.setIfInBounds_toArray, List.set_cons_zero, List.set_cons_succ]
    refine wpAnyH_take (i := 10) (oi := ⟨some 36, _, _, _, _, _⟩) (v := .agg #[.int .i64 bf, .int .i64 bn, .string bs, .slice bA bl bc]) rfl (by kernel_rfl) (by kernel_rfl) (by kernel_rfl) (fun _ _ _ h => h) (Or.inl ⟨by rfl, ?_⟩) (by assumption) ?_
    · intro w9 hSw; go_simp
    try simp only [Act.put, List.setIfInBounds_toArray, List.set_cons_zero, List.set_cons_succ]
    refine wpAnyH_take (i := 12) (oi := ⟨some 38, _, _, _, _, _⟩) (v := .pointer (some ⟨w1.heap.size + 1, 0, none⟩)) rfl (by kernel_rfl) (by kernel_rfl) (by kernel_rfl) (fun _ _ _ h => h) (Or.inl ⟨by rfl, ?_⟩) (by assumption) ?_
    · intro w9 hSw; go_simp
    try simp only [Act.put, List.setIfInBounds_toArray, List.set_cons_zero, List.set_cons_succ]
    refine wpAnyH_take (i := 13) (oi := ⟨some 39, _, _, _, _, _⟩) (v := .int .i64 bf) rfl (by kernel_rfl) (by kernel_rfl) (by kernel_rfl) (fun _ _ _ h => h) (Or.inl ⟨by rfl, ?_⟩) (by assumption) ?_
    · intro w9 hSw; go_simp
    try simp only [Act.put, List.setIfInBounds_toArray, List.set_cons_zero, List.set_cons_succ]
    refine wpAnyH_take (i := 14) (oi := ⟨some 40, _, _, _, _, _⟩) (v := .bool (bf == 5)) rfl (by kernel_rfl) (by kernel_rfl) (by kernel_rfl) (fun _ _ _ h => h) (Or.inl ⟨by rfl, ?_⟩) (by assumption) ?_
    · intro w9 hSw; go_simp
    try simp only [Act.put, List.setIfInBounds_toArray, List.set_cons_zero, List.set_cons_succ]
    refine wpAnyH_ready (rs := [1]) (by kernel_rfl) (by simp) ?_
    refine AllReadyH.cons (o := ⟨some 27, _, _, _, _, _⟩) rfl (fun K hK => ?_) AllReadyH.nil
    go_simp
    (with_reducible refine (HPX.out _ hYd).mono ?_)
    rintro e q1 ⟨rfl, hb1⟩
    refine hK.out _ _ (keep.out q1 hb1) (fun hHeld => ?_)
    clear hK K
    try simp only [Act.put, List.setIfInBounds_toArray, List.set_cons_zero, List.set_cons_succ]
    refine wpAnyH_take (i := 3) (oi := ⟨some 29, _, _, _, _, _⟩) (v := .bool true) rfl (by kernel_rfl) (by kernel_rfl) (by kernel_rfl) (fun _ _ _ h => h) (Or.inl ⟨by rfl, ?_⟩) (by assumption) ?_
    · intro w9 hSw; go_simp
    try simp only [Act.put, List.setIfInBounds_toArray, List.set_cons_zero, List.set_cons_succ]
    refine wpAnyH_take (i := 4) (oi := ⟨some 30, _, _, _, _, _⟩) (v := undef) rfl (by kernel_rfl) (by kernel_rfl) (by kernel_rfl) (fun _ _ _ h => h) (Or.inr ⟨by rfl, rfl⟩) (by assumption) ?_
    try simp only [Act.put, List.setIfInBounds_toArray, List.set_cons_zero, List.set_cons_succ]
    refine wpAnyH_take (i := 5) (oi := ⟨some 31, _, _, _, _, _⟩) (v := undef) rfl (by kernel_rfl) (by kernel_rfl) (by kernel_rfl) (fun _ _ _ h => h) (Or.inr ⟨by rfl, rfl⟩) (by assumption) ?_
    try simp only [Act.put, List.setIfInBounds_toArray, List.set_cons_zero, List.set_cons_succ]
    refine wpAnyH_take (i := 6) (oi := ⟨some 32, _, _, _, _, _⟩) (v := undef) rfl (by kernel_rfl) (by kernel_rfl) (by kernel_rfl) (fun _ _ _ h => h) (Or.inr ⟨by rfl, rfl⟩) (by assumption) ?_
    try simp only [Act.put, List.setIfInBounds_toArray, List.set_cons_zero, List.set_cons_succ]
    refine wpAnyH_take (i := 7) (oi := ⟨some 33, _, _, _, _, _⟩) (v := .bool true) rfl (by kernel_rfl) (by kernel_rfl) (by kernel_rfl) (fun _ _ _ h => h) (Or.inl ⟨by rfl, ?_⟩) (by assumption) ?_
    · intro w9 hSw; go_simp
    try simp only [Act.put, List.setIfInBounds_toArray, List.set_cons_zero, List.set_cons_succ]
    refine wpAnyH_ready (rs := [8]) (by kernel_rfl) (by simp) ?_
    refine AllReadyH.cons (o := ⟨some 34, _, _, _, _, _⟩) rfl (fun K hK => ?_) AllReadyH.nil
    go_simp
    (with_reducible refine (HBX.out _ (by first | rfl | simp) _).mono ?_)
    rintro e q3 ⟨rfl, rfl⟩
    refine hK.out _ _ (by assumption) (fun hHeld => ?_)
    clear hK K
    try simp only [Act.put, List.setIfInBounds_toArray, List.set_cons_zero, List.set_cons_succ]
    refine wpAnyH_take (i := 9) (oi := ⟨some 35, _, _, _, _, _⟩) (v := .string (X1 ++ ⟨#[32, 45, 62, 32]⟩)) rfl (by kernel_rfl) (by kernel_rfl) (by kernel_rfl) (fun _ _ _ h => h) (Or.inl ⟨by rfl, ?_⟩) (by assumption) ?_
    · intro w9 hSw; go_simp
    try simp only [Act.put, List.setIfInBounds_toArray, List.set_cons_zero, List.set_cons_succ]
    refine wpAnyH_ready (rs := [11]) (by kernel_rfl) (by simp) ?_
    refine AllReadyH.cons (o := ⟨some 37, _, _, _, _, _⟩) rfl (fun K hK => ?_) AllReadyH.nil
    go_simp
    (with_reducible refine (HPB.out _ hb1).mono ?_)
    rintro e q2 ⟨rfl, hb2⟩
    refine hK.out _ _ (keep.out q2 hb2) (fun hHeld => ?_)
    clear hK K
    try simp only [Act.put, List.setIfInBounds_toArray, List.set_cons_zero, List.set_cons_succ]
    refine wpAnyH_ready (rs := [15]) (by kernel_rfl) (by simp) ?_
    refine AllReadyH.cons (o := ⟨some 41, _, _, _, _, _⟩) rfl (fun K hK => ?_) AllReadyH.nil
    go_simp
    (with_reducible refine (HBB.out _ (by first | rfl | simp) _).mono ?_)
    rintro e q4 ⟨rfl, rfl⟩
    refine hK.out _ _ (by assumption) (fun hHeld => ?_)
    clear hK K
    try simp only [Act.put, List.setIfInBounds_toArray, List.set_cons_zero, List.set_cons_succ]
    refine wpAnyH_take (i := 16) (oi := ⟨some 42, _, _, _, _, _⟩) (v := .string (X1 ++ ⟨#[32, 45, 62, 32]⟩ ++ X2)) rfl (by kernel_rfl) (by kernel_rfl) (by kernel_rfl) (fun _ _ _ h => h) (Or.inl ⟨by rfl, ?_⟩) (by assumption) ?_
    · intro w9 hSw; go_simp
    try simp only [Act.put, List.setIfInBounds_toArray, List.set_cons_zero, List.set_cons_succ]
    refine wpAnyH_take (i := 17) (oi := ⟨some 2, _, _, _, _, _⟩) (v := .string (X1 ++ ⟨#[32, 45, 62, 32]⟩ ++ X2)) rfl (by kernel_rfl) (by kernel_rfl) (by kernel_rfl) (fun _ _ _ h => h) (Or.inl ⟨by rfl, ?_⟩) (by assumption) ?_
    · intro w9 hSw; go_simp
    try simp only [Act.put, List.setIfInBounds_toArray, List.set_cons_zero, List.set_cons_succ]
    refine wpAnyH_done (by kernel_rfl) ?_ _
    go_wp2
    go_ret
    exact ⟨by rw [← HE.out]; rfl, hb2.1⟩
end Go.Proofs.YtbdfjboojokgdaaDoor
