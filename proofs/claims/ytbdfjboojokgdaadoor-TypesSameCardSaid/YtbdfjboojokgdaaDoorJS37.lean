/- The contracts of types.Same and what it calls (chapter 4), whole. Conditions: names are of at most 2^40 bytes, types of at most 2^40 nodes. -/
import Derived.Test.YtbdfjboojokgdaaDoorJS15
namespace Go.Proofs.YtbdfjboojokgdaaDoor
open Go.RowKit

theorem three_b (w : World) (ma mb : Nat) (a0 a1 a2 a3 b0 b1 b2 b3 : Value) : ∃ W, ((w.alloc (.cells #[.map (some ma), .map (some mb)] 107)).alloc (.cells #[a0, a1, a2, a3] 25)).alloc (.cells #[b0, b1, b2, b3] 25) = W ∧ W.heap[w.heap.size]? = some (.cells #[.map (some ma), .map (some mb)] 107) ∧ BoxB W (w.heap.size + 1) a0 a1 a2 a3 ∧ BoxB W (w.heap.size + 1 + 1) b0 b1 b2 b3 ∧ Below w.heap.size w W ∧ W.heap.size = w.heap.size + 3 := by
  refine ⟨_, rfl, ?_, ?_, ?_, below3 w _ _ _, by simp⟩
  · have h := (MapKept.heap_alloc w (.cells #[.map (some ma), .map (some mb)] 107)).1
    rw [Below.heap_alloc _ _ _ (by simp; omega), Below.heap_alloc _ _ _ (by simp)]; exact h
  · have h := (BoxB.new (w.alloc (.cells #[.map (some ma), .map (some mb)] 107)) a0 a1 a2 a3).on (below_new _ (.cells #[b0, b1, b2, b3] 25))
    simp only [World.size_alloc] at h; exact h
  · have h := BoxB.new ((w.alloc (.cells #[.map (some ma), .map (some mb)] 107)).alloc (.cells #[a0, a1, a2, a3] 25)) b0 b1 b2 b3
    simp only [World.size_alloc] at h; exact h
set_option maxRecDepth 100000 in
set_option maxHeartbeats 1000000 in
theorem same_no (ma mb : Nat) (a b : Ty) (P Q : Nat → Prop) (va vb : Value) (fa fb : ByteArray → Int) (d : Int) (N : Nat) (w : World) (ha : TyAt P w a va) (hb : TyAt Q w b vb) (hsa : a.short) (hsb : b.short) (hma : MapG w ma fa N) (hmb : MapG w mb fb N) (hno : a.form ≠ b.form ∨ a.num ≠ b.num) :
    Calls Tryd.prog 68 #[.agg #[.map (some ma), .map (some mb)], va, vb, .int .i64 d] w (SameRes ma mb fa fb (N + 2 * a.sz) (sameT fa fb d a b) w) := by
  have HE := Lib.hid (sameT_no (fa := fa) (fb := fb) (d := d) hno)
  obtain ⟨sv1, rfl, hs1⟩ := ha.tys
  obtain ⟨sv2, rfl, hs2⟩ := hb.tys
  obtain ⟨A1, c1, rfl, hc1, hm1⟩ := hs1.form
  obtain ⟨A2, c2, rfl, hc2, hm2⟩ := hs2.form
  have HS1 := Lib.hid hs1.bound'
  have HS2 := Lib.hid hs2.bound'
  have HMA := Lib.hid hma
  have HMB := Lib.hid hmb
  have hla := hma.lt
  have hlb := hmb.lt
  have hna := Ty.short_name hsa
  have hnb := Ty.short_name hsb
  have hl1 := a.args_le
  have hl2 := b.args_le
  obtain ⟨W, eW, bx, q1, q2, bW, zW⟩ := three_b w ma mb (.int .i64 a.form) (.int .i64 a.num) (.string a.name) (.slice A1 a.args.length c1) (.int .i64 b.form) (.int .i64 b.num) (.string b.name) (.slice A2 b.args.length c2)
  have HEW := Lib.hid eW
  have HBX := Lib.hid bx
  have HQ1 := Lib.hid q1
  have HQ2 := Lib.hid q2
  have HBW := Lib.hid bW
  have HMAW := Lib.hid (hma.on bW)
  have HMBW := Lib.hid (hmb.on bW)
  clear eW bx q1 q2 bW ha hb hs1 hs2 hma hmb
  have hcase : (a.form != b.form) = true ∨ ((a.form != b.form) = false ∧ (a.num != b.num) = true) := by
    by_cases h1 : a.form = b.form
    · exact .inr ⟨by simp [h1], by rw [bne_iff_ne]; exact hno.resolve_left (fun h => h h1)⟩
    · exact .inl (by rw [bne_iff_ne]; exact h1)
  clear hno HQ1 HQ2 HS1 HS2
  have HMF := Lib.hid (HMAW.out.more (N' := N + 2 * a.sz) (by omega))
  have HMG := Lib.hid (HMBW.out.more (N' := N + 2 * a.sz) (by omega))
  clear hsa hsb hc1 hc2 hna hnb hl1 hl2
  generalize a.form = af, a.num = an, a.name = az, a.args.length = al at *
  generalize b.form = bf, b.num = bn, b.name = bz, b.args.length = bl at *
  rcases hcase with t1 | ⟨t1, t2⟩
  all_goals
    go_enter Tryd.func68, Tryd.ntmps68
    go_wp2_with fail
    go_ret
    rw [HEW.out]
    exact ⟨ret_bool HE.out.symm, HMF.out, HMG.out, .of_below HBW.out⟩
set_option maxRecDepth 100000 in
set_option maxHeartbeats 1000000 in
theorem same_var (ma mb : Nat) (a b : Ty) (P Q : Nat → Prop) (va vb : Value) (fa fb : ByteArray → Int) (d : Int) (N : Nat) (w : World) (ha : TyAt P w a va) (hb : TyAt Q w b vb) (hsa : a.short) (hsb : b.short) (hma : MapG w ma fa N) (hmb : MapG w mb fb N) (hf : a.form = 2) (hf' : b.form = 2) (hnn : a.num = b.num) (hal : a.args.length = b.args.length) :
    Calls Tryd.prog 68 #[.agg #[.map (some ma), .map (some mb)], va, vb, .int .i64 d] w (SameRes ma mb fa fb (N + 2 * a.sz) (sameT fa fb d a b) w) := by
  have HE := Lib.hid (sameT_var (fa := fa) (fb := fb) (d := d) hf hf')
  obtain ⟨sv1, rfl, hs1⟩ := ha.tys
  obtain ⟨sv2, rfl, hs2⟩ := hb.tys
  obtain ⟨A1, c1, rfl, hc1, hm1⟩ := hs1.form
  obtain ⟨A2, c2, rfl, hc2, hm2⟩ := hs2.form
  have HS1 := Lib.hid hs1.bound'
  have HS2 := Lib.hid hs2.bound'
  have HMA := Lib.hid hma
  have HMB := Lib.hid hmb
  have hla := hma.lt
  have hlb := hmb.lt
  have hna := Ty.short_name hsa
  have hnb := Ty.short_name hsb
  have hl1 := a.args_le
  have hl2 := b.args_le
  obtain ⟨W, eW, bx, q1, q2, bW, zW⟩ := three_b w ma mb (.int .i64 a.form) (.int .i64 a.num) (.string a.name) (.slice A1 a.args.length c1) (.int .i64 b.form) (.int .i64 b.num) (.string b.name) (.slice A2 b.args.length c2)
  have HEW := Lib.hid eW
  have HBX := Lib.hid bx
  have HQ1 := Lib.hid q1
  have HQ2 := Lib.hid q2
  have HBW := Lib.hid bW
  have HMAW := Lib.hid (hma.on bW)
  have HMBW := Lib.hid (hmb.on bW)
  clear eW bx q1 q2 bW ha hb hs1 hs2 hma hmb
  have HMF := Lib.hid (HMAW.out.more (N' := N + 2 * a.sz) (by omega))
  have HMG := Lib.hid (HMBW.out.more (N' := N + 2 * a.sz) (by omega))
  have hk1 := (HMAW.out.on (Below.refl _ W).drew).look hna
  have hk2 := (HMBW.out.on (Below.refl _ W).drew).look hnb
  have HBL : Hid ((a.name.toList == b.name.toList) = (a.name == b.name)) := beq_lists rfl
  have hcase : ((fa a.name == fb b.name) = false ∧ (fa a.name == fb b.name && (decide (0 < fa a.name) || a.name == b.name)) = false) ∨ ((fa a.name == fb b.name) = true ∧ 0 < fa a.name ∧ (fa a.name == fb b.name && (decide (0 < fa a.name) || a.name == b.name)) = true) ∨ ((fa a.name == fb b.name) = true ∧ ¬ 0 < fa a.name ∧ (fa a.name == fb b.name && (decide (0 < fa a.name) || a.name == b.name)) = (a.name.toList == b.name.toList)) := by
    rw [HBL.out]
    cases h1 : (fa a.name == fb b.name) with
    | false => exact .inl ⟨rfl, by simp⟩
    | true =>
      by_cases h2 : 0 < fa a.name
      · exact .inr (.inl ⟨rfl, h2, by simp [h2]⟩)
      · exact .inr (.inr ⟨rfl, h2, by simp [h2]⟩)
  rw [hf, hnn, hal] at HEW HQ1 ⊢
  rw [hf'] at HEW HQ2 ⊢
  clear hsa hsb hc1 hc2 hna hnb hl1 hl2 HBL HS1 HS2 hf hf' hnn hal
  have hbk := HBX.out
  have x0 : W.cell? ⟨w.heap.size, 0, none⟩ = some (.map (some ma)) := by simp [World.cell?, hbk]
  have x1 : W.cell? ⟨w.heap.size, 1, none⟩ = some (.map (some mb)) := by simp [World.cell?, hbk]
  have xl : w.heap.size < W.heap.size := by omega
  obtain ⟨y0, y1, y2, y3, y4⟩ := HQ1.out.four
  obtain ⟨z0, z1, z2, z3, z4⟩ := HQ2.out.four
  generalize hFA : fa a.name = va at *
  generalize hFB : fb b.name = vb at *
  generalize hEQ : (va == vb && (decide (0 < va) || a.name == b.name)) = qq at *
  have HEQ := Lib.hid hEQ
  clear hbk hFA hFB hEQ
  generalize b.num = bn, a.name = az, b.name = bz, b.args.length = bl at *
  rcases hcase with ⟨t1, t9⟩ | ⟨t1, t2, t9⟩ | ⟨t1, t2, t9⟩
  all_goals
    have HT9 := Lib.hid t9
    clear t9
    go_enter Tryd.func68, Tryd.ntmps68
    go_wp2_with fail
    rw [HEW.out]
    go_region
    go_wp2
    go_ret
    exact ⟨ret_bool (by rw [HE.out]; first | exact HT9.out.symm | (rw [show decide (0 < va) = false from decide_eq_false (by omega), Bool.false_or]; exact HT9.out.symm)), HMF.out.on (Below.refl _ _).drew, HMG.out.on (Below.refl _ _).drew, (Fr.of_below HBW.out).drew⟩
set_option maxRecDepth 100000 in
set_option maxHeartbeats 1000000 in
theorem same_else (ma mb : Nat) (a b : Ty) (P Q : Nat → Prop) (va vb : Value) (fa fb : ByteArray → Int) (d : Int) (N : Nat) (w : World) (ha : TyAt P w a va) (hb : TyAt Q w b vb) (hsa : a.short) (hsb : b.short) (hma : MapG w ma fa N) (hmb : MapG w mb fb N) (hN : N + 2 * a.sz ≤ 1099511627776) (hd0 : 0 ≤ d) (hd : d + a.sz ≤ 1099511627776) (hne : ma ≠ mb) (n : Nat) (ih : SameIs ma mb n) (han : a.sz ≤ n + 1) (hf : a.form = b.form) (h2 : a.form ≠ 2) (h5 : a.form ≠ 5) (hnn : a.num = b.num) (hal : a.args.length = b.args.length) :
    Calls Tryd.prog 68 #[.agg #[.map (some ma), .map (some mb)], va, vb, .int .i64 d] w (SameRes ma mb fa fb (N + 2 * a.sz) (sameT fa fb d a b) w) := by
  have HE := Lib.hid (sameT_else (fa := fa) (fb := fb) (d := d) hf hnn h2 h5)
  obtain ⟨sv1, rfl, hs1⟩ := ha.tys
  obtain ⟨sv2, rfl, hs2⟩ := hb.tys
  obtain ⟨A1, c1, rfl, hc1, hm1⟩ := hs1.form
  obtain ⟨A2, c2, rfl, hc2, hm2⟩ := hs2.form
  have HS1 := Lib.hid hs1.bound'
  have HS2 := Lib.hid hs2.bound'
  have HMA := Lib.hid hma
  have HMB := Lib.hid hmb
  have hla := hma.lt
  have hlb := hmb.lt
  have hna := Ty.short_name hsa
  have hnb := Ty.short_name hsb
  have hl1 := a.args_le
  have hl2 := b.args_le
  obtain ⟨W, eW, bx, q1, q2, bW, zW⟩ := three_b w ma mb (.int .i64 a.form) (.int .i64 a.num) (.string a.name) (.slice A1 a.args.length c1) (.int .i64 b.form) (.int .i64 b.num) (.string b.name) (.slice A2 b.args.length c2)
  have HEW := Lib.hid eW
  have HBX := Lib.hid bx
  have HQ1 := Lib.hid q1
  have HQ2 := Lib.hid q2
  have HBW := Lib.hid bW
  have HMAW := Lib.hid (hma.on bW)
  have HMBW := Lib.hid (hmb.on bW)
  clear eW bx q1 q2 bW ha hb hs1 hs2 hma hmb
  have hss := sumSz_args a
  have HMF := Lib.hid (HMAW.out.more (N' := N + 2 * a.sz) (by omega))
  have HMG := Lib.hid (HMBW.out.more (N' := N + 2 * a.sz) (by omega))
  have HBL : Hid ((a.name.toList == b.name.toList) = (a.name == b.name)) := beq_lists rfl
  have hcal := sameAll_of ma mb n hne ih a.args b.args _ _ _ _ fa fb d N W (fun x hx => by have := Ty.arg_sz hx; omega) (HS1.out.on HBW.out) (HS2.out.on HBW.out) (fun x hx => Ty.short_arg hsa hx) (fun x hx => Ty.short_arg hsb hx) HMAW.out HMBW.out (by omega) hd0 (by omega) hal hl1
  have HCAL := Lib.hid hcal
  have t2 : (b.form == 2) = false := by rw [← hf]; simpa using h2
  have t5 : (b.form == 5) = false := by rw [← hf]; simpa using h5
  rw [hf, hnn] at HEW HQ1 ⊢
  obtain ⟨y0, y1, y2, y3, y4⟩ := HQ1.out.four
  obtain ⟨z0, z1, z2, z3, z4⟩ := HQ2.out.four
  have hbk := HBX.out
  have x0 : W.cell? ⟨w.heap.size, 0, none⟩ = some (.map (some ma)) := by simp [World.cell?, hbk]
  have x1 : W.cell? ⟨w.heap.size, 1, none⟩ = some (.map (some mb)) := by simp [World.cell?, hbk]
  have xl : w.heap.size < W.heap.size := by omega
  have hcase : (a.name.toList == b.name.toList) = false ∨ (a.name.toList == b.name.toList) = true := by cases (a.name.toList == b.name.toList) <;> simp
  have HAL := Lib.hid hal
  have hali : (((a.args.length : Int)) != ((b.args.length : Int))) = false := by simp; omega
  have HNF := Lib.hid (show N + 2 * sumSz a.args ≤ N + 2 * a.sz by omega)
  clear hcal hbk hsa hsb hc1 hc2 hna hnb hl1 hl2 HS1 HS2 hf h2 h5 hnn ih han hss hal
  generalize a.args.length = al at *
  generalize b.args.length = bl at *
  generalize sumSz a.args = sa at *
  generalize sameL fa fb d a.args b.args = sl at *
  generalize b.form = bf, b.num = bn at *
  rcases hcase with t1 | t1
  · have HT1 : Hid ((a.name == b.name) = false) := by show _ = _; rw [← HBL.out]; exact t1
    generalize a.name = az, b.name = bz at *
    go_enter Tryd.func68, Tryd.ntmps68
    go_wp2_with fail
    rw [HEW.out]
    go_ret
    exact ⟨ret_bool (by rw [HE.out, HT1.out]; rfl), HMF.out, HMG.out, .of_below HBW.out⟩
  · have HT1 : Hid ((a.name == b.name) = true) := by show _ = _; rw [← HBL.out]; exact t1
    generalize a.name = az, b.name = bz at *
    go_enter Tryd.func68, Tryd.ntmps68
    go_wp2_with fail
    rw [HEW.out]
    refine HCAL.out.mono ?_
    rintro e w1 ⟨rfl, hm1', hm2', hfr⟩
    have HM1 := Lib.hid (hm1'.more HNF.out)
    have HM2 := Lib.hid (hm2'.more HNF.out)
    have HFR := Lib.hid ((Fr.of_below HBW.out).trans hfr)
    clear hm1' hm2' hfr
    go_wp2
    go_ret
    exact ⟨ret_bool (by rw [HE.out, HT1.out]; rfl), HM1.out, HM2.out, HFR.out⟩
end Go.Proofs.YtbdfjboojokgdaaDoor
