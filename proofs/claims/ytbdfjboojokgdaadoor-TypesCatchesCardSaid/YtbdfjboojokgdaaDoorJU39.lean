/- The contracts of types.Same and what it calls (chapter 4), whole. Conditions: names are of at most 2^40 bytes, types of at most 2^40 nodes. The contract of types' same at types for all (chapter 4). Conditions: names are of at most 2^40 bytes, types of at most 2^40 nodes. -/
import Derived.Test.YtbdfjboojokgdaaDoorJU09
import Derived.Deep.RegionHeld3
namespace Go.Proofs.YtbdfjboojokgdaaDoor
open Go.RowKit

theorem three_b (w : World) (ma mb : Nat) (a0 a1 a2 a3 b0 b1 b2 b3 : Value) : ∃ W, ((w.alloc (.cells #[.map (some ma), .map (some mb)] 107)).alloc (.cells #[a0, a1, a2, a3] 25)).alloc (.cells #[b0, b1, b2, b3] 25) = W ∧ W.heap[w.heap.size]? = some (.cells #[.map (some ma), .map (some mb)] 107) ∧ BoxB W (w.heap.size + 1) a0 a1 a2 a3 ∧ BoxB W (w.heap.size + 1 + 1) b0 b1 b2 b3 ∧ Below w.heap.size w W ∧ W.heap.size = w.heap.size + 3 := by
  refine ⟨_, rfl, ?_, ?_, ?_, below3 w _ _ _, by simp⟩
  · have h := (MapKept.heap_alloc w (.cells #[.map (some ma), .map (some mb)] 107)).1
    rw [Below.heap_alloc _ _ _ (by simp; omega), Below.heap_alloc _ _ _ (by simp)]; exact h
  · have h := (BoxB.new (w.alloc (.cells #[.map (some ma), .map (some mb)] 107)) a0 a1 a2 a3).on (below_new _ (.cells #[b0, b1, b2, b3] 25))
    simp only [World.size_alloc] at h; exact h
  · have h := BoxB.new ((w.alloc (.cells #[.map (some ma), .map (some mb)] 107)).alloc (.cells #[a0, a1, a2, a3] 25)) b0 b1 b2 b3
    simp only [World.size_alloc] at h; exact h
set_option maxRecDepth 100000 in
set_option maxHeartbeats 1000000 in
theorem same_no (ma mb : Nat) (a b : Ty) (P Q : Nat → Prop) (va vb : Value) (fa fb : ByteArray → Int) (d : Int) (N : Nat) (w : World) (ha : TyAt P w a va) (hb : TyAt Q w b vb) (hsa : a.short) (hsb : b.short) (hma : MapG w ma fa N) (hmb : MapG w mb fb N) (hno : a.form ≠ b.form ∨ a.num ≠ b.num) :
    Calls Tryd.prog 68 #[.agg #[.map (some ma), .map (some mb)], va, vb, .int .i64 d] w (SameRes ma mb fa fb (N + 2 * a.sz) (sameT fa fb d a b) w) := by
  have HE := Lib.hid (sameT_no (fa := fa) (fb := fb) (d := d) hno)
  obtain ⟨sv1, rfl, hs1⟩ := ha.tys
  obtain ⟨sv2, rfl, hs2⟩ := hb.tys
  obtain ⟨A1, c1, rfl, hc1, hm1⟩ := hs1.form
  obtain ⟨A2, c2, rfl, hc2, hm2⟩ := hs2.form
  have HS1 := Lib.hid hs1.bound'
  have HS2 := Lib.hid hs2.bound'
  have HMA := Lib.hid hma
  have HMB := Lib.hid hmb
  have hla := hma.lt
  have hlb := hmb.lt
  have hna := Ty.short_name hsa
  have hnb := Ty.short_name hsb
  have hl1 := a.args_le
  have hl2 := b.args_le
  obtain ⟨W, eW, bx, q1, q2, bW, zW⟩ := three_b w ma mb (.int .i64 a.form) (.int .i64 a.num) (.string a.name) (.slice A1 a.args.length c1) (.int .i64 b.form) (.int .i64 b.num) (.string b.name) (.slice A2 b.args.length c2)
  have HEW := Lib.hid eW
  have HBX := Lib.hid bx
  have HQ1 := Lib.hid q1
  have HQ2 := Lib.hid q2
  have HBW := Lib.hid bW
  have HMAW := Lib.hid (hma.on bW)
  have HMBW := Lib.hid (hmb.on bW)
  clear eW bx q1 q2 bW ha hb hs1 hs2 hma hmb
  have hcase : (a.form != b.form) = true ∨ ((a.form != b.form) = false ∧ (a.num != b.num) = true) := by
    by_cases h1 : a.form = b.form
    · exact .inr ⟨by simp [h1], by rw [bne_iff_ne]; exact hno.resolve_left (fun h => h h1)⟩
    · exact .inl (by rw [bne_iff_ne]; exact h1)
  clear hno HQ1 HQ2 HS1 HS2
  have HMF := Lib.hid (HMAW.out.more (N' := N + 2 * a.sz) (by omega))
  have HMG := Lib.hid (HMBW.out.more (N' := N + 2 * a.sz) (by omega))
  clear hsa hsb hc1 hc2 hna hnb hl1 hl2
  generalize a.form = af, a.num = an, a.name = az, a.args.length = al at *
  generalize b.form = bf, b.num = bn, b.name = bz, b.args.length = bl at *
  rcases hcase with t1 | ⟨t1, t2⟩
  all_goals
    go_enter Tryd.func68, Tryd.ntmps68
    go_wp2_with fail
    go_ret
    rw [HEW.out]
    exact ⟨ret_bool HE.out.symm, HMF.out, HMG.out, .of_below HBW.out⟩
set_option maxRecDepth 100000 in
set_option maxHeartbeats 1000000 in
theorem same_var (ma mb : Nat) (a b : Ty) (P Q : Nat → Prop) (va vb : Value) (fa fb : ByteArray → Int) (d : Int) (N : Nat) (w : World) (ha : TyAt P w a va) (hb : TyAt Q w b vb) (hsa : a.short) (hsb : b.short) (hma : MapG w ma fa N) (hmb : MapG w mb fb N) (hf : a.form = 2) (hf' : b.form = 2) (hnn : a.num = b.num) (hal : a.args.length = b.args.length) :
    Calls Tryd.prog 68 #[.agg #[.map (some ma), .map (some mb)], va, vb, .int .i64 d] w (SameRes ma mb fa fb (N + 2 * a.sz) (sameT fa fb d a b) w) := by
  have HE := Lib.hid (sameT_var (fa := fa) (fb := fb) (d := d) hf hf')
  obtain ⟨sv1, rfl, hs1⟩ := ha.tys
  obtain ⟨sv2, rfl, hs2⟩ := hb.tys
  obtain ⟨A1, c1, rfl, hc1, hm1⟩ := hs1.form
  obtain ⟨A2, c2, rfl, hc2, hm2⟩ := hs2.form
  have HS1 := Lib.hid hs1.bound'
  have HS2 := Lib.hid hs2.bound'
  have HMA := Lib.hid hma
  have HMB := Lib.hid hmb
  have hla := hma.lt
  have hlb := hmb.lt
  have hna := Ty.short_name hsa
  have hnb := Ty.short_name hsb
  have hl1 := a.args_le
  have hl2 := b.args_le
  obtain ⟨W, eW, bx, q1, q2, bW, zW⟩ := three_b w ma mb (.int .i64 a.form) (.int .i64 a.num) (.string a.name) (.slice A1 a.args.length c1) (.int .i64 b.form) (.int .i64 b.num) (.string b.name) (.slice A2 b.args.length c2)
  have HEW := Lib.hid eW
  have HBX := Lib.hid bx
  have HQ1 := Lib.hid q1
  have HQ2 := Lib.hid q2
  have HBW := Lib.hid bW
  have HMAW := Lib.hid (hma.on bW)
  have HMBW := Lib.hid (hmb.on bW)
  clear eW bx q1 q2 bW ha hb hs1 hs2 hma hmb
  have HMF := Lib.hid (HMAW.out.more (N' := N + 2 * a.sz) (by omega))
  have HMG := Lib.hid (HMBW.out.more (N' := N + 2 * a.sz) (by omega))
  have hk1 := (HMAW.out.on (Below.refl _ W).drew).look hna
  have hk2 := (HMBW.out.on (Below.refl _ W).drew).look hnb
  have HBL : Hid ((a.name.toList == b.name.toList) = (a.name == b.name)) := beq_lists rfl
  have hcase : ((fa a.name == fb b.name) = false ∧ (fa a.name == fb b.name && (decide (0 < fa a.name) || a.name == b.name)) = false) ∨ ((fa a.name == fb b.name) = true ∧ 0 < fa a.name ∧ (fa a.name == fb b.name && (decide (0 < fa a.name) || a.name == b.name)) = true) ∨ ((fa a.name == fb b.name) = true ∧ ¬ 0 < fa a.name ∧ (fa a.name == fb b.name && (decide (0 < fa a.name) || a.name == b.name)) = (a.name.toList == b.name.toList)) := by
    rw [HBL.out]
    cases h1 : (fa a.name == fb b.name) with
    | false => exact .inl ⟨rfl, by simp⟩
    | true =>
      by_cases h2 : 0 < fa a.name
      · exact .inr (.inl ⟨rfl, h2, by simp [h2]⟩)
      · exact .inr (.inr ⟨rfl, h2, by simp [h2]⟩)
  rw [hf, hnn, hal] at HEW HQ1 ⊢
  rw [hf'] at HEW HQ2 ⊢
  clear hsa hsb hc1 hc2 hna hnb hl1 hl2 HBL HS1 HS2 hf hf' hnn hal
  have hbk := HBX.out
  have x0 : W.cell? ⟨w.heap.size, 0, none⟩ = some (.map (some ma)) := by simp [World.cell?, hbk]
  have x1 : W.cell? ⟨w.heap.size, 1, none⟩ = some (.map (some mb)) := by simp [World.cell?, hbk]
  have xl : w.heap.size < W.heap.size := by omega
  obtain ⟨y0, y1, y2, y3, y4⟩ := HQ1.out.four
  obtain ⟨z0, z1, z2, z3, z4⟩ := HQ2.out.four
  generalize hFA : fa a.name = va at *
  generalize hFB : fb b.name = vb at *
  generalize hEQ : (va == vb && (decide (0 < va) || a.name == b.name)) = qq at *
  have HEQ := Lib.hid hEQ
  clear hbk hFA hFB hEQ
  generalize b.num = bn, a.name = az, b.name = bz, b.args.length = bl at *
  rcases hcase with ⟨t1, t9⟩ | ⟨t1, t2, t9⟩ | ⟨t1, t2, t9⟩
  all_goals
    have HT9 := Lib.hid t9
    clear t9
    go_enter Tryd.func68, Tryd.ntmps68
    go_wp2_with fail
    rw [HEW.out]
    go_region
    go_wp2
    go_ret
    exact ⟨ret_bool (by rw [HE.out]; first | exact HT9.out.symm | (rw [show decide (0 < va) = false from decide_eq_false (by omega), Bool.false_or]; exact HT9.out.symm)), HMF.out.on (Below.refl _ _).drew, HMG.out.on (Below.refl _ _).drew, (Fr.of_below HBW.out).drew⟩
set_option maxRecDepth 100000 in
set_option maxHeartbeats 1000000 in
theorem same_else (ma mb : Nat) (a b : Ty) (P Q : Nat → Prop) (va vb : Value) (fa fb : ByteArray → Int) (d : Int) (N : Nat) (w : World) (ha : TyAt P w a va) (hb : TyAt Q w b vb) (hsa : a.short) (hsb : b.short) (hma : MapG w ma fa N) (hmb : MapG w mb fb N) (hN : N + 2 * a.sz ≤ 1099511627776) (hd0 : 0 ≤ d) (hd : d + a.sz ≤ 1099511627776) (hne : ma ≠ mb) (n : Nat) (ih : SameIs ma mb n) (han : a.sz ≤ n + 1) (hf : a.form = b.form) (h2 : a.form ≠ 2) (h5 : a.form ≠ 5) (hnn : a.num = b.num) (hal : a.args.length = b.args.length) :
    Calls Tryd.prog 68 #[.agg #[.map (some ma), .map (some mb)], va, vb, .int .i64 d] w (SameRes ma mb fa fb (N + 2 * a.sz) (sameT fa fb d a b) w) := by
  have HE := Lib.hid (sameT_else (fa := fa) (fb := fb) (d := d) hf hnn h2 h5)
  obtain ⟨sv1, rfl, hs1⟩ := ha.tys
  obtain ⟨sv2, rfl, hs2⟩ := hb.tys
  obtain ⟨A1, c1, rfl, hc1, hm1⟩ := hs1.form
  obtain ⟨A2, c2, rfl, hc2, hm2⟩ := hs2.form
  have HS1 := Lib.hid hs1.bound'
  have HS2 := Lib.hid hs2.bound'
  have HMA := Lib.hid hma
  have HMB := Lib.hid hmb
  have hla := hma.lt
  have hlb := hmb.lt
  have hna := Ty.short_name hsa
  have hnb := Ty.short_name hsb
  have hl1 := a.args_le
  have hl2 := b.args_le
  obtain ⟨W, eW, bx, q1, q2, bW, zW⟩ := three_b w ma mb (.int .i64 a.form) (.int .i64 a.num) (.string a.name) (.slice A1 a.args.length c1) (.int .i64 b.form) (.int .i64 b.num) (.string b.name) (.slice A2 b.args.length c2)
  have HEW := Lib.hid eW
  have HBX := Lib.hid bx
  have HQ1 := Lib.hid q1
  have HQ2 := Lib.hid q2
  have HBW := Lib.hid bW
  have HMAW := Lib.hid (hma.on bW)
  have HMBW := Lib.hid (hmb.on bW)
  clear eW bx q1 q2 bW ha hb hs1 hs2 hma hmb
  have hss := sumSz_args a
  have HMF := Lib.hid (HMAW.out.more (N' := N + 2 * a.sz) (by omega))
  have HMG := Lib.hid (HMBW.out.more (N' := N + 2 * a.sz) (by omega))
  have HBL : Hid ((a.name.toList == b.name.toList) = (a.name == b.name)) := beq_lists rfl
  have hcal := sameAll_of ma mb n hne ih a.args b.args _ _ _ _ fa fb d N W (fun x hx => by have := Ty.arg_sz hx; omega) (HS1.out.on HBW.out) (HS2.out.on HBW.out) (fun x hx => Ty.short_arg hsa hx) (fun x hx => Ty.short_arg hsb hx) HMAW.out HMBW.out (by omega) hd0 (by omega) hal hl1
  have HCAL := Lib.hid hcal
  have t2 : (b.form == 2) = false := by rw [← hf]; simpa using h2
  have t5 : (b.form == 5) = false := by rw [← hf]; simpa using h5
  rw [hf, hnn] at HEW HQ1 ⊢
  obtain ⟨y0, y1, y2, y3, y4⟩ := HQ1.out.four
  obtain ⟨z0, z1, z2, z3, z4⟩ := HQ2.out.four
  have hbk := HBX.out
  have x0 : W.cell? ⟨w.heap.size, 0, none⟩ = some (.map (some ma)) := by simp [World.cell?, hbk]
  have x1 : W.cell? ⟨w.heap.size, 1, none⟩ = some (.map (some mb)) := by simp [World.cell?, hbk]
  have xl : w.heap.size < W.heap.size := by omega
  have hcase : (a.name.toList == b.name.toList) = false ∨ (a.name.toList == b.name.toList) = true := by cases (a.name.toList == b.name.toList) <;> simp
  have HAL := Lib.hid hal
  have hali : (((a.args.length : Int)) != ((b.args.length : Int))) = false := by simp; omega
  have HNF := Lib.hid (show N + 2 * sumSz a.args ≤ N + 2 * a.sz by omega)
  clear hcal hbk hsa hsb hc1 hc2 hna hnb hl1 hl2 HS1 HS2 hf h2 h5 hnn ih han hss hal
  generalize a.args.length = al at *
  generalize b.args.length = bl at *
  generalize sumSz a.args = sa at *
  generalize sameL fa fb d a.args b.args = sl at *
  generalize b.form = bf, b.num = bn at *
  rcases hcase with t1 | t1
  · have HT1 : Hid ((a.name == b.name) = false) := by show _ = _; rw [← HBL.out]; exact t1
    generalize a.name = az, b.name = bz at *
    go_enter Tryd.func68, Tryd.ntmps68
    go_wp2_with fail
    rw [HEW.out]
    go_ret
    exact ⟨ret_bool (by rw [HE.out, HT1.out]; rfl), HMF.out, HMG.out, .of_below HBW.out⟩
  · have HT1 : Hid ((a.name == b.name) = true) := by show _ = _; rw [← HBL.out]; exact t1
    generalize a.name = az, b.name = bz at *
    go_enter Tryd.func68, Tryd.ntmps68
    go_wp2_with fail
    rw [HEW.out]
    refine HCAL.out.mono ?_
    rintro e w1 ⟨rfl, hm1', hm2', hfr⟩
    have HM1 := Lib.hid (hm1'.more HNF.out)
    have HM2 := Lib.hid (hm2'.more HNF.out)
    have HFR := Lib.hid ((Fr.of_below HBW.out).trans hfr)
    clear hm1' hm2' hfr
    go_wp2
    go_ret
    exact ⟨ret_bool (by rw [HE.out, HT1.out]; rfl), HM1.out, HM2.out, HFR.out⟩
end Go.Proofs.YtbdfjboojokgdaaDoor
namespace Go.Proofs.YtbdfjboojokgdaaDoor
open Go.RowKit

/-- A store into a map, by what it does. -/
theorem wp_mapUpdate_of {P : Program} {o : Oper} {a : Act} {w w' : World} {K : Act → World → Prop} {Q : Exit → Act → World → Prop} (t : TypeId) (m x v : Operand) (hop : o.op = Op.mapUpdate t m x v) (mv xv vv : Value) (hm : a.eval m = mv) (hx : a.eval x = xv) (hv : a.eval v = vv)
    (hrun : (Instr.mapUpdate t mv xv vv).run P w = .ok () w') (h : K (a.put o.dst undef) w') : Oper.wp P o a w K Q := by
  unfold Oper.wp
  simp [execOp, hop, hm, hx, hv, hrun, Result.andThen]
  exact h
set_option maxRecDepth 100000 in
set_option maxHeartbeats 1000000 in
theorem same_all (ma mb : Nat) (a b : Ty) (P Q : Nat → Prop) (va vb : Value) (fa fb : ByteArray → Int) (d : Int) (N : Nat) (w : World) (ha : TyAt P w a va) (hb : TyAt Q w b vb) (hsa : a.short) (hsb : b.short) (hma : MapG w ma fa N) (hmb : MapG w mb fb N) (hN : N + 2 * a.sz ≤ 1099511627776) (hd0 : 0 ≤ d) (hd : d + a.sz ≤ 1099511627776) (hne : ma ≠ mb) (n : Nat) (ih : SameIs ma mb n) (han : a.sz ≤ n + 1) (hf : a.form = 5) (hf' : b.form = 5) (hnn : a.num = b.num) (hal : a.args.length = b.args.length) :
    Calls Tryd.prog 68 #[.agg #[.map (some ma), .map (some mb)], va, vb, .int .i64 d] w (SameRes ma mb fa fb (N + 2 * a.sz) (sameT fa fb d a b) w) := by
  have HE := Lib.hid (sameT_all (fa := fa) (fb := fb) (d := d) hf hf')
  obtain ⟨sv1, rfl, hs1⟩ := ha.tys
  obtain ⟨sv2, rfl, hs2⟩ := hb.tys
  obtain ⟨A1, c1, rfl, hc1, hm1⟩ := hs1.form
  obtain ⟨A2, c2, rfl, hc2, hm2⟩ := hs2.form
  have HS1 := Lib.hid hs1.bound'
  have HS2 := Lib.hid hs2.bound'
  have HMA := Lib.hid hma
  have HMB := Lib.hid hmb
  have hla := hma.lt
  have hlb := hmb.lt
  have hna := Ty.short_name hsa
  have hnb := Ty.short_name hsb
  have hl1 := a.args_le
  have hl2 := b.args_le
  obtain ⟨W, eW, bx, q1, q2, bW, zW⟩ := three_b w ma mb (.int .i64 a.form) (.int .i64 a.num) (.string a.name) (.slice A1 a.args.length c1) (.int .i64 b.form) (.int .i64 b.num) (.string b.name) (.slice A2 b.args.length c2)
  have HEW := Lib.hid eW
  have HBX := Lib.hid bx
  have HQ1 := Lib.hid q1
  have HQ2 := Lib.hid q2
  have HBW := Lib.hid bW
  have HMAW := Lib.hid (hma.on bW)
  have HMBW := Lib.hid (hmb.on bW)
  clear eW bx q1 q2 bW ha hb hs1 hs2 hma hmb
  have hss := sumSz_args a
  have hk1 := (HMAW.out.on (Below.refl _ W).drew).look hna
  have hk2 := (HMBW.out.on (Below.refl _ W).drew).look hnb
  -- the two stores
  have hdr : Below W.heap.size W W.drew.drew := (Below.refl _ W).drew.drew
  obtain ⟨w1, hr1, hg1, hgr1⟩ := (HMAW.out.on hdr).store hna (d + 1) (by omega)
  have hmb1 : MapG w1 mb fb N := (HMBW.out.on hdr).block (hgr1.block mb (Nat.lt_of_lt_of_le hlb HBW.out.size) (fun e => by injection e with e; exact hne e.symm))
  obtain ⟨w2, hr2, hg2, hgr2⟩ := hmb1.store hnb (d + 1) (by omega)
  have hma2 : MapG w2 ma (updG fa a.name (d + 1)) (N + 1) := hg1.block (hgr2.block ma hg1.lt (fun e => by injection e with e; exact hne e))
  have hfr2 : Fr (Two ma mb) W w2 := ((Fr.of_below hdr).grown hgr1 (.inl rfl)).grown hgr2 (.inr rfl)
  have hNCW : ∀ k, Two ma mb k → ∀ o, W.cell? ⟨k, o, none⟩ = none := fun k hk o => by
    rcases hk with rfl | rfl
    · exact HMAW.out.noCell o
    · exact HMBW.out.noCell o
  have hcal := sameAll_of ma mb n hne ih a.args b.args _ _ _ _ (updG fa a.name (d + 1)) (updG fb b.name (d + 1)) (d + 1) (N + 1) w2 (fun x hx => by have := Ty.arg_sz hx; omega) ((HS1.out.on HBW.out).fr hfr2 hNCW) ((HS2.out.on HBW.out).fr hfr2 hNCW) (fun x hx => Ty.short_arg hsa hx) (fun x hx => Ty.short_arg hsb hx) hma2 hg2 (by omega) (by omega) (by omega) hal hl1
  have HCAL := Lib.hid hcal
  have hbx1 : w1.heap[w.heap.size]? = some (.cells #[.map (some ma), .map (some mb)] 107) := (hgr1.block w.heap.size (show w.heap.size < W.heap.size by omega) (fun e => by injection e with e; omega)).trans HBX.out
  have hbx2 := (hfr2.block w.heap.size (by omega) (fun h => by rcases h with h | h <;> omega)).trans HBX.out
  have hq11 : BoxB w1 (w.heap.size + 1) (.int .i64 a.form) (.int .i64 a.num) (.string a.name) (.slice A1 a.args.length c1) := (hgr1.block _ (show w.heap.size + 1 < W.heap.size by omega) (fun e => by injection e with e; omega)).trans HQ1.out
  have hq21 : BoxB w1 (w.heap.size + 1 + 1) (.int .i64 b.form) (.int .i64 b.num) (.string b.name) (.slice A2 b.args.length c2) := (hgr1.block _ (show w.heap.size + 1 + 1 < W.heap.size by omega) (fun e => by injection e with e; omega)).trans HQ2.out
  have HQ11 := Lib.hid hq11
  have HQ21 := Lib.hid hq21
  have HBX2 := Lib.hid hbx2
  have HFR2 := Lib.hid hfr2
  have hq12 : BoxB w2 (w.heap.size + 1) (.int .i64 a.form) (.int .i64 a.num) (.string a.name) (.slice A1 a.args.length c1) := (hfr2.block _ HQ1.out.lt (fun h => by rcases h with h | h <;> omega)).trans HQ1.out
  have hq22 : BoxB w2 (w.heap.size + 1 + 1) (.int .i64 b.form) (.int .i64 b.num) (.string b.name) (.slice A2 b.args.length c2) := (hfr2.block _ HQ2.out.lt (fun h => by rcases h with h | h <;> omega)).trans HQ2.out
  have HQ12 := Lib.hid hq12
  have HQ22 := Lib.hid hq22
  have hd1 : d + 1 ≤ 1099511627776 := by omega
  clear hcal hbx2 hfr2 hq12 hq22 hq11 hq21 hma2 hg2 hmb1 hg1 hNCW ih
  -- behind the call, whatever it told, both are put back
  have HBACK : Hid (∀ (q : Bool) (w3 : World), MapG w3 ma (updG fa a.name (d + 1)) (N + 1 + 2 * sumSz a.args) → MapG w3 mb (updG fb b.name (d + 1)) (N + 1 + 2 * sumSz a.args) → Fr (Two ma mb) w2 w3 → ∃ w4 w5, (Instr.mapUpdate 105 (.map (some ma)) (.string a.name) (.int .i64 (fa a.name))).run Tryd.prog w3.drew = .ok () w4 ∧ (Instr.mapUpdate 105 (.map (some mb)) (.string b.name) (.int .i64 (fb b.name))).run Tryd.prog w4 = .ok () w5 ∧ Fr (Two ma mb) w2 w4 ∧ Fr (Two ma mb) w2 w5 ∧ (sameT fa fb d a b = q → SameRes ma mb fa fb (N + 2 * a.sz) (sameT fa fb d a b) w (.returned (.bool q)) w5)) := by
    intro q w3 h1 h2 h3
    obtain ⟨w4, hr4, hg4, hgr4⟩ := (h1.on (Below.refl _ w3).drew).store hna (fa a.name) (by omega)
    have hmb4 : MapG w4 mb (updG fb b.name (d + 1)) (N + 1 + 2 * sumSz a.args) := (h2.on (Below.refl _ w3).drew).block (hgr4.block mb h2.lt (fun e => by injection e with e; exact hne e.symm))
    obtain ⟨w5, hr5, hg5, hgr5⟩ := hmb4.store hnb (fb b.name) (by omega)
    have hma5 := hg4.block (hgr5.block ma hg4.lt (fun e => by injection e with e; exact hne e))
    rw [upd_back] at hma5 hg5
    refine ⟨w4, w5, hr4, hr5, h3.drew.grown hgr4 (.inl rfl), (h3.drew.grown hgr4 (.inl rfl)).grown hgr5 (.inr rfl), fun hq => ⟨by rw [hq], hma5.more (by omega), hg5.more (by omega), ?_⟩⟩
    exact ((((Fr.of_below HBW.out).trans HFR2.out).trans h3).drew.grown hgr4 (.inl rfl)).grown hgr5 (.inr rfl)
  have HLEN := Lib.hid hal
  have hali : (((a.args.length : Int)) != ((b.args.length : Int))) = false := by simp; omega
  rw [hf, hnn] at HEW HQ1 HQ12 HQ11 ⊢
  rw [hf'] at HEW HQ2 HQ22 HQ21 ⊢
  have hbk := HBX.out
  have x0 : W.cell? ⟨w.heap.size, 0, none⟩ = some (.map (some ma)) := by simp [World.cell?, hbk]
  have x1 : W.cell? ⟨w.heap.size, 1, none⟩ = some (.map (some mb)) := by simp [World.cell?, hbk]
  have xl : w.heap.size < W.heap.size := by omega
  have x10 : w1.cell? ⟨w.heap.size, 0, none⟩ = some (.map (some ma)) := by simp [World.cell?, hbx1]
  have x11 : w1.cell? ⟨w.heap.size, 1, none⟩ = some (.map (some mb)) := by simp [World.cell?, hbx1]
  have hbk2 := HBX2.out
  have x20 : w2.cell? ⟨w.heap.size, 0, none⟩ = some (.map (some ma)) := by simp [World.cell?, hbk2]
  have x21 : w2.cell? ⟨w.heap.size, 1, none⟩ = some (.map (some mb)) := by simp [World.cell?, hbk2]
  have hz2 := HFR2.out.size
  have x2l : w.heap.size < w2.heap.size := by omega
  obtain ⟨y0, y1, y2, y3, y4⟩ := HQ1.out.four
  obtain ⟨z0, z1, z2, z3, z4⟩ := HQ2.out.four
  obtain ⟨y10, y11, y12, y13, y14⟩ := HQ11.out.four
  obtain ⟨z10, z11, z12, z13, z14⟩ := HQ21.out.four
  have x1l : w.heap.size < w1.heap.size := by omega
  obtain ⟨y20, y21, y22, y23, y24⟩ := HQ12.out.four
  obtain ⟨z20, z21, z22, z23, z24⟩ := HQ22.out.four
  have HKK : Hid (∀ w3, Fr (Two ma mb) w2 w3 → (w.heap.size < w3.heap.size ∧ w3.cell? ⟨w.heap.size, 0, none⟩ = some (.map (some ma)) ∧ w3.cell? ⟨w.heap.size, 1, none⟩ = some (.map (some mb))) ∧ BoxB w3 (w.heap.size + 1) (.int .i64 5) (.int .i64 b.num) (.string a.name) (.slice A1 a.args.length c1) ∧ BoxB w3 (w.heap.size + 1 + 1) (.int .i64 5) (.int .i64 b.num) (.string b.name) (.slice A2 b.args.length c2)) := by
    intro w3 h3
    have h9 := (h3.block w.heap.size (by omega) (fun h => by rcases h with h | h <;> omega)).trans HBX2.out
    have hz3 := h3.size
    refine ⟨⟨by omega, by simp [World.cell?, h9], by simp [World.cell?, h9]⟩, ?_, ?_⟩
    · exact (h3.block _ HQ12.out.lt (fun h => by rcases h with h | h <;> omega)).trans HQ12.out
    · exact (h3.block _ HQ22.out.lt (fun h => by rcases h with h | h <;> omega)).trans HQ22.out
  clear hbk hbk2 hbx1 hsa hsb hc1 hc2 hna hnb hl1 hl2 HS1 HS2 hf hf' hnn han hss hal hgr1 hgr2 HQ12 HQ22 HQ1 HQ2 HQ11 HQ21
  generalize sumSz a.args = sa at *
  generalize hFA : fa a.name = va at *
  generalize hFB : fb b.name = vb at *
  generalize hSL : sameL (updG fa a.name (d + 1)) (updG fb b.name (d + 1)) (d + 1) a.args b.args = sl at *
  generalize updG fa a.name (d + 1) = ga at *
  generalize updG fb b.name (d + 1) = gb at *
  clear hFA hFB hSL
  generalize a.args.length = al at *
  generalize b.args.length = bl at *
  generalize a.name = az at *
  generalize b.name = bz at *
  generalize b.num = bn at *
  go_enter Tryd.func68, Tryd.ntmps68
  go_wp2_with fail
  rw [HEW.out]
  go_region
  go_wp2_with fail
  go_region
  go_wp2_with fail
  refine HCAL.out.mono ?_
  intro e w3 h3
  refine Exists.elim (HBACK.out sl w3 h3.2.1 h3.2.2.1 h3.2.2.2) (fun w4 h4 => Exists.elim h4 (fun w5 h5 => ?_))
  have he := h3.1
  subst he
  have hr4 := h5.1
  have hr5 := h5.2.1
  have HRES := Lib.hid (h5.2.2.2.2 HE.out)
  have hS3 : Hid (∀ q : World, Fr (Two ma mb) w2 q → q.cell? ⟨w.heap.size, 0, none⟩ = some (.map (some ma)) ∧ q.cell? ⟨w.heap.size, 1, none⟩ = some (.map (some mb)) ∧ q.cell? ⟨w.heap.size + 1, 2, none⟩ = some (.string az) ∧ q.cell? ⟨w.heap.size + 1 + 1, 2, none⟩ = some (.string bz)) := fun q h => by
    have q3 := HKK.out q h
    exact ⟨q3.1.2.1, q3.1.2.2, q3.2.1.four.2.2.2.1, q3.2.2.four.2.2.2.1⟩
  have hS0 := hS3.out _ h3.2.2.2.drew
  have hS4 := hS3.out _ h5.2.2.1
  have hS5 := hS3.out _ h5.2.2.2.1
  clear h3 h4 h5 hr1 hr2 hk1 hk2 x0 x1 xl x10 x11 x1l x20 x21 x2l y0 y1 y2 y3 y4 z0 z1 z2 z3 z4 y10 y11 y12 y13 y14 z10 z11 z12 z13 z14 y20 y21 y22 y23 y24 z20 z21 z22 z23 z24 HCAL HBACK HKK hS3
  go_wp2_with fail
  refine wp_region_held_drew (S := fun q => q.cell? ⟨w.heap.size, 0, none⟩ = some (.map (some ma)) ∧ q.cell? ⟨w.heap.size, 1, none⟩ = some (.map (some mb)) ∧ q.cell? ⟨w.heap.size + 1, 2, none⟩ = some (.string az) ∧ q.cell? ⟨w.heap.size + 1 + 1, 2, none⟩ = some (.string bz)) (by kernel_rfl) hS0 (fun hHeld => ?_)
  refine wpAnyH_take (i := 0) (oi := ⟨some 94, _, _, _, _, _⟩) (v := .pointer (some ⟨w.heap.size, 0, none⟩)) rfl (by kernel_rfl) (by kernel_rfl) (by kernel_rfl) (fun _ _ _ h => h) (Or.inl ⟨by rfl, ?_⟩) (by assumption) ?_
  · intro w9 hSw; go_simp
  try simp only [Act.put, List.setIfInBounds_toArray, List.set_cons_zero, List.set_cons_succ]
  refine wpAnyH_take (i := 1) (oi := ⟨some 95, _, _, _, _, _⟩) (v := .map (some ma)) rfl (by kernel_rfl) (by kernel_rfl) (by kernel_rfl) (fun _ _ _ h => h) (Or.inl ⟨by rfl, ?_⟩) (by assumption) ?_
  · intro w9 hSw; go_simp
  try simp only [Act.put, List.setIfInBounds_toArray, List.set_cons_zero, List.set_cons_succ]
  refine wpAnyH_take (i := 2) (oi := ⟨some 96, _, _, _, _, _⟩) (v := .pointer (some ⟨w.heap.size + 1, 2, none⟩)) rfl (by kernel_rfl) (by kernel_rfl) (by kernel_rfl) (fun _ _ _ h => h) (Or.inl ⟨by rfl, ?_⟩) (by assumption) ?_
  · intro w9 hSw; go_simp
  try simp only [Act.put, List.setIfInBounds_toArray, List.set_cons_zero, List.set_cons_succ]
  refine wpAnyH_take (i := 3) (oi := ⟨some 97, _, _, _, _, _⟩) (v := .string az) rfl (by kernel_rfl) (by kernel_rfl) (by kernel_rfl) (fun _ _ _ h => h) (Or.inl ⟨by rfl, ?_⟩) (by assumption) ?_
  · intro w9 hSw; go_simp
  try simp only [Act.put, List.setIfInBounds_toArray, List.set_cons_zero, List.set_cons_succ]
  refine wpAnyH_take (i := 4) (oi := ⟨some 98, _, _, _, _, _⟩) (v := .pointer (some ⟨w.heap.size, 1, none⟩)) rfl (by kernel_rfl) (by kernel_rfl) (by kernel_rfl) (fun _ _ _ h => h) (Or.inl ⟨by rfl, ?_⟩) (by assumption) ?_
  · intro w9 hSw; go_simp
  try simp only [Act.put, List.setIfInBounds_toArray, List.set_cons_zero, List.set_cons_succ]
  refine wpAnyH_take (i := 5) (oi := ⟨some 99, _, _, _, _, _⟩) (v := .map (some mb)) rfl (by kernel_rfl) (by kernel_rfl) (by kernel_rfl) (fun _ _ _ h => h) (Or.inl ⟨by rfl, ?_⟩) (by assumption) ?_
  · intro w9 hSw; go_simp
  try simp only [Act.put, List.setIfInBounds_toArray, List.set_cons_zero, List.set_cons_succ]
  refine wpAnyH_take (i := 6) (oi := ⟨some 100, _, _, _, _, _⟩) (v := .pointer (some ⟨w.heap.size + 1 + 1, 2, none⟩)) rfl (by kernel_rfl) (by kernel_rfl) (by kernel_rfl) (fun _ _ _ h => h) (Or.inl ⟨by rfl, ?_⟩) (by assumption) ?_
  · intro w9 hSw; go_simp
  try simp only [Act.put, List.setIfInBounds_toArray, List.set_cons_zero, List.set_cons_succ]
  refine wpAnyH_take (i := 7) (oi := ⟨some 101, _, _, _, _, _⟩) (v := .string bz) rfl (by kernel_rfl) (by kernel_rfl) (by kernel_rfl) (fun _ _ _ h => h) (Or.inl ⟨by rfl, ?_⟩) (by assumption) ?_
  · intro w9 hSw; go_simp
  try simp only [Act.put, List.setIfInBounds_toArray, List.set_cons_zero, List.set_cons_succ]
  refine wpAnyH_take (i := 8) (oi := ⟨some 102, _, _, _, _, _⟩) (v := .int .i64 va) rfl (by kernel_rfl) (by kernel_rfl) (by kernel_rfl) (fun _ _ _ h => h) (Or.inl ⟨by rfl, ?_⟩) (by assumption) ?_
  · intro w9 hSw; go_simp
  try simp only [Act.put, List.setIfInBounds_toArray, List.set_cons_zero, List.set_cons_succ]
  refine wpAnyH_take (i := 9) (oi := ⟨some 103, _, _, _, _, _⟩) (v := .int .i64 vb) rfl (by kernel_rfl) (by kernel_rfl) (by kernel_rfl) (fun _ _ _ h => h) (Or.inl ⟨by rfl, ?_⟩) (by assumption) ?_
  · intro w9 hSw; go_simp
  try simp only [Act.put, List.setIfInBounds_toArray, List.set_cons_zero, List.set_cons_succ]
  refine wpAnyH_ready (rs := [10]) (by kernel_rfl) (by simp) ?_
  refine AllReadyH.cons (o := ⟨none, _, _, _, _, _⟩) rfl (fun K hK => ?_) AllReadyH.nil
  rw [if_pos (by rfl)]
  refine wp_mapUpdate_of 105 (.tmp 95) (.tmp 97) (.tmp 102) rfl _ _ _ rfl rfl rfl hr4 ?_
  refine hK.out _ _ hS4 (fun hHeld => ?_)
  clear hK K
  try simp only [Act.put]
  refine wpAnyH_ready (rs := [11]) (by kernel_rfl) (by simp) ?_
  refine AllReadyH.cons (o := ⟨none, _, _, _, _, _⟩) rfl (fun K hK => ?_) AllReadyH.nil
  rw [if_pos (by rfl)]
  refine wp_mapUpdate_of 105 (.tmp 99) (.tmp 101) (.tmp 103) rfl _ _ _ rfl rfl rfl hr5 ?_
  refine hK.out _ _ hS5 (fun hHeld => ?_)
  clear hK K
  try simp only [Act.put]
  refine wpAnyH_done (by kernel_rfl) ?_ _
  go_wp2
  go_ret
  exact HRES.out
end Go.Proofs.YtbdfjboojokgdaaDoor
