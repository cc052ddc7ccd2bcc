/- The contract of the document's Subst (chapter 4) at types for all: its loop over the names. Conditions: at most 2^20 names and nodes, types of at most 2^20 nodes each. -/
import Derived.Test.YtbdfjboojokgdaaDoorJU42
import Derived.Test.YtbdfjboojokgdaaDoorJU37
namespace Go.Proofs.YtbdfjboojokgdaaDoor
open Go.RowKit

theorem news_fourB (w : World) (u0 u1 u2 u3 : Value) (t : TypeId) : ∀ j x, [u0, u1, u2, u3][j]? = some x → (w.alloc (.cells #[u0, u1, u2, u3] t)).cell? ((⟨w.heap.size, 0, none⟩ : Addr).add j) = some x := by
  intro j x hj
  match j with
  | 0 => simp at hj; subst hj; simp [go_sem, Addr.add]
  | 1 => simp at hj; subst hj; simp [go_sem, Addr.add]
  | 2 => simp at hj; subst hj; simp [go_sem, Addr.add]
  | 3 => simp at hj; subst hj; simp [go_sem, Addr.add]
  | j + 4 => simp at hj
theorem one_tyB (f n : Int) (s : ByteArray) (A : Option Addr) (l c : Nat) : ∀ u ∈ [Value.int .i64 f, .int .i64 n, .string s, .slice A l c], u.oneCell' = true := by simp [Value.oneCell']
theorem run_append_zeroB (y : World) (ty : TypeId) (A A2 : Option Addr) (n c c2 : Nat) (hn : n ≤ c) : (Builtin.append_ #[28, 28] ty #[.slice A n c, .slice A2 0 c2]).run Tryd.prog y = .ok (.slice A n c) y := by
  obtain ⟨i0, hi, hz0, hzs, hzb⟩ := info_parts' Tryd.info9
  rcases A with _ | a <;> rcases A2 with _ | a2 <;> simp [Builtin.append_, run_underlying Tryd.underlying28, sizeOf, typeInfo, hi, Builtin.lenOf, Builtin.firstCells, hn, loadCells, loadCellsFrom, storeCells]
theorem takenB_len {τ : List (ByteArray × Ty)} (h : ∀ p ∈ τ, p.2.sz ≤ 1048576) : (takenB τ).length ≤ τ.length * 1048576 := by
  induction τ with
  | nil => simp [takenB]
  | cons p r ih =>
    have h1 := ih (fun q hq => h q (List.mem_cons_of_mem _ hq))
    have h2 := h p (List.mem_cons_self ..)
    have h3 : p.2.free.length ≤ p.2.sz := by have h8 := freeD_len [] [] p.2; rw [free_is] at h8; simpa using h8
    unfold takenB at *
    rw [List.flatMap_cons, List.length_append, List.length_cons]
    omega
theorem intoB_take {s : ByteArray} {b : Ty} {σ : List (ByteArray × Ty)} {k : Nat} (h : k < σ.length) : intoB s b (σ.take (k + 1)) = intoB s b (σ.take k) ++ (if σ[k].1 ≠ s ∧ hasB b.free σ[k].1 = true then [σ[k]] else []) := by
  unfold intoB
  rw [List.take_succ_eq_append_getElem h, List.filter_append]
  congr 1
  by_cases hc : σ[k].1 ≠ s ∧ hasB b.free σ[k].1 = true
  · rw [if_pos hc]; simp [hc]
  · rw [if_neg hc]
    rw [List.filter_cons_of_neg]
    · rfl
    · simp only [Bool.and_eq_true, decide_eq_true_eq]; exact hc
theorem takenB_snoc (τ : List (ByteArray × Ty)) (p : ByteArray × Ty) : takenB (τ ++ [p]) = takenB τ ++ p.2.free := by simp [takenB]
set_option maxRecDepth 100000 in
set_option maxHeartbeats 4000000 in
theorem sub_all (n : Nat) (ih : SubIs n) (P Q : Nat → Prop) (s : ByteArray) (a : Ty) (σ : List (ByteArray × Ty)) (v nv bv : Value) (w : World) (hsz : (Ty.all s a).sz ≤ n + 1) (hP : ∀ b, P b → b < w.heap.size) (h : TyAt P w (.all s a) v) (hn : StrsAt Q w nv (σ.map (·.1))) (hb : TysAt P w (σ.map (·.2)) bv) (hσ : ∀ p ∈ σ, p.2.sz ≤ 1048576) (hz : σ.length + (Ty.all s a).sz ≤ 1048576) : Calls Tryd.prog 24 #[v, nv, bv] w (TyShares P w ((Ty.all s a).sub σ)) := by
  simp only [Ty.sz] at hsz hz
  obtain ⟨sv, rfl, hs⟩ := h.tys
  simp only [Ty.form, Ty.num, Ty.name, Ty.args] at hs ⊢
  obtain ⟨A, c, rfl, _, _⟩ := hs.form
  obtain ⟨g, off, A5, c5, rfl, hPg, hgl, k0, k1, k2, k3, hx⟩ := hs.at 0 (by simp)
  simp only [List.getElem_cons_zero, Nat.zero_mul, Nat.add_zero] at k0 k1 k2 k3 hx
  simp only [List.length_cons, List.length_nil, Nat.zero_add]
  obtain ⟨An, cn, rfl, _, _⟩ := hn.shape
  obtain ⟨Ab, cb, rfl, _, _⟩ := hb.form
  simp only [List.length_map] at hn hb ⊢
  obtain ⟨W, eW, q1, q2, b2, z2⟩ := two_boxes w (.int .i64 5) (.int .i64 0) (.string s) (.slice (some ⟨g, off, none⟩) 1 c) (.int .i64 0) (.int .i64 0) (.string ⟨#[]⟩) (.slice none 0 0) 25 25
  have HN : Hid (∀ x, Below W.heap.size W x → (Box4 x w.heap.size (.int .i64 5) (.int .i64 0) (.string s) (.slice (some ⟨g, off, none⟩) 1 c) ∧ (x.cell? ⟨g, off, none⟩ = some (.int .i64 a.form) ∧ x.cell? ⟨g, off + 1, none⟩ = some (.int .i64 a.num) ∧ x.cell? ⟨g, off + 2, none⟩ = some (.string a.name) ∧ x.cell? ⟨g, off + 3, none⟩ = some (.slice A5 a.args.length c5))) ∧ Box4 x (w.heap.size + 1) (.int .i64 0) (.int .i64 0) (.string ⟨#[]⟩) (.slice none 0 0)) := fun x hxx => by
    have hbx : Below w.heap.size w x := b2.trans (hxx.mono b2.size)
    exact ⟨⟨q1.on hxx, ⟨(hbx.cell hgl).trans k0, (hbx.cell hgl).trans k1, (hbx.cell hgl).trans k2, (hbx.cell hgl).trans k3⟩⟩, q2.on hxx⟩
  have hfl : a.free.length ≤ a.sz := by have h8 := freeD_len [] [] a; rw [free_is] at h8; simpa using h8
  have HF := Lib.hid (reffree_any P a _ W (hx.on b2) (by omega))
  have HNV := Lib.hid (fun x (hb : Below w.heap.size w x) => hn.on hb)
  have HBV := Lib.hid (fun x (hx : Below w.heap.size w x) => hb.on hx)
  have HFB : Hid (∀ (u : Ty) (vu : Value) (x : World), u.sz ≤ 1048576 → TyAt P x u vu → Calls Tryd.prog 15 #[vu] x fun e w' => (∃ u', e = .returned u' ∧ OwnS x.heap.size w' u' u.free) ∧ Below x.heap.size x w') := fun u vu x hu ht => reffree_any P u vu x ht (by omega)
  -- the call within
  have HC : Hid (∀ (x : World) (τ : List (ByteArray × Ty)) (iv tv kv : Value) (ks : List ByteArray) (B : Nat) (y : World), W.heap.size ≤ B → Below W.heap.size W x → InSt P B y x (τ.map (·.1)) (τ.map (·.2)) ks iv tv kv → (∀ p ∈ τ, p.2.sz ≤ 1048576) → τ.length + a.sz ≤ 1048576 → Calls Tryd.prog 24 #[.agg #[.int .i64 a.form, .int .i64 a.num, .string a.name, .slice A5 a.args.length c5], iv, tv] x fun e x1 => ∃ f n s A l c, e = .returned (.agg #[.int .i64 f, .int .i64 n, .string s, .slice A l c]) ∧ Below W.heap.size W x1 ∧ Hid (TyAt (fun b => P b ∨ w.heap.size + 2 ≤ b) x1 (a.sub τ) (.agg #[.int .i64 f, .int .i64 n, .string s, .slice A l c]))) := fun x τ iv tv kv ks B y hWB hWx hst hτ hzτ => by
    have hbx : Below w.heap.size w x := b2.trans (hWx.mono b2.size)
    have hWs := hWx.size
    refine (ih (fun b => P b ∨ (B ≤ b ∧ b < x.heap.size)) _ a τ _ iv tv x (by omega) (fun b hb => by rcases hb with hb | hb; (· have := hP b hb; omega); exact hb.2) ((hx.on hbx).mono (fun b hb => .inl hb)) hst.hi.strs hst.ht.tys hτ hzτ).mono ?_
    rintro e x1 ⟨v1, rfl, ht1, hb1⟩
    obtain ⟨f1, n1, s1, A1, l1, c1, rfl⟩ := ht1.flat
    refine ⟨f1, n1, s1, A1, l1, c1, rfl, hWx.trans (hb1.mono hWs), ht1.mono (fun b hb => ?_)⟩
    rcases hb with (hb | hb) | hb
    · exact .inl hb
    · exact .inr (by omega)
    · exact .inr (by omega)
  have HEW := Lib.hid eW
  have HB2 := Lib.hid b2
  have HP := Lib.hid hP
  have HPW : Hid (∀ b, P b → b < W.heap.size) := fun b hb => by have := hP b hb; omega
  have HSIG := Lib.hid hσ
  have hgW : g < W.heap.size := by omega
  obtain ⟨y0, y1, y2, y3, y4, _⟩ := q1
  clear eW b2 h hs hx hn hb k0 k1 k2 k3 ih hP hσ q2
  generalize haf : a.form = af, a.num = an, a.name = az, a.args.length = al at *
  obtain ⟨i9, hi9, hz90, hz9s, hz9b⟩ := info_parts' Tryd.info9
  obtain ⟨i25, hi25, hz25, hz25s, hz25b⟩ := info_parts' Tryd.info25
  go_enter Tryd.func24, Tryd.ntmps24
  go_upto_region 1 with (fail)
  rw [HEW.out]
  obtain ⟨⟨_, m0, m1, m2, m3⟩, _⟩ := HN.out W (Below.refl _ _)
  go_wp2_with fail
  refine HF.out.mono ?_
  rintro e y ⟨⟨ov, rfl, hov⟩, hby⟩
  obtain ⟨Ao, co, rfl, hoc, hom⟩ := own_cap hov
  have HOV := Lib.hid hov
  have HBY := Lib.hid hby
  have HST0 : Hid (InSt P y.heap.size y y [] [] [] (.slice none 0 0) (.slice none 0 0) (.slice none 0 0)) := ⟨Below.refl _ _, Nat.le_refl _, OwnS.nil _ _, TRow.nil _ _ _, OwnS.nil _ _, fun g hg => by cases hg⟩
  clear hov hby y0 y1 y2 y3 y4 m0 m1 m2 m3
  have hWy := HBY.out.size
  have HPY : Hid (∀ b, P b → b < y.heap.size) := fun b hb => by have := HP.out b hb; omega
  have hzs : σ.length ≤ 1048576 := by omega
  have HONE := Lib.hid (fun (x : ByteArray) => one_str x)
  have HN1 := Lib.hid (fun (V : World) (x : ByteArray) => news_one V (.string x) 9)
  go_wp2_with fail
  go_loopw [12, 9, 10, 11] (fun i iv tv kv wr => ∃ k : Nat, k ≤ σ.length ∧ i = .int .i64 k ∧ Hid (InSt P y.heap.size y wr ((intoB s a (σ.take k)).map (·.1)) ((intoB s a (σ.take k)).map (·.2)) (takenB (intoB s a (σ.take k))) iv tv kv)) (fun i _ _ _ _ => σ.length - (intOf i).toNat)
  case atStart => exact ⟨0, Nat.zero_le _, rfl, HST0.out⟩
  case round =>
    obtain ⟨k, hk, rfl, HST⟩ := hrel
    have hbl := HST.out.bl
    have hyr := hbl.size
    have HWR := Lib.hid (HBY.out.trans (hbl.mono HBY.out.size))
    obtain ⟨⟨⟨_, x0, x1, x2, x3, _⟩, _⟩, _⟩ := HN.out wr HWR.out
    have HOVR : Hid (OwnS W.heap.size wr (.slice Ao a.free.length co) a.free) := own_below HOV.out hbl
    have HWW := Lib.hid (HB2.out.trans (HWR.out.mono HB2.out.size))
    by_cases hlt : k < σ.length
    · have hki : (k : Int) < (σ.length : Int) := by omega
      have hk0 : (0 : Int) ≤ (k : Int) := by omega
      obtain ⟨b1, o1, e1, hb1, hc0⟩ := (HNV.out w (Below.refl _ _)).at k (by simpa using hlt)
      subst e1
      have hc1 := (HWW.out.cell (p := ⟨b1, o1 + k, none⟩) hb1).trans hc0
      have hkn : (σ.map (·.1))[k]'(by simpa using hlt) = σ[k].1 := by simp
      rw [hkn] at hc1 hc0
      have HOVD : OwnS W.heap.size wr.drew (.slice Ao a.free.length co) a.free := own_below HOVR.out (Below.refl _ _).drew
      have HHAS := Lib.hid (has_any _ a.free σ[k].1 _ wr.drew HOVD.strs)
      clear HOVD
      have HTK := intoB_take (s := s) (b := a) hlt
      generalize hpk : σ[k] = pk at *
      by_cases he : pk.1 = s
      · have hbq : (pk.1.toList == s.toList) = true := by rw [he]; simp
        rw [if_neg (fun h => h.1 he), List.append_nil] at HTK
        have HT2 := Lib.hid HTK
        clear HTK
        go_wp2_with fail
        go_region
        go_wp2
        go_roundw
        case rel => exact ⟨k + 1, by omega, by go_num, by rw [HT2.out]; exact HST.out.on HPY.out (Below.refl _ _).drew⟩
        case measure => simp [intOf]; omega
      · have hbq : (pk.1.toList == s.toList) = false := by
          rw [beq_eq_false_iff_ne]; intro e; apply he
          have : pk.1.data.toList = s.data.toList := by simpa [Lib.toList_data] using e
          cases hss : pk.1; cases hxx : s; rw [hss, hxx] at this; simp at this; rw [this]
        have hS0 : wr.drew.cell? ⟨b1, o1 + k, none⟩ = some (.string pk.1) ∧ wr.drew.cell? ⟨w.heap.size, 2, none⟩ = some (.string s) := ⟨hc1, x2⟩
        cases hhas : hasB a.free pk.1 with
        | false =>
          rw [if_neg (fun h => by rw [hhas] at h; exact absurd h.2 (by simp)), List.append_nil] at HTK
          have HT2 := Lib.hid HTK
          rw [hhas] at HHAS
          clear HTK
          go_wp2_with fail
          go_region_held3 (fun q : World => q.cell? ⟨b1, o1 + k, none⟩ = some (.string pk.1) ∧ q.cell? ⟨w.heap.size, 2, none⟩ = some (.string s)) (first | with_reducible exact hS0) (first | (go_at_call 30; (with_reducible refine HHAS.out.mono ?_); rintro e5 x5 ⟨rfl, rfl⟩))
          go_wp2
          go_roundw
          case rel => exact ⟨k + 1, by omega, by go_num, by rw [HT2.out]; exact HST.out.on HPY.out (Below.refl _ _).drew⟩
          case measure => simp [intOf]; omega
        | true =>
          rw [if_pos ⟨he, hhas⟩] at HTK
          have HT2 := Lib.hid HTK
          rw [hhas] at HHAS
          clear HTK
          obtain ⟨bb, ob, A6, c6, e6, hPb, hbl6, p0, p1, p2, p3, hxb⟩ := (HBV.out w (Below.refl _ _)).at k (by simpa using hlt)
          subst e6
          have hkb : (σ.map (·.2))[k]'(by simpa using hlt) = pk.2 := by rw [← hpk]; simp
          rw [hkb] at p0 p1 p2 p3 hxb
          have hszk : pk.2.sz ≤ 1048576 := HSIG.out pk (by rw [← hpk]; exact List.getElem_mem hlt)
          go_wp2_with fail
          go_region_held3 (fun q : World => q.cell? ⟨b1, o1 + k, none⟩ = some (.string pk.1) ∧ q.cell? ⟨w.heap.size, 2, none⟩ = some (.string s)) (first | with_reducible exact hS0) (first | (go_at_call 30; (with_reducible refine HHAS.out.mono ?_); rintro e5 x5 ⟨rfl, rfl⟩))
          -- the three appends
          have HHREL : Hid (∀ (x : World) (iv tv kv : Value), InSt P y.heap.size y x ((intoB s a (σ.take k)).map (·.1) ++ [pk.1]) ((intoB s a (σ.take k)).map (·.2) ++ [pk.2]) (takenB (intoB s a (σ.take k)) ++ pk.2.free) iv tv kv → InSt P y.heap.size y x ((intoB s a (σ.take (k + 1))).map (·.1)) ((intoB s a (σ.take (k + 1))).map (·.2)) (takenB (intoB s a (σ.take (k + 1)))) iv tv kv) := fun x iv tv kv h => by
            rw [HT2.out, List.map_append, List.map_append, takenB_snoc]; exact h
          have hlτ : (intoB s a (σ.take k)).length ≤ 1048576 := Nat.le_trans (List.length_filter_le _ _) (by rw [List.length_take]; omega)
          have hlk : (takenB (intoB s a (σ.take k))).length ≤ 1099511627776 := Nat.le_trans (takenB_len (fun p hp => HSIG.out p (List.mem_of_mem_take (mem_intoB hp)))) (by omega)
          have HSTD := Lib.hid (HST.out.on HPY.out (Below.refl _ wr).drew)
          have hln : ((intoB s a (σ.take k)).map (·.1)).length ≤ 1048576 := by rw [List.length_map]; exact hlτ
          have hlu : ((intoB s a (σ.take k)).map (·.2)).length ≤ 1048576 := by rw [List.length_map]; exact hlτ
          have hfree : pk.2.free.length ≤ 1048576 := by have h8 := freeD_len [] [] pk.2; rw [free_is] at h8; simp at h8; omega
          clear HST HT2 hlτ HHAS
          generalize (intoB s a (σ.take k)).map (·.1) = ns at *
          generalize (intoB s a (σ.take k)).map (·.2) = us at *
          generalize takenB (intoB s a (σ.take k)) = ks at *
          obtain ⟨Ai, ci, rfl⟩ := own_form HSTD.out.hi
          obtain ⟨Ak, ck, rfl⟩ := own_form HSTD.out.hk
          obtain ⟨At, ct, rfl⟩ := HSTD.out.ht.form
          have HPC : Hid (∀ x, Below y.heap.size y x → (x.cell? ⟨b1, o1 + k, none⟩ = some (.string pk.1)) ∧ (x.cell? ⟨bb, ob + k * 4, none⟩ = some (.int .i64 pk.2.form) ∧ x.cell? ⟨bb, ob + k * 4 + 1, none⟩ = some (.int .i64 pk.2.num) ∧ x.cell? ⟨bb, ob + k * 4 + 2, none⟩ = some (.string pk.2.name) ∧ x.cell? ⟨bb, ob + k * 4 + 3, none⟩ = some (.slice A6 pk.2.args.length c6)) ∧ TyAt P x pk.2 (.agg #[.int .i64 pk.2.form, .int .i64 pk.2.num, .string pk.2.name, .slice A6 pk.2.args.length c6])) := fun x hx =>
            have hx' : Below w.heap.size w x := HB2.out.trans ((HBY.out.trans (hx.mono HBY.out.size)).mono HB2.out.size)
            ⟨(hx'.cell (p := ⟨b1, _, none⟩) hb1).trans hc0, ⟨(hx'.cell (p := ⟨bb, _, none⟩) hbl6).trans p0, (hx'.cell (p := ⟨bb, _, none⟩) hbl6).trans p1, (hx'.cell (p := ⟨bb, _, none⟩) hbl6).trans p2, (hx'.cell (p := ⟨bb, _, none⟩) hbl6).trans p3⟩, hxb.on hx'⟩
          have hyr2 : y.heap.size ≤ wr.heap.size := hyr
          have HONE2 : Hid (∀ u ∈ ([.int .i64 pk.2.form, .int .i64 pk.2.num, .string pk.2.name, .slice A6 pk.2.args.length c6] : List Value), u.oneCell' = true) := one_tyB _ _ _ _ _ _
          clear p0 p1 p2 p3 hxb hc1 hc0 hS0
          obtain ⟨r0, ⟨r1, r2, r3, r4⟩, _⟩ := HPC.out wr.drew HSTD.out.bl
          obtain ⟨cs, hcs, hcx⟩ := id HSTD.out.ht
          have HCS := Lib.hid hcs
          have HCX := Lib.hid hcx
          clear hcs hcx
          have HOI : Hid ((wr.drew.alloc (.cells #[.string pk.1] 9)).ownsRow y.heap.size 9 1 (.slice Ai ns.length ci) ns.length (ns.map Value.string)) := own_below HSTD.out.hi (below_new _ _)
          have hz9 : wr.drew.heap.size = wr.heap.size := rfl
          have HST1 : Hid (∀ (V : World) (gg cap : Nat), V.ownsRow y.heap.size 9 1 (.slice (some ⟨gg, 0, none⟩) (ns.length + 1) cap) (ns.length + 1) (ns.map Value.string ++ [.string pk.1]) → (wr.drew.alloc (.cells #[.string pk.1] 9)).grownBy V (Value.slice Ai ns.length ci).ownBlock → ((Value.slice Ai ns.length ci).ownBlock = some gg ∨ gg = wr.heap.size + 1) → InSt P y.heap.size y V (ns ++ [pk.1]) us ks (.slice (some ⟨gg, 0, none⟩) (ns.length + 1) cap) (.slice At us.length ct) (.slice Ak ks.length ck)) := fun V gg cap h2 g2 hat =>
            InSt.pushI HPY.out HSTD.out (below_new _ _) g2 h2 (by rcases hat with h9 | h9; (· exact .inl (by rw [h9]; rfl)); exact .inr ⟨gg, rfl, by rw [hz9]; omega⟩)
          go_upto_region 19 with (at_builtin; refine wpList_append_lies _ rfl (.tmp 77) (.tmp 82) 28 rfl y.heap.size 9 i9 (.string ⟨#[]⟩) 1 16 Tryd.underlying28 hi9 hz90 hz9s hz9b rfl (by decide) (.slice Ai ns.length ci) ns.length (ns.map Value.string) rfl HOI.out ⟨wr.heap.size, 0, none⟩ 1 1 [.string pk.1] rfl rfl (HN1.out wr.drew pk.1) (HONE.out pk.1) (by omega) (by unfold maxLen; omega) (by omega) (by simp; omega) (wr.heap.size + 1) (by simp) ?_; intro gg1 cp1 V1 h2 g2 hat _; have HSV1 := Lib.hid (HST1.out V1 gg1 cp1 h2 g2 hat); clear h2 g2 hat)
          obtain ⟨_, ⟨s1, s2, s3, s4⟩, hx1⟩ := HPC.out V1 HSV1.out.bl
          have hV1 := HSV1.out.leW
          have hbV1 : bb < V1.heap.size := by have h9 := HSV1.out.bl.size; have h8 := HBY.out.size; have h7 := HB2.out.size; omega
          have HX1 := Lib.hid hx1
          obtain ⟨cs, hcs, hcx⟩ := id HSV1.out.ht
          have HCX := Lib.hid hcx
          have HCS := Lib.hid hcs
          have HOT : Hid ((V1.alloc (.cells #[.int .i64 pk.2.form, .int .i64 pk.2.num, .string pk.2.name, .slice A6 pk.2.args.length c6] 25)).ownsRow y.heap.size 25 4 (.slice At us.length ct) us.length cs) := own_below hcs (below_new _ _)
          have HNT := Lib.hid (news_fourB V1 (.int .i64 pk.2.form) (.int .i64 pk.2.num) (.string pk.2.name) (.slice A6 pk.2.args.length c6) 25)
          have HST2 : Hid (∀ (V : World) (gg cap : Nat), V.ownsRow y.heap.size 25 4 (.slice (some ⟨gg, 0, none⟩) (us.length + 1) cap) (us.length + 1) (cs ++ [.int .i64 pk.2.form, .int .i64 pk.2.num, .string pk.2.name, .slice A6 pk.2.args.length c6]) → (V1.alloc (.cells #[.int .i64 pk.2.form, .int .i64 pk.2.num, .string pk.2.name, .slice A6 pk.2.args.length c6] 25)).grownBy V (Value.slice At us.length ct).ownBlock → InSt P y.heap.size y V (ns ++ [pk.1]) (us ++ [pk.2]) ks (.slice (some ⟨gg1, 0, none⟩) (ns.length + 1) cp1) (.slice (some ⟨gg, 0, none⟩) (us.length + 1) cap) (.slice Ak ks.length ck)) := fun V gg cap h2 g2 =>
            InSt.pushT HPY.out HSV1.out HCS.out HCX.out (below_new _ _) g2 HX1.out h2
          clear hcs hcx hx1 r1 r2 r3 r4 r0
          generalize pk.2.form = f6, pk.2.num = n6, pk.2.name = s6, pk.2.args.length = l6 at *
          go_upto_region 20 with (at_builtin; refine wpList_append_lies _ rfl (.tmp 84) (.tmp 89) 23 rfl y.heap.size 25 i25 (.agg #[.int .i64 0, .int .i64 0, .string ⟨#[]⟩, .slice none 0 0]) 4 56 Tryd.underlying23 hi25 hz25 hz25s hz25b rfl (by decide) (.slice At us.length ct) us.length cs rfl HOT.out ⟨V1.heap.size, 0, none⟩ 1 1 [.int .i64 f6, .int .i64 n6, .string s6, .slice A6 l6 c6] rfl rfl HNT.out HONE2.out (by omega) (by unfold maxLen; omega) (by omega) (by simp; omega) (V1.heap.size + 1) (by simp) ?_; intro gg2 cp2 V2 h2 g2 hat _; have HSV2 := Lib.hid (HST2.out V2 gg2 cp2 h2 g2); clear h2 g2 hat)
          obtain ⟨_, ⟨t1, t2, t3, t4⟩, hx2⟩ := HPC.out V2 HSV2.out.bl
          have hV2 := HSV2.out.leW
          have hbV2 : bb < V2.heap.size := by have h9 := HSV2.out.bl.size; have h8 := HBY.out.size; have h7 := HB2.out.size; omega
          have HFR := Lib.hid (HFB.out pk.2 _ V2 hszk hx2)
          clear s1 s2 s3 s4 hx2
          go_wp2_with fail
          refine HFR.out.mono ?_
          rintro e3 V3 ⟨⟨u3, rfl, hu3⟩, hbV3⟩
          have HSV3 := Lib.hid (HSV2.out.on HPY.out hbV3)
          obtain ⟨Au, cu, rfl, huc, hum⟩ := own_cap hu3
          have hV3 := HSV3.out.leW
          have HU3 := Lib.hid hu3
          have HBV3 := Lib.hid hbV3
          have HOK := Lib.hid (id HSV3.out.hk : V3.ownsRow y.heap.size 9 1 (.slice Ak ks.length ck) ks.length (ks.map Value.string))
          have HHR2 := HHREL
          clear hu3 hbV3 t1 t2 t3 t4
          have hckk : ks.length ≤ ck := by obtain ⟨_, _, e9, h9, _⟩ := own_cap HOK.out; injection e9 with _ _ e9; omega
          by_cases hfe : pk.2.free = []
          · rw [hfe, List.append_nil] at HHR2
            have hl0 : pk.2.free.length = 0 := by rw [hfe]; rfl
            rw [hl0]
            have HAP : ∀ (q : World) (ty : TypeId), (Builtin.append_ #[28, 28] ty #[.slice Ak ks.length ck, .slice Au 0 cu]).run Tryd.prog q = .ok (.slice Ak ks.length ck) q := fun q ty => run_append_zeroB q ty Ak Au ks.length ck cu hckk
            rcases Ak with _ | ak <;> rcases Au with _ | au
            all_goals
              go_wp2
              go_roundw
              case rel => exact ⟨k + 1, by omega, by go_num, HHR2.out _ _ _ _ HSV3.out⟩
              case measure => simp [intOf]; omega
          · have hfp := List.length_pos_iff.2 hfe
            obtain ⟨gu, capu, eu, hgub, hgus⟩ := World.ownsRow.form HU3.out (by omega)
            injection eu with eu1 eu2 eu3
            subst eu1 eu3
            have HSRC := Lib.hid (World.ownsRow.cells HU3.out (g := gu) rfl)
            have HSL : Hid ((pk.2.free.map Value.string).length = pk.2.free.length * 1) := by simp [Hid]
            have HSO : Hid (∀ u ∈ pk.2.free.map Value.string, u.oneCell' = true) := fun u hu => by simp at hu; obtain ⟨x, _, rfl⟩ := hu; rfl
            have HST4 : Hid (∀ (V : World) (gg cap : Nat), V.ownsRow y.heap.size 9 1 (.slice (some ⟨gg, 0, none⟩) (ks.length + pk.2.free.length) cap) (ks.length + pk.2.free.length) (ks.map Value.string ++ pk.2.free.map Value.string) → V3.grownBy V (Value.slice Ak ks.length ck).ownBlock → ((Value.slice Ak ks.length ck).ownBlock = some gg ∨ gg = V3.heap.size) → InSt P y.heap.size y V (ns ++ [pk.1]) (us ++ [pk.2]) (ks ++ pk.2.free) (.slice (some ⟨gg1, 0, none⟩) (ns.length + 1) cp1) (.slice (some ⟨gg2, 0, none⟩) (us.length + 1) cp2) (.slice (some ⟨gg, 0, none⟩) (ks.length + pk.2.free.length) cap)) := fun V gg cap h2 g2 hat =>
              InSt.pushK HPY.out HSV3.out (Below.refl _ _) g2 h2 (by rcases hat with h9 | h9; (· exact .inl (by rw [h9]; rfl)); exact .inr ⟨gg, rfl, by omega⟩)
            clear hgub hgus hckk
            generalize pk.2.free.map Value.string = mg at *
            generalize pk.2.free.length = fl at *
            go_upto_region 16 with (at_builtin; refine wpList_append_lies _ rfl (.tmp 91) (.tmp 96) 28 rfl y.heap.size 9 i9 (.string ⟨#[]⟩) 1 16 Tryd.underlying28 hi9 hz90 hz9s hz9b rfl (by decide) (.slice Ak ks.length ck) ks.length (ks.map Value.string) rfl HOK.out ⟨gu, 0, none⟩ fl cu mg rfl HSL.out HSRC.out HSO.out (by omega) (by unfold maxLen; omega) (by omega) (by omega) V3.heap.size rfl ?_; intro gg3 cp3 V4 h2 g2 hat _; have HSV4 := Lib.hid (HST4.out V4 gg3 cp3 h2 g2 hat); clear h2 g2 hat)
            go_wp2
            go_roundw
            case rel => exact ⟨k + 1, by omega, by go_num, HHREL.out _ _ _ _ HSV4.out⟩
            case measure => simp [intOf]; omega
    · have hdk : decide (k < σ.length) = false := by simpa using hlt
      have hkl : σ.take k = σ := List.take_of_length_le (by omega)
      rw [hkl] at HST
      clear hkl hbl hyr
      obtain ⟨Ai, ci, rfl⟩ := own_form HST.out.hi
      obtain ⟨Ak, ck, rfl⟩ := own_form HST.out.hk
      obtain ⟨At, ct, rfl⟩ := HST.out.ht.form
      have HHK := Lib.hid (has_any _ (takenB (intoB s a σ)) s _ wr HST.out.hk.strs)
      have hτsz : Hid (∀ p ∈ intoB s a σ, p.2.sz ≤ 1048576) := fun p hp => HSIG.out p (mem_intoB hp)
      have hlτ : (intoB s a σ).length ≤ σ.length := List.length_filter_le _ _
      have hzτ : (intoB s a σ).length + a.sz ≤ 1048576 := by omega
      -- the end
      have HEND : Hid (∀ (x2 : World) (nm : ByteArray) (τ' : List (ByteArray × Ty)) (f n : Int) (s' : ByteArray) (A : Option Addr) (l c : Nat), Below W.heap.size W x2 → TyAt (fun b => P b ∨ w.heap.size + 2 ≤ b) x2 (a.sub τ') (.agg #[.int .i64 f, .int .i64 n, .string s', .slice A l c]) → TyShares P w (.all nm (a.sub τ')) (.returned (.agg #[.int .i64 5, .int .i64 0, .string nm, .slice (some ⟨x2.heap.size, 0, none⟩) 1 1])) (((((x2.setCell ⟨w.heap.size + 1, 0, none⟩ (.int .i64 5)).setCell ⟨w.heap.size + 1, 1, none⟩ (.int .i64 0)).setCell ⟨w.heap.size + 1, 2, none⟩ (.string nm)).setCell ⟨w.heap.size + 1, 3, none⟩ (.slice (some ⟨x2.heap.size, 0, none⟩) 1 1)).alloc (.cells #[.int .i64 f, .int .i64 n, .string s', .slice A l c] 25))) := fun x2 nm τ' f n s' A l c hbx ht => by
        have hs2 := hbx.size
        have ht0 := ht.keep (.box (b := w.heap.size + 1) (fun hx => by rcases hx with hx | hx; (· have := HP.out _ hx; omega); omega) (.int .i64 5) (.int .i64 0) (.string nm) (.slice (some ⟨x2.heap.size, 0, none⟩) 1 1))
        have hbU : Below w.heap.size w ((((x2.setCell ⟨w.heap.size + 1, 0, none⟩ (.int .i64 5)).setCell ⟨w.heap.size + 1, 1, none⟩ (.int .i64 0)).setCell ⟨w.heap.size + 1, 2, none⟩ (.string nm)).setCell ⟨w.heap.size + 1, 3, none⟩ (.slice (some ⟨x2.heap.size, 0, none⟩) 1 1)) := below_box (HB2.out.trans (hbx.mono HB2.out.size)) (by omega) _ _ _ _
        have hU : ((((x2.setCell ⟨w.heap.size + 1, 0, none⟩ (.int .i64 5)).setCell ⟨w.heap.size + 1, 1, none⟩ (.int .i64 0)).setCell ⟨w.heap.size + 1, 2, none⟩ (.string nm)).setCell ⟨w.heap.size + 1, 3, none⟩ (.slice (some ⟨x2.heap.size, 0, none⟩) 1 1)).heap.size = x2.heap.size := by simp
        generalize ((((x2.setCell ⟨w.heap.size + 1, 0, none⟩ (.int .i64 5)).setCell ⟨w.heap.size + 1, 1, none⟩ (.int .i64 0)).setCell ⟨w.heap.size + 1, 2, none⟩ (.string nm)).setCell ⟨w.heap.size + 1, 3, none⟩ (.slice (some ⟨x2.heap.size, 0, none⟩) 1 1)) = U0 at *
        have h9 := one_new ht0 25 1 (Nat.le_refl _) (by unfold maxLen; omega)
        rw [hU] at h9
        have h8 : TyAt _ _ (Ty.all nm (a.sub τ')) _ := TysAt.ty (t := Ty.all nm (a.sub τ')) h9
        exact ⟨_, rfl, h8.mono (fun b hb => by rcases hb with (hb | hb) | hb; (· exact .inl hb); (· exact .inr (by omega)); exact .inr (by omega)), hbU.trans ((below_new U0 _).mono (by omega))⟩
      cases hhk : hasB (takenB (intoB s a σ)) s with
      | false =>
        rw [hhk] at HHK
        have hsub : (Ty.all s a).sub σ = .all s (a.sub (intoB s a σ)) := by rw [Ty.sub, if_neg (by rw [hhk]; simp)]
        have HCX := Lib.hid (HC.out wr (intoB s a σ) _ _ _ _ _ _ hWy HWR.out HST.out hτsz.out hzτ)
        have HE : Hid (∀ (x2 : World) (f n : Int) (s' : ByteArray) (A : Option Addr) (l c : Nat), Below W.heap.size W x2 → TyAt (fun b => P b ∨ w.heap.size + 2 ≤ b) x2 (a.sub (intoB s a σ)) (.agg #[.int .i64 f, .int .i64 n, .string s', .slice A l c]) → TyShares P w ((Ty.all s a).sub σ) (.returned (.agg #[.int .i64 5, .int .i64 0, .string s, .slice (some ⟨x2.heap.size, 0, none⟩) 1 1])) (((((x2.setCell ⟨w.heap.size + 1, 0, none⟩ (.int .i64 5)).setCell ⟨w.heap.size + 1, 1, none⟩ (.int .i64 0)).setCell ⟨w.heap.size + 1, 2, none⟩ (.string s)).setCell ⟨w.heap.size + 1, 3, none⟩ (.slice (some ⟨x2.heap.size, 0, none⟩) 1 1)).alloc (.cells #[.int .i64 f, .int .i64 n, .string s', .slice A l c] 25))) := fun x2 f n s' A l c h1 h2 => by
          rw [hsub]; exact HEND.out x2 s _ f n s' A l c h1 h2
        clear hsub
        generalize a.sub (intoB s a σ) = rt at *
        generalize takenB (intoB s a σ) = ks at *
        generalize (intoB s a σ).map (·.1) = ns at *
        generalize (intoB s a σ).map (·.2) = us at *
        obtain ⟨⟨_, m0, m1, m2, m3, _⟩, m5, m6, m7, m8⟩ := (HN.out wr HWR.out).1
        have hgr : g < wr.heap.size := by have := HWR.out.size; omega
        go_wp2_with fail
        refine HHK.out.mono ?_
        rintro e5 x5 ⟨rfl, rfl⟩
        go_wp2_with fail
        refine HCX.out.mono ?_
        rintro e6 x6 ⟨f6, n6, s6, A6, l6, c6, rfl, hb6, HT6⟩
        have HE6 := Lib.hid (HE.out x6 f6 n6 s6 A6 l6 c6 hb6 HT6.out)
        have hq0 := (HN.out x6 hb6).2
        have hq := hq0.put (.int .i64 5) (.int .i64 0) (.string s) (.slice (some ⟨x6.heap.size, 0, none⟩) 1 1)
        obtain ⟨hz0, z1, z2, z3, z4, z5, z6, z7, z8⟩ := hq0
        obtain ⟨_, m0, m1, m2, m3, _⟩ := (HN.out x6 hb6).1.1
        clear hb6
        go_wp2_with fail
        have hT6 := HE6.out
        generalize ((((x6.setCell ⟨w.heap.size + 1, 0, none⟩ (.int .i64 5)).setCell ⟨w.heap.size + 1, 1, none⟩ (.int .i64 0)).setCell ⟨w.heap.size + 1, 2, none⟩ (.string s)).setCell ⟨w.heap.size + 1, 3, none⟩ (.slice (some ⟨x6.heap.size, 0, none⟩) 1 1)) = U0 at *
        obtain ⟨_, u1, u2, u3, u4, _⟩ := hq.on (below_new U0 (.cells #[.int .i64 f6, .int .i64 n6, .string s6, .slice A6 l6 c6] 25))
        generalize U0.alloc (.cells #[.int .i64 f6, .int .i64 n6, .string s6, .slice A6 l6 c6] 25) = U2 at *
        exact bodyPost_ret (v := .agg #[.int .i64 5, .int .i64 0, .string s, .slice (some ⟨x6.heap.size, 0, none⟩) 1 1]) (by simp [results, Tryd.results24, go_sem, u1, u2, u3, u4]) rfl hT6
      | true =>
        rw [hhk] at HHK
        have hsub : (Ty.all s a).sub σ = .all (freshB a (intoB s a σ)) (a.sub (intoB s a σ ++ [(s, .var (freshB a (intoB s a σ)))])) := by rw [Ty.sub, if_pos hhk]
        have hfne : a.free ≠ [] := fun e => by
          obtain ⟨p, hp, _⟩ := taken_mem.1 (hasB_mem.1 hhk)
          have h9 := (List.mem_filter.1 hp).2
          simp only [Bool.and_eq_true, decide_eq_true_eq] at h9
          rw [e] at h9
          exact absurd h9.2 (by simp [hasB])
        have hfp := List.length_pos_iff.2 hfne
        obtain ⟨go, cgo, ego, hgo, _⟩ := World.ownsRow.form HOVR.out (by omega)
        injection ego with eo1 eo2 eo3
        subst eo1 eo3
        have HSRC := Lib.hid (World.ownsRow.cells HOVR.out (g := go) rfl)
        have HSL : Hid ((a.free.map Value.string).length = a.free.length * 1) := by simp [Hid]
        have HSO : Hid (∀ u ∈ a.free.map Value.string, u.oneCell' = true) := fun u hu => by simp at hu; obtain ⟨x, _, rfl⟩ := hu; rfl
        have hlk : (takenB (intoB s a σ)).length ≤ 1099511627776 := Nat.le_trans (takenB_len hτsz.out) (by omega)
        have HFR : Hid (∀ m : Nat, (∀ j, j < m → hasB (takenB (intoB s a σ) ++ a.free) (letB j) = true) → m ≤ (takenB (intoB s a σ)).length + a.free.length ∧ (hasB (takenB (intoB s a σ) ++ a.free) (letB m) = false → freshB a (intoB s a σ) = letB m)) := fun m hm => by
          obtain ⟨n0, h1, h2⟩ := letter_ex (fun x => hasB (takenB (intoB s a σ) ++ a.free) x) (takenB (intoB s a σ) ++ a.free) (fun s hs => hasB_mem.1 hs)
          have h3 : m ≤ n0 := by
            rcases Nat.lt_or_ge n0 m with h9 | h9
            · have := hm n0 h9; rw [this] at h2; cases h2
            · exact h9
          rw [List.length_append] at h1
          refine ⟨by omega, fun h4 => ?_⟩
          unfold freshB
          rw [letN_is _ _ 0 m (Nat.zero_le _) (by rw [List.length_append]; omega) h4 (fun j _ hj => hm j hj)]
        have HCX : Hid (∀ (x : World) (iv tv kv : Value) (ks : List ByteArray), InSt P y.heap.size y x ((intoB s a σ).map (·.1) ++ [s]) ((intoB s a σ).map (·.2) ++ [.var (freshB a (intoB s a σ))]) ks iv tv kv → Calls Tryd.prog 24 #[.agg #[.int .i64 af, .int .i64 an, .string az, .slice A5 al c5], iv, tv] x fun e x1 => ∃ f n s' A l c, e = .returned (.agg #[.int .i64 f, .int .i64 n, .string s', .slice A l c]) ∧ Below W.heap.size W x1 ∧ Hid (TyAt (fun b => P b ∨ w.heap.size + 2 ≤ b) x1 (a.sub (intoB s a σ ++ [(s, .var (freshB a (intoB s a σ)))])) (.agg #[.int .i64 f, .int .i64 n, .string s', .slice A l c]))) := fun x iv tv kv ks h => by
          refine HC.out x (intoB s a σ ++ [(s, .var (freshB a (intoB s a σ)))]) iv tv kv ks y.heap.size y hWy (HBY.out.trans (h.bl.mono HBY.out.size)) (by rw [List.map_append, List.map_append]; exact h) (fun p hp => ?_) (by rw [List.length_append, List.length_singleton]; omega)
          rw [List.mem_append, List.mem_singleton] at hp
          rcases hp with hp | rfl
          · exact hτsz.out p hp
          · simp [Ty.sz]
        have HE : Hid (∀ (x2 : World) (f n : Int) (s' : ByteArray) (A : Option Addr) (l c : Nat), Below W.heap.size W x2 → TyAt (fun b => P b ∨ w.heap.size + 2 ≤ b) x2 (a.sub (intoB s a σ ++ [(s, .var (freshB a (intoB s a σ)))])) (.agg #[.int .i64 f, .int .i64 n, .string s', .slice A l c]) → TyShares P w ((Ty.all s a).sub σ) (.returned (.agg #[.int .i64 5, .int .i64 0, .string (freshB a (intoB s a σ)), .slice (some ⟨x2.heap.size, 0, none⟩) 1 1])) (((((x2.setCell ⟨w.heap.size + 1, 0, none⟩ (.int .i64 5)).setCell ⟨w.heap.size + 1, 1, none⟩ (.int .i64 0)).setCell ⟨w.heap.size + 1, 2, none⟩ (.string (freshB a (intoB s a σ)))).setCell ⟨w.heap.size + 1, 3, none⟩ (.slice (some ⟨x2.heap.size, 0, none⟩) 1 1)).alloc (.cells #[.int .i64 f, .int .i64 n, .string s', .slice A l c] 25))) := fun x2 f n s' A l c h1 h2 => by
          rw [hsub]; exact HEND.out x2 _ _ f n s' A l c h1 h2
        have hln : ((intoB s a σ).map (·.1)).length ≤ 1048576 := by rw [List.length_map]; omega
        have hlu : ((intoB s a σ).map (·.2)).length ≤ 1048576 := by rw [List.length_map]; omega
        clear hsub HEND
        generalize a.sub (intoB s a σ ++ [(s, .var (freshB a (intoB s a σ)))]) = rt at *
        generalize freshB a (intoB s a σ) = fr at *
        generalize takenB (intoB s a σ) = ks at *
        generalize (intoB s a σ).map (·.1) = ns at *
        generalize (intoB s a σ).map (·.2) = us at *
        have HOK : Hid (wr.ownsRow y.heap.size 9 1 (.slice Ak ks.length ck) ks.length (ks.map Value.string)) := HST.out.hk
        have HST1 : Hid (∀ (V : World) (gg cap : Nat), V.ownsRow y.heap.size 9 1 (.slice (some ⟨gg, 0, none⟩) (ks.length + a.free.length) cap) (ks.length + a.free.length) (ks.map Value.string ++ a.free.map Value.string) → wr.grownBy V (Value.slice Ak ks.length ck).ownBlock → ((Value.slice Ak ks.length ck).ownBlock = some gg ∨ gg = wr.heap.size) → InSt P y.heap.size y V ns us (ks ++ a.free) (.slice Ai ns.length ci) (.slice At us.length ct) (.slice (some ⟨gg, 0, none⟩) (ks.length + a.free.length) cap)) := fun V gg cap h2 g2 hat =>
          InSt.pushK HPY.out HST.out (Below.refl _ _) g2 h2 (by rcases hat with h9 | h9; (· exact .inl (by rw [h9]; rfl)); exact .inr ⟨gg, rfl, by omega⟩)
        have hkl : (ks ++ a.free).length = ks.length + a.free.length := List.length_append
        generalize hKS : ks ++ a.free = kf at *
        clear hKS
        have hwr : y.heap.size ≤ wr.heap.size := HST.out.leW
        generalize a.free.map Value.string = mg at *
        generalize a.free.length = fl at *
        go_wp2_with fail
        refine HHK.out.mono ?_
        rintro e5 x5 ⟨rfl, rfl⟩
        go_upto_region 24 with (at_builtin; refine wpList_append_lies _ rfl (.tmp 103) (.tmp 104) 28 rfl y.heap.size 9 i9 (.string ⟨#[]⟩) 1 16 Tryd.underlying28 hi9 hz90 hz9s hz9b rfl (by decide) (.slice Ak ks.length ck) ks.length (ks.map Value.string) rfl HOK.out ⟨go, 0, none⟩ fl co mg rfl HSL.out HSRC.out HSO.out (by omega) (by unfold maxLen; omega) (by omega) (by omega) wr.heap.size rfl ?_; intro gg3 cp3 V1 h2 g2 hat _; have HSV1 := Lib.hid (HST1.out V1 gg3 cp3 h2 g2 hat); clear h2 g2 hat)
        go_wp2_with fail
        go_loopw [14] (fun i wr => ∃ m : Nat, i = .int .i64 m ∧ Hid (∀ j, j < m → hasB kf (letB j) = true) ∧ Hid (InSt P y.heap.size y wr ns us kf (.slice Ai ns.length ci) (.slice At us.length ct) (.slice (some ⟨gg3, 0, none⟩) (ks.length + fl) cp3))) (fun i _ => ks.length + fl + 1 - (intOf i).toNat)
        case atStart => exact ⟨0, rfl, fun j hj => absurd hj (Nat.not_lt_zero _), HSV1.out⟩
        case round =>
          obtain ⟨m, rfl, hall, HSV2⟩ := hrel
          have hm := (HFR.out m hall.out).1
          have HLT := Lib.hid (refletters_any m (by omega) wr)
          have HLT2 := Lib.hid (fun q => refletters_any m (by omega) q)
          obtain ⟨lm, hlm⟩ : ∃ lm, lm = letB m := ⟨_, rfl⟩
          rw [show (⟨(lettersL m).toArray⟩ : ByteArray) = lm from hlm.symm] at HLT HLT2
          have HLM := Lib.hid hlm
          clear hlm
          go_wp2_with fail
          refine HLT.out.mono ?_
          rintro e7 x7 ⟨rfl, hb7⟩
          have HSV3 := Lib.hid (HSV2.out.on HPY.out hb7)
          have hK3 := HSV3.out.hk.strs
          have HH3 := Lib.hid (has_any _ kf lm _ x7 hK3)
          clear hb7 hK3
          cases hq : hasB kf lm with
          | true =>
            rw [hq] at HH3
            have HALL : Hid (∀ j, j < m + 1 → hasB kf (letB j) = true) := fun j hj => by
              by_cases e : j = m
              · subst e; rw [← HLM.out]; exact hq
              · exact hall.out j (by omega)
            clear hq
            go_wp2_with fail
            refine HH3.out.mono ?_
            rintro e8 x8 ⟨rfl, rfl⟩
            go_wp2
            go_roundw
            case rel => exact ⟨m + 1, by go_num, HALL, HSV3.out⟩
            case measure => simp [intOf]; omega
          | false =>
            rw [hq] at HH3
            have hfr : fr = lm := by rw [HLM.out] at hq ⊢; exact (HFR.out m hall.out).2 hq
            clear hq HLT hall HFR HLM
            subst hfr
            have HLT3 := Lib.hid (HLT2.out x7)
            clear HLT2
            go_wp2_with fail
            refine HH3.out.mono ?_
            rintro e8 x8 ⟨rfl, rfl⟩
            go_wp2_with fail
            refine HLT3.out.mono ?_
            rintro e9 x9 ⟨rfl, hb9⟩
            have HSV4 := Lib.hid (HSV3.out.on HPY.out hb9)
            clear hb9
            have hW9 := HSV4.out.leW
            have HW9 := Lib.hid (HBY.out.trans (HSV4.out.bl.mono HBY.out.size))
            obtain ⟨⟨_, m0, m1, m2, m3, _⟩, m5, m6, m7, m8⟩ := (HN.out x9 HW9.out).1
            have HOI : Hid ((x9.alloc (.cells #[.string s] 9)).ownsRow y.heap.size 9 1 (.slice Ai ns.length ci) ns.length (ns.map Value.string)) := own_below HSV4.out.hi (below_new _ _)
            have HST5 : Hid (∀ (V : World) (gg cap : Nat), V.ownsRow y.heap.size 9 1 (.slice (some ⟨gg, 0, none⟩) (ns.length + 1) cap) (ns.length + 1) (ns.map Value.string ++ [.string s]) → (x9.alloc (.cells #[.string s] 9)).grownBy V (Value.slice Ai ns.length ci).ownBlock → ((Value.slice Ai ns.length ci).ownBlock = some gg ∨ gg = x9.heap.size + 1) → InSt P y.heap.size y V (ns ++ [s]) us kf (.slice (some ⟨gg, 0, none⟩) (ns.length + 1) cap) (.slice At us.length ct) (.slice (some ⟨gg3, 0, none⟩) (ks.length + fl) cp3)) := fun V gg cap h2 g2 hat =>
              InSt.pushI HPY.out HSV4.out (below_new _ _) g2 h2 (by rcases hat with h9 | h9; (· exact .inl (by rw [h9]; rfl)); exact .inr ⟨gg, rfl, by omega⟩)
            go_upto_region 29 with (at_builtin; refine wpList_append_lies _ rfl (.tmp 114) (.tmp 117) 28 rfl y.heap.size 9 i9 (.string ⟨#[]⟩) 1 16 Tryd.underlying28 hi9 hz90 hz9s hz9b rfl (by decide) (.slice Ai ns.length ci) ns.length (ns.map Value.string) rfl HOI.out ⟨x9.heap.size, 0, none⟩ 1 1 [.string s] rfl rfl (HN1.out x9 s) (HONE.out s) (by omega) (by unfold maxLen; omega) (by omega) (by simp; omega) (x9.heap.size + 1) (by simp) ?_; intro gg1 cp1 V1 h2 g2 hat _; have HSV5 := Lib.hid (HST5.out V1 gg1 cp1 h2 g2 hat); clear h2 g2 hat)
            have hV1 := HSV5.out.leW
            obtain ⟨cs, hcs, hcx⟩ := id HSV5.out.ht
            have HCX5 := Lib.hid hcx
            have HCS := Lib.hid hcs
            have HOT : Hid ((V1.alloc (.cells #[.int .i64 2, .int .i64 0, .string fr, .slice none 0 0] 25)).ownsRow y.heap.size 25 4 (.slice At us.length ct) us.length cs) := own_below hcs (below_new _ _)
            have HNT := Lib.hid (news_fourB V1 (.int .i64 2) (.int .i64 0) (.string fr) (.slice none 0 0) 25)
            have HONE2 : Hid (∀ u ∈ ([.int .i64 2, .int .i64 0, .string fr, .slice none 0 0] : List Value), u.oneCell' = true) := one_tyB _ _ _ _ _ _
            have HVT : Hid (TyAt P V1 (.var fr) (.agg #[.int .i64 2, .int .i64 0, .string fr, .slice none 0 0])) := ty_leaf P V1 (.var fr) rfl none 0 (Nat.zero_le _)
            have HST6 : Hid (∀ (V : World) (gg cap : Nat), V.ownsRow y.heap.size 25 4 (.slice (some ⟨gg, 0, none⟩) (us.length + 1) cap) (us.length + 1) (cs ++ [.int .i64 2, .int .i64 0, .string fr, .slice none 0 0]) → (V1.alloc (.cells #[.int .i64 2, .int .i64 0, .string fr, .slice none 0 0] 25)).grownBy V (Value.slice At us.length ct).ownBlock → InSt P y.heap.size y V (ns ++ [s]) (us ++ [.var fr]) kf (.slice (some ⟨gg1, 0, none⟩) (ns.length + 1) cp1) (.slice (some ⟨gg, 0, none⟩) (us.length + 1) cap) (.slice (some ⟨gg3, 0, none⟩) (ks.length + fl) cp3)) := fun V gg cap h2 g2 =>
              InSt.pushT HPY.out HSV5.out HCS.out HCX5.out (below_new _ _) g2 HVT.out h2
            clear hcs hcx m0 m1 m2 m3 m5 m6 m7 m8
            go_upto_region 30 with (at_builtin; refine wpList_append_lies _ rfl (.tmp 119) (.tmp 122) 23 rfl y.heap.size 25 i25 (.agg #[.int .i64 0, .int .i64 0, .string ⟨#[]⟩, .slice none 0 0]) 4 56 Tryd.underlying23 hi25 hz25 hz25s hz25b rfl (by decide) (.slice At us.length ct) us.length cs rfl HOT.out ⟨V1.heap.size, 0, none⟩ 1 1 [.int .i64 2, .int .i64 0, .string fr, .slice none 0 0] rfl rfl HNT.out HONE2.out (by omega) (by unfold maxLen; omega) (by omega) (by simp; omega) (V1.heap.size + 1) (by simp) ?_; intro gg2 cp2 V2 h2 g2 hat _; have HSV6 := Lib.hid (HST6.out V2 gg2 cp2 h2 g2); clear h2 g2 hat)
            have HW2 := Lib.hid (HBY.out.trans (HSV6.out.bl.mono HBY.out.size))
            obtain ⟨⟨_, m0, m1, m2, m3, _⟩, m5, m6, m7, m8⟩ := (HN.out V2 HW2.out).1
            have hgr : g < V2.heap.size := by have := HW2.out.size; omega
            have HC2 := Lib.hid (HCX.out V2 _ _ _ _ HSV6.out)
            go_wp2_with fail
            refine HC2.out.mono ?_
            rintro e6 x6 ⟨f6, n6, s6, A6, l6, c6, rfl, hb6, HT6⟩
            have HE6 := Lib.hid (HE.out x6 f6 n6 s6 A6 l6 c6 hb6 HT6.out)
            have hq0 := (HN.out x6 hb6).2
            have hq := hq0.put (.int .i64 5) (.int .i64 0) (.string fr) (.slice (some ⟨x6.heap.size, 0, none⟩) 1 1)
            obtain ⟨hz0, z1, z2, z3, z4, z5, z6, z7, z8⟩ := hq0
            obtain ⟨_, m0, m1, m2, m3, _⟩ := (HN.out x6 hb6).1.1
            clear hb6
            go_wp2_with fail
            have hT6 := HE6.out
            generalize ((((x6.setCell ⟨w.heap.size + 1, 0, none⟩ (.int .i64 5)).setCell ⟨w.heap.size + 1, 1, none⟩ (.int .i64 0)).setCell ⟨w.heap.size + 1, 2, none⟩ (.string fr)).setCell ⟨w.heap.size + 1, 3, none⟩ (.slice (some ⟨x6.heap.size, 0, none⟩) 1 1)) = U0 at *
            obtain ⟨_, u1, u2, u3, u4, _⟩ := hq.on (below_new U0 (.cells #[.int .i64 f6, .int .i64 n6, .string s6, .slice A6 l6 c6] 25))
            generalize U0.alloc (.cells #[.int .i64 f6, .int .i64 n6, .string s6, .slice A6 l6 c6] 25) = U2 at *
            exact bodyPost_ret (v := .agg #[.int .i64 5, .int .i64 0, .string fr, .slice (some ⟨x6.heap.size, 0, none⟩) 1 1]) (by simp [results, Tryd.results24, go_sem, u1, u2, u3, u4]) rfl hT6
end Go.Proofs.YtbdfjboojokgdaaDoor
