/- The contracts of the document's Has and free (chapter 4), and of its Free. Condition: the type has at most 2^40 nodes. -/
import Derived.Test.YtbdfjboojokgdaaDoorJU17
namespace Go.Proofs.YtbdfjboojokgdaaDoor
open Go.RowKit

set_option maxRecDepth 100000 in
set_option maxHeartbeats 1000000 in
theorem has_any (P : Nat → Prop) (ss : List ByteArray) (x : ByteArray) (v : Value) (w : World) (h : StrsAt P w v ss) : Calls Tryd.prog 30 #[v, .string x] w fun e w' => e = .returned (.bool (hasB ss x)) ∧ w = w' := by
  obtain ⟨A, c, rfl, hc, hm⟩ := h.shape
  unfold maxLen at hm
  have HH := Lib.hid h
  have hlen : ss.length ≤ 9223372036854775807 := by omega
  clear h
  go_enter Tryd.func30, Tryd.ntmps30
  go_wp2
  go_loop [5] (fun i => ∃ k : Nat, k ≤ ss.length ∧ i = .int .i64 k ∧ Hid (x ∉ ss.take k)) (fun i => ss.length - (intOf i).toNat)
  case atStart => exact ⟨0, Nat.zero_le _, rfl, by simp [Hid]⟩
  case round =>
    obtain ⟨k, hk, rfl, hno⟩ := hrel
    by_cases hlt : k < ss.length
    · obtain ⟨b, off, e1, hb, hcell⟩ := HH.out.at k hlt
      subst e1
      have htk : ss.take (k + 1) = ss.take k ++ [ss[k]] := List.take_succ_eq_append_getElem hlt
      have hki : (k : Int) < (ss.length : Int) := by omega
      have hk0 : (0 : Int) ≤ (k : Int) := by omega
      by_cases he : ss[k] = x
      · have HE : Hid (hasB ss x = true) := hasB_mem.2 (by rw [← he]; exact List.getElem_mem hlt)
        have hbq : (ss[k].toList == x.toList) = true := by rw [he]; simp
        generalize ss[k] = v at *
        clear htk he
        go_wp2
        go_ret
        exact ⟨ret_bool HE.out.symm, rfl⟩
      · have hbq : (ss[k].toList == x.toList) = false := by
          rw [beq_eq_false_iff_ne]; intro e; apply he
          have : ss[k].data.toList = x.data.toList := by simpa [Lib.toList_data] using e
          cases hss : ss[k]; cases hx : x; rw [hss, hx] at this; simp at this; rw [this]
        have HR : Hid (x ∉ ss.take (k + 1)) := by
          show ¬ _
          rw [htk, List.mem_append, List.mem_singleton]
          rintro (h | h)
          · exact hno.out h
          · exact he h.symm
        generalize ss[k] = v at *
        clear htk he
        go_wp2
        go_round
        case rel => exact ⟨k + 1, by omega, by go_num, HR⟩
        case measure => simp [intOf]; omega
    · have hd : decide (k < ss.length) = false := by simpa using hlt
      have HE : Hid (hasB ss x = false) := by
        refine hasB_not.2 ?_
        have h9 := hno.out
        rwa [List.take_of_length_le (by omega)] at h9
      go_wp2
      go_ret
      exact ⟨ret_bool HE.out.symm, rfl⟩
/-- A row of texts that grew. -/
def GrewS (base : Nat) (w : World) (ov : Value) (out' : List ByteArray) (e : Ending) (w' : World) : Prop := ∃ u, e = .returned u ∧ OwnS base w' u out' ∧ w.grownBy w' ov.ownBlock ∧ (u.ownBlock = ov.ownBlock ∨ ∃ g, u.ownBlock = some g ∧ w.heap.size ≤ g)
theorem GrewS.put {base : Nat} {w W wr w' : World} {ov u : Value} {out' : List ByteArray} {e : Ending} (h0 : Below w.heap.size w W) (h1 : W.grownBy wr ov.ownBlock) (h2 : u.ownBlock = ov.ownBlock ∨ ∃ g, u.ownBlock = some g ∧ W.heap.size ≤ g) (h : GrewS base wr u out' e w') : GrewS base w ov out' e w' := by
  obtain ⟨x, e1, e2, e3, e4⟩ := h
  have hz := h1.size
  have hz0 := h0.size
  have h3 : W.grownBy w' ov.ownBlock := h1.andThen e3 (fun j hj => by
    rcases h2 with h2 | ⟨g, h2, h5⟩
    · right; rw [← h2]; exact hj
    · left; rw [h2] at hj; injection hj with hj; omega)
  refine ⟨x, e1, e2, (grown_of_below h0 _).trans h3, ?_⟩
  rcases e4 with e4 | ⟨g, e4, e5⟩
  · rcases h2 with h2 | ⟨g, h2, h5⟩
    · exact .inl (e4.trans h2)
    · exact .inr ⟨g, e4.trans h2, by omega⟩
  · exact .inr ⟨g, e4, by omega⟩
set_option maxRecDepth 100000 in
set_option maxHeartbeats 1000000 in
theorem reffree_var (base : Nat) (given out : List ByteArray) (t : Ty) (v gv ov : Value) (w : World) (h : TyAt (fun b => b < base) w t v) (hg : OwnS base w gv given) (ho : OwnS base w ov out) (hba : base ≤ w.heap.size) (hf : t.form = 2) (hz : out.length ≤ 1099511627776) :
    Calls Tryd.prog 55 #[v, gv, ov] w (GrewS base w ov (freeD given out t)) := by
  have HM := Lib.hid (freeD_var (given := given) (out := out) hf)
  obtain ⟨A, c, rfl, _, _⟩ := h.form
  obtain ⟨A1, c1, rfl, _, _⟩ := own_cap hg
  obtain ⟨A2, c2, rfl, hc2, hm2⟩ := own_cap ho
  obtain ⟨W, eW, q1, b1, z1⟩ := one_box w (.int .i64 t.form) (.int .i64 t.num) (.string t.name) (.slice A t.args.length c) 25
  have HEW := Lib.hid eW
  have hgW : OwnS base W (.slice A1 given.length c1) given := own_below hg b1
  have hoW : OwnS base W (.slice A2 out.length c2) out := own_below ho b1
  have HO := Lib.hid (has_any _ out t.name _ W hoW.strs)
  have HG := Lib.hid (has_any _ given t.name _ W hgW.strs)
  have HOW : Hid (OwnS base W (.slice A2 out.length c2) out) := hoW
  have HB := Lib.hid b1
  have HOWN := Lib.hid (own_below hoW (below_new W (.cells #[.string t.name] 9)))
  have HNEW := Lib.hid (news_one W (.string t.name) 9)
  have HONE := Lib.hid (one_str t.name)
  have hbW : base ≤ W.heap.size := by omega
  obtain ⟨x0, x1, x2, x3, x4, _⟩ := q1
  clear eW h hg ho b1 hgW hoW
  obtain ⟨i0, hi, hz0, hzs, hzb⟩ := info_parts' Tryd.info9
  generalize hr : freeD given out t = r at *
  generalize t.name = nn at *
  generalize t.form = ff at *
  subst hf
  have HSAME : Hid (r = out → GrewS base w (.slice A2 out.length c2) r (.returned (.slice A2 out.length c2)) W) := fun e => ⟨_, rfl, by rw [e]; exact HOW.out, grown_of_below HB.out _, .inl rfl⟩
  clear hr
  cases h1 : hasB given nn with
  | true =>
    have HR : Hid (r = out) := by show _ = _; rw [HM.out, if_pos (.inl h1)]
    rw [h1] at HG
    clear h1
    go_enter Tryd.func55, Tryd.ntmps55
    go_wp2_with fail
    rw [HEW.out]
    go_wp2_with fail
    refine HG.out.mono ?_
    rintro e w' ⟨rfl, rfl⟩
    go_wp2
    go_ret
    exact HSAME.out HR.out
  | false =>
    cases h2 : hasB out nn with
    | true =>
      have HR : Hid (r = out) := by show _ = _; rw [HM.out, if_pos (.inr h2)]
      rw [h1] at HG
      rw [h2] at HO
      clear h1 h2
      go_enter Tryd.func55, Tryd.ntmps55
      go_wp2_with fail
      rw [HEW.out]
      go_wp2_with fail
      refine HG.out.mono ?_
      rintro e w' ⟨rfl, rfl⟩
      go_wp2_with fail
      refine HO.out.mono ?_
      rintro e w' ⟨rfl, rfl⟩
      go_wp2
      go_ret
      exact HSAME.out HR.out
    | false =>
      have HR : Hid (r = out ++ [nn]) := by show _ = _; rw [HM.out, if_neg (by rw [h1, h2]; simp)]
      rw [h1] at HG
      rw [h2] at HO
      clear h1 h2
      have HRES : Hid (∀ (g cap : Nat) (w2 : World), w2.ownsRow base 9 1 (.slice (some ⟨g, 0, none⟩) (out.length + 1) cap) (out.length + 1) (out.map Value.string ++ [.string nn]) → (W.alloc (.cells #[.string nn] 9)).grownBy w2 (Value.slice A2 out.length c2).ownBlock → ((Value.slice A2 out.length c2).ownBlock = some g ∨ g = W.heap.size + 1) → GrewS base w (.slice A2 out.length c2) r (.returned (.slice (some ⟨g, 0, none⟩) (out.length + 1) cap)) w2) := fun g cap w2 h2 g2 hat => by
        refine ⟨_, rfl, ?_, (grown_of_below (HB.out.trans ((below_new W _).mono HB.out.size)) _).trans g2, ?_⟩
        · rw [HR.out]; unfold OwnS; rw [List.map_append, List.length_append]; exact h2
        · rcases hat with h9 | h9
          · exact .inl (by rw [h9]; rfl)
          · exact .inr ⟨g, rfl, by omega⟩
      have HZ1 := Lib.hid z1
      clear z1
      generalize out.map Value.string = mv at *
      go_enter Tryd.func55, Tryd.ntmps55
      go_wp2_with fail
      rw [HEW.out]
      go_wp2_with fail
      refine HG.out.mono ?_
      rintro e w' ⟨rfl, rfl⟩
      go_wp2_with fail
      refine HO.out.mono ?_
      rintro e w' ⟨rfl, rfl⟩
      go_wp2_with (at_builtin; refine wpList_append_lies _ rfl (.tmp 23) (.tmp 26) 28 rfl base 9 i0 (.string ⟨#[]⟩) 1 16 Tryd.underlying28 hi hz0 hzs hzb rfl (by decide) (.slice A2 out.length c2) out.length mv rfl HOWN.out ⟨W.heap.size, 0, none⟩ 1 1 [.string nn] rfl rfl HNEW.out HONE.out (by omega) (by unfold maxLen; omega) (by omega) (by simp; omega) (W.heap.size + 1) (by simp) ?_; intro g cap w2 h2 g2 hat _; have HP := Lib.hid (HRES.out g cap w2 h2 g2 hat); clear h2 g2 hat)
      go_ret
      exact HP.out
theorem run_append_none (y : World) (ty : TypeId) : (Builtin.append_ #[28, 28] ty #[.slice none 0 0, .slice none 0 0]).run Tryd.prog y = .ok (.slice none 0 0) y := by
  obtain ⟨i0, hi, hz0, hzs, hzb⟩ := info_parts' Tryd.info9
  simp [Builtin.append_, run_underlying Tryd.underlying28, sizeOf, typeInfo, hi, Builtin.lenOf, Builtin.firstCells]
set_option maxRecDepth 100000 in
set_option maxHeartbeats 1000000 in
theorem reffree1_any (base : Nat) : ∀ (n : Nat) (given out : List ByteArray) (t : Ty) (v gv ov : Value) (w : World), t.sz ≤ n → TyAt (fun b => b < base) w t v → OwnS base w gv given → (gv = .slice none 0 0 ∨ given ≠ []) → OwnS base w ov out → (∀ g, gv.ownBlock = some g → ov.ownBlock ≠ some g) → base ≤ w.heap.size → given.length + t.sz ≤ 1099511627776 → out.length + t.sz ≤ 1099511627776 →
    Calls Tryd.prog 55 #[v, gv, ov] w (GrewS base w ov (freeD given out t))
  | 0, _, _, t, _, _, _, _, hn, _, _, _, _, _, _, _, _ => by cases t <;> simp [Ty.sz] at hn
  | n + 1, given, out, t, v, gv, ov, w, hn, h, hg, hnn, ho, hap, hba, hzg, hz => by
    by_cases hf : t.form = 2
    · exact reffree_var base given out t v gv ov w h hg ho hba hf (by omega)
    obtain ⟨sv, rfl, hs⟩ := h.tys
    obtain ⟨A, c, rfl, hc, hm⟩ := hs.form
    obtain ⟨A7, c7, rfl, _, _⟩ := own_cap hg
    obtain ⟨A2, c2, rfl, hc2, hm2⟩ := own_cap ho
    have HL := World.ownsRow.lt ho
    obtain ⟨W, eW, q1, b1, z1⟩ := one_box w (.int .i64 t.form) (.int .i64 t.num) (.string t.name) (.slice A t.args.length c) 25
    have HEW := Lib.hid eW
    have HO : Hid (OwnS base W (.slice A2 out.length c2) out) := own_below ho b1
    have HB := Lib.hid b1
    have HQ := Lib.hid q1
    have HS := Lib.hid (hs.on b1)
    have HAP0 := Lib.hid hap
    have HNN0 := Lib.hid hnn
    have HG0 : Hid (OwnS base W (.slice A7 given.length c7) given) := own_below hg b1
    have IH := Lib.hid (fun (given out : List ByteArray) (x : Ty) (hx : x ∈ t.args) (v gv ov : Value) (y : World) (h1 : TyAt (fun b => b < base) y x v) (h5 : OwnS base y gv given) (h8 : gv = .slice none 0 0 ∨ given ≠ []) (h2 : OwnS base y ov out) (h6 : ∀ g, gv.ownBlock = some g → ov.ownBlock ≠ some g) (h3 : base ≤ y.heap.size) (h7 : given.length + x.sz ≤ 1099511627776) (h4 : out.length + x.sz ≤ 1099511627776) => reffree1_any base n given out x v gv ov y (by have := Ty.arg_sz hx; omega) h1 h5 h8 h2 h6 h3 h7 h4)
    have hl2 := t.args_le
    have hba' : base ≤ W.heap.size := by omega
    have hsa := sumSz_args t
    have HLI : Hid (∀ k, (Value.slice A2 out.length c2).ownBlock = some k → base ≤ k ∧ k < w.heap.size) := fun k hk => HL k hk
    have HLG : Hid (∀ k, (Value.slice A7 given.length c7).ownBlock = some k → base ≤ k ∧ k < w.heap.size) := fun k hk => World.ownsRow.lt hg k hk
    clear eW h ho hg b1 hs HL hc hm hc2 hm2 hap hnn
    by_cases hf5 : t.form = 5
    · have HM := Lib.hid (freeD_all (given := given) (out := out) hf5)
      obtain ⟨gn, hgnn⟩ : ∃ gn, gn = given ++ [t.name] := ⟨_, rfl⟩
      have hgl : gn.length = given.length + 1 := by rw [hgnn]; simp
      rw [← hgnn] at HM
      have HNV : Hid (∀ (V : World) (g7 c7 : Nat), Below W.heap.size W V → V.ownsRow base 9 1 (.slice (some ⟨g7, 0, none⟩) (given.length + 1) c7) (given.length + 1) (given.map Value.string ++ [.string t.name]) → W.heap.size ≤ g7 →
          Below w.heap.size w V ∧ Box4 V w.heap.size (.int .i64 t.form) (.int .i64 t.num) (.string t.name) (.slice A t.args.length c) ∧ TysAt (fun b => b < base) V t.args (.slice A t.args.length c) ∧ OwnS base V (.slice A2 out.length c2) out ∧ OwnS base V (.slice (some ⟨g7, 0, none⟩) gn.length c7) gn ∧ (∀ g, (Value.slice (some ⟨g7, 0, none⟩) gn.length c7).ownBlock = some g → (Value.slice A2 out.length c2).ownBlock ≠ some g)) := fun V g7 c7 hbv hov hg7 => by
        refine ⟨HB.out.trans (hbv.mono HB.out.size), HQ.out.on hbv, HS.out.on hbv, own_below HO.out hbv, ?_, fun g e e2 => ?_⟩
        · unfold OwnS; rw [hgl, hgnn, List.map_append]; exact hov
        · have e3 : g7 = g := by simpa [Value.ownBlock] using e
          have := (HLI.out g e2).2; omega
      have HNN : ∀ v : Value, Hid (v = .slice none 0 0 ∨ gn ≠ []) := fun v => .inr (by rw [hgnn]; simp)
      have HNEWN := Lib.hid (fun (V : World) => news_one V (.string t.name) 9)
      have HONE := Lib.hid (one_str t.name)
      obtain ⟨i0, hi, hz0, hzs, hzb⟩ := info_parts' Tryd.info9
      have hmn : ∀ (y : World) (ty : TypeId), (Builtin.append_ #[28, 28] ty #[.slice none 0 0, .slice none 0 0]).run Tryd.prog y = .ok (.slice none 0 0) y := run_append_none
      obtain ⟨x0, x1, x2, x3, x4, _⟩ := q1
      have HZ1 := Lib.hid z1
      have hzle : w.heap.size + 1 ≤ W.heap.size := by omega
      clear z1 hgnn
      generalize t.form = ff at *
      generalize t.name = nn at *
      subst hf5
      by_cases hnil : given = []
      · subst hnil
        have hA7 : A7 = none ∧ c7 = 0 := by
          rcases HNN0.out with e | e
          · injection e with e1 e2 e3; exact ⟨e1, e3⟩
          · exact absurd rfl e
        obtain ⟨rfl, rfl⟩ := hA7
        clear HNN0 HG0 HAP0 HLG
        go_enter Tryd.func55, Tryd.ntmps55
        go_upto_region 1 with (fail)
        rw [HEW.out]
        go_upto_region 8 with (fail)
        go_wp2_with (at_builtin; refine wpList_append_lies _ rfl (.tmp 34) (.tmp 37) 28 rfl base 9 i0 (.string ⟨#[]⟩) 1 16 Tryd.underlying28 hi hz0 hzs hzb rfl (by decide) (.slice none 0 0) 0 [] rfl (World.ownsRow_nil _ base 9 1) ⟨W.heap.size, 0, none⟩ 1 1 [.string nn] rfl rfl (HNEWN.out W) HONE.out (by omega) (by unfold maxLen; omega) (by omega) (by simp; omega) (W.heap.size + 1) (by simp) ?_; intro g7 c7 V h2 g2 hat _; have hat' : g7 = W.heap.size + 1 := (by rcases hat with h9 | h9; (· cases h9); exact h9); have HV := HNV.out V g7 c7 ((below_new W _).trans ((grown_below (Below.refl _ _) g2 (fun k hk => by cases hk) (Nat.le_refl _)).mono (by simp))) h2 (by omega); have HVS := (below_new W (.cells #[.string nn] 9)).size; have hVs := g2.size; simp only [World.size_alloc] at hVs; clear h2 g2 hat hat')
        obtain ⟨hv1, hv2, hv3, hv4, hv5, hv6⟩ := HV
        have HBV := Lib.hid hv1
        have HQV := Lib.hid hv2
        have HSV := Lib.hid hv3
        have HOV := Lib.hid hv4
        have HGN := Lib.hid hv5
        have HAP := Lib.hid hv6
        clear hv1 hv2 hv3 hv4 hv5 hv6 HVS
        have hbaV : base ≤ V.heap.size := by omega
        have hg1 : gn.length = 1 := by rw [hgl]; rfl
        rw [hg1] at HGN HAP


        go_loopw [8, 2] (fun i o wr => ∃ k : Nat, k ≤ t.args.length ∧ i = .int .i64 k ∧ OwnS base wr o (freeDL gn out (t.args.take k)) ∧ V.grownBy wr (Value.slice A2 out.length c2).ownBlock ∧ (o.ownBlock = (Value.slice A2 out.length c2).ownBlock ∨ ∃ g, o.ownBlock = some g ∧ V.heap.size ≤ g)) (fun i _ _ => t.args.length - (intOf i).toNat)
        case atStart => exact ⟨0, Nat.zero_le _, rfl, by simpa [freeDL] using HOV.out, World.grownBy.refl _ _, .inl rfl⟩
        case round =>
          obtain ⟨k, hk, rfl, hok, hgk, hak⟩ := hrel
          have HOK := Lib.hid hok
          have HGK := Lib.hid hgk
          have HAK := Lib.hid hak
          have hzk := hgk.size
          have hbx : Box4 wr w.heap.size (.int .i64 5) (.int .i64 t.num) (.string nn) (.slice A t.args.length c) := by
            obtain ⟨h0, h1, h2, h3, h4, f1, f2, f3, f4⟩ := HQV.out
            have hb := hgk.block w.heap.size (by omega) (fun e => by have := HLI.out _ e.symm; omega)
            have hc : ∀ o, wr.cell? ⟨w.heap.size, o, none⟩ = V.cell? ⟨w.heap.size, o, none⟩ := fun o => World.cell?_of_block (a := ⟨w.heap.size, o, none⟩) hb
            have hz : ∀ o, wr.frozen? ⟨w.heap.size, o, none⟩ = V.frozen? ⟨w.heap.size, o, none⟩ := fun o => by simp [World.frozen?, hb]
            exact ⟨by omega, (hc 0).trans h1, (hc 1).trans h2, (hc 2).trans h3, (hc 3).trans h4, (hz 0).trans f1, (hz 1).trans f2, (hz 2).trans f3, (hz 3).trans f4⟩
          obtain ⟨y0, y1, y2, y3, y4, _⟩ := hbx
          obtain ⟨A5, c5, rfl⟩ := own_form hok
          have hba2 : base ≤ wr.heap.size := by omega
          have hlen := freeDL_len gn out (t.args.take k)
          have hsl := sumSz_le t.args k
          have hgn : OwnS base wr (Value.slice (some ⟨g7, 0, none⟩) 1 c7) gn := own_keep HGN.out (fun g hg => hgk.block g (World.ownsRow.lt HGN.out g hg).2 (fun e => HAP.out g hg e.symm))
          have hap : ∀ g, (Value.slice (some ⟨g7, 0, none⟩) 1 c7).ownBlock = some g → (Value.slice A5 (freeDL gn out (t.args.take k)).length c5).ownBlock ≠ some g := fun g hg e => by
            rcases HAK.out with h9 | ⟨g2, h9, h8⟩
            · exact HAP.out g hg (h9.symm.trans e)
            · rw [h9] at e; injection e with e; have := (World.ownsRow.lt HGN.out g hg).2; omega
          by_cases hlt : k < t.args.length
          · obtain ⟨g, off, A3, c3, e3, hgb, hg, m0, m1, m2, m3, hx⟩ := (HSV.out.keep (grown_keeps hgk (fun k hk => (HLI.out k hk).1))).at k hlt
            subst e3
            have hmem : t.args[k] ∈ t.args := List.getElem_mem hlt
            have hso := sumSz_one hlt
            have HC := Lib.hid (IH.out gn _ _ hmem _ _ _ wr hx hgn (HNN _).out hok hap hba2 (by omega) (by omega))
            have HTK := Lib.hid (freeDL_take (given := gn) (out := out) hlt)
            have hki : (k : Int) < (t.args.length : Int) := by omega
            have hk0 : (0 : Int) ≤ (k : Int) := by omega
            clear hx hok hgk hak hgn hap
            generalize t.args[k] = x at *
            generalize x.form = xf, x.num = xn, x.name = xs, x.args.length = xl at *
            generalize freeDL gn out (t.args.take k) = mk at *
            go_wp2_with fail
            refine HC.out.mono ?_
            rintro e w1 hr
            obtain ⟨u, rfl, ho1, hg1, ha1⟩ := GrewS.put (Below.refl V.heap.size V) HGK.out HAK.out hr
            obtain ⟨A6, c6, rfl⟩ := own_form ho1
            have HO1 := Lib.hid ho1
            have HG1 := Lib.hid hg1
            have HA1 := Lib.hid ha1
            clear ho1 hg1 ha1 hr
            go_wp2
            go_roundw
            case rel => exact ⟨k + 1, by omega, by go_num, by rw [HTK.out]; exact HO1.out, HG1.out, HA1.out⟩
            case measure => simp [intOf]; omega
          · have hd : decide (k < t.args.length) = false := by simpa using hlt
            have hkl : t.args.take k = t.args := List.take_of_length_le (by omega)
            have HRES : Hid (GrewS base w (.slice A2 out.length c2) (freeD [] out t) (.returned (.slice A5 (freeDL gn out (t.args.take k)).length c5)) wr) :=
              GrewS.put HBV.out HGK.out HAK.out ⟨_, rfl, by rw [HM.out]; exact (congrArg (fun l => OwnS base wr (.slice A5 (freeDL gn out (t.args.take k)).length c5) (freeDL gn out l)) hkl).mp hok, World.grownBy.refl _ _, .inl rfl⟩
            clear hok hgk hak hkl hgn hap
            go_wp2
            go_ret
            exact HRES.out
      · obtain ⟨g1, cap1, e1, hgb1, hgs1⟩ := World.ownsRow.form HG0.out (by have := List.length_pos_iff.2 hnil; omega)
        injection e1 with e1 e2 e3
        subst e1
        have hgpos := List.length_pos_iff.2 hnil
        have HSRC := Lib.hid (World.ownsRow.cells HG0.out (g := g1) rfl)
        have HSL : Hid ((given.map Value.string).length = given.length * 1) := by simp [Hid]
        have HSO : Hid (∀ u ∈ given.map Value.string, u.oneCell' = true) := fun u hu => by simp at hu; obtain ⟨x, _, rfl⟩ := hu; rfl
        clear HNN0 HG0 HAP0 HLG e3
        generalize given.map Value.string = mg at *
        go_enter Tryd.func55, Tryd.ntmps55
        go_upto_region 1 with (fail)
        rw [HEW.out]
        go_upto_region 8 with (at_builtin; refine wpList_append_lies _ rfl (.tmp 31) (.tmp 32) 28 rfl base 9 i0 (.string ⟨#[]⟩) 1 16 Tryd.underlying28 hi hz0 hzs hzb rfl (by decide) (.slice none 0 0) 0 [] rfl (World.ownsRow_nil _ base 9 1) ⟨g1, 0, none⟩ given.length c7 mg rfl HSL.out HSRC.out HSO.out (by omega) (by unfold maxLen; omega) (by omega) (by omega) W.heap.size rfl ?_; intro g6 c6 V1 h1 hgr1 hat1 _; have hat1' : g6 = W.heap.size := (by rcases hat1 with h9 | h9; (· cases h9); exact h9); subst hat1'; have hbV1 : Below W.heap.size W V1 := grown_below (Below.refl _ _) hgr1 (fun k hk => by cases hk) (Nat.le_refl _); have HBV1 := Lib.hid hbV1; have hV1s := hgr1.size; have HOWN1 : Hid ((V1.alloc (.cells #[.string nn] 9)).ownsRow base 9 1 (.slice (some ⟨W.heap.size, 0, none⟩) given.length c6) given.length mg) := Lib.hid (by have h9 := own_below h1 (below_new V1 (.cells #[.string nn] 9)); simpa using h9); have HQ1 := Lib.hid (HQ.out.on hbV1); clear h1 hgr1 hat1 hbV1)
        obtain ⟨k0, k1, k2, k3, k4, _⟩ := HQ1.out
        go_wp2_with (at_builtin; refine wpList_append_lies _ rfl (.tmp 34) (.tmp 37) 28 rfl base 9 i0 (.string ⟨#[]⟩) 1 16 Tryd.underlying28 hi hz0 hzs hzb rfl (by decide) (.slice (some ⟨W.heap.size, 0, none⟩) given.length c6) given.length mg rfl HOWN1.out ⟨V1.heap.size, 0, none⟩ 1 1 [.string nn] rfl rfl (HNEWN.out V1) HONE.out (by omega) (by unfold maxLen; omega) (by omega) (by simp; omega) (V1.heap.size + 1) (by simp) ?_; intro g7 c9 V h2 g2 hat _; have hat' : W.heap.size ≤ g7 := (by rcases hat with h9 | h9; (· simp [Value.ownBlock] at h9; omega); omega); have HV := HNV.out V g7 c9 ((HBV1.out.trans ((below_new V1 _).mono HBV1.out.size)).trans ((grown_below (B := W.heap.size) (Below.refl _ _) g2 (fun k hk => by simp [Value.ownBlock] at hk; omega) (by simp; omega)))) h2 hat'; have hVs := g2.size; simp only [World.size_alloc] at hVs; clear h2 g2 hat hat')
        obtain ⟨hv1, hv2, hv3, hv4, hv5, hv6⟩ := HV
        have HBV := Lib.hid hv1
        have HQV := Lib.hid hv2
        have HSV := Lib.hid hv3
        have HOV := Lib.hid hv4
        have HGN := Lib.hid hv5
        have HAP := Lib.hid hv6
        clear hv1 hv2 hv3 hv4 hv5 hv6
        have hbaV : base ≤ V.heap.size := by omega
        rw [hgl] at HGN HAP


        go_loopw [8, 2] (fun i o wr => ∃ k : Nat, k ≤ t.args.length ∧ i = .int .i64 k ∧ OwnS base wr o (freeDL gn out (t.args.take k)) ∧ V.grownBy wr (Value.slice A2 out.length c2).ownBlock ∧ (o.ownBlock = (Value.slice A2 out.length c2).ownBlock ∨ ∃ g, o.ownBlock = some g ∧ V.heap.size ≤ g)) (fun i _ _ => t.args.length - (intOf i).toNat)
        case atStart => exact ⟨0, Nat.zero_le _, rfl, by simpa [freeDL] using HOV.out, World.grownBy.refl _ _, .inl rfl⟩
        case round =>
          obtain ⟨k, hk, rfl, hok, hgk, hak⟩ := hrel
          have HOK := Lib.hid hok
          have HGK := Lib.hid hgk
          have HAK := Lib.hid hak
          have hzk := hgk.size
          have hbx : Box4 wr w.heap.size (.int .i64 5) (.int .i64 t.num) (.string nn) (.slice A t.args.length c) := by
            obtain ⟨h0, h1, h2, h3, h4, f1, f2, f3, f4⟩ := HQV.out
            have hb := hgk.block w.heap.size (by omega) (fun e => by have := HLI.out _ e.symm; omega)
            have hc : ∀ o, wr.cell? ⟨w.heap.size, o, none⟩ = V.cell? ⟨w.heap.size, o, none⟩ := fun o => World.cell?_of_block (a := ⟨w.heap.size, o, none⟩) hb
            have hz : ∀ o, wr.frozen? ⟨w.heap.size, o, none⟩ = V.frozen? ⟨w.heap.size, o, none⟩ := fun o => by simp [World.frozen?, hb]
            exact ⟨by omega, (hc 0).trans h1, (hc 1).trans h2, (hc 2).trans h3, (hc 3).trans h4, (hz 0).trans f1, (hz 1).trans f2, (hz 2).trans f3, (hz 3).trans f4⟩
          obtain ⟨y0, y1, y2, y3, y4, _⟩ := hbx
          obtain ⟨A5, c5, rfl⟩ := own_form hok
          have hba2 : base ≤ wr.heap.size := by omega
          have hlen := freeDL_len gn out (t.args.take k)
          have hsl := sumSz_le t.args k
          have hgn : OwnS base wr (Value.slice (some ⟨g7, 0, none⟩) (given.length + 1) c9) gn := own_keep HGN.out (fun g hg => hgk.block g (World.ownsRow.lt HGN.out g hg).2 (fun e => HAP.out g hg e.symm))
          have hap : ∀ g, (Value.slice (some ⟨g7, 0, none⟩) (given.length + 1) c9).ownBlock = some g → (Value.slice A5 (freeDL gn out (t.args.take k)).length c5).ownBlock ≠ some g := fun g hg e => by
            rcases HAK.out with h9 | ⟨g2, h9, h8⟩
            · exact HAP.out g hg (h9.symm.trans e)
            · rw [h9] at e; injection e with e; have := (World.ownsRow.lt HGN.out g hg).2; omega
          by_cases hlt : k < t.args.length
          · obtain ⟨g, off, A3, c3, e3, hgb, hg, m0, m1, m2, m3, hx⟩ := (HSV.out.keep (grown_keeps hgk (fun k hk => (HLI.out k hk).1))).at k hlt
            subst e3
            have hmem : t.args[k] ∈ t.args := List.getElem_mem hlt
            have hso := sumSz_one hlt
            have HC := Lib.hid (IH.out gn _ _ hmem _ _ _ wr hx hgn (HNN _).out hok hap hba2 (by omega) (by omega))
            have HTK := Lib.hid (freeDL_take (given := gn) (out := out) hlt)
            have hki : (k : Int) < (t.args.length : Int) := by omega
            have hk0 : (0 : Int) ≤ (k : Int) := by omega
            clear hx hok hgk hak hgn hap
            generalize t.args[k] = x at *
            generalize x.form = xf, x.num = xn, x.name = xs, x.args.length = xl at *
            generalize freeDL gn out (t.args.take k) = mk at *
            go_wp2_with fail
            refine HC.out.mono ?_
            rintro e w1 hr
            obtain ⟨u, rfl, ho1, hg1, ha1⟩ := GrewS.put (Below.refl V.heap.size V) HGK.out HAK.out hr
            obtain ⟨A6, c6, rfl⟩ := own_form ho1
            have HO1 := Lib.hid ho1
            have HG1 := Lib.hid hg1
            have HA1 := Lib.hid ha1
            clear ho1 hg1 ha1 hr
            go_wp2
            go_roundw
            case rel => exact ⟨k + 1, by omega, by go_num, by rw [HTK.out]; exact HO1.out, HG1.out, HA1.out⟩
            case measure => simp [intOf]; omega
          · have hd : decide (k < t.args.length) = false := by simpa using hlt
            have hkl : t.args.take k = t.args := List.take_of_length_le (by omega)
            have HRES : Hid (GrewS base w (.slice A2 out.length c2) (freeD given out t) (.returned (.slice A5 (freeDL gn out (t.args.take k)).length c5)) wr) :=
              GrewS.put HBV.out HGK.out HAK.out ⟨_, rfl, by rw [HM.out]; exact (congrArg (fun l => OwnS base wr (.slice A5 (freeDL gn out (t.args.take k)).length c5) (freeDL gn out l)) hkl).mp hok, World.grownBy.refl _ _, .inl rfl⟩
            clear hok hgk hak hkl hgn hap
            go_wp2
            go_ret
            exact HRES.out
    have HM := Lib.hid (freeD_else (given := given) (out := out) hf hf5)
    obtain ⟨gn, hgnn⟩ : ∃ gn, gn = given := ⟨_, rfl⟩
    rw [← hgnn] at HM HG0 HAP0 HLG hzg HNN0 ⊢
    clear hgnn
    generalize ht : t.form = ff at *
    generalize t.name = nn at *
    have HBV := HB
    have HQV := HQ
    have HSV := HS
    have HOV := HO
    have HGN := HG0
    have HAP := HAP0
    have HNN := HNN0
    obtain ⟨x0, x1, x2, x3, x4, _⟩ := q1
    clear ht
    have hff : (ff == 2) = false := by simpa using hf
    have hff5 : (ff == 5) = false := by simpa using hf5
    go_enter Tryd.func55, Tryd.ntmps55
    go_wp2_with fail
    rw [HEW.out]
    go_wp2_with fail

    go_loopw [8, 2] (fun i o wr => ∃ k : Nat, k ≤ t.args.length ∧ i = .int .i64 k ∧ OwnS base wr o (freeDL gn out (t.args.take k)) ∧ W.grownBy wr (Value.slice A2 out.length c2).ownBlock ∧ (o.ownBlock = (Value.slice A2 out.length c2).ownBlock ∨ ∃ g, o.ownBlock = some g ∧ W.heap.size ≤ g)) (fun i _ _ => t.args.length - (intOf i).toNat)
    case atStart => exact ⟨0, Nat.zero_le _, rfl, by simpa [freeDL] using HOV.out, World.grownBy.refl _ _, .inl rfl⟩
    case round =>
      obtain ⟨k, hk, rfl, hok, hgk, hak⟩ := hrel
      have HOK := Lib.hid hok
      have HGK := Lib.hid hgk
      have HAK := Lib.hid hak
      have hzk := hgk.size
      have hbx : Box4 wr w.heap.size (.int .i64 ff) (.int .i64 t.num) (.string nn) (.slice A t.args.length c) := by
        obtain ⟨h0, h1, h2, h3, h4, f1, f2, f3, f4⟩ := HQV.out
        have hb := hgk.block w.heap.size (by omega) (fun e => by have := HLI.out _ e.symm; omega)
        have hc : ∀ o, wr.cell? ⟨w.heap.size, o, none⟩ = W.cell? ⟨w.heap.size, o, none⟩ := fun o => World.cell?_of_block (a := ⟨w.heap.size, o, none⟩) hb
        have hz : ∀ o, wr.frozen? ⟨w.heap.size, o, none⟩ = W.frozen? ⟨w.heap.size, o, none⟩ := fun o => by simp [World.frozen?, hb]
        exact ⟨by omega, (hc 0).trans h1, (hc 1).trans h2, (hc 2).trans h3, (hc 3).trans h4, (hz 0).trans f1, (hz 1).trans f2, (hz 2).trans f3, (hz 3).trans f4⟩
      obtain ⟨y0, y1, y2, y3, y4, _⟩ := hbx
      obtain ⟨A5, c5, rfl⟩ := own_form hok
      have hba2 : base ≤ wr.heap.size := by omega
      have hlen := freeDL_len gn out (t.args.take k)
      have hsl := sumSz_le t.args k
      have hgn : OwnS base wr (.slice A7 gn.length c7) gn := own_keep HGN.out (fun g hg => hgk.block g (World.ownsRow.lt HGN.out g hg).2 (fun e => HAP.out g hg e.symm))
      have hap : ∀ g, (Value.slice A7 gn.length c7).ownBlock = some g → (Value.slice A5 (freeDL gn out (t.args.take k)).length c5).ownBlock ≠ some g := fun g hg e => by
        rcases HAK.out with h9 | ⟨g2, h9, h8⟩
        · exact HAP.out g hg (h9.symm.trans e)
        · rw [h9] at e; injection e with e; have := (World.ownsRow.lt HGN.out g hg).2; omega
      by_cases hlt : k < t.args.length
      · obtain ⟨g, off, A3, c3, e3, hgb, hg, m0, m1, m2, m3, hx⟩ := (HSV.out.keep (grown_keeps hgk (fun k hk => (HLI.out k hk).1))).at k hlt
        subst e3
        have hmem : t.args[k] ∈ t.args := List.getElem_mem hlt
        have hso := sumSz_one hlt
        have HC := Lib.hid (IH.out gn _ _ hmem _ _ _ wr hx hgn HNN.out hok hap hba2 (by omega) (by omega))
        have HTK := Lib.hid (freeDL_take (given := gn) (out := out) hlt)
        have hki : (k : Int) < (t.args.length : Int) := by omega
        have hk0 : (0 : Int) ≤ (k : Int) := by omega
        clear hx hok hgk hak hgn hap
        generalize t.args[k] = x at *
        generalize x.form = xf, x.num = xn, x.name = xs, x.args.length = xl at *
        generalize freeDL gn out (t.args.take k) = mk at *
        go_wp2_with fail
        refine HC.out.mono ?_
        rintro e w1 hr
        obtain ⟨u, rfl, ho1, hg1, ha1⟩ := GrewS.put (Below.refl W.heap.size W) HGK.out HAK.out hr
        obtain ⟨A6, c6, rfl⟩ := own_form ho1
        have HO1 := Lib.hid ho1
        have HG1 := Lib.hid hg1
        have HA1 := Lib.hid ha1
        clear ho1 hg1 ha1 hr
        go_wp2
        go_roundw
        case rel => exact ⟨k + 1, by omega, by go_num, by rw [HTK.out]; exact HO1.out, HG1.out, HA1.out⟩
        case measure => simp [intOf]; omega
      · have hd : decide (k < t.args.length) = false := by simpa using hlt
        have hkl : t.args.take k = t.args := List.take_of_length_le (by omega)
        have HRES : Hid (GrewS base w (.slice A2 out.length c2) (freeD gn out t) (.returned (.slice A5 (freeDL gn out (t.args.take k)).length c5)) wr) :=
          GrewS.put HBV.out HGK.out HAK.out ⟨_, rfl, by rw [HM.out]; exact (congrArg (fun l => OwnS base wr (.slice A5 (freeDL gn out (t.args.take k)).length c5) (freeDL gn out l)) hkl).mp hok, World.grownBy.refl _ _, .inl rfl⟩
        clear hok hgk hak hkl hgn hap
        go_wp2
        go_ret
        exact HRES.out
set_option maxRecDepth 100000 in
set_option maxHeartbeats 1000000 in
theorem reffree_any (P : Nat → Prop) (t : Ty) (v : Value) (w : World) (h : TyAt P w t v) (hz : t.sz ≤ 1099511627776) :
    Calls Tryd.prog 15 #[v] w fun e w' => (∃ u, e = .returned u ∧ OwnS w.heap.size w' u t.free) ∧ Below w.heap.size w w' := by
  obtain ⟨f1, n1, s1, A1, l1, c1, rfl⟩ := h.flat
  obtain ⟨W, eW, q1, b1, z1⟩ := one_box w (.int .i64 f1) (.int .i64 n1) (.string s1) (.slice A1 l1 c1) 25
  have HC := Lib.hid (reffree1_any w.heap.size _ [] [] t _ (.slice none 0 0) (.slice none 0 0) W (Nat.le_refl _) (h.bound'.on b1) (OwnS.nil _ _) (.inl rfl) (OwnS.nil _ _) (fun g hg => by cases hg) (by omega) (by simpa using hz) (by simpa using hz))
  have HEW := Lib.hid eW
  have HB := Lib.hid b1
  have HF := Lib.hid (free_is t)
  obtain ⟨x0, x1, x2, x3, x4, _⟩ := q1
  clear eW b1 h
  go_enter Tryd.func15, Tryd.ntmps15
  go_wp2_with fail
  rw [HEW.out]
  go_wp2_with fail
  refine HC.out.mono ?_
  rintro e y ⟨u, rfl, ho, hg, ha⟩
  rw [HF.out] at ho
  obtain ⟨A6, c6, rfl⟩ := own_form ho
  have HO := Lib.hid ho
  have HBY := Lib.hid (grown_below HB.out hg (fun k hk => by cases hk) (by omega))
  clear ho hg ha
  go_wp2
  go_ret
  exact ⟨⟨_, rfl, HO.out⟩, HBY.out⟩
end Go.Proofs.YtbdfjboojokgdaaDoor
