/- The contracts of the document's Metas (chapter 4). Condition: the type has at most 2^40 nodes; its numbers are int64's. -/
import Derived.Test.YtbdfjboojokgdaaDoorJU16
namespace Go.Proofs.YtbdfjboojokgdaaDoor
open Go.RowKit

/-- A row that grew. -/
def GrewI (base : Nat) (w : World) (ov : Value) (out' : List Int) (e : Ending) (w' : World) : Prop := ∃ u, e = .returned u ∧ OwnI base w' u out' ∧ w.grownBy w' ov.ownBlock ∧ (u.ownBlock = ov.ownBlock ∨ ∃ g, u.ownBlock = some g ∧ w.heap.size ≤ g)
theorem grown_keeps {base : Nat} {w w' : World} {r : Option Nat} (h : w.grownBy w' r) (hr : ∀ k, r = some k → base ≤ k) : Keeps (fun b => b < base) w w' :=
  ⟨h.size, fun b off hb hlt => World.cell?_of_block (a := ⟨b, off, none⟩) (h.block b hlt (fun e => by have := hr b e.symm; omega))⟩
theorem grown_below {B : Nat} {w w' w2 : World} {r : Option Nat} (hb : Below B w w') (h : w'.grownBy w2 r) (hr : ∀ k, r = some k → B ≤ k) (hB : B ≤ w'.heap.size) : Below B w w2 :=
  hb.trans ⟨h.os, h.tape, h.output, h.size, fun k hk => h.block k (by omega) (fun e => by have := hr k e.symm; omega)⟩
theorem grown_of_below {w w' : World} (h : Below w.heap.size w w') (r : Option Nat) : w.grownBy w' r := ⟨h.os, h.tape, h.output, h.size, fun k hk _ => h.block k hk⟩
theorem drewN_heap (w : World) (m : Nat) : (w.drewN m).heap = w.heap := rfl
theorem OwnI.drewN {base : Nat} {w : World} {v : Value} {zs : List Int} (h : OwnI base w v zs) (m : Nat) : OwnI base (w.drewN m) v zs := own_keep h (fun _ _ => rfl)
theorem OwnI.cellAt {base : Nat} {w : World} {A : Option Addr} {n c : Nat} {zs : List Int} (h : OwnI base w (.slice A n c) zs) (k : Nat) (hk : k < zs.length) : ∃ g, A = some ⟨g, 0, none⟩ ∧ g < w.heap.size ∧ w.cell? ⟨g, k, none⟩ = some (.int .i64 zs[k]) := by
  obtain ⟨g, cap, e, _, hg⟩ := World.ownsRow.form h (by omega)
  injection e with e1 e2 e3
  subst e1 e2
  refine ⟨g, rfl, hg, ?_⟩
  have h9 := World.ownsRow.cellAt (show w.ownsRow base 3 1 (.slice (some ⟨g, 0, none⟩) zs.length c) zs.length (zs.map (Value.int .i64)) from h) k (by omega)
  rw [h9, List.getElem?_map, List.getElem?_eq_getElem hk]; rfl
set_option maxRecDepth 100000 in
set_option maxHeartbeats 1000000 in
theorem refmetas_one (base : Nat) (out : List Int) (t : Ty) (v ov : Value) (w : World) (h : TyAt (fun b => b < base) w t v) (ho : OwnI base w ov out) (hba : base ≤ w.heap.size) (hfit : t.fit) (hf : t.form = 1) (hz : out.length ≤ 1099511627776) :
    Calls Tryd.prog 58 #[v, ov] w (GrewI base w ov (metasD out t)) := by
  have HM := Lib.hid (metasD_one (out := out) hf)
  obtain ⟨A, c, rfl, _, _⟩ := h.form
  obtain ⟨A2, c2, rfl, hc2, hm2⟩ := own_cap ho
  obtain ⟨hn1, hn2⟩ := Ty.fit_num hfit
  obtain ⟨W, eW, q1, b1, z1⟩ := one_box w (.int .i64 t.form) (.int .i64 t.num) (.string t.name) (.slice A t.args.length c) 25
  have HEW := Lib.hid eW
  have HO : Hid (OwnI base W (.slice A2 out.length c2) out) := own_below ho b1
  have HB := Lib.hid b1
  have HQ := Lib.hid q1
  obtain ⟨x0, x1, x2, x3, x4, _⟩ := q1
  unfold maxLen at hm2
  have HONE := Lib.hid (one_int t.num)
  have HL := Lib.hid (World.ownsRow.lt ho)
  clear eW h hfit ho b1
  generalize t.num = nn at *
  generalize metasD out t = r at *
  generalize t.form = ff at *
  subst hf
  obtain ⟨i0, hi, hz0, hzs, hzb⟩ := info_parts' Tryd.info3
  go_enter Tryd.func58, Tryd.ntmps58
  go_wp2_with fail
  rw [HEW.out]
  go_wp2_with fail
  go_loopw [5] (fun i wr => ∃ k m : Nat, k ≤ out.length ∧ i = .int .i64 k ∧ wr = W.drewN m ∧ Hid (nn ∉ out.take k)) (fun i _ => out.length - (intOf i).toNat)
  case atStart => exact ⟨0, 0, Nat.zero_le _, rfl, rfl, by simp [Hid]⟩
  case round =>
    obtain ⟨k, m, hk, rfl, rfl, hno⟩ := hrel
    by_cases hlt : k < out.length
    · obtain ⟨g, e9, hg, hc⟩ := (HO.out.drewN m).cellAt k hlt
      subst e9
      have hki : (k : Int) < (out.length : Int) := by omega
      have hk0 : (0 : Int) ≤ (k : Int) := by omega
      have htk : out.take (k + 1) = out.take k ++ [out[k]] := List.take_succ_eq_append_getElem hlt
      have hgW : g < W.heap.size := hg
      have hcW : W.cell? ⟨g, k, none⟩ = some (.int .i64 out[k]) := hc
      by_cases he : out[k] = nn
      · have hin : nn ∈ out := by rw [← he]; exact List.getElem_mem hlt
        have HR : Hid (r = out) := by show _ = _; rw [HM.out, if_pos hin]
        have heq : (out[k] == nn) = true := by simpa using he
        have HRES : Hid (∀ m, GrewI base w (.slice (some ⟨g, 0, none⟩) out.length c2) r (.returned (.slice (some ⟨g, 0, none⟩) out.length c2)) (W.drewN m)) := fun m => ⟨_, rfl, by rw [HR.out]; exact HO.out.drewN m, ⟨HB.out.os, HB.out.tape, HB.out.output, HB.out.size, fun k hk _ => HB.out.block k hk⟩, .inl rfl⟩
        clear htk he hin
        generalize out[k] = z at *
        go_wp2_with fail
        go_region
        go_wp2
        go_ret
        exact HRES.out (m + 1)
      · have heq : (out[k] == nn) = false := by simpa using he
        have HR : Hid (nn ∉ out.take (k + 1)) := by
          show ¬ _
          rw [htk, List.mem_append, List.mem_singleton]
          rintro (h | h)
          · exact hno.out h
          · exact he h.symm
        clear htk he
        generalize out[k] = z at *
        go_wp2_with fail
        go_region
        go_wp2
        go_roundw
        case rel => exact ⟨k + 1, m + 1, by omega, by go_num, rfl, HR⟩
        case measure => simp [intOf]; omega
    · have hd : decide (k < out.length) = false := by simpa using hlt
      have hnot : nn ∉ out := by
        have h9 := hno.out
        rwa [List.take_of_length_le (by omega)] at h9
      have HR : Hid (r = out ++ [nn]) := by show _ = _; rw [HM.out, if_neg hnot]
      have HOWN := Lib.hid (own_below (HO.out.drewN m) (below_new (W.drewN m) (.cells #[.int .i64 nn] 3)))
      have HNEW := Lib.hid (news_one (W.drewN m) (.int .i64 nn) 3)
      have HRES : Hid (∀ (g cap : Nat) (w2 : World), w2.ownsRow base 3 1 (.slice (some ⟨g, 0, none⟩) (out.length + 1) cap) (out.length + 1) (out.map (Value.int .i64) ++ [.int .i64 nn]) → ((W.drewN m).alloc (.cells #[.int .i64 nn] 3)).grownBy w2 (Value.slice A2 out.length c2).ownBlock → ((Value.slice A2 out.length c2).ownBlock = some g ∨ g = W.heap.size + 1) → GrewI base w (.slice A2 out.length c2) r (.returned (.slice (some ⟨g, 0, none⟩) (out.length + 1) cap)) w2) := fun g cap w2 h2 g2 hat => by
        have hg0 : w.grownBy ((W.drewN m).alloc (.cells #[.int .i64 nn] 3)) (Value.slice A2 out.length c2).ownBlock :=
          grown_of_below ((HB.out.trans (((⟨rfl, rfl, rfl, Nat.le_refl _, fun _ _ => rfl⟩ : Below W.heap.size W (W.drewN m))).mono HB.out.size)).trans ((below_new (W.drewN m) _).mono HB.out.size)) _
        refine ⟨_, rfl, ?_, hg0.trans g2, ?_⟩
        · rw [HR.out]; unfold OwnI; rw [List.map_append, List.length_append]; exact h2
        · rcases hat with h9 | h9
          · exact .inl (by rw [h9]; rfl)
          · exact .inr ⟨g, rfl, by omega⟩
      have hd0 : Hid ((W.drewN m).heap.size = W.heap.size) := rfl
      have hbV : base ≤ (W.drewN m).heap.size := by show base ≤ W.heap.size; omega
      obtain ⟨k0, k1, k2, k3, k4, _⟩ := HQ.out.on (⟨rfl, rfl, rfl, Nat.le_refl _, fun _ _ => rfl⟩ : Below W.heap.size W (W.drewN m))
      clear hnot
      generalize out.map (Value.int .i64) = mv at *
      generalize W.drewN m = V at *
      go_wp2_with (at_builtin; refine wpList_append_lies _ rfl (.tmp 24) (.tmp 27) 22 rfl base 3 i0 (.int .i64 0) 1 8 Tryd.underlying22 hi hz0 hzs hzb rfl (by decide) (.slice A2 out.length c2) out.length mv rfl HOWN.out ⟨V.heap.size, 0, none⟩ 1 1 [.int .i64 nn] rfl rfl HNEW.out HONE.out (by omega) (by unfold maxLen; omega) (by omega) (by simp; omega) (V.heap.size + 1) (by simp) ?_; intro g cap w2 h2 g2 hat _; have HP := Lib.hid (HRES.out g cap w2 h2 g2 (by rw [← hd0.out]; exact hat)); clear h2 g2 hat)
      go_ret
      exact HP.out
theorem GrewI.put {base : Nat} {w W wr w' : World} {ov u : Value} {out' : List Int} {e : Ending} (h0 : Below w.heap.size w W) (h1 : W.grownBy wr ov.ownBlock) (h2 : u.ownBlock = ov.ownBlock ∨ ∃ g, u.ownBlock = some g ∧ W.heap.size ≤ g) (h : GrewI base wr u out' e w') : GrewI base w ov out' e w' := by
  obtain ⟨x, e1, e2, e3, e4⟩ := h
  have hz := h1.size
  have hz0 := h0.size
  have h3 : W.grownBy w' ov.ownBlock := h1.andThen e3 (fun j hj => by
    rcases h2 with h2 | ⟨g, h2, h5⟩
    · right; rw [← h2]; exact hj
    · left; rw [h2] at hj; injection hj with hj; omega)
  refine ⟨x, e1, e2, (grown_of_below h0 _).trans h3, ?_⟩
  rcases e4 with e4 | ⟨g, e4, e5⟩
  · rcases h2 with h2 | ⟨g, h2, h5⟩
    · exact .inl (e4.trans h2)
    · exact .inr ⟨g, e4.trans h2, by omega⟩
  · exact .inr ⟨g, e4, by omega⟩
set_option maxRecDepth 100000 in
set_option maxHeartbeats 1000000 in
theorem refmetas1_any (base : Nat) : ∀ (n : Nat) (out : List Int) (t : Ty) (v ov : Value) (w : World), t.sz ≤ n → TyAt (fun b => b < base) w t v → OwnI base w ov out → base ≤ w.heap.size → t.fit → out.length + t.sz ≤ 1099511627776 →
    Calls Tryd.prog 58 #[v, ov] w (GrewI base w ov (metasD out t))
  | 0, _, t, _, _, _, hn, _, _, _, _, _ => by cases t <;> simp [Ty.sz] at hn
  | n + 1, out, t, v, ov, w, hn, h, ho, hba, hfit, hz => by
    by_cases hf : t.form = 1
    · exact refmetas_one base out t v ov w h ho hba hfit hf (by omega)
    have HM := Lib.hid (metasD_else (out := out) hf)
    obtain ⟨sv, rfl, hs⟩ := h.tys
    obtain ⟨A, c, rfl, hc, hm⟩ := hs.form
    obtain ⟨A2, c2, rfl, hc2, hm2⟩ := own_cap ho
    have HL := World.ownsRow.lt ho
    obtain ⟨W, eW, q1, b1, z1⟩ := one_box w (.int .i64 t.form) (.int .i64 t.num) (.string t.name) (.slice A t.args.length c) 25
    have HEW := Lib.hid eW
    have HO : Hid (OwnI base W (.slice A2 out.length c2) out) := own_below ho b1
    have HB := Lib.hid b1
    have HQ := Lib.hid q1
    have HS := Lib.hid (hs.on b1)
    obtain ⟨x0, x1, x2, x3, x4, _⟩ := q1
    have IH := Lib.hid (fun (out : List Int) (x : Ty) (hx : x ∈ t.args) (v ov : Value) (y : World) (h1 : TyAt (fun b => b < base) y x v) (h2 : OwnI base y ov out) (h3 : base ≤ y.heap.size) (h4 : out.length + x.sz ≤ 1099511627776) => refmetas1_any base n out x v ov y (by have := Ty.arg_sz hx; omega) h1 h2 h3 (Ty.fit_arg hfit hx) h4)
    have hl2 := t.args_le
    have hba' : base ≤ W.heap.size := by omega
    have hsa := sumSz_args t
    have HLI : Hid (∀ k, (Value.slice A2 out.length c2).ownBlock = some k → base ≤ k ∧ k < w.heap.size) := fun k hk => HL k hk
    clear eW h ho b1 hs hfit HL hc hm hc2 hm2
    generalize ht : t.form = ff at *
    clear ht
    have hff : (ff == 1) = false := by simpa using hf
    go_enter Tryd.func58, Tryd.ntmps58
    go_wp2_with fail
    rw [HEW.out]
    go_wp2_with fail
    go_loopw [6, 1] (fun i o wr => ∃ k : Nat, k ≤ t.args.length ∧ i = .int .i64 k ∧ OwnI base wr o (metasDL out (t.args.take k)) ∧ W.grownBy wr (Value.slice A2 out.length c2).ownBlock ∧ (o.ownBlock = (Value.slice A2 out.length c2).ownBlock ∨ ∃ g, o.ownBlock = some g ∧ W.heap.size ≤ g)) (fun i _ _ => t.args.length - (intOf i).toNat)
    case atStart => exact ⟨0, Nat.zero_le _, rfl, by simpa [metasDL] using HO.out, World.grownBy.refl _ _, .inl rfl⟩
    case round =>
      obtain ⟨k, hk, rfl, hok, hgk, hak⟩ := hrel
      have HOK := Lib.hid hok
      have HGK := Lib.hid hgk
      have HAK := Lib.hid hak
      have hzk := hgk.size
      have hbx : Box4 wr w.heap.size (.int .i64 ff) (.int .i64 t.num) (.string t.name) (.slice A t.args.length c) := by
        obtain ⟨h0, h1, h2, h3, h4, f1, f2, f3, f4⟩ := HQ.out
        have hb := hgk.block w.heap.size (by omega) (fun e => by have := HLI.out _ e.symm; omega)
        have hc : ∀ o, wr.cell? ⟨w.heap.size, o, none⟩ = W.cell? ⟨w.heap.size, o, none⟩ := fun o => World.cell?_of_block (a := ⟨w.heap.size, o, none⟩) hb
        have hz : ∀ o, wr.frozen? ⟨w.heap.size, o, none⟩ = W.frozen? ⟨w.heap.size, o, none⟩ := fun o => by simp [World.frozen?, hb]
        exact ⟨by omega, (hc 0).trans h1, (hc 1).trans h2, (hc 2).trans h3, (hc 3).trans h4, (hz 0).trans f1, (hz 1).trans f2, (hz 2).trans f3, (hz 3).trans f4⟩
      obtain ⟨y0, y1, y2, y3, y4, _⟩ := hbx
      obtain ⟨A5, c5, rfl⟩ := own_form hok
      have hba2 : base ≤ wr.heap.size := by omega
      have hlen := metasDL_len out (t.args.take k)
      have hsl := sumSz_le t.args k
      by_cases hlt : k < t.args.length
      · obtain ⟨g, off, A3, c3, e3, hgb, hg, m0, m1, m2, m3, hx⟩ := (HS.out.keep (grown_keeps hgk (fun k hk => (HLI.out k hk).1))).at k hlt
        subst e3
        have hmem : t.args[k] ∈ t.args := List.getElem_mem hlt
        have hso := sumSz_one hlt
        have HC := Lib.hid (IH.out _ _ hmem _ _ wr hx hok hba2 (by omega))
        have HTK := Lib.hid (metasDL_take (out := out) hlt)
        have hki : (k : Int) < (t.args.length : Int) := by omega
        have hk0 : (0 : Int) ≤ (k : Int) := by omega
        clear hx hok hgk hak
        generalize t.args[k] = x at *
        generalize x.form = xf, x.num = xn, x.name = xs, x.args.length = xl at *
        generalize metasDL out (t.args.take k) = mk at *
        go_wp2_with fail
        refine HC.out.mono ?_
        rintro e w1 hr
        obtain ⟨u, rfl, ho1, hg1, ha1⟩ := GrewI.put (Below.refl W.heap.size W) HGK.out HAK.out hr
        obtain ⟨A6, c6, rfl⟩ := own_form ho1
        have HO1 := Lib.hid ho1
        have HG1 := Lib.hid hg1
        have HA1 := Lib.hid ha1
        clear ho1 hg1 ha1 hr
        go_wp2
        go_roundw
        case rel => exact ⟨k + 1, by omega, by go_num, by rw [HTK.out]; exact HO1.out, HG1.out, HA1.out⟩
        case measure => simp [intOf]; omega
      · have hd : decide (k < t.args.length) = false := by simpa using hlt
        have hkl : t.args.take k = t.args := List.take_of_length_le (by omega)
        have HRES : Hid (GrewI base w (.slice A2 out.length c2) (metasD out t) (.returned (.slice A5 (metasDL out (t.args.take k)).length c5)) wr) :=
          GrewI.put HB.out HGK.out HAK.out ⟨_, rfl, by rw [HM.out]; exact (congrArg (fun l => OwnI base wr (.slice A5 (metasDL out (t.args.take k)).length c5) (metasDL out l)) hkl).mp hok, World.grownBy.refl _ _, .inl rfl⟩
        clear hok hgk hak hkl
        go_wp2
        go_ret
        exact HRES.out
set_option maxRecDepth 100000 in
set_option maxHeartbeats 1000000 in
theorem refmetas_any (P : Nat → Prop) (t : Ty) (v : Value) (w : World) (h : TyAt P w t v) (hfit : t.fit) (hz : t.sz ≤ 1099511627776) :
    Calls Tryd.prog 18 #[v] w fun e w' => (∃ u, e = .returned u ∧ OwnI w.heap.size w' u t.metas) ∧ Below w.heap.size w w' := by
  obtain ⟨f1, n1, s1, A1, l1, c1, rfl⟩ := h.flat
  obtain ⟨W, eW, q1, b1, z1⟩ := one_box w (.int .i64 f1) (.int .i64 n1) (.string s1) (.slice A1 l1 c1) 25
  have HC := Lib.hid (refmetas1_any w.heap.size _ [] t _ (.slice none 0 0) W (Nat.le_refl _) (h.bound'.on b1) (OwnI.nil _ _) (by omega) hfit (by simpa using hz))
  have HEW := Lib.hid eW
  have HB := Lib.hid b1
  obtain ⟨x0, x1, x2, x3, x4, _⟩ := q1
  clear eW b1 h
  go_enter Tryd.func18, Tryd.ntmps18
  go_wp2_with fail
  rw [HEW.out]
  go_wp2_with fail
  refine HC.out.mono ?_
  rintro e y ⟨u, rfl, ho, hg, ha⟩
  obtain ⟨A6, c6, rfl⟩ := own_form ho
  have HO := Lib.hid ho
  have HBY := Lib.hid (grown_below HB.out hg (fun k hk => by cases hk) (by omega))
  clear ho hg ha
  go_wp2
  go_ret
  exact ⟨⟨_, rfl, HO.out⟩, HBY.out⟩
end Go.Proofs.YtbdfjboojokgdaaDoor
