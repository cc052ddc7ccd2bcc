/- The contract of a layout's add (types of chapter 4), at each type. Condition: names are of at most 2^40 bytes, the type has at most 2^38 nodes. -/
import Derived.Test.YtbdfjboojokgdaaDoorAdd
namespace Go.Proofs.YtbdfjboojokgdaaDoor
open Go.RowKit

set_option maxRecDepth 100000 in
set_option maxHeartbeats 1000000 in
theorem add_else (base lb gb n : Nat) (ih : AddIs base lb gb n) (t : Ty) (v : Value) (g : ByteArray → Int) (d : Int) (N : Nat) (vs : List (ByteArray × Int)) (es : List Int) (w : World) (hn : t.sz ≤ n + 1) (h : TyAt (fun b => b < base) w t v) (hsh : t.short) (hs : LaySt base lb gb g N vs es w) (hba : base ≤ w.heap.size)
    (hN : N + 2 * t.sz ≤ 1099511627776) (hv : vs.length + t.sz ≤ 1099511627776) (he : es.length + t.sz ≤ 1099511627776) (hd0 : 0 ≤ d) (hd : d + t.sz ≤ 1099511627776) (h2 : t.form ≠ 2) (h5 : t.form ≠ 5) :
    Calls Tryd.prog 101 #[.pointer (some ⟨lb, 0, none⟩), v, .map (some gb), .int .i64 d] w (AddRes base lb gb g (N + 2 * t.sz) (vs ++ layV g d t) (es ++ layE vs.length t) w) := by
  rw [layV_else h2 h5, layE_else h2 h5]
  obtain ⟨sv, rfl, hts⟩ := h.tys
  obtain ⟨A, c, rfl, hc, hm⟩ := hts.form
  obtain ⟨W, eW, q1, b1, z1⟩ := one_box w (.int .i64 t.form) (.int .i64 t.num) (.string t.name) (.slice A t.args.length c) 25
  have hsa := sumSz_args t
  have HC := Lib.hid (addAll_of base lb gb n ih t.args _ g d N vs es W (fun x hx => by have := Ty.arg_sz hx; omega) (hts.on b1) (fun x hx => Ty.short_arg hsh hx) (hs.on b1) (by omega) (by omega) (by omega) (by omega) hd0 (by omega) t.args_le)
  have HEW := Lib.hid eW
  have HF := Lib.hid (lay_below hs b1)
  obtain ⟨x0, x1, x2, x3, x4, _⟩ := q1
  clear eW h hs b1 ih hts hsh
  generalize t.form = ff at *
  have hff : (ff == 2) = false := by simpa using h2
  have hff5 : (ff == 5) = false := by simpa using h5
  go_enter Tryd.func101, Tryd.ntmps101
  go_wp2_with fail
  rw [HEW.out]
  go_wp2_with fail
  refine HC.out.mono ?_
  rintro e w2 ⟨rfl, hs2, hf2⟩
  have HR : Hid (AddRes base lb gb g (N + 2 * t.sz) (vs ++ layVL g d t.args) (es ++ layEL vs.length t.args) w (.returned (.tuple #[])) w2) := ⟨rfl, hs2.more (by omega), HF.out.trans hf2⟩
  clear hs2 hf2
  go_wp2
  go_end0
  exact HR.out
theorem set_mid (es : List Int) (x y : Int) (r : List Int) : ((es ++ [x]) ++ r).set es.length y = es ++ y :: r := by
  rw [List.append_assoc, List.set_append_right _ _ (Nat.le_refl _)]; simp
set_option maxRecDepth 100000 in
set_option maxHeartbeats 1000000 in
theorem add_all (base lb gb n : Nat) (ih : AddIs base lb gb n) (t : Ty) (v : Value) (g : ByteArray → Int) (d : Int) (N : Nat) (vs : List (ByteArray × Int)) (es : List Int) (w : World) (hn : t.sz ≤ n + 1) (h : TyAt (fun b => b < base) w t v) (hsh : t.short) (hs : LaySt base lb gb g N vs es w) (hba : base ≤ w.heap.size)
    (hN : N + 2 * t.sz ≤ 1099511627776) (hv : vs.length + t.sz ≤ 1099511627776) (he : es.length + t.sz ≤ 1099511627776) (hd0 : 0 ≤ d) (hd : d + t.sz ≤ 1099511627776) (h5 : t.form = 5) :
    Calls Tryd.prog 101 #[.pointer (some ⟨lb, 0, none⟩), v, .map (some gb), .int .i64 d] w (AddRes base lb gb g (N + 2 * t.sz) (vs ++ layV g d t) (es ++ layE vs.length t) w) := by
  rw [layV_all h5, layE_all h5]
  obtain ⟨sv, rfl, hts⟩ := h.tys
  obtain ⟨A, c, rfl, hc, hm⟩ := hts.form
  obtain ⟨W, eW, q1, b1, z1⟩ := one_box w (.int .i64 t.form) (.int .i64 t.num) (.string t.name) (.slice A t.args.length c) 25
  have hsa := sumSz_args t
  have hnm := Ty.short_name hsh
  have HEW := Lib.hid eW
  have hsW := hs.on b1
  obtain ⟨v1, v2, hl, ho1, ho2⟩ := hsW.hl
  obtain ⟨A1, c1, rfl⟩ := own_form ho1
  obtain ⟨A2, c2, rfl⟩ := own_form ho2
  obtain ⟨p0, p1, p2, p3, p4⟩ := two_cells hl
  have hlk := hsW.hm.look hnm
  have hlkd := (hsW.hm.on (Below.refl _ W).drew).look hnm
  have HQ := Lib.hid q1
  have HSW := Lib.hid hsW
  have HL := Lib.hid hl
  have HFW := Lib.hid (lay_below hs b1)
  have HTS := Lib.hid (hts.on b1)
  have HIH := Lib.hid ih
  have HSHA := Lib.hid (fun x hx => Ty.short_arg (x := x) hsh hx)
  have HOWN : Hid (OwnI base W (.slice A2 es.length c2) es) := ho2
  obtain ⟨x0, x1, x2, x3, x4, _⟩ := q1
  obtain ⟨i0, hi, hz0, hzs, hzb⟩ := info_parts' Tryd.info3
  have hbW : base ≤ W.heap.size := by omega
  have hnl : ∀ x ∈ t.args, x.sz ≤ n := fun x hx => by have := Ty.arg_sz hx; omega
  have HNL := Lib.hid hnl
  have hl2 := t.args_le
  have hFWno : ∀ k, LayM lb gb W k → k < w.heap.size := fun k hk => by
    have hb := b1.block lb hs.lb_lt
    unfold LayM at hk; rw [hb] at hk
    exact (hs.lt hk).2
  have HZ1 := Lib.hid z1
  clear z1 eW h hs b1 ih hts hsh hsW hl ho1 ho2 hnl
  -- behind the first region that draws
  have hsV : LaySt base lb gb g N vs es W.drew := HSW.out.on (Below.refl _ W).drew
  have hlV : W.drew.heap[lb]? = some (.cells #[.slice A1 vs.length c1, .slice A2 es.length c2] 89) := HL.out
  have HOWN2 : Hid ((W.drew.alloc (.cells #[.int .i64 0] 3)).ownsRow base 3 1 (.slice A2 es.length c2) es.length (es.map (Value.int .i64))) := own_below (w := W.drew) (HOWN.out : OwnI base W.drew _ es) (below_new W.drew _)
  have HNEW := Lib.hid (news_one W.drew (.int .i64 0) 3)
  have HONE := Lib.hid (one_int 0)
  have HX4 : Hid (∀ y : World, FrM (LayM lb gb) W y → Box4 y w.heap.size (.int .i64 t.form) (.int .i64 t.num) (.string t.name) (.slice A t.args.length c) ∧ TysAt (fun b => b < base) y t.args (.slice A t.args.length c)) := fun y hf =>
    ⟨HQ.out.frM hf (fun hm => by have := (HSW.out.lt hm); have h9 := hFWno _ hm; omega), HTS.out.keep (lay_keeps HSW.out hf)⟩
  have HST : Hid (∀ (w2 : World) (gg cap : Nat), w2.ownsRow base 3 1 (.slice (some ⟨gg, 0, none⟩) (es.length + 1) cap) (es.length + 1) (es.map (Value.int .i64) ++ [.int .i64 0]) → (W.drew.alloc (.cells #[.int .i64 0] 3)).grownBy w2 (Value.slice A2 es.length c2).ownBlock → ((Value.slice A2 es.length c2).ownBlock = some gg ∨ gg = W.heap.size + 1) →
      (w2.heap[lb]? = some (.cells #[.slice A1 vs.length c1, .slice A2 es.length c2] 89)) ∧ ∃ W1 w3, w2.setCell ⟨lb, 1, none⟩ (.slice (some ⟨gg, 0, none⟩) (es.length + 1) cap) = W1 ∧ Box4 W1 w.heap.size (.int .i64 t.form) (.int .i64 t.num) (.string t.name) (.slice A t.args.length c) ∧ (Instr.mapUpdate 105 (.map (some gb)) (.string t.name) (.int .i64 (d + 1))).run Tryd.prog W1 = .ok () w3 ∧ Box4 w3 w.heap.size (.int .i64 t.form) (.int .i64 t.num) (.string t.name) (.slice A t.args.length c) ∧ FrM (LayM lb gb) W w3 ∧
        Calls Tryd.prog 133 #[.pointer (some ⟨lb, 0, none⟩), .slice A t.args.length c, .map (some gb), .int .i64 (d + 1)] w3 (AddRes base lb gb (updG g t.name (d + 1)) (N + 1 + 2 * sumSz t.args) (vs ++ layVL (updG g t.name (d + 1)) (d + 1) t.args) ((es ++ [0]) ++ layEL vs.length t.args) w3)) := fun w2 gg cap h2 g2 hat => by
    obtain ⟨r1, r2, r3, r4⟩ := hsV.pushE hlV (below_new _ _) h2 g2 (by rcases hat with h9 | h9; (· exact .inl h9); exact .inr (by show W.heap.size ≤ gg; omega))
    have f1 : FrM (LayM lb gb) W (w2.setCell ⟨lb, 1, none⟩ (.slice (some ⟨gg, 0, none⟩) (es.length + 1) cap)) := (lay_below HSW.out (Below.refl _ W).drew).trans r3
    obtain ⟨w3, m1, m2, m3⟩ := r2.hm.store hnm (d + 1) (by omega)
    obtain ⟨s3, f3⟩ := r2.map m2 m3
    have f4 := f1.trans f3
    have hz := f4.size
    refine ⟨r1, _, w3, rfl, (HX4.out _ f1).1, m1, (HX4.out _ f4).1, f4, addAll_of base lb gb n HIH.out t.args _ (updG g t.name (d + 1)) (d + 1) (N + 1) vs (es ++ [0]) w3 HNL.out (HX4.out _ f4).2 HSHA.out s3 (by omega) (by omega) (by omega) (by simp; omega) (by omega) (by omega) hl2⟩
  have HBACK : Hid (∀ w3 w4 : World, FrM (LayM lb gb) W w3 → AddRes base lb gb (updG g t.name (d + 1)) (N + 1 + 2 * sumSz t.args) (vs ++ layVL (updG g t.name (d + 1)) (d + 1) t.args) ((es ++ [0]) ++ layEL vs.length t.args) w3 (.returned (.tuple #[])) w4 →
      Box4 w4 w.heap.size (.int .i64 t.form) (.int .i64 t.num) (.string t.name) (.slice A t.args.length c) ∧ ∃ w5, (Instr.mapUpdate 105 (.map (some gb)) (.string t.name) (.int .i64 (g t.name))).run Tryd.prog w4 = .ok () w5 ∧ ∃ (B1 : Option Addr) (k1 g2 k2 L M : Nat), es.length < L ∧ w5.drew.heap[lb]? = some (.cells #[.slice B1 M k1, .slice (some ⟨g2, 0, none⟩) L k2] 89) ∧ w5.heap[lb]? = some (.cells #[.slice B1 M k1, .slice (some ⟨g2, 0, none⟩) L k2] 89) ∧ (∃ u, w5.drew.cell? ⟨g2, es.length, none⟩ = some u) ∧ w5.drew.frozen? ⟨g2, es.length, none⟩ = false ∧
        AddRes base lb gb g (N + 2 * t.sz) (vs ++ layVL (updG g t.name (d + 1)) (d + 1) t.args) (es ++ ((vs.length + varsL t.args : Nat) : Int) :: layEL vs.length t.args) w (.returned (.tuple #[])) (w5.drew.setCell ⟨g2, es.length, none⟩ (.int .i64 (M : Int)))) := fun w3 w4 hf3 hr => by
    obtain ⟨_, s4, f4⟩ := hr
    have f5 := hf3.trans f4
    obtain ⟨w5, m1, m2, m3⟩ := s4.hm.store hnm (g t.name) (by omega)
    rw [upd_back] at m2
    obtain ⟨s5, f6⟩ := s4.map m2 m3
    refine ⟨(HX4.out _ f5).1, w5, m1, ?_⟩
    have s5d := s5.on (Below.refl _ w5).drew
    have f7 := (f5.trans f6).trans (lay_below s5 (Below.refl _ w5).drew)
    obtain ⟨u1, u2, l1, l2, l3⟩ := s5d.hl
    obtain ⟨B1, k1, rfl⟩ := own_form l2
    have hL : es.length < ((es ++ [0]) ++ layEL vs.length t.args).length := by simp only [List.length_append, List.length_cons, List.length_nil]; omega
    obtain ⟨g2, k2, rfl, _, _⟩ := World.ownsRow.form l3 (by omega)
    have hM : (vs ++ layVL (updG g t.name (d + 1)) (d + 1) t.args).length = vs.length + varsL t.args := by rw [List.length_append, layVL_len]
    obtain ⟨s8, f8⟩ := s5d.putE l1 es.length (((vs ++ layVL (updG g t.name (d + 1)) (d + 1) t.args).length : Nat) : Int)
    refine ⟨B1, k1, g2, k2, _, _, hL, l1, l1, ?_, World.ownsRow.frozenAt l3 _, rfl, ?_, (HFW.out.trans f7).trans f8⟩
    · rw [World.ownsRow.cellAt l3 _ (by omega)]
      rw [List.getElem?_map, List.getElem?_eq_getElem hL]
      exact ⟨_, rfl⟩
    · rw [set_mid, hM] at s8
      rw [hM]
      exact s8.more (by omega)
  clear HX4 hsV hlV HSW HL HFW HTS HIH HSHA HNL hnm
  generalize t.form = ff at *
  subst h5
  generalize hnn : t.name = nn at *
  clear hnn
  generalize g nn = gn at *
  generalize layVL (updG g nn (d + 1)) (d + 1) t.args = lv at *
  generalize updG g nn (d + 1) = ug at *
  go_enter Tryd.func101, Tryd.ntmps101
  go_wp2_with fail
  rw [HEW.out]
  go_wp2_with fail
  go_region
  go_upto_region 9 with (at_builtin; refine wpList_append_lies _ rfl (.tmp 53) (.tmp 54) 22 rfl base 3 i0 (.int .i64 0) 1 8 Tryd.underlying22 hi hz0 hzs hzb rfl (by decide) (.slice A2 es.length c2) es.length (es.map (Value.int .i64)) rfl HOWN2.out ⟨W.heap.size, 0, none⟩ 1 1 [.int .i64 0] rfl rfl HNEW.out HONE.out (by omega) (by unfold maxLen; omega) (by omega) (by simp; omega) (W.heap.size + 1) (by simp) ?_; intro gg cap w2 h2 g2 hat _; have r9 := HST.out w2 gg cap h2 g2 hat; obtain ⟨k0, k1, k2, k3, k4⟩ := two_cells r9.1; have HR9 := Lib.hid r9.2; clear r9 h2 g2 hat)
  refine Exists.elim HR9.out (fun W1 hw1 => Exists.elim hw1 (fun w3 hw3 => ?_))
  have HC := Lib.hid hw3.2.2.2.2.2
  have HF3 := Lib.hid hw3.2.2.2.2.1
  obtain ⟨u0, u1, u2, u3, u4, _⟩ := hw3.2.1
  obtain ⟨y0, y1, y2, y3, y4, _⟩ := hw3.2.2.2.1
  have hm1 := hw3.2.2.1
  rw [hw3.1]
  clear hw1 hw3 HR9 k0 k1 k2 k3 k4 p0 p1 p2 p3 p4 x0 x1 x2 x3 x4 hlk hlkd HOWN HOWN2 HNEW HONE HST
  go_wp2_with fail
  (with_reducible refine HC.out.mono ?_)
  intro e w4 h4
  refine Exists.elim (HBACK.out w3 w4 HF3.out (h4.1 ▸ h4)).2 (fun w5 h5 => ?_)
  obtain ⟨z0, z1, z2, z3, z4, _⟩ := (HBACK.out w3 w4 HF3.out (h4.1 ▸ h4)).1
  have hm2 := h5.1
  obtain ⟨B1, k1, g2, k2, L, M, hL, l1, l2, ⟨uu, l3⟩, l4, l5⟩ := h5.2
  have HRES := Lib.hid l5
  have he := h4.1
  subst he
  obtain ⟨a0, a1, a2, a3, a4⟩ := two_cells l1
  obtain ⟨b0, b1, b2, b3, b4⟩ := two_cells l2
  have hL0 : (es.length : Int) < (L : Int) := by omega
  have hL1 : (0 : Int) ≤ (es.length : Int) := by omega
  clear h4 h5 l1 l2 l5 HC HBACK hm1 u0 u1 u2 u3 u4 y0 y1 y2 y3 y4 HF3
  go_wp2_with fail
  go_region
  all_goals (go_wp2; go_end0; exact HRES.out)
theorem addIs (base lb gb : Nat) : ∀ n, AddIs base lb gb n := by
  intro n
  induction n with
  | zero => intro t v g d N vs es w hn; cases t <;> simp [Ty.sz] at hn
  | succ n ih =>
    intro t v g d N vs es w hn h hsh hs hba hN hv he hd0 hd
    by_cases h2 : t.form = 2
    · exact (add_var base lb gb g N vs es t v d w h hs hba hsh h2 (by omega)).mono (fun e w' hr => ⟨hr.1, hr.2.1.more (by omega), hr.2.2⟩)
    · by_cases h5 : t.form = 5
      · exact add_all base lb gb n ih t v g d N vs es w hn h hsh hs hba hN hv he hd0 hd h5
      · exact add_else base lb gb n ih t v g d N vs es w hn h hsh hs hba hN hv he hd0 hd h2 h5
end Go.Proofs.YtbdfjboojokgdaaDoor
