/- The contracts of a layout's add and addAll (types of chapter 4). Condition: names are of at most 2^40 bytes, the type has at most 2^40 nodes. The contract of a layout's add (types of chapter 4), at each type. Condition: names are of at most 2^40 bytes, the type has at most 2^38 nodes. -/
import Derived.Test.YtbdfjboojokgdaaDoorJU19
namespace Go.Proofs.YtbdfjboojokgdaaDoor
open Go.RowKit

theorem Tryd.info93 : (Tryd.prog.info? 93).map (fun i => (i.zero, i.size, i.bytes)) = some (some (.agg #[.string ⟨#[]⟩, .int .i64 0]), 2, 24) := by kernel_rfl
theorem news_two (w : World) (u1 u2 : Value) (t : TypeId) : ∀ j x, [u1, u2][j]? = some x → (w.alloc (.cells #[u1, u2] t)).cell? ((⟨w.heap.size, 0, none⟩ : Addr).add j) = some x := by
  intro j x hj
  match j with
  | 0 => simp at hj; subst hj; simp [go_sem, Addr.add]
  | 1 => simp at hj; subst hj; simp [go_sem, Addr.add]
  | j + 2 => simp at hj
theorem one_spot (s : ByteArray) (n : Int) : ∀ u ∈ spotC (s, n), u.oneCell' = true := by intro u hu; simp [spotC] at hu; rcases hu with rfl | rfl <;> rfl
/-- What add tells. -/
def AddRes (base lb gb : Nat) (g : ByteArray → Int) (N : Nat) (vs : List (ByteArray × Int)) (es : List Int) (w : World) (e : Ending) (w' : World) : Prop := e = .returned (.tuple #[]) ∧ LaySt base lb gb g N vs es w' ∧ FrM (LayM lb gb) w w'
set_option maxRecDepth 100000 in
set_option maxHeartbeats 1000000 in
theorem add_var (base lb gb : Nat) (g : ByteArray → Int) (N : Nat) (vs : List (ByteArray × Int)) (es : List Int) (t : Ty) (v : Value) (d : Int) (w : World) (h : TyAt (fun b => b < base) w t v) (hs : LaySt base lb gb g N vs es w) (hba : base ≤ w.heap.size) (hsh : t.short) (hf : t.form = 2) (hz : vs.length ≤ 1099511627776) :
    Calls Tryd.prog 101 #[.pointer (some ⟨lb, 0, none⟩), v, .map (some gb), .int .i64 d] w (AddRes base lb gb g N (vs ++ layV g d t) (es ++ layE vs.length t) w) := by
  obtain ⟨A, c, rfl, _, _⟩ := h.form
  rw [layV_var hf, layE_var hf, List.append_nil]
  have hnm := Ty.short_name hsh
  obtain ⟨W, eW, q1, b1, z1⟩ := one_box w (.int .i64 t.form) (.int .i64 t.num) (.string t.name) (.slice A t.args.length c) 25
  have HEW := Lib.hid eW
  have hsW := hs.on b1
  obtain ⟨v1, v2, hl, ho1, ho2⟩ := hs.hl
  have hlW : W.heap[lb]? = some (.cells #[v1, v2] 89) := (b1.block lb hs.lb_lt).trans hl
  obtain ⟨A1, c1, rfl⟩ := own_form ho1
  obtain ⟨p0, p1, p2, p3, p4⟩ := two_cells hlW
  have hlk := hsW.hm.look hnm
  have hlkd := (hsW.hm.on (Below.refl _ W).drew).look hnm
  obtain ⟨x0, x1, x2, x3, x4, _⟩ := q1
  obtain ⟨i0, hi, hz0, hzs, hzb⟩ := info_parts' Tryd.info93
  have HOWN : Hid (W.ownsRow base 93 2 (.slice A1 vs.length c1) vs.length (spotCells vs)) := own_below ho1 b1
  have HNEW := Lib.hid (news_two W (.string t.name) (.int .i64 (g t.name)) 93)
  have HNEWD := Lib.hid (news_two W.drew (.string t.name) (.int .i64 (g t.name)) 93)
  have HONE := Lib.hid (one_spot t.name (g t.name))
  have HST : Hid (∀ (Y w2 : World) (gg cap : Nat), Below W.heap.size W Y → w2.ownsRow base 93 2 (.slice (some ⟨gg, 0, none⟩) (vs.length + 1) cap) (vs.length + 1) (spotCells vs ++ [.string t.name, .int .i64 (g t.name)]) → Y.grownBy w2 (Value.slice A1 vs.length c1).ownBlock → ((Value.slice A1 vs.length c1).ownBlock = some gg ∨ gg = W.heap.size + 1) →
      w2.heap[lb]? = some (.cells #[.slice A1 vs.length c1, v2] 89) ∧ AddRes base lb gb g N (vs ++ [(t.name, g t.name)]) es w (.returned (.tuple #[])) (w2.setCell ⟨lb, 0, none⟩ (.slice (some ⟨gg, 0, none⟩) (vs.length + 1) cap))) := fun Y w2 gg cap hY h2 g2 hat => by
    obtain ⟨r1, r2, r3⟩ := hs.pushV (p := (t.name, g t.name)) hl (b1.trans (hY.mono b1.size)) h2 g2 (by rcases hat with h9 | h9; (· exact .inl h9); exact .inr (by omega))
    exact ⟨r1, rfl, r2, r3⟩
  have HS1 := Lib.hid (fun w2 gg cap => HST.out _ w2 gg cap (below_new W (.cells #[.string t.name, .int .i64 (g t.name)] 93)))
  have HS2 := Lib.hid (fun w2 gg cap => HST.out _ w2 gg cap (below_new W (.cells #[.string t.name, .int .i64 (g t.name)] 93)).drew)
  have hbW : base ≤ W.heap.size := by omega
  have HZ1 := Lib.hid z1
  clear HST
  clear z1 eW h hs b1 hsW hl hlW ho1 ho2 hsh hnm
  generalize t.form = ff at *
  subst hf
  generalize t.name = nn at *
  generalize g nn = gn at *
  go_enter Tryd.func101, Tryd.ntmps101
  go_wp2_with fail
  rw [HEW.out]
  go_wp2_with fail
  have HOWN2 := Lib.hid (own_below HOWN.out (below_new W (.cells #[.string nn, .int .i64 gn] 93)))
  go_region_law (refine step_append_lies _ rfl (.tmp 24) (.tmp 32) 87 rfl base 93 i0 (.agg #[.string ⟨#[]⟩, .int .i64 0]) 2 24 Tryd.underlying87 hi hz0 hzs hzb rfl (by decide) (.slice A1 vs.length c1) vs.length (spotCells vs) rfl HOWN2.out ⟨W.heap.size, 0, none⟩ 1 1 [.string nn, .int .i64 gn] rfl rfl HNEW.out HONE.out (by omega) (by unfold maxLen; omega) (by omega) (by simp; omega) (W.heap.size + 1) (by simp) ?_; intro gg cap w2 h2 g2 hat _; (first | have r9 := HS1.out w2 gg cap h2 g2 hat | have r9 := HS2.out w2 gg cap h2 g2 hat); have HR := Lib.hid r9.2; obtain ⟨k0, k1, k2, k3, k4⟩ := two_cells r9.1; clear r9 h2 g2 hat)
  all_goals (go_wp2; go_end0; exact HR.out)
def AddIs (base lb gb n : Nat) : Prop := ∀ (t : Ty) (v : Value) (g : ByteArray → Int) (d : Int) (N : Nat) (vs : List (ByteArray × Int)) (es : List Int) (w : World), t.sz ≤ n → TyAt (fun b => b < base) w t v → t.short → LaySt base lb gb g N vs es w → base ≤ w.heap.size → N + 2 * t.sz ≤ 1099511627776 → vs.length + t.sz ≤ 1099511627776 → es.length + t.sz ≤ 1099511627776 → 0 ≤ d → d + t.sz ≤ 1099511627776 →
    Calls Tryd.prog 101 #[.pointer (some ⟨lb, 0, none⟩), v, .map (some gb), .int .i64 d] w (AddRes base lb gb g (N + 2 * t.sz) (vs ++ layV g d t) (es ++ layE vs.length t) w)
set_option maxRecDepth 100000 in
set_option maxHeartbeats 1000000 in
theorem addAll_of (base lb gb n : Nat) (ih : AddIs base lb gb n) (ts : List Ty) (v : Value) (g : ByteArray → Int) (d : Int) (N : Nat) (vs : List (ByteArray × Int)) (es : List Int) (w : World) (hn : ∀ x ∈ ts, x.sz ≤ n) (h : TysAt (fun b => b < base) w ts v) (hsh : ∀ x ∈ ts, x.short) (hs : LaySt base lb gb g N vs es w) (hba : base ≤ w.heap.size)
    (hN : N + 2 * sumSz ts ≤ 1099511627776) (hv : vs.length + sumSz ts ≤ 1099511627776) (he : es.length + sumSz ts ≤ 1099511627776) (hd0 : 0 ≤ d) (hd : d + sumSz ts ≤ 1099511627776) (hl2 : ts.length ≤ 2) :
    Calls Tryd.prog 133 #[.pointer (some ⟨lb, 0, none⟩), v, .map (some gb), .int .i64 d] w (AddRes base lb gb g (N + 2 * sumSz ts) (vs ++ layVL g d ts) (es ++ layEL vs.length ts) w) := by
  obtain ⟨A, c, rfl, hc, hm⟩ := h.form
  have HI := Lib.hid ih
  have HN := Lib.hid hn
  have HSH := Lib.hid hsh
  have HT := Lib.hid h
  have HS0 := Lib.hid hs
  clear ih hn hsh h hs
  go_enter Tryd.func133, Tryd.ntmps133
  go_wp2_with fail
  go_loopw [12] (fun i wr => ∃ k : Nat, k ≤ ts.length ∧ i = .int .i64 k ∧ LaySt base lb gb g (N + 2 * sumSz (ts.take k)) (vs ++ layVL g d (ts.take k)) (es ++ layEL vs.length (ts.take k)) wr ∧ FrM (LayM lb gb) w wr) (fun i _ => ts.length - (intOf i).toNat)
  case atStart => exact ⟨0, Nat.zero_le _, rfl, by simpa [layVL, layEL, sumSz] using HS0.out, ⟨rfl, rfl, rfl, Nat.le_refl _, fun _ _ _ => rfl, fun _ _ h => h⟩⟩
  case round =>
    obtain ⟨k, hk, rfl, hsk, hfk⟩ := hrel
    have HSK := Lib.hid hsk
    have HFK := Lib.hid hfk
    have hzk := hfk.size
    by_cases hlt : k < ts.length
    · obtain ⟨gq, off, A3, c3, e3, hgb, hg, m0, m1, m2, m3, hx⟩ := (HT.out.keep (lay_keeps HS0.out hfk)).at k hlt
      subst e3
      have hmem : ts[k] ∈ ts := List.getElem_mem hlt
      obtain ⟨V, eV, q2, b2, z2⟩ := one_box wr (.int .i64 ts[k].form) (.int .i64 ts[k].num) (.string ts[k].name) (.slice A3 ts[k].args.length c3) 25
      have hso := sumSz_one hlt
      have htk := sumSz_take hlt
      have hvl := layVL_len g d (ts.take k)
      have hvv := varsL_le (ts.take k)
      have hel := layEL_le vs.length (ts.take k)
      have hcal := HI.out ts[k] _ g d (N + 2 * sumSz (ts.take k)) (vs ++ layVL g d (ts.take k)) (es ++ layEL vs.length (ts.take k)) V (HN.out _ hmem) (hx.on b2) (HSH.out _ hmem) (hsk.on b2) (by omega) (by omega) (by simp; omega) (by simp; omega) hd0 (by omega)
      rw [List.append_assoc, List.append_assoc, ← layVL_take hlt, List.length_append, hvl, ← layEL_take hlt, Nat.add_assoc, ← Nat.mul_add, ← htk] at hcal
      have HC := Lib.hid hcal
      have HFV := Lib.hid (hfk.trans (lay_below hsk b2))
      have HEV := Lib.hid eV
      have hki : (k : Int) < (ts.length : Int) := by omega
      have hk0 : (0 : Int) ≤ (k : Int) := by omega
      obtain ⟨u0, u1, u2, u3, u4, _⟩ := q2
      clear hx hsk hfk eV b2 hcal hso htk hvl hvv hel
      generalize ts[k] = x at *
      generalize x.form = xf, x.num = xn, x.name = xs, x.args.length = xl at *
      go_wp2_with fail
      rw [HEV.out]
      go_wp2_with fail
      refine HC.out.mono ?_
      rintro e w2 ⟨rfl, hs2, hf2⟩
      have HS2 := Lib.hid hs2
      have HF2 := Lib.hid (HFV.out.trans hf2)
      clear hs2 hf2
      go_wp2
      go_roundw
      case rel => exact ⟨k + 1, by omega, by go_num, HS2.out, HF2.out⟩
      case measure => simp [intOf]; omega
    · have hdk : decide (k < ts.length) = false := by simpa using hlt
      have hkl : ts.take k = ts := List.take_of_length_le (by omega)
      rw [hkl] at HSK
      clear hkl hsk hfk
      go_wp2
      go_end0
      exact ⟨rfl, HSK.out, HFK.out⟩
end Go.Proofs.YtbdfjboojokgdaaDoor
namespace Go.Proofs.YtbdfjboojokgdaaDoor
open Go.RowKit

set_option maxRecDepth 100000 in
set_option maxHeartbeats 1000000 in
theorem add_else (base lb gb n : Nat) (ih : AddIs base lb gb n) (t : Ty) (v : Value) (g : ByteArray → Int) (d : Int) (N : Nat) (vs : List (ByteArray × Int)) (es : List Int) (w : World) (hn : t.sz ≤ n + 1) (h : TyAt (fun b => b < base) w t v) (hsh : t.short) (hs : LaySt base lb gb g N vs es w) (hba : base ≤ w.heap.size)
    (hN : N + 2 * t.sz ≤ 1099511627776) (hv : vs.length + t.sz ≤ 1099511627776) (he : es.length + t.sz ≤ 1099511627776) (hd0 : 0 ≤ d) (hd : d + t.sz ≤ 1099511627776) (h2 : t.form ≠ 2) (h5 : t.form ≠ 5) :
    Calls Tryd.prog 101 #[.pointer (some ⟨lb, 0, none⟩), v, .map (some gb), .int .i64 d] w (AddRes base lb gb g (N + 2 * t.sz) (vs ++ layV g d t) (es ++ layE vs.length t) w) := by
  rw [layV_else h2 h5, layE_else h2 h5]
  obtain ⟨sv, rfl, hts⟩ := h.tys
  obtain ⟨A, c, rfl, hc, hm⟩ := hts.form
  obtain ⟨W, eW, q1, b1, z1⟩ := one_box w (.int .i64 t.form) (.int .i64 t.num) (.string t.name) (.slice A t.args.length c) 25
  have hsa := sumSz_args t
  have HC := Lib.hid (addAll_of base lb gb n ih t.args _ g d N vs es W (fun x hx => by have := Ty.arg_sz hx; omega) (hts.on b1) (fun x hx => Ty.short_arg hsh hx) (hs.on b1) (by omega) (by omega) (by omega) (by omega) hd0 (by omega) t.args_le)
  have HEW := Lib.hid eW
  have HF := Lib.hid (lay_below hs b1)
  obtain ⟨x0, x1, x2, x3, x4, _⟩ := q1
  clear eW h hs b1 ih hts hsh
  generalize t.form = ff at *
  have hff : (ff == 2) = false := by simpa using h2
  have hff5 : (ff == 5) = false := by simpa using h5
  go_enter Tryd.func101, Tryd.ntmps101
  go_wp2_with fail
  rw [HEW.out]
  go_wp2_with fail
  refine HC.out.mono ?_
  rintro e w2 ⟨rfl, hs2, hf2⟩
  have HR : Hid (AddRes base lb gb g (N + 2 * t.sz) (vs ++ layVL g d t.args) (es ++ layEL vs.length t.args) w (.returned (.tuple #[])) w2) := ⟨rfl, hs2.more (by omega), HF.out.trans hf2⟩
  clear hs2 hf2
  go_wp2
  go_end0
  exact HR.out
theorem set_mid (es : List Int) (x y : Int) (r : List Int) : ((es ++ [x]) ++ r).set es.length y = es ++ y :: r := by
  rw [List.append_assoc, List.set_append_right _ _ (Nat.le_refl _)]; simp
set_option maxRecDepth 100000 in
set_option maxHeartbeats 1000000 in
theorem add_all (base lb gb n : Nat) (ih : AddIs base lb gb n) (t : Ty) (v : Value) (g : ByteArray → Int) (d : Int) (N : Nat) (vs : List (ByteArray × Int)) (es : List Int) (w : World) (hn : t.sz ≤ n + 1) (h : TyAt (fun b => b < base) w t v) (hsh : t.short) (hs : LaySt base lb gb g N vs es w) (hba : base ≤ w.heap.size)
    (hN : N + 2 * t.sz ≤ 1099511627776) (hv : vs.length + t.sz ≤ 1099511627776) (he : es.length + t.sz ≤ 1099511627776) (hd0 : 0 ≤ d) (hd : d + t.sz ≤ 1099511627776) (h5 : t.form = 5) :
    Calls Tryd.prog 101 #[.pointer (some ⟨lb, 0, none⟩), v, .map (some gb), .int .i64 d] w (AddRes base lb gb g (N + 2 * t.sz) (vs ++ layV g d t) (es ++ layE vs.length t) w) := by
  rw [layV_all h5, layE_all h5]
  obtain ⟨sv, rfl, hts⟩ := h.tys
  obtain ⟨A, c, rfl, hc, hm⟩ := hts.form
  obtain ⟨W, eW, q1, b1, z1⟩ := one_box w (.int .i64 t.form) (.int .i64 t.num) (.string t.name) (.slice A t.args.length c) 25
  have hsa := sumSz_args t
  have hnm := Ty.short_name hsh
  have HEW := Lib.hid eW
  have hsW := hs.on b1
  obtain ⟨v1, v2, hl, ho1, ho2⟩ := hsW.hl
  obtain ⟨A1, c1, rfl⟩ := own_form ho1
  obtain ⟨A2, c2, rfl⟩ := own_form ho2
  obtain ⟨p0, p1, p2, p3, p4⟩ := two_cells hl
  have hlk := hsW.hm.look hnm
  have hlkd := (hsW.hm.on (Below.refl _ W).drew).look hnm
  have HQ := Lib.hid q1
  have HSW := Lib.hid hsW
  have HL := Lib.hid hl
  have HFW := Lib.hid (lay_below hs b1)
  have HTS := Lib.hid (hts.on b1)
  have HIH := Lib.hid ih
  have HSHA := Lib.hid (fun x hx => Ty.short_arg (x := x) hsh hx)
  have HOWN : Hid (OwnI base W (.slice A2 es.length c2) es) := ho2
  obtain ⟨x0, x1, x2, x3, x4, _⟩ := q1
  obtain ⟨i0, hi, hz0, hzs, hzb⟩ := info_parts' Tryd.info3
  have hbW : base ≤ W.heap.size := by omega
  have hnl : ∀ x ∈ t.args, x.sz ≤ n := fun x hx => by have := Ty.arg_sz hx; omega
  have HNL := Lib.hid hnl
  have hl2 := t.args_le
  have hFWno : ∀ k, LayM lb gb W k → k < w.heap.size := fun k hk => by
    have hb := b1.block lb hs.lb_lt
    unfold LayM at hk; rw [hb] at hk
    exact (hs.lt hk).2
  have HZ1 := Lib.hid z1
  clear z1 eW h hs b1 ih hts hsh hsW hl ho1 ho2 hnl
  -- behind the first region that draws
  have hsV : LaySt base lb gb g N vs es W.drew := HSW.out.on (Below.refl _ W).drew
  have hlV : W.drew.heap[lb]? = some (.cells #[.slice A1 vs.length c1, .slice A2 es.length c2] 89) := HL.out
  have HOWN2 : Hid ((W.drew.alloc (.cells #[.int .i64 0] 3)).ownsRow base 3 1 (.slice A2 es.length c2) es.length (es.map (Value.int .i64))) := own_below (w := W.drew) (HOWN.out : OwnI base W.drew _ es) (below_new W.drew _)
  have HNEW := Lib.hid (news_one W.drew (.int .i64 0) 3)
  have HONE := Lib.hid (one_int 0)
  have HX4 : Hid (∀ y : World, FrM (LayM lb gb) W y → Box4 y w.heap.size (.int .i64 t.form) (.int .i64 t.num) (.string t.name) (.slice A t.args.length c) ∧ TysAt (fun b => b < base) y t.args (.slice A t.args.length c)) := fun y hf =>
    ⟨HQ.out.frM hf (fun hm => by have := (HSW.out.lt hm); have h9 := hFWno _ hm; omega), HTS.out.keep (lay_keeps HSW.out hf)⟩
  have HST : Hid (∀ (w2 : World) (gg cap : Nat), w2.ownsRow base 3 1 (.slice (some ⟨gg, 0, none⟩) (es.length + 1) cap) (es.length + 1) (es.map (Value.int .i64) ++ [.int .i64 0]) → (W.drew.alloc (.cells #[.int .i64 0] 3)).grownBy w2 (Value.slice A2 es.length c2).ownBlock → ((Value.slice A2 es.length c2).ownBlock = some gg ∨ gg = W.heap.size + 1) →
      (w2.heap[lb]? = some (.cells #[.slice A1 vs.length c1, .slice A2 es.length c2] 89)) ∧ ∃ W1 w3, w2.setCell ⟨lb, 1, none⟩ (.slice (some ⟨gg, 0, none⟩) (es.length + 1) cap) = W1 ∧ Box4 W1 w.heap.size (.int .i64 t.form) (.int .i64 t.num) (.string t.name) (.slice A t.args.length c) ∧ (Instr.mapUpdate 105 (.map (some gb)) (.string t.name) (.int .i64 (d + 1))).run Tryd.prog W1 = .ok () w3 ∧ Box4 w3 w.heap.size (.int .i64 t.form) (.int .i64 t.num) (.string t.name) (.slice A t.args.length c) ∧ FrM (LayM lb gb) W w3 ∧
        Calls Tryd.prog 133 #[.pointer (some ⟨lb, 0, none⟩), .slice A t.args.length c, .map (some gb), .int .i64 (d + 1)] w3 (AddRes base lb gb (updG g t.name (d + 1)) (N + 1 + 2 * sumSz t.args) (vs ++ layVL (updG g t.name (d + 1)) (d + 1) t.args) ((es ++ [0]) ++ layEL vs.length t.args) w3)) := fun w2 gg cap h2 g2 hat => by
    obtain ⟨r1, r2, r3, r4⟩ := hsV.pushE hlV (below_new _ _) h2 g2 (by rcases hat with h9 | h9; (· exact .inl h9); exact .inr (by show W.heap.size ≤ gg; omega))
    have f1 : FrM (LayM lb gb) W (w2.setCell ⟨lb, 1, none⟩ (.slice (some ⟨gg, 0, none⟩) (es.length + 1) cap)) := (lay_below HSW.out (Below.refl _ W).drew).trans r3
    obtain ⟨w3, m1, m2, m3⟩ := r2.hm.store hnm (d + 1) (by omega)
    obtain ⟨s3, f3⟩ := r2.map m2 m3
    have f4 := f1.trans f3
    have hz := f4.size
    refine ⟨r1, _, w3, rfl, (HX4.out _ f1).1, m1, (HX4.out _ f4).1, f4, addAll_of base lb gb n HIH.out t.args _ (updG g t.name (d + 1)) (d + 1) (N + 1) vs (es ++ [0]) w3 HNL.out (HX4.out _ f4).2 HSHA.out s3 (by omega) (by omega) (by omega) (by simp; omega) (by omega) (by omega) hl2⟩
  have HBACK : Hid (∀ w3 w4 : World, FrM (LayM lb gb) W w3 → AddRes base lb gb (updG g t.name (d + 1)) (N + 1 + 2 * sumSz t.args) (vs ++ layVL (updG g t.name (d + 1)) (d + 1) t.args) ((es ++ [0]) ++ layEL vs.length t.args) w3 (.returned (.tuple #[])) w4 →
      Box4 w4 w.heap.size (.int .i64 t.form) (.int .i64 t.num) (.string t.name) (.slice A t.args.length c) ∧ ∃ w5, (Instr.mapUpdate 105 (.map (some gb)) (.string t.name) (.int .i64 (g t.name))).run Tryd.prog w4 = .ok () w5 ∧ ∃ (B1 : Option Addr) (k1 g2 k2 L M : Nat), es.length < L ∧ w5.drew.heap[lb]? = some (.cells #[.slice B1 M k1, .slice (some ⟨g2, 0, none⟩) L k2] 89) ∧ w5.heap[lb]? = some (.cells #[.slice B1 M k1, .slice (some ⟨g2, 0, none⟩) L k2] 89) ∧ (∃ u, w5.drew.cell? ⟨g2, es.length, none⟩ = some u) ∧ w5.drew.frozen? ⟨g2, es.length, none⟩ = false ∧
        AddRes base lb gb g (N + 2 * t.sz) (vs ++ layVL (updG g t.name (d + 1)) (d + 1) t.args) (es ++ ((vs.length + varsL t.args : Nat) : Int) :: layEL vs.length t.args) w (.returned (.tuple #[])) (w5.drew.setCell ⟨g2, es.length, none⟩ (.int .i64 (M : Int)))) := fun w3 w4 hf3 hr => by
    obtain ⟨_, s4, f4⟩ := hr
    have f5 := hf3.trans f4
    obtain ⟨w5, m1, m2, m3⟩ := s4.hm.store hnm (g t.name) (by omega)
    rw [upd_back] at m2
    obtain ⟨s5, f6⟩ := s4.map m2 m3
    refine ⟨(HX4.out _ f5).1, w5, m1, ?_⟩
    have s5d := s5.on (Below.refl _ w5).drew
    have f7 := (f5.trans f6).trans (lay_below s5 (Below.refl _ w5).drew)
    obtain ⟨u1, u2, l1, l2, l3⟩ := s5d.hl
    obtain ⟨B1, k1, rfl⟩ := own_form l2
    have hL : es.length < ((es ++ [0]) ++ layEL vs.length t.args).length := by simp only [List.length_append, List.length_cons, List.length_nil]; omega
    obtain ⟨g2, k2, rfl, _, _⟩ := World.ownsRow.form l3 (by omega)
    have hM : (vs ++ layVL (updG g t.name (d + 1)) (d + 1) t.args).length = vs.length + varsL t.args := by rw [List.length_append, layVL_len]
    obtain ⟨s8, f8⟩ := s5d.putE l1 es.length (((vs ++ layVL (updG g t.name (d + 1)) (d + 1) t.args).length : Nat) : Int)
    refine ⟨B1, k1, g2, k2, _, _, hL, l1, l1, ?_, World.ownsRow.frozenAt l3 _, rfl, ?_, (HFW.out.trans f7).trans f8⟩
    · rw [World.ownsRow.cellAt l3 _ (by omega)]
      rw [List.getElem?_map, List.getElem?_eq_getElem hL]
      exact ⟨_, rfl⟩
    · rw [set_mid, hM] at s8
      rw [hM]
      exact s8.more (by omega)
  clear HX4 hsV hlV HSW HL HFW HTS HIH HSHA HNL hnm
  generalize t.form = ff at *
  subst h5
  generalize hnn : t.name = nn at *
  clear hnn
  generalize g nn = gn at *
  generalize layVL (updG g nn (d + 1)) (d + 1) t.args = lv at *
  generalize updG g nn (d + 1) = ug at *
  go_enter Tryd.func101, Tryd.ntmps101
  go_wp2_with fail
  rw [HEW.out]
  go_wp2_with fail
  go_region
  go_upto_region 9 with (at_builtin; refine wpList_append_lies _ rfl (.tmp 53) (.tmp 54) 22 rfl base 3 i0 (.int .i64 0) 1 8 Tryd.underlying22 hi hz0 hzs hzb rfl (by decide) (.slice A2 es.length c2) es.length (es.map (Value.int .i64)) rfl HOWN2.out ⟨W.heap.size, 0, none⟩ 1 1 [.int .i64 0] rfl rfl HNEW.out HONE.out (by omega) (by unfold maxLen; omega) (by omega) (by simp; omega) (W.heap.size + 1) (by simp) ?_; intro gg cap w2 h2 g2 hat _; have r9 := HST.out w2 gg cap h2 g2 hat; obtain ⟨k0, k1, k2, k3, k4⟩ := two_cells r9.1; have HR9 := Lib.hid r9.2; clear r9 h2 g2 hat)
  refine Exists.elim HR9.out (fun W1 hw1 => Exists.elim hw1 (fun w3 hw3 => ?_))
  have HC := Lib.hid hw3.2.2.2.2.2
  have HF3 := Lib.hid hw3.2.2.2.2.1
  obtain ⟨u0, u1, u2, u3, u4, _⟩ := hw3.2.1
  obtain ⟨y0, y1, y2, y3, y4, _⟩ := hw3.2.2.2.1
  have hm1 := hw3.2.2.1
  rw [hw3.1]
  clear hw1 hw3 HR9 k0 k1 k2 k3 k4 p0 p1 p2 p3 p4 x0 x1 x2 x3 x4 hlk hlkd HOWN HOWN2 HNEW HONE HST
  go_wp2_with fail
  (with_reducible refine HC.out.mono ?_)
  intro e w4 h4
  refine Exists.elim (HBACK.out w3 w4 HF3.out (h4.1 ▸ h4)).2 (fun w5 h5 => ?_)
  obtain ⟨z0, z1, z2, z3, z4, _⟩ := (HBACK.out w3 w4 HF3.out (h4.1 ▸ h4)).1
  have hm2 := h5.1
  obtain ⟨B1, k1, g2, k2, L, M, hL, l1, l2, ⟨uu, l3⟩, l4, l5⟩ := h5.2
  have HRES := Lib.hid l5
  have he := h4.1
  subst he
  obtain ⟨a0, a1, a2, a3, a4⟩ := two_cells l1
  obtain ⟨b0, b1, b2, b3, b4⟩ := two_cells l2
  have hL0 : (es.length : Int) < (L : Int) := by omega
  have hL1 : (0 : Int) ≤ (es.length : Int) := by omega
  clear h4 h5 l1 l2 l5 HC HBACK hm1 u0 u1 u2 u3 u4 y0 y1 y2 y3 y4 HF3
  go_wp2_with fail
  go_region
  all_goals (go_wp2; go_end0; exact HRES.out)
theorem addIs (base lb gb : Nat) : ∀ n, AddIs base lb gb n := by
  intro n
  induction n with
  | zero => intro t v g d N vs es w hn; cases t <;> simp [Ty.sz] at hn
  | succ n ih =>
    intro t v g d N vs es w hn h hsh hs hba hN hv he hd0 hd
    by_cases h2 : t.form = 2
    · exact (add_var base lb gb g N vs es t v d w h hs hba hsh h2 (by omega)).mono (fun e w' hr => ⟨hr.1, hr.2.1.more (by omega), hr.2.2⟩)
    · by_cases h5 : t.form = 5
      · exact add_all base lb gb n ih t v g d N vs es w hn h hsh hs hba hN hv he hd0 hd h5
      · exact add_else base lb gb n ih t v g d N vs es w hn h hsh hs hba hN hv he hd0 hd h2 h5
end Go.Proofs.YtbdfjboojokgdaaDoor
