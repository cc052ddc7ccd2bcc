/- The contracts of a layout's add and addAll (types of chapter 4). Condition: names are of at most 2^40 bytes, the type has at most 2^40 nodes. The contract of a layout's add (types of chapter 4), at each type. Condition: names are of at most 2^40 bytes, the type has at most 2^38 nodes. The contracts of types' layoutOf and Free (chapter 4). Condition: names are of at most 2^40 bytes, the type has at most 2^38 nodes. The contract of types.Free (chapter 4). Condition: names are of at most 2^40 bytes, the type has at most 2^38 nodes. -/
import Derived.Test.YtbdfjboojokgdaaGreatDoorM28
namespace Go.Proofs.YtbdfjboojokgdaaGreatDoor
open Go.RowKit

theorem Tryz.info144 : (Tryz.prog.info? 144).map (fun i => (i.zero, i.size, i.bytes)) = some (some (.agg #[.string ⟨#[]⟩, .int .i64 0]), 2, 24) := by kernel_rfl
theorem news_two (w : World) (u1 u2 : Value) (t : TypeId) : ∀ j x, [u1, u2][j]? = some x → (w.alloc (.cells #[u1, u2] t)).cell? ((⟨w.heap.size, 0, none⟩ : Addr).add j) = some x := by
  intro j x hj
  match j with
  | 0 => simp at hj; subst hj; simp [go_sem, Addr.add]
  | 1 => simp at hj; subst hj; simp [go_sem, Addr.add]
  | j + 2 => simp at hj
theorem one_spot (s : ByteArray) (n : Int) : ∀ u ∈ spotC (s, n), u.oneCell' = true := by intro u hu; simp [spotC] at hu; rcases hu with rfl | rfl <;> rfl
/-- What add tells. -/
def AddRes (base lb gb : Nat) (g : ByteArray → Int) (N : Nat) (vs : List (ByteArray × Int)) (es : List Int) (w : World) (e : Ending) (w' : World) : Prop := e = .returned (.tuple #[]) ∧ LaySt base lb gb g N vs es w' ∧ FrM (LayM lb gb) w w'
set_option maxRecDepth 100000 in
set_option maxHeartbeats 1000000 in
theorem add_var (base lb gb : Nat) (g : ByteArray → Int) (N : Nat) (vs : List (ByteArray × Int)) (es : List Int) (t : Ty) (v : Value) (d : Int) (w : World) (h : TyAt (fun b => b < base) w t v) (hs : LaySt base lb gb g N vs es w) (hba : base ≤ w.heap.size) (hsh : t.short) (hf : t.form = 2) (hz : vs.length ≤ 1099511627776) :
    Calls Tryz.prog 118 #[.pointer (some ⟨lb, 0, none⟩), v, .map (some gb), .int .i64 d] w (AddRes base lb gb g N (vs ++ layV g d t) (es ++ layE vs.length t) w) := by
  obtain ⟨A, c, rfl, _, _⟩ := h.form
  rw [layV_var hf, layE_var hf, List.append_nil]
  have hnm := Ty.short_name hsh
  obtain ⟨W, eW, q1, b1, z1⟩ := one_box w (.int .i64 t.form) (.int .i64 t.num) (.string t.name) (.slice A t.args.length c) 27
  have HEW := Lib.hid eW
  have hsW := hs.on b1
  obtain ⟨v1, v2, hl, ho1, ho2⟩ := hs.hl
  have hlW : W.heap[lb]? = some (.cells #[v1, v2] 140) := (b1.block lb hs.lb_lt).trans hl
  obtain ⟨A1, c1, rfl⟩ := own_form ho1
  obtain ⟨p0, p1, p2, p3, p4⟩ := two_cells hlW
  have hlk := hsW.hm.look hnm
  have hlkd := (hsW.hm.on (Below.refl _ W).drew).look hnm
  obtain ⟨x0, x1, x2, x3, x4, _⟩ := q1
  obtain ⟨i0, hi, hz0, hzs, hzb⟩ := info_parts' Tryz.info144
  have HOWN : Hid (W.ownsRow base 144 2 (.slice A1 vs.length c1) vs.length (spotCells vs)) := own_below ho1 b1
  have HNEW := Lib.hid (news_two W (.string t.name) (.int .i64 (g t.name)) 144)
  have HNEWD := Lib.hid (news_two W.drew (.string t.name) (.int .i64 (g t.name)) 144)
  have HONE := Lib.hid (one_spot t.name (g t.name))
  have HST : Hid (∀ (Y w2 : World) (gg cap : Nat), Below W.heap.size W Y → w2.ownsRow base 144 2 (.slice (some ⟨gg, 0, none⟩) (vs.length + 1) cap) (vs.length + 1) (spotCells vs ++ [.string t.name, .int .i64 (g t.name)]) → Y.grownBy w2 (Value.slice A1 vs.length c1).ownBlock → ((Value.slice A1 vs.length c1).ownBlock = some gg ∨ gg = W.heap.size + 1) →
      w2.heap[lb]? = some (.cells #[.slice A1 vs.length c1, v2] 140) ∧ AddRes base lb gb g N (vs ++ [(t.name, g t.name)]) es w (.returned (.tuple #[])) (w2.setCell ⟨lb, 0, none⟩ (.slice (some ⟨gg, 0, none⟩) (vs.length + 1) cap))) := fun Y w2 gg cap hY h2 g2 hat => by
    obtain ⟨r1, r2, r3⟩ := hs.pushV (p := (t.name, g t.name)) hl (b1.trans (hY.mono b1.size)) h2 g2 (by rcases hat with h9 | h9; (· exact .inl h9); exact .inr (by omega))
    exact ⟨r1, rfl, r2, r3⟩
  have HS1 := Lib.hid (fun w2 gg cap => HST.out _ w2 gg cap (below_new W (.cells #[.string t.name, .int .i64 (g t.name)] 144)))
  have HS2 := Lib.hid (fun w2 gg cap => HST.out _ w2 gg cap (below_new W (.cells #[.string t.name, .int .i64 (g t.name)] 144)).drew)
  have hbW : base ≤ W.heap.size := by omega
  have HZ1 := Lib.hid z1
  clear HST
  clear z1 eW h hs b1 hsW hl hlW ho1 ho2 hsh hnm
  generalize t.form = ff at *
  subst hf
  generalize t.name = nn at *
  generalize g nn = gn at *
  go_enter Tryz.func118, Tryz.ntmps118
  go_wp2_with fail
  rw [HEW.out]
  go_wp2_with fail
  have HOWN2 := Lib.hid (own_below HOWN.out (below_new W (.cells #[.string nn, .int .i64 gn] 144)))
  go_region_law (refine step_append_lies _ rfl (.tmp 24) (.tmp 32) 138 rfl base 144 i0 (.agg #[.string ⟨#[]⟩, .int .i64 0]) 2 24 Tryz.underlying138 hi hz0 hzs hzb rfl (by decide) (.slice A1 vs.length c1) vs.length (spotCells vs) rfl HOWN2.out ⟨W.heap.size, 0, none⟩ 1 1 [.string nn, .int .i64 gn] rfl rfl HNEW.out HONE.out (by omega) (by unfold maxLen; omega) (by omega) (by simp; omega) (W.heap.size + 1) (by simp) ?_; intro gg cap w2 h2 g2 hat _; (first | have r9 := HS1.out w2 gg cap h2 g2 hat | have r9 := HS2.out w2 gg cap h2 g2 hat); have HR := Lib.hid r9.2; obtain ⟨k0, k1, k2, k3, k4⟩ := two_cells r9.1; clear r9 h2 g2 hat)
  all_goals (go_wp2; go_end0; exact HR.out)
def AddIs (base lb gb n : Nat) : Prop := ∀ (t : Ty) (v : Value) (g : ByteArray → Int) (d : Int) (N : Nat) (vs : List (ByteArray × Int)) (es : List Int) (w : World), t.sz ≤ n → TyAt (fun b => b < base) w t v → t.short → LaySt base lb gb g N vs es w → base ≤ w.heap.size → N + 2 * t.sz ≤ 1099511627776 → vs.length + t.sz ≤ 1099511627776 → es.length + t.sz ≤ 1099511627776 → 0 ≤ d → d + t.sz ≤ 1099511627776 →
    Calls Tryz.prog 118 #[.pointer (some ⟨lb, 0, none⟩), v, .map (some gb), .int .i64 d] w (AddRes base lb gb g (N + 2 * t.sz) (vs ++ layV g d t) (es ++ layE vs.length t) w)
set_option maxRecDepth 100000 in
set_option maxHeartbeats 1000000 in
theorem addAll_of (base lb gb n : Nat) (ih : AddIs base lb gb n) (ts : List Ty) (v : Value) (g : ByteArray → Int) (d : Int) (N : Nat) (vs : List (ByteArray × Int)) (es : List Int) (w : World) (hn : ∀ x ∈ ts, x.sz ≤ n) (h : TysAt (fun b => b < base) w ts v) (hsh : ∀ x ∈ ts, x.short) (hs : LaySt base lb gb g N vs es w) (hba : base ≤ w.heap.size)
    (hN : N + 2 * sumSz ts ≤ 1099511627776) (hv : vs.length + sumSz ts ≤ 1099511627776) (he : es.length + sumSz ts ≤ 1099511627776) (hd0 : 0 ≤ d) (hd : d + sumSz ts ≤ 1099511627776) (hl2 : ts.length ≤ 2) :
    Calls Tryz.prog 127 #[.pointer (some ⟨lb, 0, none⟩), v, .map (some gb), .int .i64 d] w (AddRes base lb gb g (N + 2 * sumSz ts) (vs ++ layVL g d ts) (es ++ layEL vs.length ts) w) := by
  obtain ⟨A, c, rfl, hc, hm⟩ := h.form
  have HI := Lib.hid ih
  have HN := Lib.hid hn
  have HSH := Lib.hid hsh
  have HT := Lib.hid h
  have HS0 := Lib.hid hs
  clear ih hn hsh h hs
  go_enter Tryz.func127, Tryz.ntmps127
  go_wp2_with fail
  go_loopw [12] (fun i wr => ∃ k : Nat, k ≤ ts.length ∧ i = .int .i64 k ∧ LaySt base lb gb g (N + 2 * sumSz (ts.take k)) (vs ++ layVL g d (ts.take k)) (es ++ layEL vs.length (ts.take k)) wr ∧ FrM (LayM lb gb) w wr) (fun i _ => ts.length - (intOf i).toNat)
  case atStart => exact ⟨0, Nat.zero_le _, rfl, by simpa [layVL, layEL, sumSz] using HS0.out, ⟨rfl, rfl, rfl, Nat.le_refl _, fun _ _ _ => rfl, fun _ _ h => h⟩⟩
  case round =>
    obtain ⟨k, hk, rfl, hsk, hfk⟩ := hrel
    have HSK := Lib.hid hsk
    have HFK := Lib.hid hfk
    have hzk := hfk.size
    by_cases hlt : k < ts.length
    · obtain ⟨gq, off, A3, c3, e3, hgb, hg, m0, m1, m2, m3, hx⟩ := (HT.out.keep (lay_keeps HS0.out hfk)).at k hlt
      subst e3
      have hmem : ts[k] ∈ ts := List.getElem_mem hlt
      obtain ⟨V, eV, q2, b2, z2⟩ := one_box wr (.int .i64 ts[k].form) (.int .i64 ts[k].num) (.string ts[k].name) (.slice A3 ts[k].args.length c3) 27
      have hso := sumSz_one hlt
      have htk := sumSz_take hlt
      have hvl := layVL_len g d (ts.take k)
      have hvv := varsL_le (ts.take k)
      have hel := layEL_le vs.length (ts.take k)
      have hcal := HI.out ts[k] _ g d (N + 2 * sumSz (ts.take k)) (vs ++ layVL g d (ts.take k)) (es ++ layEL vs.length (ts.take k)) V (HN.out _ hmem) (hx.on b2) (HSH.out _ hmem) (hsk.on b2) (by omega) (by omega) (by simp; omega) (by simp; omega) hd0 (by omega)
      rw [List.append_assoc, List.append_assoc, ← layVL_take hlt, List.length_append, hvl, ← layEL_take hlt, Nat.add_assoc, ← Nat.mul_add, ← htk] at hcal
      have HC := Lib.hid hcal
      have HFV := Lib.hid (hfk.trans (lay_below hsk b2))
      have HEV := Lib.hid eV
      have hki : (k : Int) < (ts.length : Int) := by omega
      have hk0 : (0 : Int) ≤ (k : Int) := by omega
      obtain ⟨u0, u1, u2, u3, u4, _⟩ := q2
      clear hx hsk hfk eV b2 hcal hso htk hvl hvv hel
      generalize ts[k] = x at *
      generalize x.form = xf, x.num = xn, x.name = xs, x.args.length = xl at *
      go_wp2_with fail
      rw [HEV.out]
      go_wp2_with fail
      refine HC.out.mono ?_
      rintro e w2 ⟨rfl, hs2, hf2⟩
      have HS2 := Lib.hid hs2
      have HF2 := Lib.hid (HFV.out.trans hf2)
      clear hs2 hf2
      go_wp2
      go_roundw
      case rel => exact ⟨k + 1, by omega, by go_num, HS2.out, HF2.out⟩
      case measure => simp [intOf]; omega
    · have hdk : decide (k < ts.length) = false := by simpa using hlt
      have hkl : ts.take k = ts := List.take_of_length_le (by omega)
      rw [hkl] at HSK
      clear hkl hsk hfk
      go_wp2
      go_end0
      exact ⟨rfl, HSK.out, HFK.out⟩
end Go.Proofs.YtbdfjboojokgdaaGreatDoor
namespace Go.Proofs.YtbdfjboojokgdaaGreatDoor
open Go.RowKit

set_option maxRecDepth 100000 in
set_option maxHeartbeats 1000000 in
theorem add_else (base lb gb n : Nat) (ih : AddIs base lb gb n) (t : Ty) (v : Value) (g : ByteArray → Int) (d : Int) (N : Nat) (vs : List (ByteArray × Int)) (es : List Int) (w : World) (hn : t.sz ≤ n + 1) (h : TyAt (fun b => b < base) w t v) (hsh : t.short) (hs : LaySt base lb gb g N vs es w) (hba : base ≤ w.heap.size)
    (hN : N + 2 * t.sz ≤ 1099511627776) (hv : vs.length + t.sz ≤ 1099511627776) (he : es.length + t.sz ≤ 1099511627776) (hd0 : 0 ≤ d) (hd : d + t.sz ≤ 1099511627776) (h2 : t.form ≠ 2) (h5 : t.form ≠ 5) :
    Calls Tryz.prog 118 #[.pointer (some ⟨lb, 0, none⟩), v, .map (some gb), .int .i64 d] w (AddRes base lb gb g (N + 2 * t.sz) (vs ++ layV g d t) (es ++ layE vs.length t) w) := by
  rw [layV_else h2 h5, layE_else h2 h5]
  obtain ⟨sv, rfl, hts⟩ := h.tys
  obtain ⟨A, c, rfl, hc, hm⟩ := hts.form
  obtain ⟨W, eW, q1, b1, z1⟩ := one_box w (.int .i64 t.form) (.int .i64 t.num) (.string t.name) (.slice A t.args.length c) 27
  have hsa := sumSz_args t
  have HC := Lib.hid (addAll_of base lb gb n ih t.args _ g d N vs es W (fun x hx => by have := Ty.arg_sz hx; omega) (hts.on b1) (fun x hx => Ty.short_arg hsh hx) (hs.on b1) (by omega) (by omega) (by omega) (by omega) hd0 (by omega) t.args_le)
  have HEW := Lib.hid eW
  have HF := Lib.hid (lay_below hs b1)
  obtain ⟨x0, x1, x2, x3, x4, _⟩ := q1
  clear eW h hs b1 ih hts hsh
  generalize t.form = ff at *
  have hff : (ff == 2) = false := by simpa using h2
  have hff5 : (ff == 5) = false := by simpa using h5
  go_enter Tryz.func118, Tryz.ntmps118
  go_wp2_with fail
  rw [HEW.out]
  go_wp2_with fail
  refine HC.out.mono ?_
  rintro e w2 ⟨rfl, hs2, hf2⟩
  have HR : Hid (AddRes base lb gb g (N + 2 * t.sz) (vs ++ layVL g d t.args) (es ++ layEL vs.length t.args) w (.returned (.tuple #[])) w2) := ⟨rfl, hs2.more (by omega), HF.out.trans hf2⟩
  clear hs2 hf2
  go_wp2
  go_end0
  exact HR.out
theorem set_mid (es : List Int) (x y : Int) (r : List Int) : ((es ++ [x]) ++ r).set es.length y = es ++ y :: r := by
  rw [List.append_assoc, List.set_append_right _ _ (Nat.le_refl _)]; simp
set_option maxRecDepth 100000 in
set_option maxHeartbeats 1000000 in
theorem add_all (base lb gb n : Nat) (ih : AddIs base lb gb n) (t : Ty) (v : Value) (g : ByteArray → Int) (d : Int) (N : Nat) (vs : List (ByteArray × Int)) (es : List Int) (w : World) (hn : t.sz ≤ n + 1) (h : TyAt (fun b => b < base) w t v) (hsh : t.short) (hs : LaySt base lb gb g N vs es w) (hba : base ≤ w.heap.size)
    (hN : N + 2 * t.sz ≤ 1099511627776) (hv : vs.length + t.sz ≤ 1099511627776) (he : es.length + t.sz ≤ 1099511627776) (hd0 : 0 ≤ d) (hd : d + t.sz ≤ 1099511627776) (h5 : t.form = 5) :
    Calls Tryz.prog 118 #[.pointer (some ⟨lb, 0, none⟩), v, .map (some gb), .int .i64 d] w (AddRes base lb gb g (N + 2 * t.sz) (vs ++ layV g d t) (es ++ layE vs.length t) w) := by
  rw [layV_all h5, layE_all h5]
  obtain ⟨sv, rfl, hts⟩ := h.tys
  obtain ⟨A, c, rfl, hc, hm⟩ := hts.form
  obtain ⟨W, eW, q1, b1, z1⟩ := one_box w (.int .i64 t.form) (.int .i64 t.num) (.string t.name) (.slice A t.args.length c) 27
  have hsa := sumSz_args t
  have hnm := Ty.short_name hsh
  have HEW := Lib.hid eW
  have hsW := hs.on b1
  obtain ⟨v1, v2, hl, ho1, ho2⟩ := hsW.hl
  obtain ⟨A1, c1, rfl⟩ := own_form ho1
  obtain ⟨A2, c2, rfl⟩ := own_form ho2
  obtain ⟨p0, p1, p2, p3, p4⟩ := two_cells hl
  have hlk := hsW.hm.look hnm
  have hlkd := (hsW.hm.on (Below.refl _ W).drew).look hnm
  have HQ := Lib.hid q1
  have HSW := Lib.hid hsW
  have HL := Lib.hid hl
  have HFW := Lib.hid (lay_below hs b1)
  have HTS := Lib.hid (hts.on b1)
  have HIH := Lib.hid ih
  have HSHA := Lib.hid (fun x hx => Ty.short_arg (x := x) hsh hx)
  have HOWN : Hid (OwnI base W (.slice A2 es.length c2) es) := ho2
  obtain ⟨x0, x1, x2, x3, x4, _⟩ := q1
  obtain ⟨i0, hi, hz0, hzs, hzb⟩ := info_parts' Tryz.info3
  have hbW : base ≤ W.heap.size := by omega
  have hnl : ∀ x ∈ t.args, x.sz ≤ n := fun x hx => by have := Ty.arg_sz hx; omega
  have HNL := Lib.hid hnl
  have hl2 := t.args_le
  have hFWno : ∀ k, LayM lb gb W k → k < w.heap.size := fun k hk => by
    have hb := b1.block lb hs.lb_lt
    unfold LayM at hk; rw [hb] at hk
    exact (hs.lt hk).2
  have HZ1 := Lib.hid z1
  clear z1 eW h hs b1 ih hts hsh hsW hl ho1 ho2 hnl
  -- behind the first region that draws
  have hsV : LaySt base lb gb g N vs es W.drew := HSW.out.on (Below.refl _ W).drew
  have hlV : W.drew.heap[lb]? = some (.cells #[.slice A1 vs.length c1, .slice A2 es.length c2] 140) := HL.out
  have HOWN2 : Hid ((W.drew.alloc (.cells #[.int .i64 0] 3)).ownsRow base 3 1 (.slice A2 es.length c2) es.length (es.map (Value.int .i64))) := own_below (w := W.drew) (HOWN.out : OwnI base W.drew _ es) (below_new W.drew _)
  have HNEW := Lib.hid (news_one W.drew (.int .i64 0) 3)
  have HONE := Lib.hid (one_int 0)
  have HX4 : Hid (∀ y : World, FrM (LayM lb gb) W y → Box4 y w.heap.size (.int .i64 t.form) (.int .i64 t.num) (.string t.name) (.slice A t.args.length c) ∧ TysAt (fun b => b < base) y t.args (.slice A t.args.length c)) := fun y hf =>
    ⟨HQ.out.frM hf (fun hm => by have := (HSW.out.lt hm); have h9 := hFWno _ hm; omega), HTS.out.keep (lay_keeps HSW.out hf)⟩
  have HST : Hid (∀ (w2 : World) (gg cap : Nat), w2.ownsRow base 3 1 (.slice (some ⟨gg, 0, none⟩) (es.length + 1) cap) (es.length + 1) (es.map (Value.int .i64) ++ [.int .i64 0]) → (W.drew.alloc (.cells #[.int .i64 0] 3)).grownBy w2 (Value.slice A2 es.length c2).ownBlock → ((Value.slice A2 es.length c2).ownBlock = some gg ∨ gg = W.heap.size + 1) →
      (w2.heap[lb]? = some (.cells #[.slice A1 vs.length c1, .slice A2 es.length c2] 140)) ∧ ∃ W1 w3, w2.setCell ⟨lb, 1, none⟩ (.slice (some ⟨gg, 0, none⟩) (es.length + 1) cap) = W1 ∧ Box4 W1 w.heap.size (.int .i64 t.form) (.int .i64 t.num) (.string t.name) (.slice A t.args.length c) ∧ (Instr.mapUpdate 156 (.map (some gb)) (.string t.name) (.int .i64 (d + 1))).run Tryz.prog W1 = .ok () w3 ∧ Box4 w3 w.heap.size (.int .i64 t.form) (.int .i64 t.num) (.string t.name) (.slice A t.args.length c) ∧ FrM (LayM lb gb) W w3 ∧
        Calls Tryz.prog 127 #[.pointer (some ⟨lb, 0, none⟩), .slice A t.args.length c, .map (some gb), .int .i64 (d + 1)] w3 (AddRes base lb gb (updG g t.name (d + 1)) (N + 1 + 2 * sumSz t.args) (vs ++ layVL (updG g t.name (d + 1)) (d + 1) t.args) ((es ++ [0]) ++ layEL vs.length t.args) w3)) := fun w2 gg cap h2 g2 hat => by
    obtain ⟨r1, r2, r3, r4⟩ := hsV.pushE hlV (below_new _ _) h2 g2 (by rcases hat with h9 | h9; (· exact .inl h9); exact .inr (by show W.heap.size ≤ gg; omega))
    have f1 : FrM (LayM lb gb) W (w2.setCell ⟨lb, 1, none⟩ (.slice (some ⟨gg, 0, none⟩) (es.length + 1) cap)) := (lay_below HSW.out (Below.refl _ W).drew).trans r3
    obtain ⟨w3, m1, m2, m3⟩ := r2.hm.store hnm (d + 1) (by omega)
    obtain ⟨s3, f3⟩ := r2.map m2 m3
    have f4 := f1.trans f3
    have hz := f4.size
    refine ⟨r1, _, w3, rfl, (HX4.out _ f1).1, m1, (HX4.out _ f4).1, f4, addAll_of base lb gb n HIH.out t.args _ (updG g t.name (d + 1)) (d + 1) (N + 1) vs (es ++ [0]) w3 HNL.out (HX4.out _ f4).2 HSHA.out s3 (by omega) (by omega) (by omega) (by simp; omega) (by omega) (by omega) hl2⟩
  have HBACK : Hid (∀ w3 w4 : World, FrM (LayM lb gb) W w3 → AddRes base lb gb (updG g t.name (d + 1)) (N + 1 + 2 * sumSz t.args) (vs ++ layVL (updG g t.name (d + 1)) (d + 1) t.args) ((es ++ [0]) ++ layEL vs.length t.args) w3 (.returned (.tuple #[])) w4 →
      Box4 w4 w.heap.size (.int .i64 t.form) (.int .i64 t.num) (.string t.name) (.slice A t.args.length c) ∧ ∃ w5, (Instr.mapUpdate 156 (.map (some gb)) (.string t.name) (.int .i64 (g t.name))).run Tryz.prog w4 = .ok () w5 ∧ ∃ (B1 : Option Addr) (k1 g2 k2 L M : Nat), es.length < L ∧ w5.drew.heap[lb]? = some (.cells #[.slice B1 M k1, .slice (some ⟨g2, 0, none⟩) L k2] 140) ∧ w5.heap[lb]? = some (.cells #[.slice B1 M k1, .slice (some ⟨g2, 0, none⟩) L k2] 140) ∧ (∃ u, w5.drew.cell? ⟨g2, es.length, none⟩ = some u) ∧ w5.drew.frozen? ⟨g2, es.length, none⟩ = false ∧
        AddRes base lb gb g (N + 2 * t.sz) (vs ++ layVL (updG g t.name (d + 1)) (d + 1) t.args) (es ++ ((vs.length + varsL t.args : Nat) : Int) :: layEL vs.length t.args) w (.returned (.tuple #[])) (w5.drew.setCell ⟨g2, es.length, none⟩ (.int .i64 (M : Int)))) := fun w3 w4 hf3 hr => by
    obtain ⟨_, s4, f4⟩ := hr
    have f5 := hf3.trans f4
    obtain ⟨w5, m1, m2, m3⟩ := s4.hm.store hnm (g t.name) (by omega)
    rw [upd_back] at m2
    obtain ⟨s5, f6⟩ := s4.map m2 m3
    refine ⟨(HX4.out _ f5).1, w5, m1, ?_⟩
    have s5d := s5.on (Below.refl _ w5).drew
    have f7 := (f5.trans f6).trans (lay_below s5 (Below.refl _ w5).drew)
    obtain ⟨u1, u2, l1, l2, l3⟩ := s5d.hl
    obtain ⟨B1, k1, rfl⟩ := own_form l2
    have hL : es.length < ((es ++ [0]) ++ layEL vs.length t.args).length := by simp only [List.length_append, List.length_cons, List.length_nil]; omega
    obtain ⟨g2, k2, rfl, _, _⟩ := World.ownsRow.form l3 (by omega)
    have hM : (vs ++ layVL (updG g t.name (d + 1)) (d + 1) t.args).length = vs.length + varsL t.args := by rw [List.length_append, layVL_len]
    obtain ⟨s8, f8⟩ := s5d.putE l1 es.length (((vs ++ layVL (updG g t.name (d + 1)) (d + 1) t.args).length : Nat) : Int)
    refine ⟨B1, k1, g2, k2, _, _, hL, l1, l1, ?_, World.ownsRow.frozenAt l3 _, rfl, ?_, (HFW.out.trans f7).trans f8⟩
    · rw [World.ownsRow.cellAt l3 _ (by omega)]
      rw [List.getElem?_map, List.getElem?_eq_getElem hL]
      exact ⟨_, rfl⟩
    · rw [set_mid, hM] at s8
      rw [hM]
      exact s8.more (by omega)
  clear HX4 hsV hlV HSW HL HFW HTS HIH HSHA HNL hnm
  generalize t.form = ff at *
  subst h5
  generalize hnn : t.name = nn at *
  clear hnn
  generalize g nn = gn at *
  generalize layVL (updG g nn (d + 1)) (d + 1) t.args = lv at *
  generalize updG g nn (d + 1) = ug at *
  go_enter Tryz.func118, Tryz.ntmps118
  go_wp2_with fail
  rw [HEW.out]
  go_wp2_with fail
  go_region
  go_upto_region 9 with (at_builtin; refine wpList_append_lies _ rfl (.tmp 53) (.tmp 54) 22 rfl base 3 i0 (.int .i64 0) 1 8 Tryz.underlying22 hi hz0 hzs hzb rfl (by decide) (.slice A2 es.length c2) es.length (es.map (Value.int .i64)) rfl HOWN2.out ⟨W.heap.size, 0, none⟩ 1 1 [.int .i64 0] rfl rfl HNEW.out HONE.out (by omega) (by unfold maxLen; omega) (by omega) (by simp; omega) (W.heap.size + 1) (by simp) ?_; intro gg cap w2 h2 g2 hat _; have r9 := HST.out w2 gg cap h2 g2 hat; obtain ⟨k0, k1, k2, k3, k4⟩ := two_cells r9.1; have HR9 := Lib.hid r9.2; clear r9 h2 g2 hat)
  refine Exists.elim HR9.out (fun W1 hw1 => Exists.elim hw1 (fun w3 hw3 => ?_))
  have HC := Lib.hid hw3.2.2.2.2.2
  have HF3 := Lib.hid hw3.2.2.2.2.1
  obtain ⟨u0, u1, u2, u3, u4, _⟩ := hw3.2.1
  obtain ⟨y0, y1, y2, y3, y4, _⟩ := hw3.2.2.2.1
  have hm1 := hw3.2.2.1
  rw [hw3.1]
  clear hw1 hw3 HR9 k0 k1 k2 k3 k4 p0 p1 p2 p3 p4 x0 x1 x2 x3 x4 hlk hlkd HOWN HOWN2 HNEW HONE HST
  go_wp2_with fail
  (with_reducible refine HC.out.mono ?_)
  intro e w4 h4
  refine Exists.elim (HBACK.out w3 w4 HF3.out (h4.1 ▸ h4)).2 (fun w5 h5 => ?_)
  obtain ⟨z0, z1, z2, z3, z4, _⟩ := (HBACK.out w3 w4 HF3.out (h4.1 ▸ h4)).1
  have hm2 := h5.1
  obtain ⟨B1, k1, g2, k2, L, M, hL, l1, l2, ⟨uu, l3⟩, l4, l5⟩ := h5.2
  have HRES := Lib.hid l5
  have he := h4.1
  subst he
  obtain ⟨a0, a1, a2, a3, a4⟩ := two_cells l1
  obtain ⟨b0, b1, b2, b3, b4⟩ := two_cells l2
  have hL0 : (es.length : Int) < (L : Int) := by omega
  have hL1 : (0 : Int) ≤ (es.length : Int) := by omega
  clear h4 h5 l1 l2 l5 HC HBACK hm1 u0 u1 u2 u3 u4 y0 y1 y2 y3 y4 HF3
  go_wp2_with fail
  go_region
  all_goals (go_wp2; go_end0; exact HRES.out)
theorem addIs (base lb gb : Nat) : ∀ n, AddIs base lb gb n := by
  intro n
  induction n with
  | zero => intro t v g d N vs es w hn; cases t <;> simp [Ty.sz] at hn
  | succ n ih =>
    intro t v g d N vs es w hn h hsh hs hba hN hv he hd0 hd
    by_cases h2 : t.form = 2
    · exact (add_var base lb gb g N vs es t v d w h hs hba hsh h2 (by omega)).mono (fun e w' hr => ⟨hr.1, hr.2.1.more (by omega), hr.2.2⟩)
    · by_cases h5 : t.form = 5
      · exact add_all base lb gb n ih t v g d N vs es w hn h hsh hs hba hN hv he hd0 hd h5
      · exact add_else base lb gb n ih t v g d N vs es w hn h hsh hs hba hN hv he hd0 hd h2 h5
end Go.Proofs.YtbdfjboojokgdaaGreatDoor
namespace Go.Proofs.YtbdfjboojokgdaaGreatDoor
open Go.RowKit

def zeroG : ByteArray → Int := fun _ => 0
theorem MapG.new0 (w : World) : MapG (w.alloc (.map #[] 0)) w.heap.size zeroG 0 := ⟨0, _, MapS.made Tryz.prog 9 w, Nat.le_refl _, fun _ => .inl ⟨rfl, rfl⟩⟩
set_option maxRecDepth 100000 in
set_option maxHeartbeats 1000000 in
theorem layoutOf_any (P : Nat → Prop) (t : Ty) (v : Value) (w : World) (h : TyAt P w t v) (hsh : t.short) (hz : t.sz ≤ 274877906944) :
    Calls Tryz.prog 101 #[v] w fun e w' => e = .returned (.pointer (some ⟨w.heap.size + 1, 0, none⟩)) ∧ LaySt w.heap.size (w.heap.size + 1) (w.heap.size + 1 + 1) zeroG (0 + 2 * t.sz) (layV zeroG 0 t) (layE 0 t) w' ∧ Below w.heap.size w w' := by
  obtain ⟨f1, n1, s1, A1, l1, c1, rfl⟩ := h.flat
  obtain ⟨X, eX, hst, bX, zX⟩ : ∃ X, (((w.alloc (.cells #[.int .i64 f1, .int .i64 n1, .string s1, .slice A1 l1 c1] 27)).alloc (.cells #[.slice none 0 0, .slice none 0 0] 140)).alloc (.map #[] 0)) = X ∧ LaySt w.heap.size (w.heap.size + 1) (w.heap.size + 1 + 1) zeroG 0 [] [] X ∧ Below w.heap.size w X ∧ X.heap.size = w.heap.size + 3 := by
    refine ⟨_, rfl, ?_, below3 w _ _ _, by simp⟩
    obtain ⟨w1, e1⟩ : ∃ w1, w.alloc (.cells #[.int .i64 f1, .int .i64 n1, .string s1, .slice A1 l1 c1] 27) = w1 := ⟨_, rfl⟩
    have z1 : w1.heap.size = w.heap.size + 1 := by rw [← e1]; simp
    rw [e1, ← z1]
    have k2 := (MapKept.heap_alloc w1 (.cells #[.slice none 0 0, .slice none 0 0] 140)).1
    obtain ⟨w2, e2⟩ : ∃ w2, w1.alloc (.cells #[.slice none 0 0, .slice none 0 0] 140) = w2 := ⟨_, rfl⟩
    have z2 : w2.heap.size = w1.heap.size + 1 := by rw [← e2]; simp
    rw [e2] at k2 ⊢
    rw [← z2]
    have k3 := MapG.new0 w2
    have b3 := below_new w2 (.map #[] 0)
    exact ⟨⟨by omega, by omega⟩, k3, .slice none 0 0, .slice none 0 0, (b3.block _ (by omega)).trans k2, World.ownsRow_nil _ _ _ _, OwnI.nil _ _⟩
  have HC := Lib.hid (addIs w.heap.size (w.heap.size + 1) (w.heap.size + 1 + 1) _ t _ zeroG 0 0 [] [] X (Nat.le_refl _) (h.bound'.on bX) hsh hst (by omega) (by omega) (by simp; omega) (by simp; omega) (by omega) (by omega))
  have HM := Lib.hid (fun k (hk : LayM (w.heap.size + 1) (w.heap.size + 1 + 1) X k) => (hst.lt hk).1)
  have HEX := Lib.hid eX
  have HB := Lib.hid bX
  have hmm : ∀ y : World, (Instr.makeMap 156 none).run Tryz.prog y = .ok (.map (some y.heap.size)) (y.alloc (.map #[] 0)) := fun y => run_makeMap 156 y
  clear eX hst h bX
  go_enter Tryz.func101, Tryz.ntmps101
  go_wp2_with fail
  rw [HEX.out]
  (with_reducible refine HC.out.mono ?_)
  rintro e y ⟨rfl, hs, hf⟩
  have HS := Lib.hid hs
  have HBY := Lib.hid (HB.out.trans (hf.below (by omega) HM.out))
  clear hs hf
  go_wp2
  go_ret
  exact ⟨rfl, by simpa using HS.out, HBY.out⟩
/-- What is known of which texts were met. -/
def KnowsS (w : World) (mb : Nat) (zs : List ByteArray) : Prop := ∃ sz f, MapS Tryz.prog 9 w mb sz f ∧ sz ≤ zs.length ∧ ∀ x, f x = if hasB zs x = true then some (.bool true) else none
theorem KnowsS.block {w w' : World} {mb : Nat} {zs : List ByteArray} (h : KnowsS w mb zs) (hb : w'.heap[mb]? = w.heap[mb]?) : KnowsS w' mb zs := by
  obtain ⟨sz, f, h, r⟩ := h; exact ⟨sz, f, h.block hb, r⟩
theorem KnowsS.lt {w : World} {mb : Nat} {zs : List ByteArray} (h : KnowsS w mb zs) : mb < w.heap.size := by obtain ⟨sz, f, h, r⟩ := h; exact h.lt
theorem KnowsS.notCells {w : World} {mb : Nat} {zs : List ByteArray} (h : KnowsS w mb zs) {cs : Array Value} {t : TypeId} {b : Nat} (hb : w.heap[b]? = some (.cells cs t)) : b ≠ mb := fun e => by
  subst e
  obtain ⟨sz, f, ⟨D, ⟨es, clock, hb', _⟩, _⟩, _⟩ := h
  rw [hb] at hb'; cases hb'
theorem KnowsS.look {w : World} {mb : Nat} {zs : List ByteArray} (h : KnowsS w mb zs) {x : ByteArray} (hx : x.size ≤ 1099511627776) : (Instr.lookup 137 (.map (some mb)) (.string x) false).run Tryz.prog w = .ok (.bool (hasB zs x)) w := by
  obtain ⟨sz, f, h, _, hf⟩ := h
  have h9 := h.look (t := 137) (e := 4) Tryz.underlying9 Tryz.underlying137 zero4 (x := x) (by unfold maxLen; omega)
  rw [h9, hf x]
  cases hasB zs x <;> rfl
theorem hasB_snoc (zs : List ByteArray) (x y : ByteArray) : hasB (zs ++ [x]) y = (hasB zs y || decide (x = y)) := by simp [hasB]
theorem KnowsS.store {w : World} {mb : Nat} {zs : List ByteArray} (h : KnowsS w mb zs) {x : ByteArray} (hx : x.size ≤ 1099511627776) (hl : zs.length ≤ 1099511627776) (hn : hasB zs x = false) :
    ∃ w', (Instr.mapUpdate 137 (.map (some mb)) (.string x) (.bool true)).run Tryz.prog w = .ok () w' ∧ KnowsS w' mb (zs ++ [x]) ∧ w.grownBy w' (some mb) := by
  obtain ⟨sz, f, h, hs, hf⟩ := h
  obtain ⟨w', r1, r2, r3⟩ := h.store (t := 137) (e := 4) Tryz.underlying9 Tryz.underlying137 (by unfold maxLen; omega) (.bool true) (x := x) (by unfold maxLen; omega)
  refine ⟨w', r1, ⟨_, _, r2, ?_, fun y => ?_⟩, r3⟩
  · rw [List.length_append]; simp; split <;> omega
  · unfold setS
    rw [hasB_snoc]
    by_cases e : y = x
    · subst e; simp
    · rw [if_neg e, hf y]; simp [Ne.symm e]
theorem spot_at (vs : List (ByteArray × Int)) : ∀ (k : Nat) (h : k < vs.length), (spotCells vs)[k * 2]? = some (.string vs[k].1) ∧ (spotCells vs)[k * 2 + 1]? = some (.int .i64 vs[k].2) := by
  induction vs with
  | nil => intro k h; exact absurd h (Nat.not_lt_zero _)
  | cons p r ih =>
    intro k h
    have e : spotCells (p :: r) = spotC p ++ spotCells r := by simp [spotCells]
    rw [e]
    cases k with
    | zero => exact ⟨rfl, rfl⟩
    | succ k =>
      have h1 := ih k (by simpa using h)
      have hl : (spotC p).length = 2 := rfl
      rw [List.getElem?_append_right (by rw [hl]; omega), List.getElem?_append_right (by rw [hl]; omega), hl, show (k + 1) * 2 - 2 = k * 2 by omega, show (k + 1) * 2 + 1 - 2 = k * 2 + 1 by omega]
      exact h1
theorem OwnV.at {base : Nat} {w : World} {A : Option Addr} {n c : Nat} {vs : List (ByteArray × Int)} (h : OwnV base w (.slice A n c) vs) (k : Nat) (hk : k < vs.length) : ∃ g, A = some ⟨g, 0, none⟩ ∧ g < w.heap.size ∧ w.cell? ⟨g, k * 2, none⟩ = some (.string vs[k].1) ∧ w.cell? ⟨g, k * 2 + 1, none⟩ = some (.int .i64 vs[k].2) := by
  obtain ⟨g, cap, e, _, hg⟩ := World.ownsRow.form h (by omega)
  injection e with e1 e2 e3
  subst e1 e2
  have hs := spot_at vs k hk
  exact ⟨g, rfl, hg, by rw [World.ownsRow.cellAt h _ (by omega)]; exact hs.1, by rw [World.ownsRow.cellAt h _ (by omega)]; exact hs.2⟩
theorem layV_short (g : ByteArray → Int) (d : Int) (t : Ty) (h : t.short) : ∀ p ∈ layV g d t, p.1.size ≤ 1099511627776 := by
  induction t generalizing g d with
  | hole n => intro p hp; simp [layV] at hp
  | con s => intro p hp; simp [layV] at hp
  | var s => intro p hp; simp [layV] at hp; subst hp; exact h
  | app a b iha ihb =>
    intro p hp
    simp only [layV, List.mem_append] at hp
    rcases hp with hp | hp
    · exact iha _ _ h.1 p hp
    · exact ihb _ _ h.2 p hp
  | all s a ih => intro p hp; exact ih _ _ h.2 p hp
end Go.Proofs.YtbdfjboojokgdaaGreatDoor
namespace Go.Proofs.YtbdfjboojokgdaaGreatDoor
open Go.RowKit

theorem freeS_one {out : List ByteArray} {p : ByteArray × Int} (h1 : p.2 = 0) (h2 : hasB out p.1 = false) : freeS out p = out ++ [p.1] := by unfold freeS; rw [if_pos ⟨h1, h2⟩]
theorem freeS_no {out : List ByteArray} {p : ByteArray × Int} (h : p.2 ≠ 0 ∨ hasB out p.1 = true) : freeS out p = out := by
  unfold freeS; rw [if_neg]; rintro ⟨h1, h2⟩; rcases h with h | h
  · exact h h1
  · rw [h2] at h; cases h
theorem own_lower {w : World} {base b2 : Nat} {e : TypeId} {size : Nat} {v : Value} {n : Nat} {xs : List Value} (h : w.ownsRow base e size v n xs) (hb : b2 ≤ base) : w.ownsRow b2 e size v n xs := by
  refine ⟨h.1, ?_⟩
  rcases h.2 with h2 | ⟨g, cap, cur, h1, h2, h3⟩
  · exact .inl h2
  · exact .inr ⟨g, cap, cur, h1, by omega, h3⟩
/-- What the loop of Free knows. -/
structure FreeSt (base mb : Nat) (Y : World) (out : List ByteArray) (o : Value) (wr : World) : Prop where
  own : OwnS base wr o out
  knows : KnowsS wr mb out
  fr : Fr (fun b => b = mb) Y wr
theorem FreeSt.below {base mb : Nat} {Y wr w' : World} {out : List ByteArray} {o : Value} (h : FreeSt base mb Y out o wr) (hb : Below wr.heap.size wr w') : FreeSt base mb Y out o w' :=
  ⟨own_below h.own hb, h.knows.block (hb.block mb h.knows.lt), h.fr.trans (.of_below hb)⟩
set_option maxRecDepth 100000 in
set_option maxHeartbeats 1000000 in
theorem free_any (P : Nat → Prop) (t : Ty) (v : Value) (w : World) (h : TyAt P w t v) (hsh : t.short) (hz : t.sz ≤ 274877906944) :
    Calls Tryz.prog 79 #[v] w fun e w' => (∃ u, e = .returned u ∧ OwnS w.heap.size w' u t.free) ∧ Below w.heap.size w w' := by
  obtain ⟨f1, n1, s1, A1, l1, c1, rfl⟩ := h.flat
  obtain ⟨X, eX, hkn, bX, zX⟩ : ∃ X, ((w.alloc (.cells #[.int .i64 f1, .int .i64 n1, .string s1, .slice A1 l1 c1] 27)).alloc (.map #[] 0)) = X ∧ KnowsS X (w.heap.size + 1) [] ∧ Below w.heap.size w X ∧ X.heap.size = w.heap.size + 2 := by
    refine ⟨_, rfl, ?_, below2 w _ _, by simp⟩
    obtain ⟨w1, e1⟩ : ∃ w1, w.alloc (.cells #[.int .i64 f1, .int .i64 n1, .string s1, .slice A1 l1 c1] 27) = w1 := ⟨_, rfl⟩
    have z1 : w1.heap.size = w.heap.size + 1 := by rw [← e1]; simp
    rw [e1, ← z1]
    exact ⟨0, _, MapS.made Tryz.prog 9 w1, Nat.le_refl _, fun x => rfl⟩
  have HC := Lib.hid (layoutOf_any _ t _ X (h.bound'.on bX) hsh hz)
  have hvl := layV_len zeroG 0 t
  have hvz := vars_le t
  have hvle : (layV zeroG 0 t).length ≤ 274877906944 := by omega
  clear hvl hvz
  have HSHV := Lib.hid (layV_short zeroG 0 t hsh)
  have HF : Hid (t.free = freeL (layV zeroG 0 t)) := rfl
  obtain ⟨i0, hi, hz0, hzs, hzb⟩ := info_parts' Tryz.info9
  have HEX := Lib.hid eX
  have HB := Lib.hid bX
  have HKN := Lib.hid hkn
  have hmm : ∀ y : World, (Instr.makeMap 137 none).run Tryz.prog y = .ok (.map (some y.heap.size)) (y.alloc (.map #[] 0)) := fun y => run_makeMap 137 y
  have HZX := Lib.hid zX
  have hzX : w.heap.size + 1 < X.heap.size := by omega
  clear eX hkn h bX hsh zX
  generalize layV zeroG 0 t = vs at *
  rw [HF.out]
  go_enter Tryz.func79, Tryz.ntmps79
  go_wp2_with fail
  rw [HEX.out]
  go_wp2_with fail
  (with_reducible refine HC.out.mono ?_)
  rintro e Y ⟨rfl, hs, hb⟩
  obtain ⟨v1, v2, hl, ho1, ho2⟩ := hs.hl
  obtain ⟨Av, cv, rfl⟩ := own_form ho1
  obtain ⟨p0, p1, p2, p3, p4⟩ := two_cells hl
  have HO1 := Lib.hid ho1
  have HY := Lib.hid hb
  have hYs := hb.size
  have HST : Hid (FreeSt Y.heap.size (w.heap.size + 1) Y [] (.slice none 0 0) Y) := ⟨OwnS.nil _ _, HKN.out.block (hb.block _ hzX), Fr.refl _ _⟩
  have HNE : Hid (∀ g, (Value.slice Av vs.length cv).ownBlock = some g → g ≠ w.heap.size + 1) := fun g hg e => by have := (World.ownsRow.lt ho1 g hg).1; omega
  clear hs hb hl ho1 ho2 HC
  go_wp2_with fail
  go_loopw [14, 3] (fun i o wr => ∃ k : Nat, k ≤ vs.length ∧ i = .int .i64 k ∧ FreeSt Y.heap.size (w.heap.size + 1) Y (freeL (vs.take k)) o wr) (fun i _ _ => vs.length - (intOf i).toNat)
  case atStart => exact ⟨0, Nat.zero_le _, rfl, by simpa [freeL] using HST.out⟩
  case round =>
    obtain ⟨k, hk, rfl, hst⟩ := hrel
    obtain ⟨A5, c5, rfl⟩ := own_form hst.own
    have HSTK := Lib.hid hst
    have hzr := hst.fr.size
    by_cases hlt : k < vs.length
    · have hov : OwnV X.heap.size wr (.slice Av vs.length cv) vs := own_keep HO1.out (fun g hg => hst.fr.block g (World.ownsRow.lt HO1.out g hg).2 (HNE.out g hg))
      obtain ⟨g, e1, hg, m0, m1⟩ := hov.at k hlt
      subst e1
      have hki : (k : Int) < (vs.length : Int) := by omega
      have hk0 : (0 : Int) ≤ (k : Int) := by omega
      have hsz : (vs[k]).1.size ≤ 1099511627776 := HSHV.out _ (List.getElem_mem hlt)
      have hfl := freeL_len (vs.take k)
      have htl : (vs.take k).length ≤ k := List.length_take_le _ _
      obtain ⟨V, eV, bV, zV, q⟩ : ∃ V, wr.alloc (.cells #[.string vs[k].1, .int .i64 vs[k].2] 144) = V ∧ Below wr.heap.size wr V ∧ V.heap.size = wr.heap.size + 1 ∧ V.heap[wr.heap.size]? = some (.cells #[.string vs[k].1, .int .i64 vs[k].2] 144) := ⟨_, rfl, below_new _ _, by simp, (MapKept.heap_alloc _ _).1⟩
      have hsV := hst.below bV
      have hlk := hsV.knows.look hsz
      have HTK := Lib.hid (freeL_take hlt)
      have HEV := Lib.hid eV
      have HSV := Lib.hid hsV
      obtain ⟨u0, u1, u2, u3, u4⟩ := two_cells q
      have HZV := Lib.hid zV
      clear eV hst hov hsV zV
      by_cases hd : (vs[k]).2 = 0
      · cases hh : hasB (freeL (vs.take k)) (vs[k]).1 with
        | true =>
          rw [hh] at hlk
          have HR : Hid (freeL (vs.take (k + 1)) = freeL (vs.take k)) := by show _ = _; rw [HTK.out, freeS_no (.inr hh)]
          clear hh
          rw [hd] at u1 HEV m1
          generalize (vs[k]).1 = sn at *
          clear hd
          go_upto_region 6 with (fail)
          rw [HEV.out]
          go_wp2
          go_roundw
          case rel => exact ⟨k + 1, by omega, by go_num, by rw [HR.out]; exact HSV.out⟩
          case measure => simp [intOf]; omega
        | false =>
          rw [hh] at hlk
          have HR : Hid (freeL (vs.take (k + 1)) = freeL (vs.take k) ++ [(vs[k]).1]) := by show _ = _; rw [HTK.out, freeS_one hd hh]
          obtain ⟨w1, hr1, hk1, hg1⟩ := HSV.out.knows.store hsz (by omega) hh
          have hz1 := hg1.size
          have hmbV := HSV.out.knows.lt
          have hnm : wr.heap.size ≠ w.heap.size + 1 := by omega
          have q1 := (hg1.block wr.heap.size (by rw [HZV.out]; omega) (fun e => by injection e with e; exact hnm e)).trans q
          obtain ⟨y0, y1, y2, y3, y4⟩ := two_cells q1
          have hown1 : OwnS Y.heap.size w1 (.slice A5 (freeL (vs.take k)).length c5) (freeL (vs.take k)) := own_keep HSV.out.own (fun g hg => hg1.block g (World.ownsRow.lt HSV.out.own g hg).2 (fun e => by
            injection e with e
            have := (World.ownsRow.lt HSV.out.own g hg).1; omega))
          have HOWN := Lib.hid (own_below hown1 (below_new w1 (.cells #[.string vs[k].1] 9)))
          have HNEW := Lib.hid (news_one w1 (.string vs[k].1) 9)
          have HONE := Lib.hid (one_str vs[k].1)
          have HST : Hid (∀ (w2 : World) (gg cap : Nat), w2.ownsRow Y.heap.size 9 1 (.slice (some ⟨gg, 0, none⟩) ((freeL (vs.take k)).length + 1) cap) ((freeL (vs.take k)).length + 1) ((freeL (vs.take k)).map Value.string ++ [.string vs[k].1]) → (w1.alloc (.cells #[.string vs[k].1] 9)).grownBy w2 (Value.slice A5 (freeL (vs.take k)).length c5).ownBlock →
              FreeSt Y.heap.size (w.heap.size + 1) Y (freeL (vs.take k) ++ [vs[k].1]) (.slice (some ⟨gg, 0, none⟩) ((freeL (vs.take k)).length + 1) cap) w2) := fun w2 gg cap h2 g2 => by
            have hlo : ∀ j, (Value.slice A5 (freeL (vs.take k)).length c5).ownBlock = some j → Y.heap.size ≤ j := fun j hj => (World.ownsRow.lt HSV.out.own j hj).1
            have hz2 := g2.size
            simp only [World.size_alloc] at hz2
            refine ⟨?_, ?_, ?_⟩
            · unfold OwnS; rw [List.map_append, List.length_append]; exact h2
            · exact hk1.block ((g2.block _ (by simp; omega) (fun e => by have := hlo _ e.symm; omega)).trans ((below_new w1 _).block _ (by omega)))
            · have hfv := HSV.out.fr
              have hsv := hfv.size
              exact ⟨g2.os.trans (hg1.os.trans hfv.os), g2.tape.trans (hg1.tape.trans hfv.tape), g2.output.trans (hg1.output.trans hfv.output), by omega, fun j hj hn => ((((g2.block j (by simp; omega) (fun e => by have := hlo _ e.symm; omega)).trans ((below_new w1 _).block _ (by omega))).trans (hg1.block j (by omega) (fun e => by injection e with e; exact hn e))).trans (hfv.block j hj hn))⟩
          have hbw1 : Y.heap.size ≤ w1.heap.size := by omega
          have hfl2 : (freeL (vs.take k)).length ≤ 274877906944 := by omega
          clear hown1 hk1 hg1 q1 hh hfl htl q
          rw [hd] at u1 HEV m1 y1
          generalize (freeL (vs.take k)).map Value.string = mv at *
          generalize (freeL (vs.take k)).length = ml at *
          generalize (vs[k]).1 = sn at *
          clear hd
          go_upto_region 6 with (fail)
          rw [HEV.out]
          go_wp2_with (at_builtin; refine wpList_append_lies _ rfl (.tmp 31) (.tmp 34) 23 rfl Y.heap.size 9 i0 (.string ⟨#[]⟩) 1 16 Tryz.underlying23 hi hz0 hzs hzb rfl (by decide) (.slice A5 ml c5) ml mv rfl HOWN.out ⟨w1.heap.size, 0, none⟩ 1 1 [.string sn] rfl rfl HNEW.out HONE.out (by omega) (by unfold maxLen; omega) (by omega) (by simp; omega) (w1.heap.size + 1) (by simp) ?_; intro gg cap w2 h2 g2 _ _; have HP := Lib.hid (HST.out w2 gg cap h2 g2); clear h2 g2)
          go_roundw
          case rel => exact ⟨k + 1, by omega, by go_num, by rw [HR.out]; exact HP.out⟩
          case measure => simp [intOf]; omega
      · have HR : Hid (freeL (vs.take (k + 1)) = freeL (vs.take k)) := by show _ = _; rw [HTK.out, freeS_no (.inl hd)]
        have hdd : ((vs[k]).2 == 0) = false := by simpa using hd
        generalize (vs[k]).1 = sn at *
        generalize (vs[k]).2 = dn at *
        go_upto_region 6 with (fail)
        rw [HEV.out]
        go_wp2
        go_roundw
        case rel => exact ⟨k + 1, by omega, by go_num, by rw [HR.out]; exact HSV.out⟩
        case measure => simp [intOf]; omega
    · have hdk : decide (k < vs.length) = false := by simpa using hlt
      have hkl : vs.take k = vs := List.take_of_length_le (by omega)
      rw [hkl] at HSTK
      have HRES : Hid ((∃ u, Ending.returned (.slice A5 (freeL (vs.take k)).length c5) = .returned u ∧ OwnS w.heap.size wr u (freeL vs)) ∧ Below w.heap.size w wr) := by
        have hb1 : Below w.heap.size w Y := HB.out.trans (HY.out.mono HB.out.size)
        refine ⟨⟨_, rfl, ?_⟩, hb1.trans (Fr.below hst.fr (by omega) (fun j hj => by omega))⟩
        have h9 := HSTK.out.own
        rw [hkl]
        exact own_lower h9 (by omega)
      clear hkl hst
      go_wp2
      go_ret
      exact HRES.out
end Go.Proofs.YtbdfjboojokgdaaGreatDoor
