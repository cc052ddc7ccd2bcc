/- The contracts of a layout's add and addAll (types of chapter 4). Condition: names are of at most 2^40 bytes, the type has at most 2^40 nodes. -/
import Derived.Test.YtbdfjboojokgdaaDoorLay
namespace Go.Proofs.YtbdfjboojokgdaaDoor
open Go.RowKit

theorem Tryd.info93 : (Tryd.prog.info? 93).map (fun i => (i.zero, i.size, i.bytes)) = some (some (.agg #[.string ⟨#[]⟩, .int .i64 0]), 2, 24) := by kernel_rfl
theorem news_two (w : World) (u1 u2 : Value) (t : TypeId) : ∀ j x, [u1, u2][j]? = some x → (w.alloc (.cells #[u1, u2] t)).cell? ((⟨w.heap.size, 0, none⟩ : Addr).add j) = some x := by
  intro j x hj
  match j with
  | 0 => simp at hj; subst hj; simp [go_sem, Addr.add]
  | 1 => simp at hj; subst hj; simp [go_sem, Addr.add]
  | j + 2 => simp at hj
theorem one_spot (s : ByteArray) (n : Int) : ∀ u ∈ spotC (s, n), u.oneCell' = true := by intro u hu; simp [spotC] at hu; rcases hu with rfl | rfl <;> rfl
/-- What add tells. -/
def AddRes (base lb gb : Nat) (g : ByteArray → Int) (N : Nat) (vs : List (ByteArray × Int)) (es : List Int) (w : World) (e : Ending) (w' : World) : Prop := e = .returned (.tuple #[]) ∧ LaySt base lb gb g N vs es w' ∧ FrM (LayM lb gb) w w'
set_option maxRecDepth 100000 in
set_option maxHeartbeats 1000000 in
theorem add_var (base lb gb : Nat) (g : ByteArray → Int) (N : Nat) (vs : List (ByteArray × Int)) (es : List Int) (t : Ty) (v : Value) (d : Int) (w : World) (h : TyAt (fun b => b < base) w t v) (hs : LaySt base lb gb g N vs es w) (hba : base ≤ w.heap.size) (hsh : t.short) (hf : t.form = 2) (hz : vs.length ≤ 1099511627776) :
    Calls Tryd.prog 101 #[.pointer (some ⟨lb, 0, none⟩), v, .map (some gb), .int .i64 d] w (AddRes base lb gb g N (vs ++ layV g d t) (es ++ layE vs.length t) w) := by
  obtain ⟨A, c, rfl, _, _⟩ := h.form
  rw [layV_var hf, layE_var hf, List.append_nil]
  have hnm := Ty.short_name hsh
  obtain ⟨W, eW, q1, b1, z1⟩ := one_box w (.int .i64 t.form) (.int .i64 t.num) (.string t.name) (.slice A t.args.length c) 25
  have HEW := Lib.hid eW
  have hsW := hs.on b1
  obtain ⟨v1, v2, hl, ho1, ho2⟩ := hs.hl
  have hlW : W.heap[lb]? = some (.cells #[v1, v2] 89) := (b1.block lb hs.lb_lt).trans hl
  obtain ⟨A1, c1, rfl⟩ := own_form ho1
  obtain ⟨p0, p1, p2, p3, p4⟩ := two_cells hlW
  have hlk := hsW.hm.look hnm
  have hlkd := (hsW.hm.on (Below.refl _ W).drew).look hnm
  obtain ⟨x0, x1, x2, x3, x4, _⟩ := q1
  obtain ⟨i0, hi, hz0, hzs, hzb⟩ := info_parts' Tryd.info93
  have HOWN : Hid (W.ownsRow base 93 2 (.slice A1 vs.length c1) vs.length (spotCells vs)) := own_below ho1 b1
  have HNEW := Lib.hid (news_two W (.string t.name) (.int .i64 (g t.name)) 93)
  have HNEWD := Lib.hid (news_two W.drew (.string t.name) (.int .i64 (g t.name)) 93)
  have HONE := Lib.hid (one_spot t.name (g t.name))
  have HST : Hid (∀ (Y w2 : World) (gg cap : Nat), Below W.heap.size W Y → w2.ownsRow base 93 2 (.slice (some ⟨gg, 0, none⟩) (vs.length + 1) cap) (vs.length + 1) (spotCells vs ++ [.string t.name, .int .i64 (g t.name)]) → Y.grownBy w2 (Value.slice A1 vs.length c1).ownBlock → ((Value.slice A1 vs.length c1).ownBlock = some gg ∨ gg = W.heap.size + 1) →
      w2.heap[lb]? = some (.cells #[.slice A1 vs.length c1, v2] 89) ∧ AddRes base lb gb g N (vs ++ [(t.name, g t.name)]) es w (.returned (.tuple #[])) (w2.setCell ⟨lb, 0, none⟩ (.slice (some ⟨gg, 0, none⟩) (vs.length + 1) cap))) := fun Y w2 gg cap hY h2 g2 hat => by
    obtain ⟨r1, r2, r3⟩ := hs.pushV (p := (t.name, g t.name)) hl (b1.trans (hY.mono b1.size)) h2 g2 (by rcases hat with h9 | h9; (· exact .inl h9); exact .inr (by omega))
    exact ⟨r1, rfl, r2, r3⟩
  have HS1 := Lib.hid (fun w2 gg cap => HST.out _ w2 gg cap (below_new W (.cells #[.string t.name, .int .i64 (g t.name)] 93)))
  have HS2 := Lib.hid (fun w2 gg cap => HST.out _ w2 gg cap (below_new W (.cells #[.string t.name, .int .i64 (g t.name)] 93)).drew)
  have hbW : base ≤ W.heap.size := by omega
  have HZ1 := Lib.hid z1
  clear HST
  clear z1 eW h hs b1 hsW hl hlW ho1 ho2 hsh hnm
  generalize t.form = ff at *
  subst hf
  generalize t.name = nn at *
  generalize g nn = gn at *
  go_enter Tryd.func101, Tryd.ntmps101
  go_wp2_with fail
  rw [HEW.out]
  go_wp2_with fail
  have HOWN2 := Lib.hid (own_below HOWN.out (below_new W (.cells #[.string nn, .int .i64 gn] 93)))
  go_region_law (refine step_append_lies _ rfl (.tmp 24) (.tmp 32) 87 rfl base 93 i0 (.agg #[.string ⟨#[]⟩, .int .i64 0]) 2 24 Tryd.underlying87 hi hz0 hzs hzb rfl (by decide) (.slice A1 vs.length c1) vs.length (spotCells vs) rfl HOWN2.out ⟨W.heap.size, 0, none⟩ 1 1 [.string nn, .int .i64 gn] rfl rfl HNEW.out HONE.out (by omega) (by unfold maxLen; omega) (by omega) (by simp; omega) (W.heap.size + 1) (by simp) ?_; intro gg cap w2 h2 g2 hat _; (first | have r9 := HS1.out w2 gg cap h2 g2 hat | have r9 := HS2.out w2 gg cap h2 g2 hat); have HR := Lib.hid r9.2; obtain ⟨k0, k1, k2, k3, k4⟩ := two_cells r9.1; clear r9 h2 g2 hat)
  all_goals (go_wp2; go_end0; exact HR.out)
def AddIs (base lb gb n : Nat) : Prop := ∀ (t : Ty) (v : Value) (g : ByteArray → Int) (d : Int) (N : Nat) (vs : List (ByteArray × Int)) (es : List Int) (w : World), t.sz ≤ n → TyAt (fun b => b < base) w t v → t.short → LaySt base lb gb g N vs es w → base ≤ w.heap.size → N + 2 * t.sz ≤ 1099511627776 → vs.length + t.sz ≤ 1099511627776 → es.length + t.sz ≤ 1099511627776 → 0 ≤ d → d + t.sz ≤ 1099511627776 →
    Calls Tryd.prog 101 #[.pointer (some ⟨lb, 0, none⟩), v, .map (some gb), .int .i64 d] w (AddRes base lb gb g (N + 2 * t.sz) (vs ++ layV g d t) (es ++ layE vs.length t) w)
set_option maxRecDepth 100000 in
set_option maxHeartbeats 1000000 in
theorem addAll_of (base lb gb n : Nat) (ih : AddIs base lb gb n) (ts : List Ty) (v : Value) (g : ByteArray → Int) (d : Int) (N : Nat) (vs : List (ByteArray × Int)) (es : List Int) (w : World) (hn : ∀ x ∈ ts, x.sz ≤ n) (h : TysAt (fun b => b < base) w ts v) (hsh : ∀ x ∈ ts, x.short) (hs : LaySt base lb gb g N vs es w) (hba : base ≤ w.heap.size)
    (hN : N + 2 * sumSz ts ≤ 1099511627776) (hv : vs.length + sumSz ts ≤ 1099511627776) (he : es.length + sumSz ts ≤ 1099511627776) (hd0 : 0 ≤ d) (hd : d + sumSz ts ≤ 1099511627776) (hl2 : ts.length ≤ 2) :
    Calls Tryd.prog 133 #[.pointer (some ⟨lb, 0, none⟩), v, .map (some gb), .int .i64 d] w (AddRes base lb gb g (N + 2 * sumSz ts) (vs ++ layVL g d ts) (es ++ layEL vs.length ts) w) := by
  obtain ⟨A, c, rfl, hc, hm⟩ := h.form
  have HI := Lib.hid ih
  have HN := Lib.hid hn
  have HSH := Lib.hid hsh
  have HT := Lib.hid h
  have HS0 := Lib.hid hs
  clear ih hn hsh h hs
  go_enter Tryd.func133, Tryd.ntmps133
  go_wp2_with fail
  go_loopw [12] (fun i wr => ∃ k : Nat, k ≤ ts.length ∧ i = .int .i64 k ∧ LaySt base lb gb g (N + 2 * sumSz (ts.take k)) (vs ++ layVL g d (ts.take k)) (es ++ layEL vs.length (ts.take k)) wr ∧ FrM (LayM lb gb) w wr) (fun i _ => ts.length - (intOf i).toNat)
  case atStart => exact ⟨0, Nat.zero_le _, rfl, by simpa [layVL, layEL, sumSz] using HS0.out, ⟨rfl, rfl, rfl, Nat.le_refl _, fun _ _ _ => rfl, fun _ _ h => h⟩⟩
  case round =>
    obtain ⟨k, hk, rfl, hsk, hfk⟩ := hrel
    have HSK := Lib.hid hsk
    have HFK := Lib.hid hfk
    have hzk := hfk.size
    by_cases hlt : k < ts.length
    · obtain ⟨gq, off, A3, c3, e3, hgb, hg, m0, m1, m2, m3, hx⟩ := (HT.out.keep (lay_keeps HS0.out hfk)).at k hlt
      subst e3
      have hmem : ts[k] ∈ ts := List.getElem_mem hlt
      obtain ⟨V, eV, q2, b2, z2⟩ := one_box wr (.int .i64 ts[k].form) (.int .i64 ts[k].num) (.string ts[k].name) (.slice A3 ts[k].args.length c3) 25
      have hso := sumSz_one hlt
      have htk := sumSz_take hlt
      have hvl := layVL_len g d (ts.take k)
      have hvv := varsL_le (ts.take k)
      have hel := layEL_le vs.length (ts.take k)
      have hcal := HI.out ts[k] _ g d (N + 2 * sumSz (ts.take k)) (vs ++ layVL g d (ts.take k)) (es ++ layEL vs.length (ts.take k)) V (HN.out _ hmem) (hx.on b2) (HSH.out _ hmem) (hsk.on b2) (by omega) (by omega) (by simp; omega) (by simp; omega) hd0 (by omega)
      rw [List.append_assoc, List.append_assoc, ← layVL_take hlt, List.length_append, hvl, ← layEL_take hlt, Nat.add_assoc, ← Nat.mul_add, ← htk] at hcal
      have HC := Lib.hid hcal
      have HFV := Lib.hid (hfk.trans (lay_below hsk b2))
      have HEV := Lib.hid eV
      have hki : (k : Int) < (ts.length : Int) := by omega
      have hk0 : (0 : Int) ≤ (k : Int) := by omega
      obtain ⟨u0, u1, u2, u3, u4, _⟩ := q2
      clear hx hsk hfk eV b2 hcal hso htk hvl hvv hel
      generalize ts[k] = x at *
      generalize x.form = xf, x.num = xn, x.name = xs, x.args.length = xl at *
      go_wp2_with fail
      rw [HEV.out]
      go_wp2_with fail
      refine HC.out.mono ?_
      rintro e w2 ⟨rfl, hs2, hf2⟩
      have HS2 := Lib.hid hs2
      have HF2 := Lib.hid (HFV.out.trans hf2)
      clear hs2 hf2
      go_wp2
      go_roundw
      case rel => exact ⟨k + 1, by omega, by go_num, HS2.out, HF2.out⟩
      case measure => simp [intOf]; omega
    · have hdk : decide (k < ts.length) = false := by simpa using hlt
      have hkl : ts.take k = ts := List.take_of_length_le (by omega)
      rw [hkl] at HSK
      clear hkl hsk hfk
      go_wp2
      go_end0
      exact ⟨rfl, HSK.out, HFK.out⟩
end Go.Proofs.YtbdfjboojokgdaaDoor
