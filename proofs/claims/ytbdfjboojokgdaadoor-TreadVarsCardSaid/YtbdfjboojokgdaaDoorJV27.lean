/- The contract of tread.Preds (chapter 5). Conditions: at most 2^40 tokens, the last one an end; symbols bear no number. The contract of tread's variables (chapter 5). Conditions: names are of at most 2^40 bytes, the types have at most 2^37 nodes. -/
import Derived.Test.YtbdfjboojokgdaaDoorJV21
import Derived.Test.YtbdfjboojokgdaaDoorJV26
namespace Go.Proofs.YtbdfjboojokgdaaDoor
open Go.RowKit Lx

theorem PRow.lower {base b2 : Nat} {w : World} {ps : List (ByteArray × Ty)} {v : Value} (h : PRow base w ps v) (hb : b2 ≤ base) : PRow b2 w ps v := by
  obtain ⟨cs, ho, ht⟩ := h
  refine ⟨cs, own_lower ho hb, fun i hi => ?_⟩
  obtain ⟨x0, x1, x2, x3, c0, c1, c2, c3, c4, hx⟩ := ht i hi
  exact ⟨x0, x1, x2, x3, c0, c1, c2, c3, c4, hx.mono (fun b hb2 => ⟨by omega, hb2.2⟩)⟩
/-- What Preds told. -/
def TopRes (toks : List Tok) (i place : Nat) (out : Option (List (ByteArray × Ty) × List Tok)) (w : World) (e : Ending) (w' : World) : Prop :=
  match out with
  | none => e = .returned (.tuple #[.slice none 0 0, .int .i64 i, .agg #[.int .i64 0, .int .i64 0]]) ∧ Below w.heap.size w w'
  | some (ps, q) => (16 < ps.length ∧ e = .returned (.tuple #[.slice none 0 0, .int .i64 0, .agg #[.int .i64 2, .int .i64 place]]) ∧ Below w.heap.size w w') ∨
      (ps.length ≤ 16 ∧ ∃ A c, e = .returned (.tuple #[.slice A ps.length c, .int .i64 ((toks.length - q.length : Nat) : Int), .agg #[.int .i64 0, .int .i64 0]]) ∧ PRow w.heap.size w' ps (.slice A ps.length c) ∧ Below w.heap.size w w' ∧ q <:+ toks ∧ q ≠ [])
theorem preds_boxes (w : World) (g n cap i : Nat) : ∃ W, (w.alloc (.cells #[.int .i64 0, .int .i64 0] 50)).alloc (.cells #[.slice (some ⟨g, 0, none⟩) n cap, .int .i64 i, .int .i64 0] 142) = W ∧
    W.heap[w.heap.size]? = some (.cells #[.int .i64 0, .int .i64 0] 50) ∧ W.heap[w.heap.size + 1]? = some (.cells #[.slice (some ⟨g, 0, none⟩) n cap, .int .i64 i, .int .i64 0] 142) ∧ Below w.heap.size w W ∧ W.heap.size = w.heap.size + 2 := by
  refine ⟨_, rfl, ?_, ?_, below2 w _ _, by simp⟩
  · exact ((below_new _ _).block _ (by simp)).trans (MapKept.heap_alloc w (.cells #[.int .i64 0, .int .i64 0] 50)).1
  · simpa using (MapKept.heap_alloc (w.alloc (.cells #[.int .i64 0, .int .i64 0] 50)) (.cells #[.slice (some ⟨g, 0, none⟩) n cap, .int .i64 i, .int .i64 0] 142)).1
set_option maxRecDepth 100000 in
set_option maxHeartbeats 1000000 in
theorem predsC_any (toks : List Tok) (g cap i : Nat) (w : World) (hT : TokC w g toks) (hgw : g < w.heap.size) (hi : i < toks.length) (hl : toks.length ≤ 1099511627776) (hz : ∀ t ∈ toks, SymZ t) (hE : EndsT toks) :
    Calls Tryd.prog 41 #[.slice (some ⟨g, 0, none⟩) toks.length cap, .int .i64 i] w (TopRes toks i toks[i].place (predsRaw (toks.drop i)) w) := by
  obtain ⟨W, eW, k0, k1, b1, z1⟩ := preds_boxes w g toks.length cap i
  have hr : Rd toks (w.heap.size + 1) g cap i 0 W := ⟨k1, by omega, by omega, hT.block (b1.block g hgw)⟩
  have htk := token_any toks (w.heap.size + 1) g cap i 0 W hr hi
  have HTK := Lib.hid htk
  have HPA := Lib.hid (fun Z (hrz : Rd toks (w.heap.size + 1) g cap i 0 Z) => preds_any toks (w.heap.size + 1) g cap i Z hrz hi hl hz hE)
  have HRF := Lib.hid (fun w => refusal_any 2 toks[i] w)
  have HTV : Hid (tokV toks[i] = .agg #[.int .i64 toks[i].kind, .string (mkB toks[i].text), .int .i64 toks[i].num, .int .i64 toks[i].place]) := rfl
  rw [HTV.out] at HTK HRF
  have HRW := Lib.hid hr
  have HEW := Lib.hid eW
  have HB := Lib.hid b1
  have HK0 := Lib.hid k0
  have hWs : w.heap.size + 2 ≤ W.heap.size := by omega
  have HZ1 := Lib.hid z1
  have hiI : (i : Int) ≤ 1099511627776 := by omega
  clear eW b1 k0 k1 z1 hr hT hz hE htk HTV
  generalize toks[i] = t0 at *
  generalize (t0.kind : Int) = tk at *
  generalize mkB t0.text = tx at *
  generalize (t0.num : Int) = tn at *
  generalize predsRaw (toks.drop i) = out at *
  go_enter Tryd.func41, Tryd.ntmps41
  go_upto_region 2 with (fail)
  rw [HEW.out]
  go_wp2_with fail
  (with_reducible refine HTK.out.mono ?_)
  rintro e1 y ⟨rfl, hb⟩
  obtain ⟨Y, eY, l0, b2, z2⟩ := box4h y (.int .i64 tk) (.string tx) (.int .i64 tn) (.int .i64 t0.place) 133
  have hbY := hb.trans (b2.mono hb.size)
  have hsy := hb.size
  have HEY := Lib.hid eY
  have HL0 := Lib.hid l0
  have HBY := Lib.hid hbY
  have HCALL := Lib.hid (HPA.out Y (HRW.out.on hbY))
  have hyY : y.heap.size < Y.heap.size := by omega
  have HZ2 := Lib.hid z2
  clear hb eY l0 b2 z2 hbY HPA
  go_upto_region 3 with (fail)
  rw [HEY.out]
  go_wp2_with fail
  (with_reducible refine HCALL.out.mono ?_)
  intro e2 z hx
  cases out with
  | none =>
    obtain ⟨⟨A3, n3, c3, rfl⟩, ⟨i', o', hrz⟩, hfz⟩ := hx
    have hz0 := (hfz.block w.heap.size (by omega) (by omega)).trans ((HBY.out.block w.heap.size (by omega)).trans HK0.out)
    obtain ⟨v0, v1, v2, v3, v4⟩ := pair_cells hz0
    have HE := Lib.hid ((HB.out.trans (HBY.out.mono HB.out.size)).trans ((Fr.below hfz (B := w.heap.size) (by omega) (fun k hk => by omega))))
    clear hrz hfz hz0
    go_wp2_with fail
    refine bodyPost_ret (v := .tuple #[.slice none 0 0, .int .i64 i, .agg #[.int .i64 0, .int .i64 0]]) (by simp [results, Tryd.results41, go_sem, v0, v1]) rfl ⟨rfl, (HE.out.setCell (p := ⟨w.heap.size, 0, none⟩) (Nat.le_refl _) _).setCell (p := ⟨w.heap.size, 1, none⟩) (Nat.le_refl _) _⟩
  | some pq =>
    obtain ⟨ps, q⟩ := pq
    obtain ⟨A3, c3, rfl, hrow, ⟨o', hrz⟩, hfz, hsuf, hne⟩ := hx
    have hz0 := (hfz.block w.heap.size (by omega) (by omega)).trans ((HBY.out.block w.heap.size (by omega)).trans HK0.out)
    have hz4 := (hfz.block y.heap.size hyY (by omega)).trans HL0.out
    have HE := Lib.hid ((HB.out.trans (HBY.out.mono HB.out.size)).trans ((Fr.below hfz (B := w.heap.size) (by omega) (fun k hk => by omega))))
    obtain ⟨v0, v1, v2, v3, v4⟩ := pair_cells hz0
    obtain ⟨d0, d1, d2, d3, d4, d5, d6, d7, d8⟩ := four_cells hz4
    obtain ⟨p0, p1, p2, p3, p4, p5, p6⟩ := three_cells hrz.blk
    have HROW := Lib.hid (hrow.lower (b2 := w.heap.size + 1) (by omega))
    by_cases h16 : 16 < ps.length
    · have hd : ((16 : Int) < (ps.length : Int)) := by omega
      have HZ0 := Lib.hid hz0
      clear hrow hrz hfz hz0 hz4
      go_wp2_with fail
      (with_reducible refine (HRF.out _).mono ?_)
      rintro e3 u ⟨rfl, hbu⟩
      obtain ⟨j0, j1, j2, j3, j4⟩ := pair_cells ((hbu.block w.heap.size v4).trans HZ0.out)
      have HU := Lib.hid (HE.out.trans (hbu.mono HE.out.size))
      clear hbu
      go_wp2_with fail
      refine bodyPost_ret (v := .tuple #[.slice none 0 0, .int .i64 0, .agg #[.int .i64 2, .int .i64 t0.place]]) (by simp [results, Tryd.results41, go_sem, j0, j1]) rfl (.inl ⟨h16, rfl, (HU.out.setCell (p := ⟨w.heap.size, 0, none⟩) (Nat.le_refl _) _).setCell (p := ⟨w.heap.size, 1, none⟩) (Nat.le_refl _) _⟩)
    · have hd : ¬ ((16 : Int) < (ps.length : Int)) := by omega
      have hps : ps.length ≤ 16 := by omega
      clear hrow hrz hfz hz0 hz4 h16
      generalize hpq : ((toks.length - q.length : Nat) : Int) = pq at *
      have HPQ := Lib.hid hpq
      clear hpq
      go_wp2_with fail
      go_region
      all_goals
        go_wp2_with fail
        refine bodyPost_ret (v := .tuple #[.slice A3 ps.length c3, .int .i64 pq, .agg #[.int .i64 0, .int .i64 0]]) (by simp [results, Tryd.results41, go_sem, v0, v1]) rfl (.inr ⟨hps, A3, c3, by rw [HPQ.out], ?_, ((HE.out.setCell (p := ⟨w.heap.size, 0, none⟩) (Nat.le_refl _) (.int .i64 0)).setCell (p := ⟨w.heap.size, 1, none⟩) (Nat.le_refl _) (.int .i64 0)).drew, hsuf, hne⟩)
        exact (HROW.out.keepH (w' := ((z.setCell ⟨w.heap.size, 0, none⟩ (.int .i64 0)).setCell ⟨w.heap.size, 1, none⟩ (.int .i64 0)).drew) (by simp) (fun k h1 h2 => by
          show ((z.setCell ⟨w.heap.size, 0, none⟩ (.int .i64 0)).setCell ⟨w.heap.size, 1, none⟩ (.int .i64 0)).heap[k]? = _
          rw [Below.heap_setCell _ _ _ _ (show k ≠ w.heap.size by omega), Below.heap_setCell _ _ _ _ (show k ≠ w.heap.size by omega)])).lower (by omega)
end Go.Proofs.YtbdfjboojokgdaaDoor
namespace Go.Proofs.YtbdfjboojokgdaaDoor
open Go.RowKit Lx

/-- Predicates as a slice. -/
def PsAt (B : Nat) (w : World) (ps : List (ByteArray × Ty)) (v : Value) : Prop :=
  ∃ A c, v = .slice A ps.length c ∧ (ps = [] ∨ ∃ b, A = some ⟨b, 0, none⟩ ∧ b < w.heap.size ∧ b < B ∧ ∀ i (h : i < ps.length), ∃ f n s A' l c', w.cell? ⟨b, i * 5, none⟩ = some (.string ps[i].1) ∧ w.cell? ⟨b, i * 5 + 1, none⟩ = some (.int .i64 f) ∧ w.cell? ⟨b, i * 5 + 2, none⟩ = some (.int .i64 n) ∧ w.cell? ⟨b, i * 5 + 3, none⟩ = some (.string s) ∧ w.cell? ⟨b, i * 5 + 4, none⟩ = some (.slice A' l c') ∧ TyAt (fun b => b < B) w ps[i].2 (.agg #[.int .i64 f, .int .i64 n, .string s, .slice A' l c']))
theorem PRow.ps {base : Nat} {w : World} {ps : List (ByteArray × Ty)} {v : Value} (h : PRow base w ps v) : PsAt w.heap.size w ps v := by
  obtain ⟨cs, ho, ht⟩ := h
  rcases ho.2 with ⟨h1, h2⟩ | ⟨g, cap, cur, h1, h2, h3, h4, h5, h6, h7⟩
  · exact ⟨none, 0, by rw [h1, h2], .inl (List.eq_nil_of_length_eq_zero h2)⟩
  · rw [h1] at ho
    refine ⟨some ⟨g, 0, none⟩, cap, h1, .inr ⟨g, rfl, lt_of_block h3, lt_of_block h3, fun i hi => ?_⟩⟩
    obtain ⟨x0, x1, x2, x3, c0, c1, c2, c3, c4, hx⟩ := ht i hi
    obtain ⟨f, n, s, A', l, c', e⟩ := hx.flat
    simp only [Value.agg.injEq, Array.mk.injEq, List.cons.injEq, and_true] at e
    obtain ⟨rfl, rfl, rfl, rfl⟩ := e
    exact ⟨f, n, s, A', l, c', by rw [World.ownsRow.cellAt ho _ (by omega)]; exact c0, by rw [World.ownsRow.cellAt ho _ (by omega)]; exact c1, by rw [World.ownsRow.cellAt ho _ (by omega)]; exact c2, by rw [World.ownsRow.cellAt ho _ (by omega)]; exact c3, by rw [World.ownsRow.cellAt ho _ (by omega)]; exact c4, hx.bound'⟩
theorem PsAt.on {B : Nat} {w w' : World} {ps : List (ByteArray × Ty)} {v : Value} (h : PsAt B w ps v) {C : Nat} (hB : B ≤ C) (hb : Below C w w') : PsAt B w' ps v := by
  obtain ⟨A, c, e, hr⟩ := h
  refine ⟨A, c, e, ?_⟩
  rcases hr with h9 | ⟨b, e2, hlt, hlB, hc⟩
  · exact .inl h9
  · refine .inr ⟨b, e2, Nat.lt_of_lt_of_le hlt hb.size, hlB, fun i hi => ?_⟩
    obtain ⟨f, n, s, A', l, c', k0, k1, k2, k3, k4, hx⟩ := hc i hi
    have hk : ∀ o, w'.cell? ⟨b, o, none⟩ = w.cell? ⟨b, o, none⟩ := fun o => hb.cell (p := ⟨b, o, none⟩) (show b < C by omega)
    exact ⟨f, n, s, A', l, c', (hk _).trans k0, (hk _).trans k1, (hk _).trans k2, (hk _).trans k3, (hk _).trans k4, hx.keep (.of_belowB (fun y (hy : y < B) => (by omega : y < C)) hb)⟩
/-- What the loop of variables knows. -/
def VarRel (w W : World) (us : List Ty) (ov : Value) (wr : World) : Prop :=
  Below (w.heap.size + 1) W wr ∧ ∃ cs, wr.ownsRow (w.heap.size + 1) 25 4 ov us.length cs ∧ ∀ i (h : i < us.length), ∃ x0 x1 x2 x3, cs[i * 4]? = some x0 ∧ cs[i * 4 + 1]? = some x1 ∧ cs[i * 4 + 2]? = some x2 ∧ cs[i * 4 + 3]? = some x3 ∧ TyAt (fun b => 0 ≤ b ∧ ov.ownBlock ≠ some b) wr us[i] (.agg #[x0, x1, x2, x3])
theorem VarRel.arow {w W : World} {us : List Ty} {ov : Value} {wr : World} (h : VarRel w W us ov wr) : ARow 0 wr us ov := by
  obtain ⟨_, cs, ho, ht⟩ := h
  exact ⟨cs, own_lower ho (Nat.zero_le _), ht⟩
theorem sum_psz (ps : List (ByteArray × Ty)) (t : Ty) : (funs (ps.map (·.2)) t).sz = t.sz + ((ps.map (fun p => p.2.sz + 3)).sum) := by
  induction ps with
  | nil => simp [funs]
  | cons a r ih => simp only [List.map_cons, funs, fn_sz, ih, List.sum_cons]; omega
theorem funs_short (ps : List (ByteArray × Ty)) (t : Ty) (hp : ∀ p ∈ ps, p.2.short) (ht : t.short) : (funs (ps.map (·.2)) t).short := by
  induction ps with
  | nil => exact ht
  | cons a r ih => exact ⟨⟨by show (⟨#[45, 62]⟩ : ByteArray).size ≤ _; decide, hp a (List.mem_cons_self ..)⟩, ih (fun p h => hp p (List.mem_cons_of_mem _ h))⟩
set_option maxRecDepth 100000 in
set_option maxHeartbeats 1000000 in
theorem variables_any (P : Nat → Prop) (ps : List (ByteArray × Ty)) (t : Ty) (vp vt : Value) (w : World) (hps : PsAt w.heap.size w ps vp) (ht : TyAt P w t vt) (hlen : ps.length ≤ 16) (hsp : ∀ p ∈ ps, p.2.short) (hst : t.short) (hz : (funs (ps.map (·.2)) t).sz ≤ 274877906944) :
    Calls Tryd.prog 94 #[vp, vt] w fun e w' => (∃ u, e = .returned u ∧ OwnS w.heap.size w' u (funs (ps.map (·.2)) t).free) ∧ Below w.heap.size w w' := by
  obtain ⟨f1, n1, s1, A1, l1, c1, rfl⟩ := ht.flat
  obtain ⟨Ap, cp, rfl, hpr⟩ := hps
  have HPS : Hid (PsAt w.heap.size w ps (.slice Ap ps.length cp)) := ⟨Ap, cp, rfl, hpr⟩
  obtain ⟨W, eW, k0, b1, z1⟩ := box4h w (.int .i64 f1) (.int .i64 n1) (.string s1) (.slice A1 l1 c1) 25
  obtain ⟨i0, hi0, hz0, hzs, hzb⟩ := info_parts' Tryd.info25
  obtain ⟨w1, hmk, hown1, hg1⟩ := run_make_own (P := Tryd.prog) W (w.heap.size + 1) 23 25 i0 _ 4 Tryd.underlying23 hi0 hz0 hzs .i64 .i64 ps.length (by rw [hzb]; omega) (by unfold maxLen; omega) (by omega)
  have hb1 : Below W.heap.size W w1 := ⟨hg1.os, hg1.tape, hg1.output, hg1.size, fun k hk => hg1.block k hk (by simp)⟩
  have HREL0 : Hid (VarRel w W [] (.slice (some ⟨W.heap.size, 0, none⟩) 0 ps.length) w1) :=
    ⟨hb1.mono (by omega), [], hown1, fun i h => absurd h (Nat.not_lt_zero _)⟩
  have HEW := Lib.hid eW
  have HK0 := Lib.hid k0
  have HB1 := Lib.hid b1
  have HT := Lib.hid (ht.bound'.on b1)
  have HSP := Lib.hid hsp
  have HZ1 := Lib.hid z1
  have hzW : w.heap.size + 1 ≤ W.heap.size := by omega
  have HFS := Lib.hid (funs_short ps t hsp hst)
  clear eW k0 b1 ht hsp hown1 hg1 hb1 z1 hpr hst
  go_enter Tryd.func94, Tryd.ntmps94
  go_upto_region 1 with (fail)
  rw [HEW.out]
  go_wp2_with fail
  go_loopw [13, 5] (fun i ov wr => ∃ k : Nat, k ≤ ps.length ∧ i = .int .i64 k ∧ VarRel w W ((ps.take k).map (·.2)) ov wr) (fun i _ _ => ps.length - (intOf i).toNat)
  case atStart => exact ⟨0, Nat.zero_le _, rfl, HREL0.out⟩
  case round =>
    obtain ⟨k, hk, rfl, hrel1⟩ := hrel
    have HREL := Lib.hid hrel1
    have hmlen : ((ps.take k).map (·.2)).length = k := by rw [List.length_map, List.length_take]; omega
    obtain ⟨hbe, cs, ho, hte⟩ := hrel1
    generalize hus : (ps.take k).map (·.2) = us at *
    obtain ⟨A5, c5, rfl⟩ := own_form ho
    have hwr := hbe.size
    have HBE := Lib.hid hbe
    have hbw : Below w.heap.size w wr := HB1.out.trans (hbe.mono (by omega))
    have hus16 : us.length ≤ 16 := by omega
    have HMLEN := Lib.hid hmlen
    have hw1 : w.heap.size < wr.heap.size := by omega
    by_cases hlt : k < ps.length
    · obtain ⟨Aq, cq, eq, hpr⟩ := HPS.out.on (Nat.le_refl _) hbw
      injection eq with eq1 _ eq3
      subst eq1 eq3
      rcases hpr with h9 | ⟨b, e2, hbl, hbB, hc⟩
      · rw [h9] at hlt; simp at hlt
      subst e2
      obtain ⟨f, n, s, A', l, c', m0, m1, m2, m3, m4, hx⟩ := hc k hlt
      obtain ⟨V, eV, q5, b5, z5⟩ := box5v wr (.string ps[k].1) (.int .i64 f) (.int .i64 n) (.string s) (.slice A' l c')
      obtain ⟨u0, u1, u2, u3, u4, u5, u6, u7, u8, u9, u10⟩ := five_cells q5
      have hQb := below_new V (.cells #[.int .i64 f, .int .i64 n, .string s, .slice A' l c'] 25)
      have hoQ := own_below (own_below ho b5) hQb
      have htk : (ps.take (k + 1)).map (·.2) = us ++ [ps[k].2] := by rw [← hus, List.take_succ_eq_append_getElem hlt, List.map_append]; rfl
      have HTK := Lib.hid htk
      have hlo := World.ownsRow.lt ho
      have HSTEP : Hid (∀ (w2 : World) (gq cap2 : Nat), w2.ownsRow (w.heap.size + 1) 25 4 (.slice (some ⟨gq, 0, none⟩) (us.length + 1) cap2) (us.length + 1) (cs ++ [.int .i64 f, .int .i64 n, .string s, .slice A' l c']) → (V.alloc (.cells #[.int .i64 f, .int .i64 n, .string s, .slice A' l c'] 25)).grownBy w2 (Value.slice A5 us.length c5).ownBlock → ((Value.slice A5 us.length c5).ownBlock = some gq ∨ gq = V.heap.size + 1) → VarRel w W (us ++ [ps[k].2]) (.slice (some ⟨gq, 0, none⟩) (us.length + 1) cap2) w2) := fun w2 gq cap2 ho2 hg2 hat => by
        have hz2 := hg2.size
        simp only [World.size_alloc] at hz2
        have hrow : ARow 0 w2 (us ++ [ps[k].2]) (.slice (some ⟨gq, 0, none⟩) (us.length + 1) cap2) := by
          refine ARow.push (base := 0) (v := .slice A5 us.length c5) (cs := cs) (w := V.alloc (.cells #[.int .i64 f, .int .i64 n, .string s, .slice A' l c'] 25)) (x0 := .int .i64 f) (x1 := .int .i64 n) (x2 := .string s) (x3 := .slice A' l c') (own_lower hoQ (Nat.zero_le _)) ?_ ?_ (own_lower ho2 (Nat.zero_le _)) hg2 ?_
          · intro i hi
            obtain ⟨x0, x1, x2, x3, a0, a1, a2, a3, hy⟩ := hte i hi
            exact ⟨x0, x1, x2, x3, a0, a1, a2, a3, (hy.on b5).on hQb⟩
          · exact ((hx.on b5).on hQb).mono (fun b (hb : b < w.heap.size) => ⟨Nat.zero_le _, fun e => by have := (hlo b e).1; omega⟩)
          · rcases hat with h9 | h9
            · exact .inl (by rw [h9]; rfl)
            · exact .inr (by rw [h9]; simp [Value.ownBlock])
        obtain ⟨cs', ho', ht'⟩ := hrow
        refine ⟨grown_below ((HBE.out.trans (b5.mono (by omega))).trans (hQb.mono (by omega))) hg2 (fun j hj => (hlo j hj).1) (by simp; omega), cs', ?_, ht'⟩
        refine ⟨ho'.1, ?_⟩
        rcases ho2.2 with ⟨h1, _⟩ | ⟨q1, cap1, cur1, h1, hh2, h3, _⟩
        · cases h1
        · rcases ho'.2 with ⟨k1, _⟩ | ⟨q2, cap2', cur2, k1, _, k3, k4⟩
          · cases k1
          · have e9 : q1 = q2 := by rw [h1] at k1; injection k1 with k1; injection k1 with k1; injection k1
            exact .inr ⟨q2, cap2', cur2, k1, by omega, k3, k4⟩
      have HOWN := Lib.hid hoQ
      have HNEW := Lib.hid (news_four V (.int .i64 f) (.int .i64 n) (.string s) (.slice A' l c') 25)
      have HONE := Lib.hid (one_ty f n s A' l c')
      have HEV := Lib.hid eV
      have hki : (k : Int) < (ps.length : Int) := by omega
      have hk0 : (0 : Int) ≤ (k : Int) := by omega
      have hVw : w.heap.size + 1 ≤ V.heap.size := by omega
      have HZ5 := Lib.hid z5
      clear hbe ho hte hus hbw hc hx eV q5 b5 z5 hQb hoQ htk hlo hmlen
      generalize (ps[k]).1 = pn at *
      generalize (ps[k]).2 = pt at *
      go_upto_region 5 with (fail)
      rw [HEV.out]
      go_wp2_with (at_builtin; refine wpList_append_lies _ rfl (.tmp 17) (.tmp 20) 23 rfl (w.heap.size + 1) 25 i0 (.agg #[.int .i64 0, .int .i64 0, .string ⟨#[]⟩, .slice none 0 0]) 4 56 Tryd.underlying23 hi0 hz0 hzs hzb rfl (by decide) (.slice A5 us.length c5) us.length cs rfl HOWN.out ⟨V.heap.size, 0, none⟩ 1 1 [.int .i64 f, .int .i64 n, .string s, .slice A' l c'] rfl rfl HNEW.out HONE.out (by omega) (by unfold maxLen; omega) (by omega) (by simp; omega) (V.heap.size + 1) (by simp) ?_; intro gq cap2 w2 h2 g2 hat _; have HS2 := Lib.hid (HSTEP.out w2 gq cap2 h2 g2 hat); clear h2 g2 hat)
      go_roundw
      case rel => exact ⟨k + 1, by omega, by go_num, by rw [HTK.out]; exact HS2.out⟩
      case measure => simp [intOf]; omega
    · have hdk : decide (k < ps.length) = false := by simpa using hlt
      have hkl : ps.take k = ps := List.take_of_length_le (by omega)
      rw [hkl] at hus
      subst hus
      have harow := HREL.out.arow
      have hbox := (hbe.block w.heap.size (by omega)).trans HK0.out
      obtain ⟨j0, j1, j2, j3, j4, j5, j6, j7, j8⟩ := four_cells hbox
      have hfn0 := (fun_any (fun _ => True) t (ps.map (·.2)) _ _ wr (HT.out.keep (.of_belowB (fun y (hy : y < w.heap.size) => (by omega : y < w.heap.size + 1)) hbe)).all (harow.tys.mono (fun _ _ => trivial)) (by omega))
      rw [List.length_map] at hfn0
      have HFN := Lib.hid hfn0
      clear hfn0
      have HBW := Lib.hid hbw
      clear hbe ho hte hbw harow hbox hmlen hkl HREL HMLEN
      go_wp2_with fail
      (with_reducible refine HFN.out.mono ?_)
      rintro e1 y ⟨tv, rfl, htv, hby⟩
      obtain ⟨f2, n2, s2, A2, l2, c2, rfl⟩ := htv.flat
      have HFR := Lib.hid (free_any _ (funs (ps.map (·.2)) t) _ y htv HFS.out hz)
      have HBY := Lib.hid (HBW.out.trans (hby.mono HBW.out.size))
      clear htv hby
      go_wp2_with fail
      (with_reducible refine HFR.out.mono ?_)
      rintro e2 z ⟨⟨u, rfl, hou⟩, hbz⟩
      obtain ⟨A9, c9, rfl⟩ := own_form hou
      have HO := Lib.hid (own_lower hou (b2 := w.heap.size) HBY.out.size)
      have HBZ := Lib.hid (HBY.out.trans (hbz.mono HBY.out.size))
      clear hou hbz
      go_wp2_with fail
      go_ret
      exact ⟨⟨_, rfl, HO.out⟩, HBZ.out⟩
end Go.Proofs.YtbdfjboojokgdaaDoor
