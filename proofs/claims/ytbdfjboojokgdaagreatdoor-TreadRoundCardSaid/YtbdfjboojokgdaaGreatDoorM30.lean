/- The contract of tread.Preds (chapter 5). Conditions: at most 2^40 tokens, the last one an end; symbols bear no number. The contract of tread's variables (chapter 5). Conditions: names are of at most 2^40 bytes, the types have at most 2^37 nodes. The contract of tread.Scheme (chapter 5). Conditions: at most 2^40 tokens, the last one an end; symbols bear no number; what is read is not too great. -/
import Derived.Test.YtbdfjboojokgdaaGreatDoorM27
import Derived.Test.YtbdfjboojokgdaaGreatDoorM29
namespace Go.Proofs.YtbdfjboojokgdaaGreatDoor
open Go.RowKit Lx

theorem PRow.lower {base b2 : Nat} {w : World} {ps : List (ByteArray × Ty)} {v : Value} (h : PRow base w ps v) (hb : b2 ≤ base) : PRow b2 w ps v := by
  obtain ⟨cs, ho, ht⟩ := h
  refine ⟨cs, own_lower ho hb, fun i hi => ?_⟩
  obtain ⟨x0, x1, x2, x3, c0, c1, c2, c3, c4, hx⟩ := ht i hi
  exact ⟨x0, x1, x2, x3, c0, c1, c2, c3, c4, hx.mono (fun b hb2 => ⟨by omega, hb2.2⟩)⟩
/-- What Preds told. -/
def TopRes (toks : List Tok) (i place : Nat) (out : Option (List (ByteArray × Ty) × List Tok)) (w : World) (e : Ending) (w' : World) : Prop :=
  match out with
  | none => e = .returned (.tuple #[.slice none 0 0, .int .i64 i, .agg #[.int .i64 0, .int .i64 0]]) ∧ Below w.heap.size w w'
  | some (ps, q) => (16 < ps.length ∧ e = .returned (.tuple #[.slice none 0 0, .int .i64 0, .agg #[.int .i64 2, .int .i64 place]]) ∧ Below w.heap.size w w') ∨
      (ps.length ≤ 16 ∧ ∃ A c, e = .returned (.tuple #[.slice A ps.length c, .int .i64 ((toks.length - q.length : Nat) : Int), .agg #[.int .i64 0, .int .i64 0]]) ∧ PRow w.heap.size w' ps (.slice A ps.length c) ∧ Below w.heap.size w w' ∧ q <:+ toks ∧ q ≠ [])
theorem preds_boxes (w : World) (g n cap i : Nat) : ∃ W, (w.alloc (.cells #[.int .i64 0, .int .i64 0] 30)).alloc (.cells #[.slice (some ⟨g, 0, none⟩) n cap, .int .i64 i, .int .i64 0] 85) = W ∧
    W.heap[w.heap.size]? = some (.cells #[.int .i64 0, .int .i64 0] 30) ∧ W.heap[w.heap.size + 1]? = some (.cells #[.slice (some ⟨g, 0, none⟩) n cap, .int .i64 i, .int .i64 0] 85) ∧ Below w.heap.size w W ∧ W.heap.size = w.heap.size + 2 := by
  refine ⟨_, rfl, ?_, ?_, below2 w _ _, by simp⟩
  · exact ((below_new _ _).block _ (by simp)).trans (MapKept.heap_alloc w (.cells #[.int .i64 0, .int .i64 0] 30)).1
  · simpa using (MapKept.heap_alloc (w.alloc (.cells #[.int .i64 0, .int .i64 0] 30)) (.cells #[.slice (some ⟨g, 0, none⟩) n cap, .int .i64 i, .int .i64 0] 85)).1
set_option maxRecDepth 100000 in
set_option maxHeartbeats 1000000 in
theorem predsC_any (toks : List Tok) (g cap i : Nat) (w : World) (hT : TokC w g toks) (hgw : g < w.heap.size) (hi : i < toks.length) (hl : toks.length ≤ 1099511627776) (hz : ∀ t ∈ toks, SymZ t) (hE : EndsT toks) :
    Calls Tryz.prog 52 #[.slice (some ⟨g, 0, none⟩) toks.length cap, .int .i64 i] w (TopRes toks i toks[i].place (predsRaw (toks.drop i)) w) := by
  obtain ⟨W, eW, k0, k1, b1, z1⟩ := preds_boxes w g toks.length cap i
  have hr : Rd toks (w.heap.size + 1) g cap i 0 W := ⟨k1, by omega, by omega, hT.block (b1.block g hgw)⟩
  have htk := token_any toks (w.heap.size + 1) g cap i 0 W hr hi
  have HTK := Lib.hid htk
  have HPA := Lib.hid (fun Z (hrz : Rd toks (w.heap.size + 1) g cap i 0 Z) => preds_any toks (w.heap.size + 1) g cap i Z hrz hi hl hz hE)
  have HRF := Lib.hid (fun w => refusal_any 2 toks[i] w)
  have HTV : Hid (tokV toks[i] = .agg #[.int .i64 toks[i].kind, .string (mkB toks[i].text), .int .i64 toks[i].num, .int .i64 toks[i].place]) := rfl
  rw [HTV.out] at HTK HRF
  have HRW := Lib.hid hr
  have HEW := Lib.hid eW
  have HB := Lib.hid b1
  have HK0 := Lib.hid k0
  have hWs : w.heap.size + 2 ≤ W.heap.size := by omega
  have HZ1 := Lib.hid z1
  have hiI : (i : Int) ≤ 1099511627776 := by omega
  clear eW b1 k0 k1 z1 hr hT hz hE htk HTV
  generalize toks[i] = t0 at *
  generalize (t0.kind : Int) = tk at *
  generalize mkB t0.text = tx at *
  generalize (t0.num : Int) = tn at *
  generalize predsRaw (toks.drop i) = out at *
  go_enter Tryz.func52, Tryz.ntmps52
  go_upto_region 2 with (fail)
  rw [HEW.out]
  go_wp2_with fail
  (with_reducible refine HTK.out.mono ?_)
  rintro e1 y ⟨rfl, hb⟩
  obtain ⟨Y, eY, l0, b2, z2⟩ := box4h y (.int .i64 tk) (.string tx) (.int .i64 tn) (.int .i64 t0.place) 82
  have hbY := hb.trans (b2.mono hb.size)
  have hsy := hb.size
  have HEY := Lib.hid eY
  have HL0 := Lib.hid l0
  have HBY := Lib.hid hbY
  have HCALL := Lib.hid (HPA.out Y (HRW.out.on hbY))
  have hyY : y.heap.size < Y.heap.size := by omega
  have HZ2 := Lib.hid z2
  clear hb eY l0 b2 z2 hbY HPA
  go_upto_region 3 with (fail)
  rw [HEY.out]
  go_wp2_with fail
  (with_reducible refine HCALL.out.mono ?_)
  intro e2 z hx
  cases out with
  | none =>
    obtain ⟨⟨A3, n3, c3, rfl⟩, ⟨i', o', hrz⟩, hfz⟩ := hx
    have hz0 := (hfz.block w.heap.size (by omega) (by omega)).trans ((HBY.out.block w.heap.size (by omega)).trans HK0.out)
    obtain ⟨v0, v1, v2, v3, v4⟩ := pair_cells hz0
    have HE := Lib.hid ((HB.out.trans (HBY.out.mono HB.out.size)).trans ((Fr.below hfz (B := w.heap.size) (by omega) (fun k hk => by omega))))
    clear hrz hfz hz0
    go_wp2_with fail
    refine bodyPost_ret (v := .tuple #[.slice none 0 0, .int .i64 i, .agg #[.int .i64 0, .int .i64 0]]) (by simp [results, Tryz.results52, go_sem, v0, v1]) rfl ⟨rfl, (HE.out.setCell (p := ⟨w.heap.size, 0, none⟩) (Nat.le_refl _) _).setCell (p := ⟨w.heap.size, 1, none⟩) (Nat.le_refl _) _⟩
  | some pq =>
    obtain ⟨ps, q⟩ := pq
    obtain ⟨A3, c3, rfl, hrow, ⟨o', hrz⟩, hfz, hsuf, hne⟩ := hx
    have hz0 := (hfz.block w.heap.size (by omega) (by omega)).trans ((HBY.out.block w.heap.size (by omega)).trans HK0.out)
    have hz4 := (hfz.block y.heap.size hyY (by omega)).trans HL0.out
    have HE := Lib.hid ((HB.out.trans (HBY.out.mono HB.out.size)).trans ((Fr.below hfz (B := w.heap.size) (by omega) (fun k hk => by omega))))
    obtain ⟨v0, v1, v2, v3, v4⟩ := pair_cells hz0
    obtain ⟨d0, d1, d2, d3, d4, d5, d6, d7, d8⟩ := four_cells hz4
    obtain ⟨p0, p1, p2, p3, p4, p5, p6⟩ := three_cells hrz.blk
    have HROW := Lib.hid (hrow.lower (b2 := w.heap.size + 1) (by omega))
    by_cases h16 : 16 < ps.length
    · have hd : ((16 : Int) < (ps.length : Int)) := by omega
      have HZ0 := Lib.hid hz0
      clear hrow hrz hfz hz0 hz4
      go_wp2_with fail
      (with_reducible refine (HRF.out _).mono ?_)
      rintro e3 u ⟨rfl, hbu⟩
      obtain ⟨j0, j1, j2, j3, j4⟩ := pair_cells ((hbu.block w.heap.size v4).trans HZ0.out)
      have HU := Lib.hid (HE.out.trans (hbu.mono HE.out.size))
      clear hbu
      go_wp2_with fail
      refine bodyPost_ret (v := .tuple #[.slice none 0 0, .int .i64 0, .agg #[.int .i64 2, .int .i64 t0.place]]) (by simp [results, Tryz.results52, go_sem, j0, j1]) rfl (.inl ⟨h16, rfl, (HU.out.setCell (p := ⟨w.heap.size, 0, none⟩) (Nat.le_refl _) _).setCell (p := ⟨w.heap.size, 1, none⟩) (Nat.le_refl _) _⟩)
    · have hd : ¬ ((16 : Int) < (ps.length : Int)) := by omega
      have hps : ps.length ≤ 16 := by omega
      clear hrow hrz hfz hz0 hz4 h16
      generalize hpq : ((toks.length - q.length : Nat) : Int) = pq at *
      have HPQ := Lib.hid hpq
      clear hpq
      go_wp2_with fail
      go_region
      all_goals
        go_wp2_with fail
        refine bodyPost_ret (v := .tuple #[.slice A3 ps.length c3, .int .i64 pq, .agg #[.int .i64 0, .int .i64 0]]) (by simp [results, Tryz.results52, go_sem, v0, v1]) rfl (.inr ⟨hps, A3, c3, by rw [HPQ.out], ?_, ((HE.out.setCell (p := ⟨w.heap.size, 0, none⟩) (Nat.le_refl _) (.int .i64 0)).setCell (p := ⟨w.heap.size, 1, none⟩) (Nat.le_refl _) (.int .i64 0)).drew, hsuf, hne⟩)
        exact (HROW.out.keepH (w' := ((z.setCell ⟨w.heap.size, 0, none⟩ (.int .i64 0)).setCell ⟨w.heap.size, 1, none⟩ (.int .i64 0)).drew) (by simp) (fun k h1 h2 => by
          show ((z.setCell ⟨w.heap.size, 0, none⟩ (.int .i64 0)).setCell ⟨w.heap.size, 1, none⟩ (.int .i64 0)).heap[k]? = _
          rw [Below.heap_setCell _ _ _ _ (show k ≠ w.heap.size by omega), Below.heap_setCell _ _ _ _ (show k ≠ w.heap.size by omega)])).lower (by omega)
end Go.Proofs.YtbdfjboojokgdaaGreatDoor
namespace Go.Proofs.YtbdfjboojokgdaaGreatDoor
open Go.RowKit Lx

/-- Predicates as a slice. -/
def PsAt (B : Nat) (w : World) (ps : List (ByteArray × Ty)) (v : Value) : Prop :=
  ∃ A c, v = .slice A ps.length c ∧ (ps = [] ∨ ∃ b, A = some ⟨b, 0, none⟩ ∧ b < w.heap.size ∧ b < B ∧ ∀ i (h : i < ps.length), ∃ f n s A' l c', w.cell? ⟨b, i * 5, none⟩ = some (.string ps[i].1) ∧ w.cell? ⟨b, i * 5 + 1, none⟩ = some (.int .i64 f) ∧ w.cell? ⟨b, i * 5 + 2, none⟩ = some (.int .i64 n) ∧ w.cell? ⟨b, i * 5 + 3, none⟩ = some (.string s) ∧ w.cell? ⟨b, i * 5 + 4, none⟩ = some (.slice A' l c') ∧ TyAt (fun b => b < B) w ps[i].2 (.agg #[.int .i64 f, .int .i64 n, .string s, .slice A' l c']))
theorem PRow.ps {base : Nat} {w : World} {ps : List (ByteArray × Ty)} {v : Value} (h : PRow base w ps v) : PsAt w.heap.size w ps v := by
  obtain ⟨cs, ho, ht⟩ := h
  rcases ho.2 with ⟨h1, h2⟩ | ⟨g, cap, cur, h1, h2, h3, h4, h5, h6, h7⟩
  · exact ⟨none, 0, by rw [h1, h2], .inl (List.eq_nil_of_length_eq_zero h2)⟩
  · rw [h1] at ho
    refine ⟨some ⟨g, 0, none⟩, cap, h1, .inr ⟨g, rfl, lt_of_block h3, lt_of_block h3, fun i hi => ?_⟩⟩
    obtain ⟨x0, x1, x2, x3, c0, c1, c2, c3, c4, hx⟩ := ht i hi
    obtain ⟨f, n, s, A', l, c', e⟩ := hx.flat
    simp only [Value.agg.injEq, Array.mk.injEq, List.cons.injEq, and_true] at e
    obtain ⟨rfl, rfl, rfl, rfl⟩ := e
    exact ⟨f, n, s, A', l, c', by rw [World.ownsRow.cellAt ho _ (by omega)]; exact c0, by rw [World.ownsRow.cellAt ho _ (by omega)]; exact c1, by rw [World.ownsRow.cellAt ho _ (by omega)]; exact c2, by rw [World.ownsRow.cellAt ho _ (by omega)]; exact c3, by rw [World.ownsRow.cellAt ho _ (by omega)]; exact c4, hx.bound'⟩
theorem PsAt.on {B : Nat} {w w' : World} {ps : List (ByteArray × Ty)} {v : Value} (h : PsAt B w ps v) {C : Nat} (hB : B ≤ C) (hb : Below C w w') : PsAt B w' ps v := by
  obtain ⟨A, c, e, hr⟩ := h
  refine ⟨A, c, e, ?_⟩
  rcases hr with h9 | ⟨b, e2, hlt, hlB, hc⟩
  · exact .inl h9
  · refine .inr ⟨b, e2, Nat.lt_of_lt_of_le hlt hb.size, hlB, fun i hi => ?_⟩
    obtain ⟨f, n, s, A', l, c', k0, k1, k2, k3, k4, hx⟩ := hc i hi
    have hk : ∀ o, w'.cell? ⟨b, o, none⟩ = w.cell? ⟨b, o, none⟩ := fun o => hb.cell (p := ⟨b, o, none⟩) (show b < C by omega)
    exact ⟨f, n, s, A', l, c', (hk _).trans k0, (hk _).trans k1, (hk _).trans k2, (hk _).trans k3, (hk _).trans k4, hx.keep (.of_belowB (fun y (hy : y < B) => (by omega : y < C)) hb)⟩
/-- What the loop of variables knows. -/
def VarRel (w W : World) (us : List Ty) (ov : Value) (wr : World) : Prop :=
  Below (w.heap.size + 1) W wr ∧ ∃ cs, wr.ownsRow (w.heap.size + 1) 27 4 ov us.length cs ∧ ∀ i (h : i < us.length), ∃ x0 x1 x2 x3, cs[i * 4]? = some x0 ∧ cs[i * 4 + 1]? = some x1 ∧ cs[i * 4 + 2]? = some x2 ∧ cs[i * 4 + 3]? = some x3 ∧ TyAt (fun b => 0 ≤ b ∧ ov.ownBlock ≠ some b) wr us[i] (.agg #[x0, x1, x2, x3])
theorem VarRel.arow {w W : World} {us : List Ty} {ov : Value} {wr : World} (h : VarRel w W us ov wr) : ARow 0 wr us ov := by
  obtain ⟨_, cs, ho, ht⟩ := h
  exact ⟨cs, own_lower ho (Nat.zero_le _), ht⟩
theorem sum_psz (ps : List (ByteArray × Ty)) (t : Ty) : (funs (ps.map (·.2)) t).sz = t.sz + ((ps.map (fun p => p.2.sz + 3)).sum) := by
  induction ps with
  | nil => simp [funs]
  | cons a r ih => simp only [List.map_cons, funs, fn_sz, ih, List.sum_cons]; omega
theorem funs_short (ps : List (ByteArray × Ty)) (t : Ty) (hp : ∀ p ∈ ps, p.2.short) (ht : t.short) : (funs (ps.map (·.2)) t).short := by
  induction ps with
  | nil => exact ht
  | cons a r ih => exact ⟨⟨by show (⟨#[45, 62]⟩ : ByteArray).size ≤ _; decide, hp a (List.mem_cons_self ..)⟩, ih (fun p h => hp p (List.mem_cons_of_mem _ h))⟩
set_option maxRecDepth 100000 in
set_option maxHeartbeats 1000000 in
theorem variables_any (P : Nat → Prop) (ps : List (ByteArray × Ty)) (t : Ty) (vp vt : Value) (w : World) (hps : PsAt w.heap.size w ps vp) (ht : TyAt P w t vt) (hlen : ps.length ≤ 16) (hsp : ∀ p ∈ ps, p.2.short) (hst : t.short) (hz : (funs (ps.map (·.2)) t).sz ≤ 274877906944) :
    Calls Tryz.prog 53 #[vp, vt] w fun e w' => (∃ u, e = .returned u ∧ OwnS w.heap.size w' u (funs (ps.map (·.2)) t).free) ∧ Below w.heap.size w w' := by
  obtain ⟨f1, n1, s1, A1, l1, c1, rfl⟩ := ht.flat
  obtain ⟨Ap, cp, rfl, hpr⟩ := hps
  have HPS : Hid (PsAt w.heap.size w ps (.slice Ap ps.length cp)) := ⟨Ap, cp, rfl, hpr⟩
  obtain ⟨W, eW, k0, b1, z1⟩ := box4h w (.int .i64 f1) (.int .i64 n1) (.string s1) (.slice A1 l1 c1) 27
  obtain ⟨i0, hi0, hz0, hzs, hzb⟩ := info_parts' Tryz.info27
  obtain ⟨w1, hmk, hown1, hg1⟩ := run_make_own (P := Tryz.prog) W (w.heap.size + 1) 25 27 i0 _ 4 Tryz.underlying25 hi0 hz0 hzs .i64 .i64 ps.length (by rw [hzb]; omega) (by unfold maxLen; omega) (by omega)
  have hb1 : Below W.heap.size W w1 := ⟨hg1.os, hg1.tape, hg1.output, hg1.size, fun k hk => hg1.block k hk (by simp)⟩
  have HREL0 : Hid (VarRel w W [] (.slice (some ⟨W.heap.size, 0, none⟩) 0 ps.length) w1) :=
    ⟨hb1.mono (by omega), [], hown1, fun i h => absurd h (Nat.not_lt_zero _)⟩
  have HEW := Lib.hid eW
  have HK0 := Lib.hid k0
  have HB1 := Lib.hid b1
  have HT := Lib.hid (ht.bound'.on b1)
  have HSP := Lib.hid hsp
  have HZ1 := Lib.hid z1
  have hzW : w.heap.size + 1 ≤ W.heap.size := by omega
  have HFS := Lib.hid (funs_short ps t hsp hst)
  clear eW k0 b1 ht hsp hown1 hg1 hb1 z1 hpr hst
  go_enter Tryz.func53, Tryz.ntmps53
  go_upto_region 1 with (fail)
  rw [HEW.out]
  go_wp2_with fail
  go_loopw [13, 5] (fun i ov wr => ∃ k : Nat, k ≤ ps.length ∧ i = .int .i64 k ∧ VarRel w W ((ps.take k).map (·.2)) ov wr) (fun i _ _ => ps.length - (intOf i).toNat)
  case atStart => exact ⟨0, Nat.zero_le _, rfl, HREL0.out⟩
  case round =>
    obtain ⟨k, hk, rfl, hrel1⟩ := hrel
    have HREL := Lib.hid hrel1
    have hmlen : ((ps.take k).map (·.2)).length = k := by rw [List.length_map, List.length_take]; omega
    obtain ⟨hbe, cs, ho, hte⟩ := hrel1
    generalize hus : (ps.take k).map (·.2) = us at *
    obtain ⟨A5, c5, rfl⟩ := own_form ho
    have hwr := hbe.size
    have HBE := Lib.hid hbe
    have hbw : Below w.heap.size w wr := HB1.out.trans (hbe.mono (by omega))
    have hus16 : us.length ≤ 16 := by omega
    have HMLEN := Lib.hid hmlen
    have hw1 : w.heap.size < wr.heap.size := by omega
    by_cases hlt : k < ps.length
    · obtain ⟨Aq, cq, eq, hpr⟩ := HPS.out.on (Nat.le_refl _) hbw
      injection eq with eq1 _ eq3
      subst eq1 eq3
      rcases hpr with h9 | ⟨b, e2, hbl, hbB, hc⟩
      · rw [h9] at hlt; simp at hlt
      subst e2
      obtain ⟨f, n, s, A', l, c', m0, m1, m2, m3, m4, hx⟩ := hc k hlt
      obtain ⟨V, eV, q5, b5, z5⟩ := box5v wr (.string ps[k].1) (.int .i64 f) (.int .i64 n) (.string s) (.slice A' l c')
      obtain ⟨u0, u1, u2, u3, u4, u5, u6, u7, u8, u9, u10⟩ := five_cells q5
      have hQb := below_new V (.cells #[.int .i64 f, .int .i64 n, .string s, .slice A' l c'] 27)
      have hoQ := own_below (own_below ho b5) hQb
      have htk : (ps.take (k + 1)).map (·.2) = us ++ [ps[k].2] := by rw [← hus, List.take_succ_eq_append_getElem hlt, List.map_append]; rfl
      have HTK := Lib.hid htk
      have hlo := World.ownsRow.lt ho
      have HSTEP : Hid (∀ (w2 : World) (gq cap2 : Nat), w2.ownsRow (w.heap.size + 1) 27 4 (.slice (some ⟨gq, 0, none⟩) (us.length + 1) cap2) (us.length + 1) (cs ++ [.int .i64 f, .int .i64 n, .string s, .slice A' l c']) → (V.alloc (.cells #[.int .i64 f, .int .i64 n, .string s, .slice A' l c'] 27)).grownBy w2 (Value.slice A5 us.length c5).ownBlock → ((Value.slice A5 us.length c5).ownBlock = some gq ∨ gq = V.heap.size + 1) → VarRel w W (us ++ [ps[k].2]) (.slice (some ⟨gq, 0, none⟩) (us.length + 1) cap2) w2) := fun w2 gq cap2 ho2 hg2 hat => by
        have hz2 := hg2.size
        simp only [World.size_alloc] at hz2
        have hrow : ARow 0 w2 (us ++ [ps[k].2]) (.slice (some ⟨gq, 0, none⟩) (us.length + 1) cap2) := by
          refine ARow.push (base := 0) (v := .slice A5 us.length c5) (cs := cs) (w := V.alloc (.cells #[.int .i64 f, .int .i64 n, .string s, .slice A' l c'] 27)) (x0 := .int .i64 f) (x1 := .int .i64 n) (x2 := .string s) (x3 := .slice A' l c') (own_lower hoQ (Nat.zero_le _)) ?_ ?_ (own_lower ho2 (Nat.zero_le _)) hg2 ?_
          · intro i hi
            obtain ⟨x0, x1, x2, x3, a0, a1, a2, a3, hy⟩ := hte i hi
            exact ⟨x0, x1, x2, x3, a0, a1, a2, a3, (hy.on b5).on hQb⟩
          · exact ((hx.on b5).on hQb).mono (fun b (hb : b < w.heap.size) => ⟨Nat.zero_le _, fun e => by have := (hlo b e).1; omega⟩)
          · rcases hat with h9 | h9
            · exact .inl (by rw [h9]; rfl)
            · exact .inr (by rw [h9]; simp [Value.ownBlock])
        obtain ⟨cs', ho', ht'⟩ := hrow
        refine ⟨grown_below ((HBE.out.trans (b5.mono (by omega))).trans (hQb.mono (by omega))) hg2 (fun j hj => (hlo j hj).1) (by simp; omega), cs', ?_, ht'⟩
        refine ⟨ho'.1, ?_⟩
        rcases ho2.2 with ⟨h1, _⟩ | ⟨q1, cap1, cur1, h1, hh2, h3, _⟩
        · cases h1
        · rcases ho'.2 with ⟨k1, _⟩ | ⟨q2, cap2', cur2, k1, _, k3, k4⟩
          · cases k1
          · have e9 : q1 = q2 := by rw [h1] at k1; injection k1 with k1; injection k1 with k1; injection k1
            exact .inr ⟨q2, cap2', cur2, k1, by omega, k3, k4⟩
      have HOWN := Lib.hid hoQ
      have HNEW := Lib.hid (news_four V (.int .i64 f) (.int .i64 n) (.string s) (.slice A' l c') 27)
      have HONE := Lib.hid (one_ty f n s A' l c')
      have HEV := Lib.hid eV
      have hki : (k : Int) < (ps.length : Int) := by omega
      have hk0 : (0 : Int) ≤ (k : Int) := by omega
      have hVw : w.heap.size + 1 ≤ V.heap.size := by omega
      have HZ5 := Lib.hid z5
      clear hbe ho hte hus hbw hc hx eV q5 b5 z5 hQb hoQ htk hlo hmlen
      generalize (ps[k]).1 = pn at *
      generalize (ps[k]).2 = pt at *
      go_upto_region 5 with (fail)
      rw [HEV.out]
      go_wp2_with (at_builtin; refine wpList_append_lies _ rfl (.tmp 17) (.tmp 20) 25 rfl (w.heap.size + 1) 27 i0 (.agg #[.int .i64 0, .int .i64 0, .string ⟨#[]⟩, .slice none 0 0]) 4 56 Tryz.underlying25 hi0 hz0 hzs hzb rfl (by decide) (.slice A5 us.length c5) us.length cs rfl HOWN.out ⟨V.heap.size, 0, none⟩ 1 1 [.int .i64 f, .int .i64 n, .string s, .slice A' l c'] rfl rfl HNEW.out HONE.out (by omega) (by unfold maxLen; omega) (by omega) (by simp; omega) (V.heap.size + 1) (by simp) ?_; intro gq cap2 w2 h2 g2 hat _; have HS2 := Lib.hid (HSTEP.out w2 gq cap2 h2 g2 hat); clear h2 g2 hat)
      go_roundw
      case rel => exact ⟨k + 1, by omega, by go_num, by rw [HTK.out]; exact HS2.out⟩
      case measure => simp [intOf]; omega
    · have hdk : decide (k < ps.length) = false := by simpa using hlt
      have hkl : ps.take k = ps := List.take_of_length_le (by omega)
      rw [hkl] at hus
      subst hus
      have harow := HREL.out.arow
      have hbox := (hbe.block w.heap.size (by omega)).trans HK0.out
      obtain ⟨j0, j1, j2, j3, j4, j5, j6, j7, j8⟩ := four_cells hbox
      have hfn0 := (fun_any (fun _ => True) t (ps.map (·.2)) _ _ wr (HT.out.keep (.of_belowB (fun y (hy : y < w.heap.size) => (by omega : y < w.heap.size + 1)) hbe)).all (harow.tys.mono (fun _ _ => trivial)) (by omega))
      rw [List.length_map] at hfn0
      have HFN := Lib.hid hfn0
      clear hfn0
      have HBW := Lib.hid hbw
      clear hbe ho hte hbw harow hbox hmlen hkl HREL HMLEN
      go_wp2_with fail
      (with_reducible refine HFN.out.mono ?_)
      rintro e1 y ⟨tv, rfl, htv, hby⟩
      obtain ⟨f2, n2, s2, A2, l2, c2, rfl⟩ := htv.flat
      have HFR := Lib.hid (free_any _ (funs (ps.map (·.2)) t) _ y htv HFS.out hz)
      have HBY := Lib.hid (HBW.out.trans (hby.mono HBW.out.size))
      clear htv hby
      go_wp2_with fail
      (with_reducible refine HFR.out.mono ?_)
      rintro e2 z ⟨⟨u, rfl, hou⟩, hbz⟩
      obtain ⟨A9, c9, rfl⟩ := own_form hou
      have HO := Lib.hid (own_lower hou (b2 := w.heap.size) HBY.out.size)
      have HBZ := Lib.hid (HBY.out.trans (hbz.mono HBY.out.size))
      clear hou hbz
      go_wp2_with fail
      go_ret
      exact ⟨⟨_, rfl, HO.out⟩, HBZ.out⟩
end Go.Proofs.YtbdfjboojokgdaaGreatDoor
namespace Go.Proofs.YtbdfjboojokgdaaGreatDoor
open Go.RowKit Lx

/-- What is told of a scheme. -/
inductive GotS
  | ok (ps : List (ByteArray × Ty)) (t : Ty) (r : List Tok)
  | no (e p : Nat)
def withP (ps : List (ByteArray × Ty)) : Got → GotS
  | .ok t r => .ok ps t r
  | .no e p => .no e p
def schemeRaw (l : List Tok) : GotS :=
  match predsRaw l with
  | some (ps, q) => if 16 < ps.length then .no 2 ((l.head?.map Tok.place).getD 0) else withP ps (typeL q 0)
  | none => withP [] (typeL l 0)
def SchemeRes (toks : List Tok) (out : GotS) (w : World) (e : Ending) (w' : World) : Prop :=
  match out with
  | .ok ps t r => ∃ Av nv cv Ap cp f n s A l c, e = .returned (.tuple #[.agg #[.slice Av nv cv, .slice none 0 0, .slice Ap ps.length cp, .int .i64 f, .int .i64 n, .string s, .slice A l c], .int .i64 ((toks.length - r.length : Nat) : Int), .agg #[.int .i64 0, .int .i64 0]]) ∧ OwnS w.heap.size w' (.slice Av nv cv) (funs (ps.map (·.2)) t).free ∧ PRow w.heap.size w' ps (.slice Ap ps.length cp) ∧ TyAt (fun b => w.heap.size ≤ b) w' t (.agg #[.int .i64 f, .int .i64 n, .string s, .slice A l c]) ∧ Below w.heap.size w w'
  | .no ec p => e = .returned (.tuple #[.agg #[.slice none 0 0, .slice none 0 0, .slice none 0 0, .int .i64 0, .int .i64 0, .string ⟨#[]⟩, .slice none 0 0], .int .i64 0, .agg #[.int .i64 ec, .int .i64 p]]) ∧ Below w.heap.size w w'
def put9 (w : World) (b : Nat) (x0 x1 x2 x3 x4 x5 x6 y0 y1 : Value) : World :=
  ((((((((w.setCell ⟨b, 0, none⟩ x0).setCell ⟨b, 1, none⟩ x1).setCell ⟨b, 2, none⟩ x2).setCell ⟨b, 3, none⟩ x3).setCell ⟨b, 4, none⟩ x4).setCell ⟨b, 5, none⟩ x5).setCell ⟨b, 6, none⟩ x6).setCell ⟨b + 1, 0, none⟩ y0).setCell ⟨b + 1, 1, none⟩ y1
theorem put9_below {B : Nat} {w w' : World} {k : Nat} (h : Below B w w') (hk : B ≤ k) (x0 x1 x2 x3 x4 x5 x6 y0 y1 : Value) : Below B w (put9 w' k x0 x1 x2 x3 x4 x5 x6 y0 y1) := by
  unfold put9
  exact ((((((((h.setCell hk _).setCell hk _).setCell hk _).setCell hk _).setCell hk _).setCell hk _).setCell hk _).setCell (by show B ≤ k + 1; omega) _).setCell (by show B ≤ k + 1; omega) _
theorem put9_block (w : World) (b : Nat) (x0 x1 x2 x3 x4 x5 x6 y0 y1 : Value) (k : Nat) (hb : k ≠ b) (hc : k ≠ b + 1) : (put9 w b x0 x1 x2 x3 x4 x5 x6 y0 y1).heap[k]? = w.heap[k]? := by
  unfold put9
  rw [Below.heap_setCell _ _ _ _ hc, Below.heap_setCell _ _ _ _ hc, Below.heap_setCell _ _ _ _ hb, Below.heap_setCell _ _ _ _ hb, Below.heap_setCell _ _ _ _ hb, Below.heap_setCell _ _ _ _ hb, Below.heap_setCell _ _ _ _ hb, Below.heap_setCell _ _ _ _ hb, Below.heap_setCell _ _ _ _ hb]
theorem put9_size (w : World) (b : Nat) (x0 x1 x2 x3 x4 x5 x6 y0 y1 : Value) : (put9 w b x0 x1 x2 x3 x4 x5 x6 y0 y1).heap.size = w.heap.size := by simp [put9]
theorem seven_cells {w : World} {b : Nat} {v0 v1 v2 v3 v4 v5 v6 : Value} {t : TypeId} (h : w.heap[b]? = some (.cells #[v0, v1, v2, v3, v4, v5, v6] t)) : w.cell? ⟨b, 0, none⟩ = some v0 ∧ w.cell? ⟨b, 1, none⟩ = some v1 ∧ w.cell? ⟨b, 2, none⟩ = some v2 ∧ w.cell? ⟨b, 3, none⟩ = some v3 ∧ w.cell? ⟨b, 4, none⟩ = some v4 ∧ w.cell? ⟨b, 5, none⟩ = some v5 ∧ w.cell? ⟨b, 6, none⟩ = some v6 ∧ w.frozen? ⟨b, 0, none⟩ = false ∧ w.frozen? ⟨b, 1, none⟩ = false ∧ w.frozen? ⟨b, 2, none⟩ = false ∧ w.frozen? ⟨b, 3, none⟩ = false ∧ w.frozen? ⟨b, 4, none⟩ = false ∧ w.frozen? ⟨b, 5, none⟩ = false ∧ w.frozen? ⟨b, 6, none⟩ = false ∧ b < w.heap.size :=
  ⟨by simp [World.cell?, h], by simp [World.cell?, h], by simp [World.cell?, h], by simp [World.cell?, h], by simp [World.cell?, h], by simp [World.cell?, h], by simp [World.cell?, h], by simp [World.frozen?, h], by simp [World.frozen?, h], by simp [World.frozen?, h], by simp [World.frozen?, h], by simp [World.frozen?, h], by simp [World.frozen?, h], by simp [World.frozen?, h], lt_of_block h⟩
theorem scheme_boxes (w : World) : ∃ W, (w.alloc (.cells #[.slice none 0 0, .slice none 0 0, .slice none 0 0, .int .i64 0, .int .i64 0, .string ⟨#[]⟩, .slice none 0 0] 42)).alloc (.cells #[.int .i64 0, .int .i64 0] 30) = W ∧
    W.heap[w.heap.size]? = some (.cells #[.slice none 0 0, .slice none 0 0, .slice none 0 0, .int .i64 0, .int .i64 0, .string ⟨#[]⟩, .slice none 0 0] 42) ∧ W.heap[w.heap.size + 1]? = some (.cells #[.int .i64 0, .int .i64 0] 30) ∧ Below w.heap.size w W ∧ W.heap.size = w.heap.size + 2 := by
  refine ⟨_, rfl, ?_, ?_, below2 w _ _, by simp⟩
  · exact ((below_new _ _).block _ (by simp)).trans (MapKept.heap_alloc w (.cells #[.slice none 0 0, .slice none 0 0, .slice none 0 0, .int .i64 0, .int .i64 0, .string ⟨#[]⟩, .slice none 0 0] 42)).1
  · simpa using (MapKept.heap_alloc (w.alloc (.cells #[.slice none 0 0, .slice none 0 0, .slice none 0 0, .int .i64 0, .int .i64 0, .string ⟨#[]⟩, .slice none 0 0] 42)) (.cells #[.int .i64 0, .int .i64 0] 30)).1
theorem box2h (w : World) (y0 y1 : Value) (t : TypeId) : ∃ W, w.alloc (.cells #[y0, y1] t) = W ∧ W.heap[w.heap.size]? = some (.cells #[y0, y1] t) ∧ Below w.heap.size w W ∧ W.heap.size = w.heap.size + 1 :=
  ⟨_, rfl, (MapKept.heap_alloc w _).1, below_new w _, by simp⟩
theorem tok_below {w w' : World} {g : Nat} {toks : List Tok} (h : TokC w g toks) (hg : g < w.heap.size) (hb : Below w.heap.size w w') : TokC w' g toks := h.block (hb.block g hg)
theorem PsAt.wide {B C : Nat} {w : World} {ps : List (ByteArray × Ty)} {v : Value} (h : PsAt B w ps v) (hB : B ≤ C) : PsAt C w ps v := by
  obtain ⟨A, c, e, hr⟩ := h
  refine ⟨A, c, e, ?_⟩
  rcases hr with h9 | ⟨b, e2, hlt, hlB, hc⟩
  · exact .inl h9
  · refine .inr ⟨b, e2, hlt, by omega, fun i hi => ?_⟩
    obtain ⟨f, n, s, A', l, c', k0, k1, k2, k3, k4, hx⟩ := hc i hi
    exact ⟨f, n, s, A', l, c', k0, k1, k2, k3, k4, hx.mono (fun y (hy : y < B) => (by omega : y < C))⟩
theorem PsAt.nil (B : Nat) (w : World) : PsAt B w [] (.slice none 0 0) := ⟨none, 0, rfl, .inl rfl⟩
theorem sc_world (z : World) (yb : Nat) (a b e p x0 x1 x2 x3 : Value) (h8 : z.heap[yb]? = some (.cells #[a, b] 30)) : ∃ U, ((z.setCell ⟨yb, 0, none⟩ e).setCell ⟨yb, 1, none⟩ p).alloc (.cells #[x0, x1, x2, x3] 27) = U ∧ U.heap[yb]? = some (.cells #[e, p] 30) ∧ U.heap[z.heap.size]? = some (.cells #[x0, x1, x2, x3] 27) ∧ (∀ k, k < z.heap.size → k ≠ yb → U.heap[k]? = z.heap[k]?) ∧ (∀ B, B ≤ yb → Below B z U) ∧ U.heap.size = z.heap.size + 1 := by
  have hlt := lt_of_block h8
  have h1 := heap_setCell_same _ yb 1 _ _ p (heap_setCell_same z yb 0 _ _ e h8)
  have hs : ((z.setCell ⟨yb, 0, none⟩ e).setCell ⟨yb, 1, none⟩ p).heap.size = z.heap.size := by simp
  have hb := below_new ((z.setCell ⟨yb, 0, none⟩ e).setCell ⟨yb, 1, none⟩ p) (.cells #[x0, x1, x2, x3] 27)
  have hn := (MapKept.heap_alloc ((z.setCell ⟨yb, 0, none⟩ e).setCell ⟨yb, 1, none⟩ p) (.cells #[x0, x1, x2, x3] 27)).1
  rw [hs] at hb hn
  refine ⟨_, rfl, (hb.block yb hlt).trans h1, hn, fun k hk hne => ?_, fun B hB => ?_, by simp⟩
  · rw [hb.block k hk, Below.heap_setCell _ _ _ _ hne, Below.heap_setCell _ _ _ _ hne]
  · exact (((Below.refl B z).setCell (p := ⟨yb, 0, none⟩) hB e).setCell (p := ⟨yb, 1, none⟩) hB p).trans (hb.mono (by omega))
set_option maxRecDepth 100000 in
set_option maxHeartbeats 1000000 in
theorem schemeC_any (toks : List Tok) (g cap i : Nat) (w : World) (hT : TokC w g toks) (hgw : g < w.heap.size) (hi : i < toks.length) (hl : toks.length ≤ 1099511627776) (hz : ∀ t ∈ toks, SymZ t) (hE : EndsT toks)
    (hsz : ∀ ps t r, schemeRaw (toks.drop i) = .ok ps t r → (∀ p ∈ ps, p.2.short) ∧ t.short ∧ (funs (ps.map (·.2)) t).sz ≤ 274877906944) :
    Calls Tryz.prog 28 #[.slice (some ⟨g, 0, none⟩) toks.length cap, .int .i64 i] w (SchemeRes toks (schemeRaw (toks.drop i)) w) := by
  obtain ⟨W, eW, k0, k1, b1, z1⟩ := scheme_boxes w
  have HPC := Lib.hid (predsC_any toks g cap i W (tok_below hT hgw b1) (by omega) hi hl hz hE)
  have hTC : ∀ (j : Nat) (q : List Tok) (y : World), q = toks.drop j → EndsT q → Below W.heap.size W y → Calls Tryz.prog 21 #[.slice (some ⟨g, 0, none⟩) toks.length cap, .int .i64 j] y (PlaceRes toks (typeL q 0) y) := fun j q y hq hEq hb => by
    subst hq
    exact typeC_any toks g cap _ j y _ ((tok_below hT hgw (b1.trans (hb.mono b1.size)))) (by have := hb.size; omega) hl hz (typeL_is hEq 0)
  have HTC := Lib.hid hTC
  have hhead : (((toks.drop i).head?.map Tok.place).getD 0) = toks[i].place := by rw [List.drop_eq_getElem_cons hi]; rfl
  have HHD := Lib.hid hhead
  have HED := Lib.hid (hE.drop hi)
  have HEW := Lib.hid eW
  have HB := Lib.hid b1
  have HK0 := Lib.hid k0
  have HK1 := Lib.hid k1
  have hWs : w.heap.size + 2 ≤ W.heap.size := by omega
  have HZ1 := Lib.hid z1
  have HSZ := Lib.hid hsz
  have HET := Lib.hid hE
  have heq := eq_at
  have hgd := guard_at
  have HSR : Hid (schemeRaw (toks.drop i) = match predsRaw (toks.drop i) with
    | some (ps, q) => if 16 < ps.length then .no 2 (((toks.drop i).head?.map Tok.place).getD 0) else withP ps (typeL q 0)
    | none => withP [] (typeL (toks.drop i) 0)) := rfl
  clear eW b1 k0 k1 z1 hT hz hE hTC hhead hsz
  -- which type is asked for, behind which predicates
  go_enter Tryz.func28, Tryz.ntmps28
  go_upto_region 1 with (fail)
  rw [HEW.out]
  go_wp2_with fail
  (with_reducible refine HPC.out.mono ?_)
  intro e1 y hy
  have HCASE : Hid ((∃ p : Nat, schemeRaw (toks.drop i) = .no 2 p ∧ e1 = .returned (.tuple #[.slice none 0 0, .int .i64 0, .agg #[.int .i64 2, .int .i64 p]]) ∧ Below W.heap.size W y) ∨
      (∃ (ps : List (ByteArray × Ty)) (q : List Tok) (j : Nat) (A : Option Addr) (c : Nat), schemeRaw (toks.drop i) = withP ps (typeL q 0) ∧ q = toks.drop j ∧ EndsT q ∧ j ≤ toks.length ∧ ps.length ≤ 16 ∧ e1 = .returned (.tuple #[.slice A ps.length c, .int .i64 j, .agg #[.int .i64 0, .int .i64 0]]) ∧ PRow W.heap.size y ps (.slice A ps.length c) ∧ Below W.heap.size W y)) := by
    cases hp : predsRaw (toks.drop i) with
    | none =>
      rw [hp] at hy
      right
      exact ⟨[], toks.drop i, i, none, 0, by rw [HSR.out, hp], rfl, HED.out, by omega, by simp, hy.1, PRow.nil _ _, hy.2⟩
    | some pq =>
      obtain ⟨ps, q⟩ := pq
      rw [hp] at hy
      rcases hy with ⟨h16, he, hb⟩ | ⟨h16, A, c, he, hrow, hb, hsuf, hne⟩
      · left
        refine ⟨toks[i].place, ?_, he, hb⟩
        rw [HSR.out, hp]; simp only; rw [if_pos h16, HHD.out]
      · right
        have hlq := List.length_pos_iff.2 hne
        have hll := hsuf.length_le
        have hqd : q = toks.drop (toks.length - q.length) := List.suffix_iff_eq_drop.1 hsuf
        refine ⟨ps, q, toks.length - q.length, A, c, ?_, hqd, ?_, by omega, h16, he, hrow, hb⟩
        · rw [HSR.out, hp]; simp only; rw [if_neg (by omega)]
        · rw [hqd]; exact HET.out.drop (by omega)
  clear hy HSR HHD HED
  rcases HCASE.out with ⟨p, hsr, rfl, hb⟩ | ⟨ps, q, j, Ap, cp, hsr, hqj, hEq, hj, h16, rfl, hprow, hb⟩
  · obtain ⟨Y, eY, l0, b2, z2⟩ := box2h y (.int .i64 2) (.int .i64 p) 30
    have hbY := hb.trans (b2.mono hb.size)
    have hsy := hb.size
    obtain ⟨c0, c1, c2, c3, c4⟩ := pair_cells l0
    obtain ⟨u0, u1, u2, u3, u4, u5, u6, u7, u8, u9, u10, u11, u12, u13, u14⟩ := seven_cells ((hbY.block w.heap.size (by omega)).trans HK0.out)
    obtain ⟨v0, v1, v2, v3, v4⟩ := pair_cells ((hbY.block (w.heap.size + 1) (by omega)).trans HK1.out)
    have HE := Lib.hid (HB.out.trans (hbY.mono HB.out.size))
    have HEY := Lib.hid eY
    have HZ2 := Lib.hid z2
    have HSR2 := Lib.hid hsr
    clear hb eY l0 b2 z2 hbY HCASE hsr
    go_upto_region 2 with (fail)
    rw [HEY.out]
    go_wp2_with fail
    go_region
    all_goals
      go_wp2_with fail
      exact bodyPost_ret (v := .tuple #[.agg #[.slice none 0 0, .slice none 0 0, .slice none 0 0, .int .i64 0, .int .i64 0, .string ⟨#[]⟩, .slice none 0 0], .int .i64 0, .agg #[.int .i64 2, .int .i64 p]]) (by simp [results, Tryz.results28, go_sem, u0, u1, u2, u3, u4, u5, u6, v0, v1]) rfl (by show SchemeRes toks (schemeRaw (toks.drop i)) w _ _; rw [HSR2.out]; exact ⟨rfl, (put9_below HE.out (Nat.le_refl _) (.slice none 0 0) (.slice none 0 0) (.slice none 0 0) (.int .i64 0) (.int .i64 0) (.string ⟨#[]⟩) (.slice none 0 0) (.int .i64 2) (.int .i64 p)).drew⟩)
  · obtain ⟨Y, eY, l0, b2, z2⟩ := box2h y (.int .i64 0) (.int .i64 0) 30
    have hbY := hb.trans (b2.mono hb.size)
    have hsy := hb.size
    obtain ⟨c0, c1, c2, c3, c4⟩ := pair_cells l0
    have HL0 := Lib.hid l0
    have HM0 := Lib.hid ((hbY.block w.heap.size (by omega)).trans HK0.out)
    have HM1 := Lib.hid ((hbY.block (w.heap.size + 1) (by omega)).trans HK1.out)
    have HBY := Lib.hid (HB.out.trans (hbY.mono HB.out.size))
    have HPROW := Lib.hid hprow
    have HYK := Lib.hid b2
    have HPS := Lib.hid (hprow.ps.on (Nat.le_refl _) b2)
    have HCALL := Lib.hid (HTC.out j q Y hqj hEq hbY)
    have HEY := Lib.hid eY
    have hyY : y.heap.size < Y.heap.size := by omega
    have HZ2 := Lib.hid z2
    have HSR2 := Lib.hid hsr
    have HEQ := Lib.hid hEq
    have herr := fun e p (h : typeL q 0 = .no e p) => (err_all (3 * q.length + 2)).2.2 q 0 e p (by rw [typeL_is hEq 0, h])
    have HERR := Lib.hid herr
    have hji : (j : Int) ≤ 1099511627776 := by omega
    clear hb eY l0 b2 z2 hbY HCASE hsr hprow hqj hEq herr
    go_upto_region 2 with (fail)
    rw [HEY.out]
    go_wp2_with fail
    (with_reducible refine HCALL.out.mono ?_)
    intro e2 z hx
    cases hty : typeL q 0 with
    | no e p =>
      rw [hty] at hx
      obtain ⟨rfl, hbz⟩ := hx
      have he := HERR.out e p hty
      have he0 : ((e : Int) == 0) = false := by rw [beq_eq_false_iff_ne]; omega
      have heI : (0 : Int) < (e : Int) := by omega
      have hz8 := (hbz.block y.heap.size hyY).trans HL0.out
      obtain ⟨i0, i1, i2, i3, i4⟩ := pair_cells hz8
      obtain ⟨U, eU, hU8, hU9, hUk, hUb, hUs⟩ := sc_world z y.heap.size _ _ (.int .i64 e) (.int .i64 p) (.int .i64 0) (.int .i64 0) (.string ⟨#[]⟩) (.slice none 0 0) hz8
      have hzs := hbz.size
      obtain ⟨j0, j1, j2, j3, j4⟩ := pair_cells hU8
      obtain ⟨u0, u1, u2, u3, u4, u5, u6, u7, u8, u9, u10, u11, u12, u13, u14⟩ := seven_cells ((hUk w.heap.size (by omega) (by omega)).trans ((hbz.block w.heap.size (by omega)).trans HM0.out))
      obtain ⟨v0, v1, v2, v3, v4⟩ := pair_cells ((hUk (w.heap.size + 1) (by omega) (by omega)).trans ((hbz.block (w.heap.size + 1) (by omega)).trans HM1.out))
      have HE := Lib.hid ((HBY.out.trans (hbz.mono HBY.out.size)).trans (hUb w.heap.size (by omega)))
      have HSR3 : Hid (schemeRaw (toks.drop i) = .no e p) := by show _ = _; rw [HSR2.out, hty]; rfl
      have HEU := Lib.hid eU
      have HUS := Lib.hid hUs
      have hne8 : w.heap.size + 1 < y.heap.size := by omega
      clear hbz hz8 eU hU8 hU9 hUk hUb hUs hty he
      go_upto_region 5 with (fail)
      rw [HEU.out]
      go_wp2_with fail
      go_region
      all_goals
        go_wp2_with fail
        exact bodyPost_ret (v := .tuple #[.agg #[.slice none 0 0, .slice none 0 0, .slice none 0 0, .int .i64 0, .int .i64 0, .string ⟨#[]⟩, .slice none 0 0], .int .i64 0, .agg #[.int .i64 e, .int .i64 p]]) (by simp [results, Tryz.results28, go_sem, u0, u1, u2, u3, u4, u5, u6, v0, v1]) rfl (by show SchemeRes toks (schemeRaw (toks.drop i)) w _ _; rw [HSR3.out]; exact ⟨rfl, (put9_below HE.out (Nat.le_refl _) (.slice none 0 0) (.slice none 0 0) (.slice none 0 0) (.int .i64 0) (.int .i64 0) (.string ⟨#[]⟩) (.slice none 0 0) (.int .i64 e) (.int .i64 p)).drew⟩)
    | ok t r =>
      rw [hty] at hx
      obtain ⟨tv, rfl, htt, hbz⟩ := hx
      obtain ⟨f, n, s, A, l, c, rfl⟩ := htt.flat
      have hz8 := (hbz.block y.heap.size hyY).trans HL0.out
      obtain ⟨i0, i1, i2, i3, i4⟩ := pair_cells hz8
      obtain ⟨U, eU, hU8, hU9, hUk, hUb, hUs⟩ := sc_world z y.heap.size _ _ (.int .i64 0) (.int .i64 0) (.int .i64 f) (.int .i64 n) (.string s) (.slice A l c) hz8
      have hzs := hbz.size
      have HSR3 : Hid (schemeRaw (toks.drop i) = .ok ps t r) := by show _ = _; rw [HSR2.out, hty]; rfl
      obtain ⟨hs1, hs2, hs3⟩ := HSZ.out ps t r HSR3.out
      obtain ⟨j0, j1, j2, j3, j4⟩ := pair_cells hU8
      obtain ⟨d0, d1, d2, d3, d4, d5, d6, d7, d8⟩ := four_cells hU9
      have HM0U := Lib.hid ((hUk w.heap.size (by omega) (by omega)).trans ((hbz.block w.heap.size (by omega)).trans HM0.out))
      have HM1U := Lib.hid ((hUk (w.heap.size + 1) (by omega) (by omega)).trans ((hbz.block (w.heap.size + 1) (by omega)).trans HM1.out))
      have HEw := Lib.hid ((HBY.out.trans (hbz.mono HBY.out.size)).trans (hUb w.heap.size (by omega)))
      have HPSU : Hid (PsAt y.heap.size U ps (.slice Ap ps.length cp)) := (HPS.out.on (Nat.le_of_lt hyY) hbz).on (Nat.le_refl _) (hUb y.heap.size (Nat.le_refl _))
      have HTU : Hid (TyAt (fun b => Y.heap.size ≤ b) U t (.agg #[.int .i64 f, .int .i64 n, .string s, .slice A l c])) := htt.bound.keep (w' := U) ⟨by omega, fun b off (hp : Y.heap.size ≤ b ∧ b < z.heap.size) _ => World.cell?_of_block (a := ⟨b, off, none⟩) (hUk b hp.2 (by omega))⟩ |>.mono (fun b hb => hb.1)
      have HV := Lib.hid (fun x (hb : Below U.heap.size U x) => variables_any (fun b => Y.heap.size ≤ b) ps t _ _ x (PsAt.wide (HPSU.out.on (by omega) hb) (by have := hb.size; omega)) (HTU.out.on hb) h16 hs1 hs2 hs3)
      have HVD := Lib.hid (HV.out U.drew (Below.refl _ U).drew)
      have HKV : Hid (∀ (v : World) (Av : Option Addr) (nv cv : Nat), OwnS U.drew.heap.size v (.slice Av nv cv) (funs (ps.map (·.2)) t).free → Below U.drew.heap.size U.drew v →
          v.heap[w.heap.size]? = some (.cells #[.slice none 0 0, .slice none 0 0, .slice none 0 0, .int .i64 0, .int .i64 0, .string ⟨#[]⟩, .slice none 0 0] 42) ∧ v.heap[w.heap.size + 1]? = some (.cells #[.int .i64 0, .int .i64 0] 30) ∧ v.heap[z.heap.size]? = some (.cells #[.int .i64 f, .int .i64 n, .string s, .slice A l c] 27) ∧
          SchemeRes toks (.ok ps t r) w (.returned (.tuple #[.agg #[.slice Av nv cv, .slice none 0 0, .slice Ap ps.length cp, .int .i64 f, .int .i64 n, .string s, .slice A l c], .int .i64 ((toks.length - r.length : Nat) : Int), .agg #[.int .i64 0, .int .i64 0]])) (put9 v w.heap.size (.slice Av nv cv) (.slice none 0 0) (.slice Ap ps.length cp) (.int .i64 f) (.int .i64 n) (.string s) (.slice A l c) (.int .i64 0) (.int .i64 0))) := fun v Av nv cv hou hbv => by
        have hbU : Below U.heap.size U v := (Below.refl U.heap.size U).drew.trans hbv
        have hvs := hbU.size
        have h9 := put9_block v w.heap.size (.slice Av nv cv) (.slice none 0 0) (.slice Ap ps.length cp) (.int .i64 f) (.int .i64 n) (.string s) (.slice A l c) (.int .i64 0) (.int .i64 0)
        have h8 := put9_size v w.heap.size (.slice Av nv cv) (.slice none 0 0) (.slice Ap ps.length cp) (.int .i64 f) (.int .i64 n) (.string s) (.slice A l c) (.int .i64 0) (.int .i64 0)
        have h7 := put9_below (HEw.out.trans (hbU.mono HEw.out.size)) (Nat.le_refl _) (.slice Av nv cv) (.slice none 0 0) (.slice Ap ps.length cp) (.int .i64 f) (.int .i64 n) (.string s) (.slice A l c) (.int .i64 0) (.int .i64 0)
        refine ⟨(hbU.block _ (by omega)).trans HM0U.out, (hbU.block _ (by omega)).trans HM1U.out, (hbU.block _ (by omega)).trans hU9, ?_⟩
        generalize put9 v w.heap.size (.slice Av nv cv) (.slice none 0 0) (.slice Ap ps.length cp) (.int .i64 f) (.int .i64 n) (.string s) (.slice A l c) (.int .i64 0) (.int .i64 0) = Z at *
        have hou2 := hou
        refine ⟨Av, nv, cv, Ap, cp, f, n, s, A, l, c, rfl, ?_, ?_, ?_, h7⟩
        · have hz9 : OwnS U.drew.heap.size Z (.slice Av nv cv) (funs (ps.map (·.2)) t).free := own_keep hou (fun k hk => by
            have hk1 : U.heap.size ≤ k := (World.ownsRow.lt hou k hk).1
            exact h9 k (by omega) (by omega))
          exact own_lower hz9 (show w.heap.size ≤ U.heap.size from HEw.out.size)
        · refine (HPROW.out.keepH (w' := Z) (by omega) (fun k h1 h2 => ?_)).lower (by omega)
          rw [h9 k (by omega) (by omega), hbU.block k (by omega), hUk k (by omega) (by omega), hbz.block k (by omega), HYK.out.block k h2]
        · exact ((HTU.out.on hbU).keep (w' := Z) ⟨by omega, fun b off (hp : Y.heap.size ≤ b) _ => World.cell?_of_block (a := ⟨b, off, none⟩) (h9 b (by omega) (by omega))⟩).mono (fun b hb => by have : Y.heap.size ≤ b := hb; omega)
      have HEU := Lib.hid eU
      have HUS := Lib.hid hUs
      have hne8 : w.heap.size + 1 < y.heap.size := by omega
      have hne9 : w.heap.size + 1 < z.heap.size := by omega
      generalize hpq : ((toks.length - r.length : Nat) : Int) = pq at *
      clear hbz hz8 eU hU8 hU9 hUk hUb hUs hty htt hs1 hs2 hs3 HV
      go_upto_region 5 with (fail)
      rw [HEU.out]
      go_upto_region 7 with (fail)
      go_region_law (go_simp; go_at_call 53; (with_reducible refine HVD.out.mono ?_); rintro e3 v ⟨⟨u, rfl, hou⟩, hbv⟩; obtain ⟨Av, cv, rfl⟩ := own_form hou; have hk := HKV.out v Av _ cv hou hbv; obtain ⟨u0, u1, u2, u3, u4, u5, u6, u7, u8, u9, u10, u11, u12, u13, u14⟩ := seven_cells hk.1; obtain ⟨v0, v1, v2, v3, v4⟩ := pair_cells hk.2.1; obtain ⟨g0, g1, g2, g3, g4, g5, g6, g7, g8⟩ := four_cells hk.2.2.1; have HF := Lib.hid hk.2.2.2; clear hk hou hbv)
      all_goals
        go_wp2_with fail
        refine bodyPost_ret (v := .tuple #[.agg #[.slice Av (funs (ps.map (·.2)) t).free.length cv, .slice none 0 0, .slice Ap ps.length cp, .int .i64 f, .int .i64 n, .string s, .slice A l c], .int .i64 pq, .agg #[.int .i64 0, .int .i64 0]]) (by simp [results, Tryz.results28, go_sem, u0, u1, u2, u3, u4, u5, u6, v0, v1]) rfl ?_
        show SchemeRes toks (schemeRaw (toks.drop i)) w _ _
        rw [HSR3.out]
        exact HF.out
end Go.Proofs.YtbdfjboojokgdaaGreatDoor
