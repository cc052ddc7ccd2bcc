/- The contract of a trial's join. Conditions: those that the theorem names. -/
import Derived.Test.YtomhojpoaicioaaJoinR
namespace Go.Proofs.Ytomhojpoaicioaa
open Go.RowKit
theorem two_boxes (w : World) (a0 a1 a2 b0 b1 b2 : Value) (t : TypeId) : ∃ W, W = (w.alloc (.cells #[a0, a1, a2] t)).alloc (.cells #[b0, b1, b2] t) ∧ Below w.heap.size w W ∧ W.heap.size = w.heap.size + 2 ∧ W.heap[w.heap.size]? = some (.cells #[a0, a1, a2] t) ∧ W.heap[w.heap.size + 1]? = some (.cells #[b0, b1, b2] t) := by
  refine ⟨_, rfl, (below_new w _).trans ((below_new _ _).mono (by simp)), by simp, ?_, ?_⟩
  · exact ((below_new (w.alloc (.cells #[a0, a1, a2] t)) _).block w.heap.size (by simp)).trans (MapKept.heap_alloc w _).1
  · have := (MapKept.heap_alloc (w.alloc (.cells #[a0, a1, a2] t)) (.cells #[b0, b1, b2] t)).1
    simpa using this
theorem TB.of {P : Nat → Prop} {q : World} {g : Nat} {t : Tz} {A : Option Addr} {c : Nat} {ty : TypeId} (hb : q.heap[g]? = some (.cells #[.int .i64 (formZ t), .int .i64 (numZ t), .slice A (argsZ t) c] ty)) (hz : ZAt P q t (.agg #[.int .i64 (formZ t), .int .i64 (numZ t), .slice A (argsZ t) c])) : TB P q g t A c :=
  ⟨by simp [World.cell?, hb], by simp [World.cell?, hb], by simp [World.cell?, hb], by simp [World.frozen?, hb], by simp [World.frozen?, hb], by simp [World.frozen?, hb], hz⟩
/-- Two boxes that hold terms, new ones. -/
structure TB2 (P : Nat → Prop) (w W : World) (a b : Tz) (A : Option Addr) (ca : Nat) (B : Option Addr) (cb : Nat) : Prop where
  ta : TB P W w.heap.size a A ca
  tb : TB P W (w.heap.size + 1) b B cb
  bw : Below w.heap.size w W
theorem flen {L : Nat → Prop} {w : World} {tb sb mb sz : Nat} {made : Int} {kn : Kn} {bv : Value} {fs : List F5} {log : List (Int × Option Tz)} (h : TrAt L w tb sb mb sz made kn bv fs log) : fs.length = log.length := h.log.1
theorem lt2 {a b c d : Nat} (h : a ≤ b + c) (h2 : b + 0 + c + 2 < d) : a < d := by omega
theorem lt3 {a b c d e : Nat} (h0 : e = a) (h : a ≤ b + c) (h2 : b + 0 + c + 2 < d) : e < d := by omega
theorem TB2.swap {P : Nat → Prop} {w W : World} {a b : Tz} {A B : Option Addr} {ca cb : Nat} (h : TB2 P w W a b A ca B cb) (hP : ∀ b, P b → b < w.heap.size) :
    TB2 P w (put3 (put3 W w.heap.size (.int .i64 (formZ b)) (.int .i64 (numZ b)) (.slice B (argsZ b) cb)) (w.heap.size + 1) (.int .i64 (formZ a)) (.int .i64 (numZ a)) (.slice A (argsZ a) ca)) b a B cb A ca := by
  have n0 : ¬ P w.heap.size := fun e => by have := hP _ e; omega
  have n1 : ¬ P (w.heap.size + 1) := fun e => by have := hP _ e; omega
  have h1 := h.ta.put h.tb.zt n0
  have h2 := h.tb.keep (put3_block (q := W) (g := w.heap.size) (u := .int .i64 (formZ b)) (v := .int .i64 (numZ b)) (z := .slice B (argsZ b) cb) (by omega)) (put3_keeps n0)
  have h3 := h2.put (h.ta.zt.keep (put3_keeps (g := w.heap.size) (u := .int .i64 (formZ b)) (v := .int .i64 (numZ b)) (z := .slice B (argsZ b) cb) n0)) n1
  exact ⟨h1.keep (put3_block (by omega)) (put3_keeps n1), h3, put3_below (put3_below h.bw (Nat.le_refl _)) (Nat.le_succ _)⟩
/-- Two that join takes up: a variable first, or none. -/
theorem join_swap (s : KS) (a b : Tz) : ∃ a' b', ((∃ m, a = .var m) ∧ a' = a ∧ b' = b ∨ (∀ m, a ≠ .var m) ∧ a' = b ∧ b' = a) ∧ joinF s a b = joinF s a' b' ∧ ((∃ m, a' = .var m) ∨ (∀ m, a' ≠ .var m) ∧ ∀ m, b' ≠ .var m) := by
  by_cases h : ∃ m, a = .var m
  · exact ⟨a, b, .inl ⟨h, rfl, rfl⟩, rfl, .inl h⟩
  · have ha : ∀ m, a ≠ .var m := fun m e => h ⟨m, e⟩
    refine ⟨b, a, .inr ⟨ha, rfl, rfl⟩, ?_, ?_⟩
    · cases b with
      | var n => rw [joinF_to ha, joinF_var ha]
      | star => rw [joinF_no ha (fun m e => by cases e), joinF_no (fun m e => by cases e) ha]
      | arr x y => rw [joinF_no ha (fun m e => by cases e), joinF_no (fun m e => by cases e) ha]
    · by_cases hb : ∃ m, b = .var m
      · exact .inl hb
      · exact .inr ⟨fun m e => hb ⟨m, e⟩, ha⟩
set_option maxRecDepth 100000 in
set_option maxHeartbeats 2000000 in
theorem join_any (L : Nat → Prop) (w : World) (tb sb mb : Nat) (made : Int) (s : KS) (bv : Value) (fs : List F5) (a0 b0 : Tz) (va vb : Value) (hT : TrAt L w tb sb mb s.sz made s.kn bv fs s.log) (hL : ∀ b, L b → b < w.heap.size)
    (hza : ZAt (FL L tb sb mb bv) w a0 va) (hzb : ZAt (FL L tb sb mb bv) w b0 vb) (ha0 : RootT s.kn a0) (hb0 : RootT s.kn b0)
    (hsz0 : s.sz + arrows a0 + arrows b0 + 2 < 1000000000) (hlg0 : s.log.length + arrows a0 + arrows b0 + 2 < 1000000000) :
    Calls Try.prog 54 #[.pointer (some ⟨tb, 0, none⟩), va, vb] w (JRes L tb sb mb made bv w (joinF s a0 b0)) := by
  obtain ⟨a, b, hsw, hjs, hcase⟩ := join_swap s a0 b0
  rw [hjs]
  have hsz : s.sz + arrows a + arrows b + 2 < 1000000000 := by rcases hsw with ⟨_, rfl, rfl⟩ | ⟨_, rfl, rfl⟩ <;> omega
  have hlg : s.log.length + arrows a + arrows b + 2 < 1000000000 := by rcases hsw with ⟨_, rfl, rfl⟩ | ⟨_, rfl, rfl⟩ <;> omega
  have ha : RootT s.kn a := by rcases hsw with ⟨_, rfl, rfl⟩ | ⟨_, rfl, rfl⟩ <;> assumption
  have hb : RootT s.kn b := by rcases hsw with ⟨_, rfl, rfl⟩ | ⟨_, rfl, rfl⟩ <;> assumption
  obtain ⟨Aa, ca, rfl⟩ := hza.form
  obtain ⟨Ab, cb, rfl⟩ := hzb.form
  obtain ⟨W0, eW, bW, zW, k4, k5⟩ := two_boxes w (.int .i64 (formZ a0)) (.int .i64 (numZ a0)) (.slice Aa (argsZ a0) ca) (.int .i64 (formZ b0)) (.int .i64 (numZ b0)) (.slice Ab (argsZ b0) cb) 49
  have hlt : ∀ b, PB L tb sb mb bv w.heap.size b → b < w.heap.size := fun b h => h.2
  have T2 : TB2 (PB L tb sb mb bv w.heap.size) w W0 a0 b0 Aa ca Ab cb := ⟨TB.of k4 (hza.bound.on bW), TB.of k5 (hzb.bound.on bW), bW⟩
  obtain ⟨Aa', ca', Ab', cb', hAB⟩ : ∃ Aa' ca' Ab' cb', ((∃ m, a0 = .var m) ∧ a = a0 ∧ b = b0 ∧ Aa' = Aa ∧ ca' = ca ∧ Ab' = Ab ∧ cb' = cb) ∨ ((∀ m, a0 ≠ .var m) ∧ a = b0 ∧ b = a0 ∧ Aa' = Ab ∧ ca' = cb ∧ Ab' = Aa ∧ cb' = ca) := by
    rcases hsw with ⟨h1, h2, h3⟩ | ⟨h1, h2, h3⟩
    · exact ⟨_, _, _, _, .inl ⟨h1, h2, h3, rfl, rfl, rfl, rfl⟩⟩
    · exact ⟨_, _, _, _, .inr ⟨h1, h2, h3, rfl, rfl, rfl, rfl⟩⟩
  have HT := Lib.hid hT
  have HW := Lib.hid eW
  have HZW := Lib.hid zW
  have HLT := Lib.hid hlt
  have HAB := Lib.hid hAB
  have HA := Lib.hid ha
  have HB := Lib.hid hb
  have H20 := Lib.hid T2
  have HCASE := Lib.hid hcase
  clear hT hza hzb eW k4 k5 bW zW hlt hAB ha hb T2 hsw hjs hcase ha0 hb0 hsz0 hlg0
  go_enter Try.func54, Try.ntmps54
  go_upto_region 1 with (fail)
  rw [← HW.out]
  have c0 := H20.out.ta.c0
  have c1 := H20.out.ta.c1
  have c2 := H20.out.ta.c2
  have d0 := H20.out.tb.c0
  have d1 := H20.out.tb.c1
  have d2 := H20.out.tb.c2
  have f0 := H20.out.ta.f0
  have f1 := H20.out.ta.f1
  have f2 := H20.out.ta.f2
  have g0 := H20.out.tb.f0
  have g1 := H20.out.tb.f1
  have g2 := H20.out.tb.f2
  go_upto_if 8 with (fail)
  go_cut [] (fun wx => TB2 (PB L tb sb mb bv w.heap.size) w wx a b Aa' ca' Ab' cb')
  case first =>
    by_cases hav : ∃ m, a0 = .var m
    · obtain ⟨m, rfl⟩ := hav
      go_wp2
      go_meet
      rcases HAB.out with ⟨_, rfl, rfl, rfl, rfl, rfl, rfl⟩ | ⟨h, _⟩
      · exact H20.out
      · exact absurd rfl (h m)
    · have hn := formZ_no (fun m e => hav ⟨m, e⟩)
      generalize hF : formZ a0 = F at *
      go_wp2
      go_meet
      subst hF
      rcases HAB.out with ⟨⟨m, h⟩, _⟩ | ⟨_, rfl, rfl, rfl, rfl, rfl, rfl⟩
      · exact absurd ⟨m, h⟩ hav
      · exact H20.out.swap HLT.out
  case rest =>
    obtain ⟨W, rfl⟩ : ∃ x, x = wc := ⟨_, rfl⟩
    have H2 := Lib.hid hcut
    clear hcut c0 c1 c2 d0 d1 d2 f0 f1 f2 g0 g1 g2 H20 HZW HW HAB
    have hna := H2.out.ta.zt.num
    have hnb := H2.out.tb.zt.num
    have ha := HA.out
    have hb := HB.out
    have a0 := H2.out.ta.c0
    have a1 := H2.out.ta.c1
    have a2 := H2.out.ta.c2
    have b0 := H2.out.tb.c0
    have b1 := H2.out.tb.c1
    have b2 := H2.out.tb.c2
    rcases HCASE.out with ⟨m, rfl⟩ | ⟨hav, hbv⟩
    · change W.cell? ⟨w.heap.size, 0, none⟩ = some (.int .i64 1) at a0
      change W.cell? ⟨w.heap.size, 1, none⟩ = some (.int .i64 m) at a1
      change W.cell? ⟨w.heap.size, 2, none⟩ = some (.slice Aa' 0 ca') at a2
      have hm1 := hna.1
      have hm2 := hna.2
      change -9223372036854775808 ≤ m at hm1
      change m ≤ 9223372036854775807 at hm2
      by_cases hbv : ∃ n, b = .var n
      · obtain ⟨n, rfl⟩ := hbv
        change W.cell? ⟨w.heap.size + 1, 0, none⟩ = some (.int .i64 1) at b0
        change W.cell? ⟨w.heap.size + 1, 1, none⟩ = some (.int .i64 n) at b1
        have hn1 := hnb.1
        have hn2 := hnb.2
        change -9223372036854775808 ≤ n at hn1
        change n ≤ 9223372036854775807 at hn2
        have HC := Lib.hid (joinVars_any L W tb sb mb made s bv fs m n (HT.out.on H2.out.bw) hm1 hm2 hn1 hn2 (fun j => ha m j rfl) (fun j => hb n j rfl) (by simp only [arrows] at hsz; omega) (by simp only [arrows] at hlg; omega))
        clear hna hnb ha hb hsz hlg
        go_wp2_with fail
        refine HC.out.mono ?_
        rintro e w' ⟨rfl, bv', fs', h1, h2⟩
        have HF := Lib.hid ((Fr.of_below H2.out.bw).trans h2)
        have H1 := Lib.hid h1
        clear h1 h2
        go_wp2
        go_end0
        exact ⟨rfl, bv', fs', H1.out, HF.out⟩
      · have hbn : ∀ n, b ≠ .var n := fun n e => hbv ⟨n, e⟩
        have hf := formZ_no hbn
        have hj : joinF s (.var m) b = joinT s m b := joinF_var hbn
        obtain ⟨km, hcm⟩ := lookR_chain (kn := s.kn) (a := m) (fun j => ha m j rfl)
        have HCM : Hid (∀ y, Below W.heap.size W y → Calls Try.prog 47 #[.pointer (some ⟨sb, 0, none⟩), .agg #[.int .i64 1, .int .i64 m, .slice Aa' 0 ca']] y (TermZ (PB L tb sb mb bv w.heap.size) y (lookR s.kn m))) := fun y hy => plook_any _ km _ _ _ y sb mb s.sz made s.kn hcm ((HT.out.sol.bound.on H2.out.bw).on hy) (.var m Aa' ca' hm1 hm2)
        have H0 : Hid (∀ y, Below W.heap.size W y → y.cell? ⟨tb, 0, none⟩ = some (.pointer (some ⟨sb, 0, none⟩))) := fun y hy => ((HT.out.on H2.out.bw).on hy).t0
        have H4 : Hid (∀ q, Below W.heap.size W q → q.cell? ⟨w.heap.size, 0, none⟩ = some (.int .i64 1) ∧ q.cell? ⟨w.heap.size, 1, none⟩ = some (.int .i64 m) ∧ q.cell? ⟨w.heap.size, 2, none⟩ = some (.slice Aa' 0 ca')) := fun q hq => ⟨(H2.out.ta.on hq).c0, (H2.out.ta.on hq).c1, (H2.out.ta.on hq).c2⟩
        have HJ := Lib.hid hj
        have HHA := Lib.hid ha
        have HFB0 := Lib.hid (FB_new HT.out (Nat.le_refl w.heap.size))
        have HFB1 := Lib.hid (FB_new HT.out (Nat.le_succ w.heap.size))
        have hw0 := H2.out.ta.lt
        have hw1 := H2.out.tb.lt
        have hL2 : ∀ b, L b → b < W.heap.size := fun b h => by have := hL b h; omega
        have HLW := Lib.hid hL2
        clear hj ha hb hcm hna hnb hL2 hL
        simp only [arrows] at hsz hlg
        have HFF := Lib.hid hf
        generalize hFF : formZ b = F at hf b0
        generalize hGG : numZ b = G at b1
        generalize hMM : argsZ b = M at b2
        go_upto_region 5 with (fail)
        refine join5 (P := PB L tb sb mb bv w.heap.size) H4 H0 HCM ?_
        rintro x0 x1 x2 x3 x4 x5 x6 x7 x8 x9 x10 x11 x12 x13 y rfl hby
        have HBY := Lib.hid hby
        have bb := H2.out.tb.on hby
        have aa := H2.out.ta.on hby
        have g1 : y.cell? ⟨w.heap.size, 1, none⟩ = some (.int .i64 m) := aa.c1
        have g0 := bb.c0
        have e1 := bb.c1
        have e2 := bb.c2
        rw [hFF] at g0
        rw [hGG] at e1
        rw [hMM] at e2
        clear hby aa a0 a1 a2 b0 b1 b2
        cases hkm : s.kn m with
        | some t =>
          have el : (formZ (lookR s.kn m) == 1) = false := by
            have e9 : lookR s.kn m = t := by unfold lookR; rw [hkm]
            rw [e9]; exact formZ_no (fun j e => HHA.out m j rfl (by rw [hkm, e]))
          rw [el]
          have ej : joinT s m b = s := by unfold joinT; rw [hkm]
          have HEJ := Lib.hid ej
          clear el ej hkm hFF hGG hMM
          go_wp2
          go_end0
          rw [HJ.out, HEJ.out]
          exact ⟨rfl, bv, fs, (HT.out.on H2.out.bw).on HBY.out, Fr.of_below (H2.out.bw.trans (HBY.out.mono H2.out.bw.size))⟩
        | none =>
          have el : (formZ (lookR s.kn m) == 1) = true := by unfold lookR; rw [hkm]; rfl
          rw [el]
          have ej : joinT s m b = (flatF b s).2.learn m (flatF b s).1 := by unfold joinT; rw [hkm]
          have HEJ := Lib.hid ej
          obtain ⟨_, _, hfz, hfl⟩ := flat_sz b s
          have hT1 := ((HT.out.on H2.out.bw).on HBY.out).on (Below.refl _ y).drew
          have HCF : Hid (Calls Try.prog 59 #[.pointer (some ⟨tb, 0, none⟩), .agg #[.int .i64 F, .int .i64 G, .slice Ab' M cb']] y.drew (FlatRes L tb sb mb made bv y.drew (flatF b s))) := by
            have := flat_any tb sb mb made b L (.agg #[.int .i64 F, .int .i64 G, .slice Ab' M cb']) y.drew s bv fs hT1 (fun b h => Nat.lt_of_lt_of_le (HLW.out b h) HBY.out.size) (by rw [← hFF, ← hGG, ← hMM]; exact (bb.on (Below.refl _ y).drew).zt.mono (fun b h => h.1)) (by omega) (by omega)
            exact this
          have HFZ := Lib.hid hfz
          have HFL := Lib.hid hfl
          have z0 : w.heap.size < y.drew.heap.size := Nat.lt_of_lt_of_le hw0 HBY.out.size
          have z1 : w.heap.size + 1 < y.drew.heap.size := Nat.lt_of_lt_of_le hw1 HBY.out.size
          have keepS : Hid (∀ q bv', Fr tb sb mb bv bv' y.drew q → q.cell? ⟨w.heap.size, 1, none⟩ = some (.int .i64 m) ∧ q.cell? ⟨w.heap.size + 1, 0, none⟩ = some (.int .i64 F) ∧ q.cell? ⟨w.heap.size + 1, 1, none⟩ = some (.int .i64 G) ∧ q.cell? ⟨w.heap.size + 1, 2, none⟩ = some (.slice Ab' M cb')) := fun q bv' fr => by
            have q0 := fr.block w.heap.size z0 HFB0.out
            have q1 := fr.block (w.heap.size + 1) z1 HFB1.out
            exact ⟨(World.cell?_of_block (a := ⟨w.heap.size, 1, none⟩) q0).trans g1, (World.cell?_of_block (a := ⟨w.heap.size + 1, 0, none⟩) q1).trans g0, (World.cell?_of_block (a := ⟨w.heap.size + 1, 1, none⟩) q1).trans e1, (World.cell?_of_block (a := ⟨w.heap.size + 1, 2, none⟩) q1).trans e2⟩
          have hS0 := keepS.out y.drew bv (Fr.of_below (Below.refl _ _))
          clear el ej hkm hFF hGG hMM hfz hfl hT1 bb
          go_upto_region 6 with (fail)
          generalize flatF b s = rf at *
          go_region_held3 (fun q => q.cell? ⟨w.heap.size, 1, none⟩ = some (.int .i64 m) ∧ q.cell? ⟨w.heap.size + 1, 0, none⟩ = some (.int .i64 F) ∧ q.cell? ⟨w.heap.size + 1, 1, none⟩ = some (.int .i64 G) ∧ q.cell? ⟨w.heap.size + 1, 2, none⟩ = some (.slice Ab' M cb')) (first | with_reducible exact hS0 | with_reducible exact hS1 | with_reducible exact hS2) (first | (go_at_call 59; (with_reducible refine HCF.out.mono ?_); rintro e y2 ⟨v2, bv2, fs2, rfl, hz2, hT2, fr2⟩; have hS1 := keepS.out y2 bv2 fr2; obtain ⟨A2, c2, rfl⟩ := hz2.form; have hfs2 := flen hT2; have HCL := learn_any L y2 tb sb mb rf.2.sz made rf.2.kn bv2 fs2 rf.2.log m rf.1 _ hT2 hz2 hm1 hm2 (lt2 HFZ.out hsz) (lt3 hfs2 HFL.out hlg)) | (go_at_call 58; (with_reducible refine HCL.mono ?_); rintro e y3 ⟨rfl, bv3, fs3, hT3, fr3⟩; have fr23 := fr2.trans fr3; have hS2 := keepS.out y3 bv3 fr23))
          have HF3 := Lib.hid ((Fr.of_below ((H2.out.bw.trans (HBY.out.mono H2.out.bw.size)).drew)).trans fr23)
          have HT3 := Lib.hid hT3
          clear hS0 hS1 hS2 hT2 hT3 fr2 fr3 fr23 HCL hz2 hfs2
          go_wp2
          go_end0
          rw [HJ.out, HEJ.out]
          exact ⟨rfl, bv3, fs3, HT3.out, HF3.out⟩

    · have h1 := formZ_no hav
      have h2 := formZ_no hbv
      have HJ := Lib.hid (joinF_no (s := s) hav hbv)
      generalize formZ a = F at *
      generalize formZ b = G at *
      clear hav hbv ha hb hna hnb
      go_upto_region 5 with (fail)
      go_region
      all_goals go_wp2
      all_goals
        go_end0
        rw [HJ.out]
        exact ⟨rfl, bv, fs, (HT.out.on H2.out.bw).on (Below.refl _ _).drew, Fr.of_below H2.out.bw.drew⟩
end Go.Proofs.Ytomhojpoaicioaa
