/- The contract of a trial's unify. Conditions: those that each theorem names. -/
import Derived.Test.YtomhojpoaicioaaUniT
import Derived.Test.YtomhojpoaicioaaUniN
namespace Go.Proofs.Ytomhojpoaicioaa
open Go.RowKit Tm

/-- What unify answered. -/
def UniRes (N M : Nat) (L : Nat → Prop) (tb sb mb : Nat) (made : Int) (bv : Value) (w : World) (s : KS) (σ : Sb) (g : Nat) (A : Tm) (r : Except Nat Sb) (e : Ending) (w' : World) : Prop :=
  ∃ bv' fs' s', TrAt L w' tb sb mb s'.sz made s'.kn bv' fs' s'.log ∧ Fr tb sb mb bv bv' w w' ∧
    match r with
    | .ok σ' => e = .returned (.int .i64 0) ∧ Move N M g s s' σ σ' ∧ Stays s s' σ' A ∧ Ext σ' σ'
    | .error c => e = .returned (.int .i64 c) ∧ Back N M g s s' σ
def UniOk (N M tb sb mb : Nat) (made : Int) (σ : Sb) (A B : Tm) (r : Except Nat Sb) : Prop :=
  ∀ (L : Nat → Prop) (a b : Tz) (va vb : Value) (w : World) (s : KS) (bv : Value) (fs : List F5), Inv N s σ → Den s.kn a (A.sub σ) → Den s.kn b (B.sub σ) → VarsTo N A → VarsTo N B → TrAt L w tb sb mb s.sz made s.kn bv fs s.log → (∀ b, L b → b < w.heap.size) →
    ZAt (FL L tb sb mb bv) w a va → ZAt (FL L tb sb mb bv) w b vb → s.sz + leftN N σ + arrows a + arrows b ≤ M → 2 * M + 2 < 1000000000 → 2 * (wt N M s σ + arrows a + arrows b) + 2 < 1000000000 →
    Calls Try.prog 45 #[.pointer (some ⟨tb, 0, none⟩), va, vb] w (UniRes N M L tb sb mb made bv w s σ (arrows a + arrows b) A r)
theorem within_new {P : Nat → Prop} {q2 : World} {sb mb sz : Nat} {made : Int} {kn : Kn} (hP : ∀ b, P b → b < q2.heap.size) (hsb : sb < q2.heap.size) (hmb : mb < q2.heap.size) (hS : ∀ q, Below q2.heap.size q2 q → SolAt P q sb mb sz made kn) (hsz : sz < 1000000000) {n : Nat} (hkn : kn n = none) {t : Tz} {T : Tm} (hd : Den kn t T) {v : Value} (hz : ZAt P q2 t v) :
    ∀ q xb, Below q2.heap.size q2 q → q2.heap.size ≤ xb → MapI Try.prog 3 q xb 0 (seenF fun _ => false) → Calls Try.prog 53 #[.pointer (some ⟨sb, 0, none⟩), .int .i64 n, v, .map (some xb)] q (fun e w' => e = .returned (.bool (T.occ n)) ∧ Below xb q w') := fun q xb hq hxb hM => by
  obtain ⟨h, hh⟩ := hd.high
  refine (within_any P sb mb sz made kn xb n (fun b hb => Nat.lt_of_lt_of_le (hP b hb) hxb) (by omega) (by omega) hkn (by omega) h t T hh v q (fun _ => false) 0 (hS q hq) (hz.on hq) hM (fun m e => by cases e) (fun m e => by cases e)).mono ?_
  rintro e w' ⟨h1, h2, _⟩
  exact ⟨h1, h2⟩
theorem root_two {kn : Kn} {a : Tz} {A : Tm} (hr : RootT kn a) (hd : Den kn a A) : (∃ m : Nat, 1 ≤ m ∧ a = .var m ∧ kn m = none ∧ A = .var m ∧ lookZ kn a = .var m) ∨ ((∀ n, lookZ kn a ≠ .var n) ∧ ∀ n, A ≠ .var n) := by
  rcases root_cases hr hd with ⟨m, h1, rfl, h2, h3⟩ | ⟨i, t, rfl, ht, hv, _, hA⟩ | ⟨hv, hA⟩
  · exact .inl ⟨m, h1, rfl, h2, h3, lookZ_none h2⟩
  · exact .inr ⟨fun n e => hv n (by rw [← lookZ_some ht]; exact e), hA⟩
  · refine .inr ⟨fun n e => ?_, hA⟩
    cases a with
    | var i => exact hv i rfl
    | star => cases e
    | arr x y => cases e
theorem wt_log (N M : Nat) (s : KS) (σ : Sb) : s.log.length ≤ wt N M s σ := by unfold wt; omega
/-- Behind join. -/
theorem uni_joined {N M : Nat} {L : Nat → Prop} {tb sb mb : Nat} {made : Int} {bv bv' : Value} {fs' : List F5} {w w' : World} {s : KS} {σ : Sb} {ra rb : Tz} {A A' B' : Tm} {g : Nat} (hi : Inv N s σ) (hM : s.sz ≤ M) (hra : RootT s.kn ra) (hrb : RootT s.kn rb) (hda : Den s.kn ra A') (hdb : Den s.kn rb B') (eA : A.sub σ = A')
    (hne : ¬ ∃ i, ra = .var i ∧ rb = .var i) (hA : VarsTo N A') (hB : VarsTo N B') (hk : OkJ A' B') (hu : A'.sub (joinS σ A' B') = B'.sub (joinS σ A' B')) (hg : arrows ra + arrows rb ≤ g) (hT : TrAt L w' tb sb mb (joinF s ra rb).sz made (joinF s ra rb).kn bv' fs' (joinF s ra rb).log) (hF : Fr tb sb mb bv bv' w w') :
    UniRes N M L tb sb mb made bv w s σ g A (.ok (joinS σ A' B')) (.returned (.int .i64 0)) w' := by
  have hm := joinF_move (M := M) hi hM hra hrb hda hdb (fun n e1 e2 => hne ⟨n, e1, e2⟩) hA hB hk
  refine ⟨bv', fs', _, hT, hF, rfl, hm.more hg, ?_, hm.inv.st.idem⟩
  have hst := stays_join (a := ra) (b := rb) hi.inn hda hdb hu
  intro θ hθ i U hd hs
  refine hst θ hθ i U hd ?_
  rw [← eA, ext_sub (ext_trans hθ hm.ext)]
  exact hs
theorem unif_unifies {f : Nat} {σ σ' : Sb} {A B : Tm} (hi : Idem σ) (h : unif f σ A B = .ok σ') : (A.sub σ).sub σ' = (B.sub σ).sub σ' := by
  have := unif_good f σ A B hi
  rw [h] at this
  obtain ⟨_, h2, h3, _⟩ := this
  rw [ext_sub h2, ext_sub h2]; exact h3
theorem ZAt.args {P : Nat → Prop} {w : World} {a b : Tz} {A : Option Addr} {c : Nat} (h : ZAt P w (.arr a b) (.agg #[.int .i64 3, .int .i64 0, .slice A 2 c])) : ∃ g off Aa ca Ab cb, A = some ⟨g, off, none⟩ ∧ w.cell? ⟨g, off, none⟩ = some (.int .i64 (formZ a)) ∧ w.cell? ⟨g, off + 1, none⟩ = some (.int .i64 (numZ a)) ∧ w.cell? ⟨g, off + 2, none⟩ = some (.slice Aa (argsZ a) ca) ∧
    w.cell? ⟨g, off + 3, none⟩ = some (.int .i64 (formZ b)) ∧ w.cell? ⟨g, off + 4, none⟩ = some (.int .i64 (numZ b)) ∧ w.cell? ⟨g, off + 5, none⟩ = some (.slice Ab (argsZ b) cb) ∧
    ZAt P w a (.agg #[.int .i64 (formZ a), .int .i64 (numZ a), .slice Aa (argsZ a) ca]) ∧ ZAt P w b (.agg #[.int .i64 (formZ b), .int .i64 (numZ b), .slice Ab (argsZ b) cb]) := by
  cases h with
  | arr _ _ g off _ a0 a1 a2 b0 b1 b2 hp hg c0 c1 c2 c3 c4 c5 ha hb =>
    obtain ⟨Aa, ca, ea⟩ := ha.form
    obtain ⟨Ab, cb, eb⟩ := hb.form
    simp only [Value.agg.injEq, Array.mk.injEq, List.cons.injEq, and_true] at ea eb
    obtain ⟨rfl, rfl, rfl⟩ := ea
    obtain ⟨rfl, rfl, rfl⟩ := eb
    exact ⟨g, off, Aa, ca, Ab, cb, rfl, c0, c1, c2, c3, c4, c5, ha, hb⟩
/-- Four boxes of terms, under a trial. -/
structure Bx (L : Nat → Prop) (tb sb mb : Nat) (bv : Value) (q : World) (ga gb gx gy : Nat) (ra rb x y : Tz) (A1 : Option Addr) (c1 : Nat) (B1 : Option Addr) (d1 : Nat) (A4 : Option Addr) (c4 : Nat) (B4 : Option Addr) (d4 : Nat) : Prop where
  ta : TB (FL L tb sb mb bv) q ga ra A1 c1
  tb' : TB (FL L tb sb mb bv) q gb rb B1 d1
  tx : TB (FL L tb sb mb bv) q gx x A4 c4
  ty : TB (FL L tb sb mb bv) q gy y B4 d4
  fa : FB tb sb mb bv ga
  fb : FB tb sb mb bv gb
  fx : FB tb sb mb bv gx
  fy : FB tb sb mb bv gy
theorem TB.fr {L : Nat → Prop} {tb sb mb : Nat} {bv bv' : Value} {q q' : World} {g : Nat} {t : Tz} {A : Option Addr} {c : Nat} (h : TB (FL L tb sb mb bv) q g t A c) (hg : FB tb sb mb bv g) (fr : Fr tb sb mb bv bv' q q') : TB (FL L tb sb mb bv') q' g t A c := by
  have hb := fr.block g h.lt hg
  exact ⟨(World.cell?_of_block hb).trans h.c0, (World.cell?_of_block hb).trans h.c1, (World.cell?_of_block hb).trans h.c2, (World.frozen?_of_block hb).trans h.f0, (World.frozen?_of_block hb).trans h.f1, (World.frozen?_of_block hb).trans h.f2, fr.zat h.zt⟩
theorem TB.mono {P Q : Nat → Prop} {q : World} {g : Nat} {t : Tz} {A : Option Addr} {c : Nat} (h : TB P q g t A c) (hp : ∀ b, P b → Q b) : TB Q q g t A c := ⟨h.c0, h.c1, h.c2, h.f0, h.f1, h.f2, h.zt.mono hp⟩
theorem Bx.fr {L : Nat → Prop} {tb sb mb : Nat} {bv bv' : Value} {q q' : World} {ga gb gx gy : Nat} {ra rb x y : Tz} {A1 : Option Addr} {c1 : Nat} {B1 : Option Addr} {d1 : Nat} {A4 : Option Addr} {c4 : Nat} {B4 : Option Addr} {d4 : Nat} (h : Bx L tb sb mb bv q ga gb gx gy ra rb x y A1 c1 B1 d1 A4 c4 B4 d4) (fr : Fr tb sb mb bv bv' q q') : Bx L tb sb mb bv' q' ga gb gx gy ra rb x y A1 c1 B1 d1 A4 c4 B4 d4 :=
  ⟨h.ta.fr h.fa fr, h.tb'.fr h.fb fr, h.tx.fr h.fx fr, h.ty.fr h.fy fr, fr.fb h.fa h.ta.lt, fr.fb h.fb h.tb'.lt, fr.fb h.fx h.tx.lt, fr.fb h.fy h.ty.lt⟩
/-- Ahead of an arrow's first part; behind it; behind both. -/
inductive Parts (N M f g1 g2 : Nat) (s : KS) (σ : Sb) (a1 a2 b1 b2 : Tm) : Int → KS → Sb → Prop
  | zero : Parts N M f g1 g2 s σ a1 a2 b1 b2 0 s σ
  | one (s1 : KS) (σ1 : Sb) (h : unif f σ a1 b1 = .ok σ1) (m : Move N M g1 s s1 σ σ1) (st : Stays s s1 σ1 a1) : Parts N M f g1 g2 s σ a1 a2 b1 b2 1 s1 σ1
  | two (sm s2 : KS) (σm σ2 : Sb) (h : unif f σ a1 b1 = .ok σm) (m : Move N M g1 s sm σ σm) (st : Stays s sm σm a1) (h2 : unif f σm a2 b2 = .ok σ2) (m2 : Move N M g2 sm s2 σm σ2) (st2 : Stays sm s2 σ2 a2) : Parts N M f g1 g2 s σ a1 a2 b1 b2 2 s2 σ2
set_option maxRecDepth 100000 in
set_option maxHeartbeats 4000000 in
theorem unify_step (N M tb sb mb : Nat) (made : Int) (f : Nat) (IH : ∀ (σ : Sb) (A B : Tm) (r : Except Nat Sb), unif f σ A B = r → r ≠ .error 99 → UniOk N M tb sb mb made σ A B r) :
    ∀ (σ : Sb) (A B : Tm) (r : Except Nat Sb), unif (f + 1) σ A B = r → r ≠ .error 99 → UniOk N M tb sb mb made σ A B r := by
  intro σ A B r hr hne L a b va vb w s bv fs hi hda hdb hvA hvB hT hL hza hzb hM hM2 hw
  obtain ⟨k1, ra, hr1, hdra⟩ := hda.rchain
  obtain ⟨k2, rb, hr2, hdrb⟩ := hdb.rchain
  obtain ⟨k3, hc3⟩ := lookZ_chain hr1.root
  obtain ⟨k4, hc4⟩ := lookZ_chain hr2.root
  have har := rchain_arrows hr1
  have hbr := rchain_arrows hr2
  obtain ⟨Aa, ca, rfl⟩ := hza.form
  obtain ⟨Ab, cb, rfl⟩ := hzb.form
  obtain ⟨W, eW, bW, zW, k4', k5⟩ := two_boxes w (.int .i64 (formZ a)) (.int .i64 (numZ a)) (.slice Aa (argsZ a) ca) (.int .i64 (formZ b)) (.int .i64 (numZ b)) (.slice Ab (argsZ b) cb) 49
  have TA : TB (PB L tb sb mb bv w.heap.size) W w.heap.size a Aa ca := TB.of k4' (hza.bound.on bW)
  have TBb : TB (PB L tb sb mb bv w.heap.size) W (w.heap.size + 1) b Ab cb := TB.of k5 (hzb.bound.on bW)
  have hS : ∀ q, Below w.heap.size w q → SolAt (PB L tb sb mb bv w.heap.size) q sb mb s.sz made s.kn := fun q hq => hT.sol.bound.on hq
  have h0 : ∀ q, Below w.heap.size w q → q.cell? ⟨tb, 0, none⟩ = some (.pointer (some ⟨sb, 0, none⟩)) := fun q hq => (hT.on hq).t0
  have HT := Lib.hid hT
  have HW := Lib.hid eW
  have HS := Lib.hid hS
  have H0 := Lib.hid h0
  have HTA := Lib.hid TA
  have HTB := Lib.hid TBb
  have HBW := Lib.hid bW
  have HI := Lib.hid hi
  have HX1 : Hid (∀ q, Below W.heap.size W q → Calls Try.prog 52 #[.pointer (some ⟨sb, 0, none⟩), .agg #[.int .i64 (formZ a), .int .i64 (numZ a), .slice Aa (argsZ a) ca]] q (TermZ (PB L tb sb mb bv w.heap.size) q ra)) := fun q hq => root_any _ k1 a ra _ q sb mb s.sz made s.kn hr1 (hS q (bW.trans (hq.mono bW.size))) (TA.on hq).zt
  have HY1 : Hid (∀ q, Below W.heap.size W q → Calls Try.prog 52 #[.pointer (some ⟨sb, 0, none⟩), .agg #[.int .i64 (formZ b), .int .i64 (numZ b), .slice Ab (argsZ b) cb]] q (TermZ (PB L tb sb mb bv w.heap.size) q rb)) := fun q hq => root_any _ k2 b rb _ q sb mb s.sz made s.kn hr2 (hS q (bW.trans (hq.mono bW.size))) (TBb.on hq).zt
  have hRa := hr1.root
  have hRb := hr2.root
  have hnP : ∀ g, w.heap.size ≤ g → ¬ PB L tb sb mb bv w.heap.size g := fun g hg h => by have := h.2; omega
  have hOa : OB W w.heap.size := ⟨⟨_, TA.c0⟩, ⟨_, TA.c1⟩, ⟨_, TA.c2⟩, TA.f0, TA.f1, TA.f2⟩
  have hOb : OB W (w.heap.size + 1) := ⟨⟨_, TBb.c0⟩, ⟨_, TBb.c1⟩, ⟨_, TBb.c2⟩, TBb.f0, TBb.f1, TBb.f2⟩
  have HNP := Lib.hid hnP
  have HOA := Lib.hid hOa
  have HOB := Lib.hid hOb
  have HR := Lib.hid hr
  have HNE := Lib.hid hne
  have HDA := Lib.hid hdra
  have HDB := Lib.hid hdrb
  have HC3 := Lib.hid hc3
  have HC4 := Lib.hid hc4
  have HRA := Lib.hid hRa
  have HRB := Lib.hid hRb
  have HLW := Lib.hid hL
  have HVA := Lib.hid hvA
  have HVB := Lib.hid hvB
  clear hi hda hdb hvA hvB hT hL hza hzb hr hne hr1 hr2 hdra hdrb hc3 hc4 eW bW zW k4' k5 TA TBb hS h0 hRa hRb hnP hOa hOb
  go_enter Try.func45, Try.ntmps45
  go_upto_region 1 with (fail)
  rw [← HW.out]
  refine uni1 (V := W) (W0 := w) (P := PB L tb sb mb bv w.heap.size) (B0 := w.heap.size) (ga := w.heap.size) (gb := w.heap.size + 1) (t := ra) (t' := rb) (HNP.out _ (Nat.le_refl _)) (HNP.out _ (Nat.le_succ _)) HBW.out HBW.out.size (Nat.le_refl _) (Nat.le_succ _) (by omega) HOA.out HOB.out
    (Lib.hid (fun q hq => H0.out q (HBW.out.trans (hq.mono HBW.out.size)))) (Lib.hid (fun q hq => ⟨(HTA.out.on hq).c0, (HTA.out.on hq).c1, (HTA.out.on hq).c2⟩)) (Lib.hid (fun q hq => ⟨(HTB.out.on hq).c0, (HTB.out.on hq).c1, (HTB.out.on hq).c2⟩)) HX1 HY1 ?_
  rintro x0 x1 x2 x3 x4 x5 x6 x7 x8 x9 x10 x11 A1 c1 B1 d1 q1 hW2
  have T1 := Lib.hid hW2.ta
  have T2 := Lib.hid hW2.tb
  have B1W := Lib.hid hW2.bw
  clear hW2 HX1 HY1 HTA HTB HOA HOB HW HBW
  by_cases hsame : ∃ i, ra = .var i ∧ rb = .var i
  · obtain ⟨i, rfl, rfl⟩ := hsame
    have c0 := T1.out.c0
    have c1 := T1.out.c1
    have e0 := T2.out.c0
    have e1 := T2.out.c1
    change q1.cell? ⟨w.heap.size, 0, none⟩ = some (.int .i64 1) at c0
    change q1.cell? ⟨w.heap.size, 1, none⟩ = some (.int .i64 i) at c1
    change q1.cell? ⟨w.heap.size + 1, 0, none⟩ = some (.int .i64 1) at e0
    change q1.cell? ⟨w.heap.size + 1, 1, none⟩ = some (.int .i64 i) at e1
    go_wp2
    go_ret
    have hAB := HDA.out.det HDB.out
    have hrr := HR.out
    rw [unif_same (f + 1) σ A B HI.out.st.idem hAB (by rw [hrr]; exact HNE.out)] at hrr
    subst hrr
    exact ⟨bv, fs, s, HT.out.on B1W.out, Fr.of_below B1W.out, rfl, (Move.refl HI.out).more (Nat.zero_le _), stays_refl _ _ _, HI.out.st.idem⟩
  · have HNS := Lib.hid hsame
    clear hsame
    go_upto_region 2 with (fail)
    go_cut [37, 85, 100] (fun v u t wx => v = .bool false ∧ u = undef ∧ t = undef ∧ wx = q1)
    case first =>
      have c0 := T1.out.c0
      have c1 := T1.out.c1
      have e0 := T2.out.c0
      have e1 := T2.out.c1
      by_cases hva : ∃ i, ra = .var i
      · obtain ⟨i, rfl⟩ := hva
        change q1.cell? ⟨w.heap.size, 0, none⟩ = some (.int .i64 1) at c0
        change q1.cell? ⟨w.heap.size, 1, none⟩ = some (.int .i64 i) at c1
        by_cases hvb : ∃ j, rb = .var j
        · obtain ⟨j, rfl⟩ := hvb
          change q1.cell? ⟨w.heap.size + 1, 0, none⟩ = some (.int .i64 1) at e0
          change q1.cell? ⟨w.heap.size + 1, 1, none⟩ = some (.int .i64 j) at e1
          have hij : (i == j) = false := by rw [beq_eq_false_iff_ne]; intro e; exact HNS.out ⟨i, rfl, by rw [e]⟩
          go_wp2
          go_meet
          exact ⟨rfl, rfl, rfl, rfl⟩
        · have hf := formZ_no (fun n e => hvb ⟨n, e⟩)
          generalize formZ rb = F at *
          go_wp2
          go_meet
          exact ⟨rfl, rfl, rfl, rfl⟩
      · have hf := formZ_no (fun n e => hva ⟨n, e⟩)
        generalize formZ ra = F at *
        go_wp2
        go_meet
        exact ⟨rfl, rfl, rfl, rfl⟩
    case rest =>
      obtain ⟨rfl, rfl, rfl, rfl⟩ := hcut
      have HX4 : Hid (∀ q, Below wc.heap.size wc q → Calls Try.prog 47 #[.pointer (some ⟨sb, 0, none⟩), .agg #[.int .i64 (formZ ra), .int .i64 (numZ ra), .slice A1 (argsZ ra) c1]] q (TermZ (PB L tb sb mb bv w.heap.size) q (lookZ s.kn ra))) := fun q hq => plook_any _ k3 _ _ _ q sb mb s.sz made s.kn HC3.out (HS.out q (B1W.out.trans (hq.mono B1W.out.size))) (T1.out.on hq).zt
      have HY4 : Hid (∀ q, Below wc.heap.size wc q → Calls Try.prog 47 #[.pointer (some ⟨sb, 0, none⟩), .agg #[.int .i64 (formZ rb), .int .i64 (numZ rb), .slice B1 (argsZ rb) d1]] q (TermZ (PB L tb sb mb bv w.heap.size) q (lookZ s.kn rb))) := fun q hq => plook_any _ k4 _ _ _ q sb mb s.sz made s.kn HC4.out (HS.out q (B1W.out.trans (hq.mono B1W.out.size))) (T2.out.on hq).zt
      go_upto_region 4 with (fail)
      refine uni4 (V := wc) (P := PB L tb sb mb bv w.heap.size) (t := lookZ s.kn ra) (t' := lookZ s.kn rb) (fun b h => Nat.lt_of_lt_of_le h.2 B1W.out.size) (Lib.hid (fun q hq => H0.out q (B1W.out.trans (hq.mono B1W.out.size)))) (Lib.hid (fun q hq => ⟨(T1.out.on hq).c0, (T1.out.on hq).c1, (T1.out.on hq).c2⟩)) (Lib.hid (fun q hq => ⟨(T2.out.on hq).c0, (T2.out.on hq).c1, (T2.out.on hq).c2⟩)) HX4 HY4 ?_
      rintro y0 y1 y2 y3 y4 y5 y6 y7 y8 y9 y10 y11 gx gy A4 c4 B4 d4 q2 hB2
      have TX := Lib.hid hB2.ta
      have TY := Lib.hid hB2.tb
      have TA2 := Lib.hid (T1.out.on hB2.bw)
      have TB2 := Lib.hid (T2.out.on hB2.bw)
      have B2W := Lib.hid (B1W.out.trans (hB2.bw.mono B1W.out.size))
      have hgx : w.heap.size ≤ gx := Nat.le_trans B1W.out.size hB2.ga
      have hgy : w.heap.size ≤ gy := Nat.le_trans B1W.out.size hB2.gb
      clear hB2 HX4 HY4 T1 T2 B1W
      unfold ptrZ
      have hwl := wt_log N M s σ
      have hsb2 : sb < q2.heap.size := Nat.lt_of_lt_of_le HT.out.sol.lt B2W.out.size
      have hmb2 : mb < q2.heap.size := Nat.lt_of_lt_of_le HT.out.sol.known.lt B2W.out.size
      have hVA : VarsTo N (A.sub σ) := varsTo_sub HI.out.inv HVA.out
      have hVB : VarsTo N (B.sub σ) := varsTo_sub HI.out.inv HVB.out
      have HWX : ∀ (n : Nat), s.kn n = none → Hid (∀ q xb, Below q2.heap.size q2 q → q2.heap.size ≤ xb → MapI Try.prog 3 q xb 0 (seenF fun _ => false) → Calls Try.prog 53 #[.pointer (some ⟨sb, 0, none⟩), .int .i64 n, .agg #[.int .i64 (formZ (lookZ s.kn ra)), .int .i64 (numZ (lookZ s.kn ra)), .slice A4 (argsZ (lookZ s.kn ra)) c4], .map (some xb)] q (fun e w' => e = .returned (.bool ((A.sub σ).occ n)) ∧ Below xb q w')) := fun n hn =>
        within_new (fun b h => Nat.lt_of_lt_of_le h.2 B2W.out.size) hsb2 hmb2 (fun q hq => HS.out q (B2W.out.trans (hq.mono B2W.out.size))) (by omega) hn (lookZ_den HDA.out) TX.out.zt
      have HWY : ∀ (n : Nat), s.kn n = none → Hid (∀ q xb, Below q2.heap.size q2 q → q2.heap.size ≤ xb → MapI Try.prog 3 q xb 0 (seenF fun _ => false) → Calls Try.prog 53 #[.pointer (some ⟨sb, 0, none⟩), .int .i64 n, .agg #[.int .i64 (formZ (lookZ s.kn rb)), .int .i64 (numZ (lookZ s.kn rb)), .slice B4 (argsZ (lookZ s.kn rb)) d4], .map (some xb)] q (fun e w' => e = .returned (.bool ((B.sub σ).occ n)) ∧ Below xb q w')) := fun n hn =>
        within_new (fun b h => Nat.lt_of_lt_of_le h.2 B2W.out.size) hsb2 hmb2 (fun q hq => HS.out q (B2W.out.trans (hq.mono B2W.out.size))) (by omega) hn (lookZ_den HDB.out) TY.out.zt
      have HJC : Hid (∀ q, Below q2.heap.size q2 q → Calls Try.prog 54 #[.pointer (some ⟨tb, 0, none⟩), .agg #[.int .i64 (formZ ra), .int .i64 (numZ ra), .slice A1 (argsZ ra) c1], .agg #[.int .i64 (formZ rb), .int .i64 (numZ rb), .slice B1 (argsZ rb) d1]] q (JRes L tb sb mb made bv q (joinF s ra rb))) := fun q hq => by
        have hq2 := B2W.out.trans (hq.mono B2W.out.size)
        exact join_any L q tb sb mb made s bv fs ra rb _ _ (HT.out.on hq2) (fun b h => Nat.lt_of_lt_of_le (HLW.out b h) hq2.size) ((TA2.out.on hq).zt.mono (fun b h => h.1)) ((TB2.out.on hq).zt.mono (fun b h => h.1)) HRA.out HRB.out (by omega) (by omega)
      have HVA2 := Lib.hid hVA
      have HVB2 := Lib.hid hVB
      have H02 : Hid (∀ q, Below q2.heap.size q2 q → q.cell? ⟨tb, 0, none⟩ = some (.pointer (some ⟨sb, 0, none⟩))) := fun q hq => H0.out q (B2W.out.trans (hq.mono B2W.out.size))
      have HYC : Hid (∀ q, Below q2.heap.size q2 q → q.cell? ⟨gy, 0, none⟩ = some (.int .i64 (formZ (lookZ s.kn rb))) ∧ q.cell? ⟨gy, 1, none⟩ = some (.int .i64 (numZ (lookZ s.kn rb))) ∧ q.cell? ⟨gy, 2, none⟩ = some (.slice B4 (argsZ (lookZ s.kn rb)) d4)) := fun q hq => ⟨(TY.out.on hq).c0, (TY.out.on hq).c1, (TY.out.on hq).c2⟩
      have HXC : Hid (∀ q, Below q2.heap.size q2 q → q.cell? ⟨gx, 0, none⟩ = some (.int .i64 (formZ (lookZ s.kn ra))) ∧ q.cell? ⟨gx, 1, none⟩ = some (.int .i64 (numZ (lookZ s.kn ra))) ∧ q.cell? ⟨gx, 2, none⟩ = some (.slice A4 (argsZ (lookZ s.kn ra)) c4)) := fun q hq => ⟨(TX.out.on hq).c0, (TX.out.on hq).c1, (TX.out.on hq).c2⟩
      have HWX' := Lib.hid HWX
      have HWY' := Lib.hid HWY
      clear hVA hVB HWX HWY
      rcases root_two HRA.out HDA.out with ⟨m, hm1, era, hmk, eA, ex⟩ | ⟨hxv, hAv⟩
      · have HWm := HWY'.out m hmk
        have HXM : Hid (∀ q, Below q2.heap.size q2 q → q.cell? ⟨gx, 0, none⟩ = some (.int .i64 1) ∧ q.cell? ⟨gx, 1, none⟩ = some (.int .i64 m)) := fun q hq => by
          have h := HXC.out q hq
          rw [ex] at h
          exact ⟨h.1, h.2.1⟩
        go_upto_region 12 with (fail)
        refine uni12 (V := q2) H02 HXM HYC HWm ?_
        rintro z0 z1 z2 z3 z4 z5 z6 z7 z8 z9 z10 z11 z12 z13 q3 hq3
        have Q3 := Lib.hid hq3
        clear hq3
        have HBN : Hid (∀ n, B.sub σ = .var n → n ≠ m) := fun n hn e => by
          rcases root_two HRB.out HDB.out with ⟨n', _, erb, _, eB, _⟩ | ⟨_, hBv⟩
          · rw [hn] at eB; injection eB with eB; subst eB; exact HNS.out ⟨_, era, by rw [erb, e]⟩
          · exact hBv n hn
        have x0 := (HXM.out q3 Q3.out).1
        cases ho : (B.sub σ).occ m with
        | true =>
          have HO := Lib.hid ho
          clear ho
          go_wp2
          go_ret
          have hBv : ∀ n, B.sub σ ≠ .var n := fun n hn => by
            have h := HO.out
            rw [hn] at h
            simp only [occ, beq_iff_eq] at h
            exact HBN.out n hn h
          have hrr := HR.out
          rw [unif_var eA hBv, if_pos HO.out] at hrr
          subst hrr
          exact ⟨bv, fs, s, HT.out.on (B2W.out.trans (Q3.out.mono B2W.out.size)), Fr.of_below (B2W.out.trans (Q3.out.mono B2W.out.size)), rfl, Back.refl⟩
        | false =>
          have HO := Lib.hid ho
          clear ho
          rcases root_two HRB.out HDB.out with ⟨n, hn1, erb, hnk, eB, ey⟩ | ⟨hyv, hBv⟩
          · have HWn := HWX'.out n hnk
            have hon : (A.sub σ).occ n = false := by rw [eA]; simp only [occ]; rw [beq_eq_false_iff_ne]; intro e; exact HBN.out n eB e.symm
            rw [hon] at HWn
            have HYN : Hid (∀ q, Below q3.heap.size q3 q → q.cell? ⟨gy, 0, none⟩ = some (.int .i64 1) ∧ q.cell? ⟨gy, 1, none⟩ = some (.int .i64 n)) := fun q hq => by
              have h := HYC.out q (Q3.out.trans (hq.mono Q3.out.size))
              rw [ey] at h
              exact ⟨h.1, h.2.1⟩
            have EA := Lib.hid eA
            have EB := Lib.hid eB
            have EX := Lib.hid ex
            have EY := Lib.hid ey
            have ERA := Lib.hid era
            have ERB := Lib.hid erb
            clear hon eA eB ex ey era erb hmk hnk HWm
            go_upto_region 14 with (fail)
            refine uni14 (V := q3) (Lib.hid (fun q hq => H02.out q (Q3.out.trans (hq.mono Q3.out.size)))) HYN (Lib.hid (fun q hq => HXC.out q (Q3.out.trans (hq.mono Q3.out.size)))) (Lib.hid (fun q xb hq hx hm => HWn.out q xb (Q3.out.trans (hq.mono Q3.out.size)) (Nat.le_trans Q3.out.size hx) hm)) ?_
            rintro v0 v1 v2 v3 v4 v5 v6 v7 v8 v9 v10 v11 v12 v13 q4 hq4
            have Q4 := Lib.hid (Q3.out.trans (hq4.mono Q3.out.size))
            clear hq4 x0
            have x0 := (HXM.out q4 Q4.out).1
            have a0 := (TA2.out.on (Q4.out)).c0
            have a1 := (TA2.out.on (Q4.out)).c1
            have a2 := (TA2.out.on (Q4.out)).c2
            have b0 := (TB2.out.on (Q4.out)).c0
            have b1 := (TB2.out.on (Q4.out)).c1
            have b2 := (TB2.out.on (Q4.out)).c2
            have HJQ := HJC.out _ (Q4.out)
            go_wp2_with fail
            (with_reducible refine HJQ.mono ?_)
            rintro e w' ⟨rfl, bv', fs', hT', hF'⟩
            have HT' := Lib.hid hT'
            have HF' := Lib.hid ((Fr.of_below (B2W.out.trans ((Q4.out).mono B2W.out.size))).trans hF')
            clear hT' hF' a0 a1 a2 b0 b1 b2
            go_wp2
            go_ret
            have hrr := HR.out
            rw [unif_vars EA.out EB.out (fun e => HBN.out n EB.out e.symm), ← EA.out, ← EB.out] at hrr
            subst hrr
            exact uni_joined (M := M) (A' := A.sub σ) (B' := B.sub σ) HI.out (by omega) HRA.out HRB.out HDA.out HDB.out rfl HNS.out HVA2.out HVB2.out (by rw [EA.out, EB.out]; trivial) (unif_unifies HI.out.st.idem HR.out) (by omega) HT'.out HF'.out
          · have hyf := formZ_no hyv
            have y0 := (HYC.out q3 Q3.out).1
            have EA := Lib.hid eA
            have EX := Lib.hid ex
            have ERA := Lib.hid era
            have HYV := Lib.hid hBv
            clear eA ex era hmk HWm hyv hBv
            go_upto_region 14 with (fail)
            go_region
            all_goals
              have Q4 : Hid (Below q2.heap.size q2 q3.drew) := Q3.out.drew
              clear x0 y0
              have x0 := (HXM.out _ Q4.out).1
              have y0 := (HYC.out _ Q4.out).1
              have a0 := (TA2.out.on (Q4.out)).c0
              have a1 := (TA2.out.on (Q4.out)).c1
              have a2 := (TA2.out.on (Q4.out)).c2
              have b0 := (TB2.out.on (Q4.out)).c0
              have b1 := (TB2.out.on (Q4.out)).c1
              have b2 := (TB2.out.on (Q4.out)).c2
              have HJQ := HJC.out _ (Q4.out)
              go_wp2_with fail
              (with_reducible refine HJQ.mono ?_)
              rintro e w' ⟨rfl, bv', fs', hT', hF'⟩
              have HT' := Lib.hid hT'
              have HF' := Lib.hid ((Fr.of_below (B2W.out.trans ((Q4.out).mono B2W.out.size))).trans hF')
              clear hT' hF' a0 a1 a2 b0 b1 b2
              go_wp2
              go_ret
              have hrr := HR.out
              rw [unif_var EA.out HYV.out, if_neg (by rw [HO.out]; decide), ← EA.out] at hrr
              subst hrr
              exact uni_joined (M := M) (A' := A.sub σ) (B' := B.sub σ) HI.out (by omega) HRA.out HRB.out HDA.out HDB.out rfl HNS.out HVA2.out HVB2.out (by rw [EA.out]; exact okJ_of_var HO.out) (unif_unifies HI.out.st.idem HR.out) (by omega) HT'.out HF'.out
      · have hxf := formZ_no hxv
        have x0 := (HXC.out q2 (Below.refl _ _)).1
        go_upto_region 12 with (fail)
        go_region
        all_goals
          have Q3 : Hid (Below q2.heap.size q2 q2.drew) := (Below.refl _ _).drew
          clear x0
          have x0 := (HXC.out _ Q3.out).1
          rcases root_two HRB.out HDB.out with ⟨n, hn1, erb, hnk, eB, ey⟩ | ⟨hyv, hBv⟩
          · have HWn := HWX'.out n hnk
            have HYN : Hid (∀ q, Below q2.drew.heap.size q2.drew q → q.cell? ⟨gy, 0, none⟩ = some (.int .i64 1) ∧ q.cell? ⟨gy, 1, none⟩ = some (.int .i64 n)) := fun q hq => by
              have h := HYC.out q (Q3.out.trans (hq.mono Q3.out.size))
              rw [ey] at h
              exact ⟨h.1, h.2.1⟩
            have EB := Lib.hid eB
            have EY := Lib.hid ey
            have ERB := Lib.hid erb
            have HAV := Lib.hid hAv
            clear eB ey erb hnk hAv hxv
            go_upto_region 14 with (fail)
            refine uni14 (V := q2.drew) (Lib.hid (fun q hq => H02.out q (Q3.out.trans (hq.mono Q3.out.size)))) HYN (Lib.hid (fun q hq => HXC.out q (Q3.out.trans (hq.mono Q3.out.size)))) (Lib.hid (fun q xb hq hx hm => HWn.out q xb (Q3.out.trans (hq.mono Q3.out.size)) (Nat.le_trans Q3.out.size hx) hm)) ?_
            rintro v0 v1 v2 v3 v4 v5 v6 v7 v8 v9 v10 v11 v12 v13 q4 hq4
            have Q4 := Lib.hid (Q3.out.trans (hq4.mono Q3.out.size))
            have y0 := (HYN.out q4 hq4).1
            clear hq4 x0
            have x0 := (HXC.out q4 Q4.out).1
            cases ho : (A.sub σ).occ n with
            | true =>
              have HO := Lib.hid ho
              clear ho
              go_wp2
              go_ret
              have hrr := HR.out
              rw [unif_to EB.out HAV.out, if_pos HO.out] at hrr
              subst hrr
              exact ⟨bv, fs, s, HT.out.on (B2W.out.trans (Q4.out.mono B2W.out.size)), Fr.of_below (B2W.out.trans (Q4.out.mono B2W.out.size)), rfl, Back.refl⟩
            | false =>
              have HO := Lib.hid ho
              clear ho
              have a0 := (TA2.out.on (Q4.out)).c0
              have a1 := (TA2.out.on (Q4.out)).c1
              have a2 := (TA2.out.on (Q4.out)).c2
              have b0 := (TB2.out.on (Q4.out)).c0
              have b1 := (TB2.out.on (Q4.out)).c1
              have b2 := (TB2.out.on (Q4.out)).c2
              have HJQ := HJC.out _ (Q4.out)
              go_wp2_with fail
              (with_reducible refine HJQ.mono ?_)
              rintro e w' ⟨rfl, bv', fs', hT', hF'⟩
              have HT' := Lib.hid hT'
              have HF' := Lib.hid ((Fr.of_below (B2W.out.trans ((Q4.out).mono B2W.out.size))).trans hF')
              clear hT' hF' a0 a1 a2 b0 b1 b2
              go_wp2
              go_ret
              have hrr := HR.out
              rw [unif_to EB.out HAV.out, if_neg (by rw [HO.out]; decide), ← EB.out] at hrr
              subst hrr
              exact uni_joined (M := M) (A' := A.sub σ) (B' := B.sub σ) HI.out (by omega) HRA.out HRB.out HDA.out HDB.out rfl HNS.out HVA2.out HVB2.out (by rw [EB.out]; exact okJ_of_to HO.out) (unif_unifies HI.out.st.idem HR.out) (by omega) HT'.out HF'.out
          · have hyf := formZ_no hyv
            have y0 := (HYC.out _ Q3.out).1
            go_upto_region 14 with (fail)
            go_region
            all_goals
              have Q4 : Hid (Below q2.heap.size q2 q2.drew.drew) := Q3.out.drew
              clear x0 y0
              have x0 := (HXC.out _ Q4.out).1
              have y0 := (HYC.out _ Q4.out).1
              have HXV := Lib.hid hxv
              have HYV := Lib.hid hyv
              have HAV := Lib.hid hAv
              have HBV := Lib.hid hBv
              clear hxv hyv hAv hBv
              rcases nonvar_cases HXV.out (lookZ_den HDA.out) with ⟨ex, eA⟩ | ⟨x1, x2, a1, a2, ex, eA, dx1, dx2⟩
              · have EA := Lib.hid eA
                have EX := Lib.hid ex
                rw [ex] at x0
                change q2.drew.drew.cell? ⟨gx, 0, none⟩ = some (.int .i64 2) at x0
                clear eA ex
                rcases nonvar_cases HYV.out (lookZ_den HDB.out) with ⟨ey, eB⟩ | ⟨y1, y2, b1, b2, ey, eB, dy1, dy2⟩
                · have EB := Lib.hid eB
                  have EY := Lib.hid ey
                  have x2 := (HXC.out _ Q4.out).2.2
                  rw [EX.out] at x2
                  change q2.drew.drew.cell? ⟨gx, 2, none⟩ = some (.slice A4 0 c4) at x2
                  rw [ey] at y0
                  change q2.drew.drew.cell? ⟨gy, 0, none⟩ = some (.int .i64 2) at y0
                  clear eB ey
                  go_wp2_with fail
                  go_loopw [53] (fun i wr => i = .int .i64 0 ∧ wr = q2.drew.drew) (fun _ _ => 0)
                  case atStart => exact ⟨rfl, rfl⟩
                  case round =>
                    obtain ⟨rfl, hw9⟩ := hrel
                    obtain rfl := hw9.symm
                    have a0 := (TA2.out.on (Q4.out)).c0
                    have a1 := (TA2.out.on (Q4.out)).c1
                    have a2 := (TA2.out.on (Q4.out)).c2
                    have b0 := (TB2.out.on (Q4.out)).c0
                    have b1 := (TB2.out.on (Q4.out)).c1
                    have b2 := (TB2.out.on (Q4.out)).c2
                    have HJQ := HJC.out _ (Q4.out)
                    go_wp2_with fail
                    (with_reducible refine HJQ.mono ?_)
                    rintro e w' ⟨rfl, bv', fs', hT', hF'⟩
                    have HT' := Lib.hid hT'
                    have HF' := Lib.hid ((Fr.of_below (B2W.out.trans ((Q4.out).mono B2W.out.size))).trans hF')
                    clear hT' hF' a0 a1 a2 b0 b1 b2
                    go_wp2
                    go_ret
                    have hrr := HR.out
                    rw [unif_stars EA.out EB.out] at hrr
                    subst hrr
                    exact uni_joined (M := M) (A' := A.sub σ) (B' := B.sub σ) HI.out (by omega) HRA.out HRB.out HDA.out HDB.out rfl HNS.out HVA2.out HVB2.out (by rw [EA.out, EB.out]; trivial) (unif_unifies HI.out.st.idem HR.out) (by omega) HT'.out HF'.out
                · have EB := Lib.hid eB
                  rw [ey] at y0
                  change q2.drew.drew.cell? ⟨gy, 0, none⟩ = some (.int .i64 3) at y0
                  clear eB ey
                  go_wp2
                  go_ret
                  have hrr := HR.out
                  rw [unif_sa EA.out EB.out] at hrr
                  subst hrr
                  exact ⟨bv, fs, s, HT.out.on (B2W.out.trans (Q4.out.mono B2W.out.size)), Fr.of_below (B2W.out.trans (Q4.out.mono B2W.out.size)), rfl, Back.refl⟩
              · rcases nonvar_cases HYV.out (lookZ_den HDB.out) with ⟨ey, eB⟩ | ⟨y1, y2, b1, b2, ey, eB, dy1, dy2⟩
                · have EA := Lib.hid eA
                  have EB := Lib.hid eB
                  rw [ex] at x0
                  change q2.drew.drew.cell? ⟨gx, 0, none⟩ = some (.int .i64 3) at x0
                  rw [ey] at y0
                  change q2.drew.drew.cell? ⟨gy, 0, none⟩ = some (.int .i64 2) at y0
                  clear eA eB ex ey
                  go_wp2
                  go_ret
                  have hrr := HR.out
                  rw [unif_as EA.out EB.out] at hrr
                  subst hrr
                  exact ⟨bv, fs, s, HT.out.on (B2W.out.trans (Q4.out.mono B2W.out.size)), Fr.of_below (B2W.out.trans (Q4.out.mono B2W.out.size)), rfl, Back.refl⟩
                · have hg1 := lookZ_arrows HI.out ex
                  have hg2 := lookZ_arrows HI.out ey
                  have hrr := HR.out
                  rw [unif_arrs eA eB] at hrr
                  have HBX : Hid (Bx L tb sb mb bv q2.drew.drew w.heap.size (w.heap.size + 1) gx gy ra rb (.arr x1 x2) (.arr y1 y2) A1 c1 B1 d1 A4 c4 B4 d4) := by
                    have hp : ∀ b, PB L tb sb mb bv w.heap.size b → FL L tb sb mb bv b := fun b h => h.1
                    have e3 := TX.out.on Q4.out
                    have e4 := TY.out.on Q4.out
                    rw [ex] at e3
                    rw [ey] at e4
                    exact ⟨(TA2.out.on Q4.out).mono hp, (TB2.out.on Q4.out).mono hp, e3.mono hp, e4.mono hp, FB_new HT.out (Nat.le_refl _), FB_new HT.out (Nat.le_succ _), FB_new HT.out hgx, FB_new HT.out hgy⟩
                  have HRR := Lib.hid hrr
                  have EA := Lib.hid eA
                  have EB := Lib.hid eB
                  have hva := HVA2.out
                  have hvb := HVB2.out
                  rw [eA] at hva
                  rw [eB] at hvb
                  have HVA1 : Hid (VarsTo N a1) := fun m hm => hva m (by simp [occ, hm])
                  have HVA3 : Hid (VarsTo N a2) := fun m hm => hva m (by simp [occ, hm])
                  have HVB1 : Hid (VarsTo N b1) := fun m hm => hvb m (by simp [occ, hm])
                  have HVB3 : Hid (VarsTo N b2) := fun m hm => hvb m (by simp [occ, hm])
                  have HDX1 := Lib.hid dx1
                  have HDX2 := Lib.hid dx2
                  have HDY1 := Lib.hid dy1
                  have HDY2 := Lib.hid dy2
                  have x2' := HBX.out.tx.c2
                  rw [ex] at x0
                  change q2.drew.drew.cell? ⟨gx, 0, none⟩ = some (.int .i64 3) at x0
                  rw [ey] at y0
                  change q2.drew.drew.cell? ⟨gy, 0, none⟩ = some (.int .i64 3) at y0
                  change q2.drew.drew.cell? ⟨gx, 2, none⟩ = some (.slice A4 2 c4) at x2'
                  clear eA eB ex ey hrr hva hvb dx1 dx2 dy1 dy2
                  go_wp2_with fail
                  go_loopw [53] (fun i wr => ∃ k bv1 fs1 s1 σ1, i = .int .i64 k ∧ Parts N M f (arrows x1 + arrows y1) (arrows x2 + arrows y2) s σ a1 a2 b1 b2 k s1 σ1 ∧ TrAt L wr tb sb mb s1.sz made s1.kn bv1 fs1 s1.log ∧ Fr tb sb mb bv bv1 w wr ∧ Bx L tb sb mb bv1 wr w.heap.size (w.heap.size + 1) gx gy ra rb (.arr x1 x2) (.arr y1 y2) A1 c1 B1 d1 A4 c4 B4 d4) (fun i _ => 2 - (intOf i).toNat)
                  case atStart => exact ⟨0, bv, fs, s, σ, rfl, .zero, HT.out.on (B2W.out.trans (Q4.out.mono B2W.out.size)), Fr.of_below (B2W.out.trans (Q4.out.mono B2W.out.size)), HBX.out⟩
                  case round =>
                    obtain ⟨k, bv1, fs1, s1, σ1, rfl, hP, hT1, hF1, hB1⟩ := hrel
                    clear x0 y0 x2'
                    have xc2 := hB1.tx.c2
                    have yc2 := hB1.ty.c2
                    change wr.cell? ⟨gx, 2, none⟩ = some (.slice A4 2 c4) at xc2
                    change wr.cell? ⟨gy, 2, none⟩ = some (.slice B4 2 d4) at yc2
                    obtain ⟨hx, ox, X1, e1, X2, e2, rfl, p0, p1, p2, p3, p4, p5, pz1, pz2⟩ := hB1.tx.zt.args
                    obtain ⟨hy, oy, Y1, f1, Y2, f2, rfl, r0, r1, r2, r3, r4, r5, rz1, rz2⟩ := hB1.ty.zt.args
                    have HT1 := Lib.hid hT1
                    have HF1 := Lib.hid hF1
                    have HB1 := Lib.hid hB1
                    have PZ1 := Lib.hid pz1
                    have PZ2 := Lib.hid pz2
                    have RZ1 := Lib.hid rz1
                    have RZ2 := Lib.hid rz2
                    have hdr : Below wr.heap.size wr wr.drew := (Below.refl _ _).drew
                    have HDR := Lib.hid hdr
                    clear hT1 hF1 hB1 pz1 pz2 rz1 rz2 hdr
                    cases hP with
                    | zero =>
                      cases h1 : unif f σ a1 b1 with
                      | error c =>
                        have HH1 := Lib.hid h1
                        have hr1 := HRR.out
                        rw [h1] at hr1
                        subst hr1
                        have hc99 : c ≠ 99 := fun e => HNE.out (by rw [e])
                        have hcc := unif_code HI.out.st.idem h1 hc99
                        have hcn : ((c : Int) != 0) = true := by rw [bne_iff_ne]; omega
                        have HC := Lib.hid (IH σ a1 b1 _ h1 (fun e => by injection e with e; exact hc99 e) L x1 y1 _ _ wr.drew s bv1 fs1 HI.out (by rw [HI.out.st.fix HDX1.out]; exact HDX1.out) (by rw [HI.out.st.fix HDY1.out]; exact HDY1.out) HVA1.out HVB1.out (HT1.out.on HDR.out) (fun b h => Nat.lt_of_lt_of_le (HLW.out b h) HF1.out.size) (PZ1.out.on HDR.out) (RZ1.out.on HDR.out) (by omega) (by omega) (by omega))
                        clear h1 hc99 hcc
                        go_upto_region 8 with (fail)
                        go_region_law (go_simp; go_at_call 45; (with_reducible refine HC.out.mono ?_); rintro e w2 ⟨bv2, fs2, s2, hT2, hF2, rfl, hB2⟩)
                        all_goals
                          have HF2 := Lib.hid ((HF1.out.trans (Fr.of_below HDR.out)).trans hF2)
                          have HT2 := Lib.hid hT2
                          clear hT2 hF2
                          go_wp2
                          go_ret
                          exact ⟨bv2, fs2, s2, HT2.out, HF2.out, rfl, hB2.more (by omega)⟩
                      | ok σ' =>
                        have HH1 := Lib.hid h1
                        have HC := Lib.hid (IH σ a1 b1 _ h1 (fun e => by cases e) L x1 y1 _ _ wr.drew s bv1 fs1 HI.out (by rw [HI.out.st.fix HDX1.out]; exact HDX1.out) (by rw [HI.out.st.fix HDY1.out]; exact HDY1.out) HVA1.out HVB1.out (HT1.out.on HDR.out) (fun b h => Nat.lt_of_lt_of_le (HLW.out b h) HF1.out.size) (PZ1.out.on HDR.out) (RZ1.out.on HDR.out) (by omega) (by omega) (by omega))
                        clear h1
                        go_upto_region 8 with (fail)
                        go_region_law (go_simp; go_at_call 45; (with_reducible refine HC.out.mono ?_); rintro e w2 ⟨bv2, fs2, s2, hT2, hF2, rfl, hm2, hst2, _⟩)
                        all_goals
                          have hfr := (Fr.of_below HDR.out).trans hF2
                          have HF2 := Lib.hid (HF1.out.trans hfr)
                          have HB2 := Lib.hid (HB1.out.fr hfr)
                          have HT2 := Lib.hid hT2
                          have HM2 := Lib.hid hm2
                          have HST2 := Lib.hid hst2
                          clear hT2 hF2 hm2 hst2 hfr
                          go_wp2
                          refine ⟨⟨1, bv2, fs2, s2, σ', rfl, .one _ _ HH1.out HM2.out HST2.out, HT2.out, HF2.out, HB2.out⟩, by simp only [intOf]; omega⟩
                    | one _ _ h1 m1 st1 =>
                      have HM1 := Lib.hid m1
                      have HST1 := Lib.hid st1
                      have hroom := m1.room
                      have hwt := m1.wt
                      have hr1 := HRR.out
                      rw [h1] at hr1
                      simp only at hr1
                      have HH1 := Lib.hid h1
                      clear m1 st1 h1
                      cases h2 : unif f σ1 a2 b2 with
                      | error c =>
                        rw [h2] at hr1
                        subst hr1
                        have hc99 : c ≠ 99 := fun e => HNE.out (by rw [e])
                        have hcc := unif_code HM1.out.inv.st.idem h2 hc99
                        have hcn : ((c : Int) != 0) = true := by rw [bne_iff_ne]; omega
                        have HC := Lib.hid (IH σ1 a2 b2 _ h2 (fun e => by injection e with e; exact hc99 e) L x2 y2 _ _ wr.drew s1 bv1 fs1 HM1.out.inv (HM1.out.den HDX2.out) (HM1.out.den HDY2.out) HVA3.out HVB3.out (HT1.out.on HDR.out) (fun b h => Nat.lt_of_lt_of_le (HLW.out b h) HF1.out.size) (PZ2.out.on HDR.out) (RZ2.out.on HDR.out) (by omega) (by omega) (by omega))
                        have H2 := Lib.hid h2
                        clear h2 hc99 hcc hroom hwt
                        go_upto_region 8 with (fail)
                        go_region_law (go_simp; go_at_call 45; (with_reducible refine HC.out.mono ?_); rintro e w2 ⟨bv2, fs2, s2, hT2, hF2, rfl, hB2⟩)
                        all_goals
                          have HF2 := Lib.hid ((HF1.out.trans (Fr.of_below HDR.out)).trans hF2)
                          have HT2 := Lib.hid hT2
                          clear hT2 hF2
                          go_wp2
                          go_ret
                          exact ⟨bv2, fs2, s2, HT2.out, HF2.out, rfl, (HM1.out.back hB2).more (by omega)⟩
                      | ok σ' =>
                        have HC := Lib.hid (IH σ1 a2 b2 _ h2 (fun e => by cases e) L x2 y2 _ _ wr.drew s1 bv1 fs1 HM1.out.inv (HM1.out.den HDX2.out) (HM1.out.den HDY2.out) HVA3.out HVB3.out (HT1.out.on HDR.out) (fun b h => Nat.lt_of_lt_of_le (HLW.out b h) HF1.out.size) (PZ2.out.on HDR.out) (RZ2.out.on HDR.out) (by omega) (by omega) (by omega))
                        have H2 := Lib.hid h2
                        clear h2 hr1 hroom hwt
                        go_upto_region 8 with (fail)
                        go_region_law (go_simp; go_at_call 45; (with_reducible refine HC.out.mono ?_); rintro e w2 ⟨bv2, fs2, s2, hT2, hF2, rfl, hm2, hst2, _⟩)
                        all_goals
                          have hfr := (Fr.of_below HDR.out).trans hF2
                          have HF2 := Lib.hid (HF1.out.trans hfr)
                          have HB2 := Lib.hid (HB1.out.fr hfr)
                          have HT2 := Lib.hid hT2
                          have HM2 := Lib.hid hm2
                          have HST2 := Lib.hid hst2
                          clear hT2 hF2 hm2 hst2 hfr
                          go_wp2
                          refine ⟨⟨2, bv2, fs2, s2, σ', rfl, .two s1 _ σ1 _ HH1.out HM1.out HST1.out H2.out HM2.out HST2.out, HT2.out, HF2.out, HB2.out⟩, by simp only [intOf]; omega⟩
                    | two sm _ σm _ h1 m1 st1 h2 m2 st2 =>
                      have hr1 := HRR.out
                      rw [h1] at hr1
                      simp only at hr1
                      rw [h2] at hr1
                      subst hr1
                      have g1 := unif_good f σ a1 b1 HI.out.st.idem
                      rw [h1] at g1
                      have g2 := unif_good f σm a2 b2 m1.inv.st.idem
                      rw [h2] at g2
                      have hroom := m1.room
                      have hroom2 := m2.room
                      have hwt := m1.wt
                      have hwt2 := m2.wt
                      obtain ⟨q1, q2', q3, q4⟩ := arr_done (M := M) (g := arrows a + arrows b) (A := A) m1 m2 (by omega) st1 st2 g1.2.2.1 g2.2.2.1 HRA.out HRB.out (by rw [← EA.out]; exact HDA.out) (by rw [← EB.out]; exact HDB.out) HNS.out EA.out (by omega)
                      have hl2 := wt_log N M s1 σ1
                      have HJQ := Lib.hid (join_any L wr tb sb mb made s1 bv1 fs1 ra rb _ _ HT1.out (fun b h => Nat.lt_of_lt_of_le (HLW.out b h) HF1.out.size) HB1.out.ta.zt HB1.out.tb'.zt q1 q2' (by omega) (by omega))
                      have a0 := HB1.out.ta.c0
                      have a1' := HB1.out.ta.c1
                      have a2' := HB1.out.ta.c2
                      have b0 := HB1.out.tb'.c0
                      have b1' := HB1.out.tb'.c1
                      have b2' := HB1.out.tb'.c2
                      have Q3 := Lib.hid q3
                      have Q4' := Lib.hid q4
                      clear h1 h2 m1 m2 st1 st2 g1 g2 hroom hroom2 hwt hwt2 q1 q2' q3 q4 hl2
                      go_wp2_with fail
                      (with_reducible refine HJQ.out.mono ?_)
                      rintro e w' ⟨rfl, bv', fs', hT', hF'⟩
                      have HT' := Lib.hid hT'
                      have HF' := Lib.hid (HF1.out.trans hF')
                      clear hT' hF' a0 a1' a2' b0 b1' b2'
                      go_wp2
                      go_ret
                      exact ⟨bv', fs', _, HT'.out, HF'.out, rfl, Q3.out, Q4'.out, Q3.out.inv.st.idem⟩
theorem unify_any (N M tb sb mb : Nat) (made : Int) : ∀ (f : Nat) (σ : Sb) (A B : Tm) (r : Except Nat Sb), unif f σ A B = r → r ≠ .error 99 → UniOk N M tb sb mb made σ A B r
  | 0, _, _, _, _, h, hne => absurd h.symm hne
  | f + 1, σ, A, B, r, h, hne => unify_step N M tb sb mb made f (unify_any N M tb sb mb made f) σ A B r h hne
end Go.Proofs.Ytomhojpoaicioaa
