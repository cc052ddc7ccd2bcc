/- The contract of a trial's joinVars. Conditions: those that the theorem names. -/
import Derived.Test.YtomhojpoaicioaaJvR
namespace Go.Proofs.Ytomhojpoaicioaa
open Go.RowKit
/-- What join, and joinVars, did. -/
def JRes (L : Nat → Prop) (tb sb mb : Nat) (made : Int) (bv : Value) (w : World) (s' : KS) (e : Ending) (w' : World) : Prop :=
  e = .returned (.tuple #[]) ∧ ∃ bv' fs', TrAt L w' tb sb mb s'.sz made s'.kn bv' fs' s'.log ∧ Fr tb sb mb bv bv' w w'
theorem gtU_wrap {p q : Int} (hp1 : -9223372036854775808 ≤ p) (hp2 : p ≤ 9223372036854775807) (hq1 : -9223372036854775808 ≤ q) (hq2 : q ≤ 9223372036854775807) : gtU p q = decide (IntKind.u64.wrap q < IntKind.u64.wrap p) := by
  have e1 : IntKind.u64.wrap p = if p < 0 then p + 18446744073709551616 else p := by
    show p % 18446744073709551616 = _
    split <;> omega
  have e2 : IntKind.u64.wrap q = if q < 0 then q + 18446744073709551616 else q := by
    show q % 18446744073709551616 = _
    split <;> omega
  rw [e1, e2]
  unfold gtU
  split
  · split
    · exact decide_eq_decide.2 (by omega)
    · symm; rw [decide_eq_true_iff]; omega
  · split
    · symm; rw [decide_eq_false_iff_not]; omega
    · exact decide_eq_decide.2 (by omega)
def lookR (kn : Kn) (a : Int) : Tz := match kn a with | none => .var a | some t => t
theorem lookR_chain {kn : Kn} {a : Int} (h : ∀ m, kn a ≠ some (.var m)) : ∃ k, Chain kn k (.var a) (lookR kn a) := by
  unfold lookR
  cases e : kn a with
  | none => exact ⟨0, rfl, fun n h => by injection h with h; rw [← h]; exact e⟩
  | some t => exact ⟨1, a, t, rfl, e, rfl, fun n h9 => absurd (by rw [e, h9]) (h n)⟩
theorem formZ_no {t : Tz} (h : ∀ n, t ≠ .var n) : (formZ t == 1) = false := by
  cases t with
  | var n => exact absurd rfl (h n)
  | star => rfl
  | arr => rfl
set_option maxRecDepth 100000 in
set_option maxHeartbeats 2000000 in
theorem joinVars_core (L : Nat → Prop) (w : World) (tb sb mb : Nat) (made : Int) (s : KS) (bv : Value) (fs : List F5) (p q a b : Int) (hT : TrAt L w tb sb mb s.sz made s.kn bv fs s.log)
    (ha1 : -9223372036854775808 ≤ a) (ha2 : a ≤ 9223372036854775807) (hb1 : -9223372036854775808 ≤ b) (hb2 : b ≤ 9223372036854775807) (ha : ∀ m, s.kn a ≠ some (.var m)) (hb : ∀ m, s.kn b ≠ some (.var m))
    (hsz : s.sz + 2 < 1000000000) (hlg : s.log.length + 2 < 1000000000)
    (hsw : p = b ∧ q = a ∧ IntKind.u64.wrap q < IntKind.u64.wrap p ∨ p = a ∧ q = b ∧ ¬ IntKind.u64.wrap q < IntKind.u64.wrap p) :
    Calls Try.prog 57 #[.pointer (some ⟨tb, 0, none⟩), .int .i64 p, .int .i64 q] w (JRes L tb sb mb made bv w (jv s a b)) := by
  obtain ⟨ka, hca⟩ := lookR_chain ha
  obtain ⟨kb, hcb⟩ := lookR_chain hb
  have HCA : Hid (∀ y, Below w.heap.size w y → Calls Try.prog 47 #[.pointer (some ⟨sb, 0, none⟩), .agg #[.int .i64 1, .int .i64 a, .slice none 0 0]] y (TermZ (PB L tb sb mb bv w.heap.size) y (lookR s.kn a))) := fun y hy => plook_any _ ka _ _ _ y sb mb s.sz made s.kn hca (hT.sol.bound.on hy) (.var a none 0 ha1 ha2)
  have HCB : Hid (∀ y, Below w.heap.size w y → Calls Try.prog 47 #[.pointer (some ⟨sb, 0, none⟩), .agg #[.int .i64 1, .int .i64 b, .slice none 0 0]] y (TermZ (PB L tb sb mb bv w.heap.size) y (lookR s.kn b))) := fun y hy => plook_any _ kb _ _ _ y sb mb s.sz made s.kn hcb (hT.sol.bound.on hy) (.var b none 0 hb1 hb2)
  have HT := Lib.hid hT
  have H0 : Hid (∀ y, Below w.heap.size w y → y.cell? ⟨tb, 0, none⟩ = some (.pointer (some ⟨sb, 0, none⟩))) := fun y hy => (hT.on hy).t0
  -- the end: b is known to be a
  have END : Hid (∀ (y : World) (s1 : KS) (bv1 : Value) (fs1 : List F5), TrAt L y tb sb mb s1.sz made s1.kn bv1 fs1 s1.log → Fr tb sb mb bv bv1 w y → s1.sz < 1000000000 → s1.log.length < 1000000000 →
      Calls Try.prog 58 #[.pointer (some ⟨tb, 0, none⟩), .int .i64 b, .agg #[.int .i64 1, .int .i64 a, .slice none 0 0]] y (fun e w' => e = .returned (.tuple #[]) ∧ ∃ bv' fs', TrAt L w' tb sb mb (s1.learn b (.var a)).sz made (s1.learn b (.var a)).kn bv' fs' (s1.learn b (.var a)).log ∧ Fr tb sb mb bv bv' w w')) := fun y s1 bv1 fs1 h1 h2 h3 h4 => by
    refine (learn_any L y tb sb mb s1.sz made s1.kn bv1 fs1 s1.log b (.var a) _ h1 (.var a none 0 ha1 ha2) hb1 hb2 h3 (by rw [h1.log.1]; exact h4)).mono ?_
    rintro e w' ⟨h5, bv', fs', h6, h7⟩
    exact ⟨h5, bv', fs', h6, h2.trans h7⟩
  have HA := Lib.hid ha
  have HB := Lib.hid hb
  clear hT hca hcb ha hb
  rcases hsw with ⟨hp, hq, hg⟩ | ⟨hp, hq, hg⟩
  all_goals
    subst p q
    go_enter Try.func57, Try.ntmps57
    go_upto_region 2 with (fail)
    refine jvlook2 (fun b h => h.2) H0 HCA ?_
    rintro x0 x1 x2 x3 x4 x5 x6 x7 y ⟨g, A, c, rfl, hgw, htb, hby⟩
    have c0 := htb.c0
    have HBY := Lib.hid hby
    have HTB := Lib.hid htb
    clear hby htb
    unfold ptrZ
    cases hka : s.kn a with
    | some t =>
      have e1 : lookR s.kn a = t := by unfold lookR; rw [hka]
      have ej : jv s a b = s.learn b (.var a) := by unfold jv; rw [hka]
      rw [e1] at c0
      have hf : (formZ t == 1) = false := formZ_no (fun m e => HA.out m (by rw [hka, e]))
      generalize formZ t = F at *
      have HEJ := Lib.hid ej
      clear ej e1 hka
      go_wp2_with fail
      refine (variable_any _ _).mono ?_
      rintro e y2 ⟨rfl, hb2⟩
      have hT2 := (HT.out.on HBY.out).on hb2
      have hF2 : Fr tb sb mb bv bv w y2 := Fr.of_below (HBY.out.trans (hb2.mono HBY.out.size))
      have HCE := Lib.hid (END.out y2 s bv fs hT2 hF2 (by omega) (by omega))
      clear hT2 hF2 hb2
      go_wp2_with fail
      refine HCE.out.mono ?_
      rintro e w' ⟨rfl, h9⟩
      have H9 := Lib.hid h9
      clear h9
      go_wp2
      go_end0
      rw [HEJ.out]
      exact ⟨rfl, H9.out⟩
    | none =>
      have e1 : lookR s.kn a = .var a := by unfold lookR; rw [hka]
      rw [e1] at c0
      change y.cell? ⟨g, 0, none⟩ = some (.int .i64 1) at c0
      have HKA := Lib.hid hka
      clear e1 hka
      go_upto_region 4 with (fail)
      refine jvlook4 (V := y) (P := PB L tb sb mb bv w.heap.size) (fun b h => Nat.lt_of_lt_of_le h.2 HBY.out.size) (Lib.hid (fun q hq => H0.out q (HBY.out.trans (hq.mono HBY.out.size)))) (Lib.hid (fun q hq => HCB.out q (HBY.out.trans (hq.mono HBY.out.size)))) ?_
      rintro z0 z1 z2 z3 z4 z5 z6 z7 u ⟨g2, A2, c2, rfl, hgy, htb2, hbu⟩
      have d0 := htb2.c0
      have HBU := Lib.hid (HBY.out.trans (hbu.mono HBY.out.size))
      have HTB2 := Lib.hid htb2
      clear hbu htb2
      unfold ptrZ
      cases hkb : s.kn b with
      | none =>
        have e1 : lookR s.kn b = .var b := by unfold lookR; rw [hkb]
        have ej : jv s a b = s.learn b (.var a) := by unfold jv; rw [HKA.out, hkb]
        rw [e1] at d0
        change u.cell? ⟨g2, 0, none⟩ = some (.int .i64 1) at d0
        have HEJ := Lib.hid ej
        clear ej e1 hkb
        go_wp2_with fail
        refine (variable_any _ _).mono ?_
        rintro e y2 ⟨rfl, hb2⟩
        have hT2 := (HT.out.on HBU.out).on hb2
        have hF2 : Fr tb sb mb bv bv w y2 := Fr.of_below (HBU.out.trans (hb2.mono HBU.out.size))
        have HCE := Lib.hid (END.out y2 s bv fs hT2 hF2 (by omega) (by omega))
        clear hT2 hF2 hb2
        go_wp2_with fail
        refine HCE.out.mono ?_
        rintro e w' ⟨rfl, h9⟩
        have H9 := Lib.hid h9
        clear h9
        go_wp2
        go_end0
        rw [HEJ.out]
        exact ⟨rfl, H9.out⟩
      | some t =>
        have e1 : lookR s.kn b = t := by unfold lookR; rw [hkb]
        have ej : jv s a b = (s.learn a t).learn b (.var a) := by unfold jv; rw [HKA.out, hkb]
        have hf : (formZ t != 1) = true := by unfold bne; rw [formZ_no (fun m e => HB.out m (by rw [hkb, e]))]; rfl
        have htb3 := HTB2.out
        rw [e1] at d0 htb3
        have d1 := htb3.c1
        have d2 := htb3.c2
        have HCL := Lib.hid (learn_any L u tb sb mb s.sz made s.kn bv fs s.log a t _ (HT.out.on HBU.out) (htb3.zt.mono (fun b h => h.1)) ha1 ha2 (by omega) (by rw [HT.out.log.1]; omega))
        generalize formZ t = F at *
        generalize numZ t = G at *
        generalize argsZ t = M at *
        have HEJ := Lib.hid ej
        clear ej e1 hkb htb3
        go_wp2_with fail
        refine HCL.out.mono ?_
        rintro e u2 ⟨rfl, bv2, fs2, hT2, hF2⟩
        have hl := learn_sz s a t
        have HT2 := Lib.hid hT2
        have HF2 := Lib.hid ((Fr.of_below HBU.out).trans hF2)
        clear hT2 hF2 hf d0 d1 d2
        go_wp2_with fail
        refine (variable_any _ _).mono ?_
        rintro e y2 ⟨rfl, hb2⟩
        have HCE := Lib.hid (END.out y2 (s.learn a t) bv2 fs2 (HT2.out.on hb2) (HF2.out.trans (Fr.of_below hb2)) (by omega) (by omega))
        clear hb2
        go_wp2_with fail
        refine HCE.out.mono ?_
        rintro e w' ⟨rfl, h9⟩
        have H9 := Lib.hid h9
        clear h9
        go_wp2
        go_end0
        rw [HEJ.out]
        exact ⟨rfl, H9.out⟩
theorem joinVars_any (L : Nat → Prop) (w : World) (tb sb mb : Nat) (made : Int) (s : KS) (bv : Value) (fs : List F5) (p q : Int) (hT : TrAt L w tb sb mb s.sz made s.kn bv fs s.log)
    (hp1 : -9223372036854775808 ≤ p) (hp2 : p ≤ 9223372036854775807) (hq1 : -9223372036854775808 ≤ q) (hq2 : q ≤ 9223372036854775807) (hp : ∀ m, s.kn p ≠ some (.var m)) (hq : ∀ m, s.kn q ≠ some (.var m))
    (hsz : s.sz + 2 < 1000000000) (hlg : s.log.length + 2 < 1000000000) :
    Calls Try.prog 57 #[.pointer (some ⟨tb, 0, none⟩), .int .i64 p, .int .i64 q] w (JRes L tb sb mb made bv w (joinVarsF s p q)) := by
  unfold joinVarsF
  rw [gtU_wrap hp1 hp2 hq1 hq2]
  by_cases h : IntKind.u64.wrap q < IntKind.u64.wrap p
  · rw [if_pos (by simpa using h)]
    exact joinVars_core L w tb sb mb made s bv fs p q q p hT hq1 hq2 hp1 hp2 hq hp hsz hlg (.inl ⟨rfl, rfl, h⟩)
  · rw [if_neg (by simpa using h)]
    exact joinVars_core L w tb sb mb made s bv fs p q p q hT hp1 hp2 hq1 hq2 hp hq hsz hlg (.inr ⟨rfl, rfl, h⟩)
end Go.Proofs.Ytomhojpoaicioaa
