/- The contracts of variable, arrow, and of a trial's flat and named. Conditions: those that each theorem names. -/
import Derived.Test.YtomhojpoaicioaaLearn
import Derived.Deep.Cut
namespace Go.Proofs.Ytomhojpoaicioaa
open Go.RowKit

theorem variable_any (n : Int) (w : World) : Calls Try.prog 41 #[.int .i64 n] w fun e w' => e = .returned (.agg #[.int .i64 1, .int .i64 n, .slice none 0 0]) ∧ Below w.heap.size w w' := by
  go_enter Try.func41, Try.ntmps41
  go_wp2
  exact bodyPost_ret (v := .agg #[.int .i64 1, .int .i64 n, .slice none 0 0]) (by simp [results, Try.results41, go_sem]) rfl ⟨rfl, below_new w _⟩
/-- What arrow answered. -/
def ArrRes (Q : Nat → Prop) (w : World) (a b : Tz) (e : Ending) (w' : World) : Prop := ∃ v, e = .returned v ∧ ZAt (fun x => Q x ∨ w.heap.size ≤ x) w' (.arr a b) v ∧ Below w.heap.size w w'
set_option maxRecDepth 100000 in
set_option maxHeartbeats 1000000 in
theorem parrow_any (Q : Nat → Prop) (a b : Tz) (v1 v2 : Value) (w : World) (h1 : ZAt Q w a v1) (h2 : ZAt Q w b v2) : Calls Try.prog 49 #[v1, v2] w (ArrRes Q w a b) := by
  obtain ⟨A1, c1, rfl⟩ := h1.form
  obtain ⟨A2, c2, rfl⟩ := h2.form
  have H1 := Lib.hid h1
  have H2 := Lib.hid h2
  clear h1 h2
  generalize hF1 : formZ a = F1 at *
  generalize hG1 : numZ a = G1 at *
  generalize hM1 : argsZ a = M1 at *
  generalize hF2 : formZ b = F2 at *
  generalize hG2 : numZ b = G2 at *
  generalize hM2 : argsZ b = M2 at *
  clear hF1 hG1 hM1 hF2 hG2 hM2
  go_enter Try.func49, Try.ntmps49
  go_wp2
  have b1 := below_new w (.cells #[.int .i64 F1, .int .i64 G1, .slice A1 M1 c1] 49)
  have b2 := b1.alloc b1.size (.cells #[.int .i64 F2, .int .i64 G2, .slice A2 M2 c2] 49)
  have b3 := b2.alloc b2.size (.cells #[.int .i64 3, .int .i64 0, .slice (some ⟨w.heap.size + 1 + 1 + 1, 0, none⟩) 2 2] 49)
  have hz : (((w.alloc (.cells #[.int .i64 F1, .int .i64 G1, .slice A1 M1 c1] 49)).alloc (.cells #[.int .i64 F2, .int .i64 G2, .slice A2 M2 c2] 49)).alloc (.cells #[.int .i64 3, .int .i64 0, .slice (some ⟨w.heap.size + 1 + 1 + 1, 0, none⟩) 2 2] 49)).heap.size = w.heap.size + 1 + 1 + 1 := by simp
  have hs := six_new (((w.alloc (.cells #[.int .i64 F1, .int .i64 G1, .slice A1 M1 c1] 49)).alloc (.cells #[.int .i64 F2, .int .i64 G2, .slice A2 M2 c2] 49)).alloc (.cells #[.int .i64 3, .int .i64 0, .slice (some ⟨w.heap.size + 1 + 1 + 1, 0, none⟩) 2 2] 49)) (.int .i64 F1) (.int .i64 G1) (.slice A1 M1 c1) (.int .i64 F2) (.int .i64 G2) (.slice A2 M2 c2) 49
  have b4 := b3.alloc b3.size (.cells #[.int .i64 F1, .int .i64 G1, .slice A1 M1 c1, .int .i64 F2, .int .i64 G2, .slice A2 M2 c2] 49)
  rw [hz] at hs
  refine bodyPost_ret (v := .agg #[.int .i64 3, .int .i64 0, .slice (some ⟨w.heap.size + 1 + 1 + 1, 0, none⟩) 2 2]) (by simp [results, Try.results49, go_sem]) rfl ⟨_, rfl, ?_, b4⟩
  exact .arr a b (w.heap.size + 1 + 1 + 1) 0 2 _ _ _ _ _ _ (.inr (by omega)) (by simp) (hs 0 _ rfl) (hs 1 _ rfl) (hs 2 _ rfl) (hs 3 _ rfl) (hs 4 _ rfl) (hs 5 _ rfl) ((H1.out.on b4).mono (fun _ h => .inl h)) ((H2.out.on b4).mono (fun _ h => .inl h))
/-- What is known, how much, and what was known before. -/
structure KS where
  kn : Kn
  sz : Nat
  log : List (Int × Option Tz)
def KS.learn (s : KS) (n : Int) (x : Tz) : KS := ⟨setK s.kn n (some x), if (s.kn n).isSome then s.sz else s.sz + 1, s.log ++ [(n, s.kn n)]⟩
def nameF (r : Tz × KS) : Tz × KS :=
  match r.1 with
  | .arr a b => (.var (-1 - (r.2.sz : Int)), r.2.learn (-1 - (r.2.sz : Int)) (.arr a b))
  | t => (t, r.2)
def flatF : Tz → KS → Tz × KS
  | .var n, s => (.var n, s)
  | .star, s => (.star, s)
  | .arr a b, s => (.arr (nameF (flatF a s)).1 (nameF (flatF b (nameF (flatF a s)).2)).1, (nameF (flatF b (nameF (flatF a s)).2)).2)
def arrows : Tz → Nat
  | .var _ => 0
  | .star => 0
  | .arr a b => arrows a + arrows b + 1
theorem learn_sz (s : KS) (n : Int) (x : Tz) : (s.learn n x).sz ≤ s.sz + 1 ∧ (s.learn n x).log.length = s.log.length + 1 := by
  refine ⟨?_, by simp [KS.learn]⟩
  show (if (s.kn n).isSome then s.sz else s.sz + 1) ≤ _
  split <;> omega
theorem nameF_sz (r : Tz × KS) : (nameF r).2.sz ≤ r.2.sz + 1 ∧ (nameF r).2.log.length ≤ r.2.log.length + 1 := by
  unfold nameF
  split
  · exact ⟨(learn_sz _ _ _).1, Nat.le_of_eq (learn_sz _ _ _).2⟩
  · exact ⟨Nat.le_succ _, Nat.le_succ _⟩
theorem flat_sz : ∀ (x : Tz) (s : KS), (nameF (flatF x s)).2.sz ≤ s.sz + arrows x ∧ (nameF (flatF x s)).2.log.length ≤ s.log.length + arrows x ∧ (flatF x s).2.sz ≤ s.sz + arrows x ∧ (flatF x s).2.log.length ≤ s.log.length + arrows x
  | .var n, s => ⟨Nat.le_refl _, Nat.le_refl _, Nat.le_refl _, Nat.le_refl _⟩
  | .star, s => ⟨Nat.le_refl _, Nat.le_refl _, Nat.le_refl _, Nat.le_refl _⟩
  | .arr a b, s => by
    obtain ⟨a1, a2, _, _⟩ := flat_sz a s
    obtain ⟨b1, b2, _, _⟩ := flat_sz b (nameF (flatF a s)).2
    have h := nameF_sz (flatF (.arr a b) s)
    have e : (flatF (.arr a b) s).2 = (nameF (flatF b (nameF (flatF a s)).2)).2 := rfl
    rw [e] at h ⊢
    have ea : arrows (.arr a b) = arrows a + arrows b + 1 := rfl
    rw [ea]
    exact ⟨by omega, by omega, by omega, by omega⟩
/-- len(m), at the operation. -/
theorem wpList_lenI {P : Program} {k t e : TypeId} {w : World} {b sz : Nat} {f : Int → Option Value} {ops : Array Oper} {rest : List Oper} {o : Oper} {a : Act} {Q : Exit → Act → World → Prop} (hg : o.guard = none) (m : Operand) (hop : o.op = Op.call { callee := Callee.builtin Builtin.len, args := #[m], argTypes := #[t] })
    (ht : P.underlying t = some (.map k e)) (hm : a.eval m = .map (some b)) (h : MapI P k w b sz f) (hK : wpList P ops Q rest (a.put o.dst (.int .i64 sz)) w) : wpList P ops Q (o :: rest) a w := by
  refine wpList_plain hg fun K' hK' => ?_
  unfold Oper.wp
  simp [execOp, hop, resolve, invoke, builtin, hm, h.len ht o.type, Result.andThen]
  exact hK' _ _ hK
theorem FB_new {L : Nat → Prop} {w : World} {tb sb mb sz : Nat} {made : Int} {kn : Kn} {bv : Value} {fs : List F5} {log : List (Int × Option Tz)} (h : TrAt L w tb sb mb sz made kn bv fs log) {b : Nat} (hb : w.heap.size ≤ b) : FB tb sb mb bv b :=
  ⟨by have := h.tlt; omega, by have := h.sol.lt; omega, by have := h.sol.known.lt; omega, fun e => by have := (h.row.lt _ e).2; omega⟩
/-- What flat, and named, answered. -/
def FlatRes (L : Nat → Prop) (tb sb mb : Nat) (made : Int) (bv : Value) (w : World) (r : Tz × KS) (e : Ending) (w' : World) : Prop :=
  ∃ v' bv' fs', e = .returned v' ∧ ZAt (FL L tb sb mb bv') w' r.1 v' ∧ TrAt L w' tb sb mb r.2.sz made r.2.kn bv' fs' r.2.log ∧ Fr tb sb mb bv bv' w w'
theorem Fr.box {tb sb mb : Nat} {bv bv' : Value} {w w' : World} (h : Fr tb sb mb bv bv' w w') {b o : Nat} (hb : w.heap.size ≤ b) (u : Value) : Fr tb sb mb bv bv' w (w'.setCell ⟨b, o, none⟩ u) :=
  ⟨by have := h.size; simpa using this, fun x hlt hx => by
    have hne : x ≠ (⟨b, o, none⟩ : Addr).block := fun e => by
      have e' : x = b := e
      omega
    exact (Below.heap_setCell _ _ _ _ hne).trans (h.block x hlt hx), h.at', h.quiet.trans (.setCell _ _ _)⟩
theorem ZAt.box {L : Nat → Prop} {tb sb mb : Nat} {bv : Value} {w : World} {t : Tz} {v : Value} (h : ZAt (FL L tb sb mb bv) w t v) {b o : Nat} (hL : L b) (u : Value) : ZAt (FL L tb sb mb bv) (w.setCell ⟨b, o, none⟩ u) t v := h.keep (.setCell (fun e => e.2 hL) _)
/-- A function's end: its two boxes have been stored into, and are done with. -/
theorem flat_ends {L : Nat → Prop} {tb sb mb : Nat} {made : Int} {bv bv3 : Value} {w w3 : World} {fs3 : List F5} {r : Tz × KS} {v : Value} (hT : TrAt (fun b => L b ∨ b = w.heap.size ∨ b = w.heap.size + 1) w3 tb sb mb r.2.sz made r.2.kn bv3 fs3 r.2.log)
    (hz : ZAt (FL (fun b => L b ∨ b = w.heap.size ∨ b = w.heap.size + 1) tb sb mb bv3) w3 r.1 v) (fr : Fr tb sb mb bv bv3 w w3) (h0 : FB tb sb mb bv3 w.heap.size) (h1 : FB tb sb mb bv3 (w.heap.size + 1)) (u0 u1 u2 u3 u4 u5 : Value) :
    FlatRes L tb sb mb made bv w r (.returned v) ((((((w3.setCell ⟨w.heap.size, 0, none⟩ u0).setCell ⟨w.heap.size, 1, none⟩ u1).setCell ⟨w.heap.size, 2, none⟩ u2).setCell ⟨w.heap.size + 1, 0, none⟩ u3).setCell ⟨w.heap.size + 1, 1, none⟩ u4).setCell ⟨w.heap.size + 1, 2, none⟩ u5) := by
  have l0 : (fun b => L b ∨ b = w.heap.size ∨ b = w.heap.size + 1) w.heap.size := .inr (.inl rfl)
  have l1 : (fun b => L b ∨ b = w.heap.size ∨ b = w.heap.size + 1) (w.heap.size + 1) := .inr (.inr rfl)
  refine ⟨v, bv3, fs3, rfl, ?_, ?_, ?_⟩
  · exact ((((((hz.box l0 u0).box l0 u1).box l0 u2).box l1 u3).box l1 u4).box l1 u5).more (fun b hb => .inl (.inl hb))
  · exact ((((((hT.box l0 h0 u0).box l0 h0 u1).box l0 h0 u2).box l1 h1 u3).box l1 h1 u4).box l1 h1 u5).more (fun b hb => .inl (.inl hb))
  · exact (((((fr.box (Nat.le_refl _) u0).box (Nat.le_refl _) u1).box (Nat.le_refl _) u2).box (Nat.le_succ _) u3).box (Nat.le_succ _) u4).box (Nat.le_succ _) u5
/-- What flat promises of one term. -/
def FlatOk (fn : Nat) (tb sb mb : Nat) (made : Int) (x : Tz) (res : KS → Tz × KS) : Prop :=
  ∀ (L : Nat → Prop) (v : Value) (w : World) (s : KS) (bv : Value) (fs : List F5), TrAt L w tb sb mb s.sz made s.kn bv fs s.log → (∀ b, L b → b < w.heap.size) → ZAt (FL L tb sb mb bv) w x v → s.sz + arrows x < 1000000000 → s.log.length + arrows x < 1000000000 →
    Calls Try.prog fn #[.pointer (some ⟨tb, 0, none⟩), v] w (FlatRes L tb sb mb made bv w (res s))
set_option maxRecDepth 100000 in
set_option maxHeartbeats 2000000 in
theorem named_of (tb sb mb : Nat) (made : Int) (x : Tz) (hfl : FlatOk 59 tb sb mb made x (flatF x)) : FlatOk 61 tb sb mb made x (fun s => nameF (flatF x s)) := by
  intro L v w s bv fs hT hLw hv hs1 hs2
  obtain ⟨A, c, rfl⟩ := hv.form
  generalize hF : formZ x = F at *
  generalize hG : numZ x = G at *
  generalize hM : argsZ x = M at *
  have hb2 : Below w.heap.size w ((w.alloc (.cells #[.int .i64 F, .int .i64 G, .slice A M c] 49)).alloc (.cells #[.int .i64 0, .int .i64 0, .slice none 0 0] 49)) := (below_new w _).trans ((below_new _ _).mono (by simp))
  have HT := Lib.hid hT
  have HV := Lib.hid hv
  have HB2 := Lib.hid hb2
  have HFL := Lib.hid hfl
  clear hT hv hb2 hfl hF hG hM
  go_enter Try.func61, Try.ntmps61
  go_wp2_with fail
  have hbk0 : ((w.alloc (.cells #[.int .i64 F, .int .i64 G, .slice A M c] 49)).alloc (.cells #[.int .i64 0, .int .i64 0, .slice none 0 0] 49)).heap[w.heap.size]? = some (.cells #[.int .i64 F, .int .i64 G, .slice A M c] 49) := by
    exact ((below_new (w.alloc (.cells #[.int .i64 F, .int .i64 G, .slice A M c] 49)) _).block w.heap.size (by simp)).trans (MapKept.heap_alloc w _).1
  have hbk1 : ((w.alloc (.cells #[.int .i64 F, .int .i64 G, .slice A M c] 49)).alloc (.cells #[.int .i64 0, .int .i64 0, .slice none 0 0] 49)).heap[w.heap.size + 1]? = some (.cells #[.int .i64 0, .int .i64 0, .slice none 0 0] 49) := by
    have := (MapKept.heap_alloc (w.alloc (.cells #[.int .i64 F, .int .i64 G, .slice A M c] 49)) (.cells #[.int .i64 0, .int .i64 0, .slice none 0 0] 49)).1
    simpa using this
  have hza : ((w.alloc (.cells #[.int .i64 F, .int .i64 G, .slice A M c] 49)).alloc (.cells #[.int .i64 0, .int .i64 0, .slice none 0 0] 49)).heap.size = w.heap.size + 2 := by simp
  generalize (w.alloc (.cells #[.int .i64 F, .int .i64 G, .slice A M c] 49)).alloc (.cells #[.int .i64 0, .int .i64 0, .slice none 0 0] 49) = wa at *
  have HTA := Lib.hid ((HT.out.more (L' := fun b => L b ∨ b = w.heap.size ∨ b = w.heap.size + 1) (fun b hb => by rcases hb with h | h | h; exact .inl h; right; omega; right; omega)).on HB2.out)
  refine (HFL.out _ _ wa s bv fs HTA.out (fun b hb => by rcases hb with h | h | h; (have := hLw b h; omega); omega; omega) ((HV.out.more (fun b hb => by rcases hb with h | h | h; exact .inl h; right; omega; right; omega)).on HB2.out) hs1 hs2).mono ?_
  rintro e w3 ⟨v', bv3, fs3, rfl, hz3, hT3, fr3⟩
  have hFB0 := FB_new HT.out (Nat.le_refl w.heap.size)
  have hFB1 := FB_new HT.out (Nat.le_succ w.heap.size)
  have k0 := (fr3.block w.heap.size (by omega) hFB0).trans hbk0
  have k1 := (fr3.block (w.heap.size + 1) (by omega) hFB1).trans hbk1
  have a0 : w3.cell? ⟨w.heap.size, 0, none⟩ = some (.int .i64 F) := by simp [World.cell?, k0]
  have a1 : w3.cell? ⟨w.heap.size, 1, none⟩ = some (.int .i64 G) := by simp [World.cell?, k0]
  have a2 : w3.cell? ⟨w.heap.size, 2, none⟩ = some (.slice A M c) := by simp [World.cell?, k0]
  have fz : ∀ i, w3.frozen? ⟨w.heap.size, i, none⟩ = false := fun i => by simp [World.frozen?, k0]
  have r0 : w3.cell? ⟨w.heap.size + 1, 0, none⟩ = some (.int .i64 0) := by simp [World.cell?, k1]
  have r1 : w3.cell? ⟨w.heap.size + 1, 1, none⟩ = some (.int .i64 0) := by simp [World.cell?, k1]
  have r2 : w3.cell? ⟨w.heap.size + 1, 2, none⟩ = some (.slice none 0 0) := by simp [World.cell?, k1]
  have fq : ∀ i, w3.frozen? ⟨w.heap.size + 1, i, none⟩ = false := fun i => by simp [World.frozen?, k1]
  have f0 := fz 0
  have f1 := fz 1
  have f2 := fz 2
  have q0 := fq 0
  have q1 := fq 1
  have q2 := fq 2
  obtain ⟨A3, c3, rfl⟩ := hz3.form
  have HZ3 := Lib.hid hz3
  have HT3 := Lib.hid hT3
  have HF3 := Lib.hid ((Fr.of_below HB2.out).trans fr3)
  have hFB3 := fr3.fb hFB0 (by omega)
  have hFB4 := fr3.fb hFB1 (by omega)
  have z3 : w.heap.size + 2 ≤ w3.heap.size := by have := fr3.size; omega
  clear hz3 hT3 fr3 fz fq k0 k1 hbk0 hbk1 hza
  cases hr : (flatF x s).1 with
  | var m =>
    have hnm : nameF (flatF x s) = (flatF x s) := by unfold nameF; rw [hr]; exact Prod.ext hr.symm rfl
    have HZ4 : Hid (ZAt (FL (fun b => L b ∨ b = w.heap.size ∨ b = w.heap.size + 1) tb sb mb bv3) w3 (flatF x s).1 (.agg #[.int .i64 1, .int .i64 m, .slice A3 0 c3])) := by have h9 := HZ3.out; rw [hr] at h9 ⊢; exact h9
    have HNM := Lib.hid hnm
    clear hnm HZ3
    simp only [formZ, numZ, argsZ]
    clear hr
    go_wp2
    refine bodyPost_ret (v := .agg #[.int .i64 1, .int .i64 m, .slice A3 0 c3]) (by simp [results, Try.results61, go_sem, r0, r1, r2]) rfl ?_
    rw [HNM.out]
    exact flat_ends HT3.out HZ4.out HF3.out hFB3 hFB4 _ _ _ _ _ _
  | star =>
    have hnm : nameF (flatF x s) = (flatF x s) := by unfold nameF; rw [hr]; exact Prod.ext hr.symm rfl
    have HZ4 : Hid (ZAt (FL (fun b => L b ∨ b = w.heap.size ∨ b = w.heap.size + 1) tb sb mb bv3) w3 (flatF x s).1 (.agg #[.int .i64 2, .int .i64 0, .slice A3 0 c3])) := by have h9 := HZ3.out; rw [hr] at h9 ⊢; exact h9
    have HNM := Lib.hid hnm
    clear hnm HZ3
    simp only [formZ, numZ, argsZ]
    clear hr
    go_wp2
    refine bodyPost_ret (v := .agg #[.int .i64 2, .int .i64 0, .slice A3 0 c3]) (by simp [results, Try.results61, go_sem, r0, r1, r2]) rfl ?_
    rw [HNM.out]
    exact flat_ends HT3.out HZ4.out HF3.out hFB3 hFB4 _ _ _ _ _ _
  | arr p q =>
    have l0 : (fun b => L b ∨ b = w.heap.size ∨ b = w.heap.size + 1) w.heap.size := .inr (.inl rfl)
    have hT4 := ((HT3.out.box l0 hFB3 (o := 0) (.int .i64 3)).box l0 hFB3 (o := 1) (.int .i64 0)).box l0 hFB3 (o := 2) (.slice A3 2 c3)
    have hz4 : ZAt (FL (fun b => L b ∨ b = w.heap.size ∨ b = w.heap.size + 1) tb sb mb bv3) (((w3.setCell ⟨w.heap.size, 0, none⟩ (.int .i64 3)).setCell ⟨w.heap.size, 1, none⟩ (.int .i64 0)).setCell ⟨w.heap.size, 2, none⟩ (.slice A3 2 c3)) (.arr p q) (.agg #[.int .i64 3, .int .i64 0, .slice A3 2 c3]) := by
      have h9 := HZ3.out
      rw [hr] at h9
      exact ((ZAt.box h9 l0 _).box l0 _).box l0 _
    have fr4 := ((HF3.out.box (Nat.le_refl _) (o := 0) (.int .i64 3)).box (Nat.le_refl _) (o := 1) (.int .i64 0)).box (Nat.le_refl _) (o := 2) (.slice A3 2 c3)
    have b0 : (((w3.setCell ⟨w.heap.size, 0, none⟩ (.int .i64 3)).setCell ⟨w.heap.size, 1, none⟩ (.int .i64 0)).setCell ⟨w.heap.size, 2, none⟩ (.slice A3 2 c3)).cell? ⟨w.heap.size, 0, none⟩ = some (.int .i64 3) := by simp [go_sem, a0]
    have b1 : (((w3.setCell ⟨w.heap.size, 0, none⟩ (.int .i64 3)).setCell ⟨w.heap.size, 1, none⟩ (.int .i64 0)).setCell ⟨w.heap.size, 2, none⟩ (.slice A3 2 c3)).cell? ⟨w.heap.size, 1, none⟩ = some (.int .i64 0) := by simp [go_sem, a1]
    have b2 : (((w3.setCell ⟨w.heap.size, 0, none⟩ (.int .i64 3)).setCell ⟨w.heap.size, 1, none⟩ (.int .i64 0)).setCell ⟨w.heap.size, 2, none⟩ (.slice A3 2 c3)).cell? ⟨w.heap.size, 2, none⟩ = some (.slice A3 2 c3) := by simp [go_sem, a2]
    have hnm : nameF (flatF x s) = (.var (-1 - ((flatF x s).2.sz : Int)), (flatF x s).2.learn (-1 - ((flatF x s).2.sz : Int)) (.arr p q)) := by unfold nameF; rw [hr]
    have HNM := Lib.hid hnm
    have HT4 := Lib.hid hT4
    have HZ4 := Lib.hid hz4
    have HF4 := Lib.hid fr4
    have hbd := flat_sz x s
    have hx1 : 1 ≤ arrows x := by
      cases x with
      | var n => exact absurd hr (by simp [flatF])
      | star => exact absurd hr (by simp [flatF])
      | arr x1 x2 => show 1 ≤ arrows x1 + arrows x2 + 1; omega
    clear hT4 hz4 fr4 hnm HT3 HZ3 HF3 l0
    have rr0 : (((w3.setCell ⟨w.heap.size, 0, none⟩ (.int .i64 3)).setCell ⟨w.heap.size, 1, none⟩ (.int .i64 0)).setCell ⟨w.heap.size, 2, none⟩ (.slice A3 2 c3)).cell? ⟨w.heap.size + 1, 0, none⟩ = some (.int .i64 0) := by simp [go_sem, r0]
    have qq0 : (((w3.setCell ⟨w.heap.size, 0, none⟩ (.int .i64 3)).setCell ⟨w.heap.size, 1, none⟩ (.int .i64 0)).setCell ⟨w.heap.size, 2, none⟩ (.slice A3 2 c3)).frozen? ⟨w.heap.size + 1, 0, none⟩ = false := by simp [go_sem, q0]
    have rr1 : (((w3.setCell ⟨w.heap.size, 0, none⟩ (.int .i64 3)).setCell ⟨w.heap.size, 1, none⟩ (.int .i64 0)).setCell ⟨w.heap.size, 2, none⟩ (.slice A3 2 c3)).cell? ⟨w.heap.size + 1, 1, none⟩ = some (.int .i64 0) := by simp [go_sem, r1]
    have qq1 : (((w3.setCell ⟨w.heap.size, 0, none⟩ (.int .i64 3)).setCell ⟨w.heap.size, 1, none⟩ (.int .i64 0)).setCell ⟨w.heap.size, 2, none⟩ (.slice A3 2 c3)).frozen? ⟨w.heap.size + 1, 1, none⟩ = false := by simp [go_sem, q1]
    have rr2 : (((w3.setCell ⟨w.heap.size, 0, none⟩ (.int .i64 3)).setCell ⟨w.heap.size, 1, none⟩ (.int .i64 0)).setCell ⟨w.heap.size, 2, none⟩ (.slice A3 2 c3)).cell? ⟨w.heap.size + 1, 2, none⟩ = some (.slice none 0 0) := by simp [go_sem, r2]
    have qq2 : (((w3.setCell ⟨w.heap.size, 0, none⟩ (.int .i64 3)).setCell ⟨w.heap.size, 1, none⟩ (.int .i64 0)).setCell ⟨w.heap.size, 2, none⟩ (.slice A3 2 c3)).frozen? ⟨w.heap.size + 1, 2, none⟩ = false := by simp [go_sem, q2]
    have zz4 : (((w3.setCell ⟨w.heap.size, 0, none⟩ (.int .i64 3)).setCell ⟨w.heap.size, 1, none⟩ (.int .i64 0)).setCell ⟨w.heap.size, 2, none⟩ (.slice A3 2 c3)).heap.size = w3.heap.size := by simp
    simp only [formZ, numZ, argsZ]
    clear hr
    go_upto_region 4 with (fail)
    generalize ((w3.setCell ⟨w.heap.size, 0, none⟩ (.int .i64 3)).setCell ⟨w.heap.size, 1, none⟩ (.int .i64 0)).setCell ⟨w.heap.size, 2, none⟩ (.slice A3 2 c3) = w4 at *
    have hFB4' := hFB4
    have t0 := HT4.out.t0
    have s1 := HT4.out.sol.c1
    obtain ⟨f4, hM4, _⟩ := HT4.out.sol.known
    have hlog := HT4.out.log.1
    have hz4 : w.heap.size + 2 ≤ w4.heap.size := by omega
    generalize hZ : (flatF x s).2.sz = Z at *
    have hZ1 : Z < 1000000000 := by omega
    have hfl3 : fs3.length < 1000000000 := by rw [hlog]; omega
    clear a0 a1 a2 r0 r1 r2 f0 f1 f2 q0 q1 q2 zz4 hlog
    go_wp2_with (at_len; refine wpList_lenI rfl _ rfl Try.underlying83 rfl hM4 ?_)
    refine (variable_any _ _).mono ?_
    rintro e w5 ⟨rfl, hb5⟩
    have hb6 : Below w4.heap.size w4 (w5.alloc (.cells #[.int .i64 1, .int .i64 (-1 - (Z : Int)), .slice none 0 0] 49)) := hb5.trans ((below_new w5 _).mono hb5.size)
    have hz5 := hb5.size
    have c0 := (hb5.cell (p := ⟨w.heap.size, 0, none⟩) (show w.heap.size < w4.heap.size by omega)).trans b0
    have c1 := (hb5.cell (p := ⟨w.heap.size, 1, none⟩) (show w.heap.size < w4.heap.size by omega)).trans b1
    have c2 := (hb5.cell (p := ⟨w.heap.size, 2, none⟩) (show w.heap.size < w4.heap.size by omega)).trans b2
    have hz50 : w.heap.size < w5.heap.size := by omega
    have HT6 := Lib.hid (HT4.out.on hb6)
    have HZ6 := Lib.hid (HZ4.out.on hb6)
    have HF6 := Lib.hid (HF4.out.trans (Fr.of_below hb6))
    have HFBN := Lib.hid (FB_new (HT4.out.on hb5) (Nat.le_refl w5.heap.size))
    have k6 : (w5.alloc (.cells #[.int .i64 1, .int .i64 (-1 - (Z : Int)), .slice none 0 0] 49)).heap[w5.heap.size]? = some (.cells #[.int .i64 1, .int .i64 (-1 - (Z : Int)), .slice none 0 0] 49) := (MapKept.heap_alloc w5 _).1
    have k1 : (w5.alloc (.cells #[.int .i64 1, .int .i64 (-1 - (Z : Int)), .slice none 0 0] 49)).heap[w.heap.size + 1]? = w4.heap[w.heap.size + 1]? := hb6.block _ (by omega)
    have z6 : (w5.alloc (.cells #[.int .i64 1, .int .i64 (-1 - (Z : Int)), .slice none 0 0] 49)).heap.size = w5.heap.size + 1 := by simp
    have HK6 := Lib.hid k6
    have HK1 := Lib.hid k1
    have HZS := Lib.hid z6
    clear hb5 hb6 b0 b1 b2 hM4 k6 k1 z6
    go_wp2_with fail
    generalize w5.alloc (.cells #[.int .i64 1, .int .i64 (-1 - (Z : Int)), .slice none 0 0] 49) = w6 at *
    refine (learn_any _ w6 tb sb mb Z made (flatF x s).2.kn bv3 fs3 (flatF x s).2.log (-1 - (Z : Int)) (.arr p q) _ HT6.out HZ6.out (by omega) (by omega) (by omega) hfl3).mono ?_
    rintro e w7 ⟨rfl, bv7, fs7, hT7, fr7⟩
    have e6 := HZS.out
    have m6 := (fr7.block w5.heap.size (by omega) HFBN.out).trans HK6.out
    have m1 := (fr7.block (w.heap.size + 1) (by omega) hFB4).trans HK1.out
    have d0 : w7.cell? ⟨w5.heap.size, 0, none⟩ = some (.int .i64 1) := by simp [World.cell?, m6]
    have d1 : w7.cell? ⟨w5.heap.size, 1, none⟩ = some (.int .i64 (-1 - (Z : Int))) := by simp [World.cell?, m6]
    have d2 : w7.cell? ⟨w5.heap.size, 2, none⟩ = some (.slice none 0 0) := by simp [World.cell?, m6]
    have g0 := (World.cell?_of_block (a := ⟨w.heap.size + 1, 0, none⟩) m1).trans rr0
    have g1 := (World.cell?_of_block (a := ⟨w.heap.size + 1, 1, none⟩) m1).trans rr1
    have g2 := (World.cell?_of_block (a := ⟨w.heap.size + 1, 2, none⟩) m1).trans rr2
    have h0 := (World.frozen?_of_block (a := ⟨w.heap.size + 1, 0, none⟩) m1).trans qq0
    have h1 := (World.frozen?_of_block (a := ⟨w.heap.size + 1, 1, none⟩) m1).trans qq1
    have h2 := (World.frozen?_of_block (a := ⟨w.heap.size + 1, 2, none⟩) m1).trans qq2
    have hFB7 := fr7.fb hFB4 (by omega)
    have l1 : (fun b => L b ∨ b = w.heap.size ∨ b = w.heap.size + 1) (w.heap.size + 1) := .inr (.inr rfl)
    have HT7 := Lib.hid (((((hT7.box l1 hFB7 (o := 0) (.int .i64 1)).box l1 hFB7 (o := 1) (.int .i64 (-1 - (Z : Int)))).box l1 hFB7 (o := 2) (.slice none 0 0)).more (L' := L) (fun b hb => .inl (.inl hb))))
    have HF7 := Lib.hid ((((HF6.out.trans fr7).box (Nat.le_succ _) (o := 0) (.int .i64 1)).box (Nat.le_succ _) (o := 1) (.int .i64 (-1 - (Z : Int)))).box (Nat.le_succ _) (o := 2) (.slice none 0 0))
    have HZZ := Lib.hid hZ
    clear hT7 fr7 m6 m1 rr0 rr1 rr2 qq0 qq1 qq2 c0 c1 c2 l1 e6 hZ
    go_wp2
    refine bodyPost_ret (v := .agg #[.int .i64 1, .int .i64 (-1 - (Z : Int)), .slice none 0 0]) (by simp [results, Try.results61, go_sem, g0, g1, g2]) rfl ?_
    rw [HNM.out]
    refine ⟨_, bv7, fs7, rfl, .var _ none 0 (by omega) (by omega), ?_, HF7.out⟩
    show TrAt L _ tb sb mb (if ((flatF x s).2.kn (-1 - (Z : Int))).isSome then (flatF x s).2.sz else (flatF x s).2.sz + 1) made _ bv7 fs7 _
    rw [HZZ.out]
    exact HT7.out
set_option maxRecDepth 100000 in
set_option maxHeartbeats 2000000 in
theorem flat_any (tb sb mb : Nat) (made : Int) : ∀ x : Tz, FlatOk 59 tb sb mb made x (flatF x)
  | .var n => by
    intro L v w s bv fs hT hLw hv hs1 hs2
    obtain ⟨A, c, rfl⟩ := hv.form
    have hnum := hv.num
    have hb2 : Below w.heap.size w ((w.alloc (.cells #[.int .i64 1, .int .i64 n, .slice A 0 c] 49)).alloc (.cells #[.int .i64 0, .int .i64 0, .slice none 0 0] 49)) := (below_new w _).trans ((below_new _ _).mono (by simp))
    have HT := Lib.hid hT
    have HB2 := Lib.hid hb2
    clear hT hv hb2
    change Calls Try.prog 59 #[.pointer (some ⟨tb, 0, none⟩), .agg #[.int .i64 1, .int .i64 n, .slice A 0 c]] w _
    go_enter Try.func59, Try.ntmps59
    go_wp2_with fail
    have r0 : ((w.alloc (.cells #[.int .i64 1, .int .i64 n, .slice A 0 c] 49)).alloc (.cells #[.int .i64 0, .int .i64 0, .slice none 0 0] 49)).cell? ⟨w.heap.size + 1, 0, none⟩ = some (.int .i64 0) := by simp [go_sem]
    have r1 : ((w.alloc (.cells #[.int .i64 1, .int .i64 n, .slice A 0 c] 49)).alloc (.cells #[.int .i64 0, .int .i64 0, .slice none 0 0] 49)).cell? ⟨w.heap.size + 1, 1, none⟩ = some (.int .i64 0) := by simp [go_sem]
    have r2 : ((w.alloc (.cells #[.int .i64 1, .int .i64 n, .slice A 0 c] 49)).alloc (.cells #[.int .i64 0, .int .i64 0, .slice none 0 0] 49)).cell? ⟨w.heap.size + 1, 2, none⟩ = some (.slice none 0 0) := by simp [go_sem]
    have fz : ∀ i, ((w.alloc (.cells #[.int .i64 1, .int .i64 n, .slice A 0 c] 49)).alloc (.cells #[.int .i64 0, .int .i64 0, .slice none 0 0] 49)).frozen? ⟨w.heap.size + 1, i, none⟩ = false := fun i => by simp [go_sem]
    have hz : w.heap.size + 1 < ((w.alloc (.cells #[.int .i64 1, .int .i64 n, .slice A 0 c] 49)).alloc (.cells #[.int .i64 0, .int .i64 0, .slice none 0 0] 49)).heap.size := by simp
    generalize (w.alloc (.cells #[.int .i64 1, .int .i64 n, .slice A 0 c] 49)).alloc (.cells #[.int .i64 0, .int .i64 0, .slice none 0 0] 49) = wa at *
    refine (variable_any _ _).mono ?_
    rintro e w5 ⟨rfl, hb5⟩
    have g0 := (hb5.cell (p := ⟨w.heap.size + 1, 0, none⟩) hz).trans r0
    have g1 := (hb5.cell (p := ⟨w.heap.size + 1, 1, none⟩) hz).trans r1
    have g2 := (hb5.cell (p := ⟨w.heap.size + 1, 2, none⟩) hz).trans r2
    have h0 := (hb5.frozen (p := ⟨w.heap.size + 1, 0, none⟩) hz).trans (fz 0)
    have h1 := (hb5.frozen (p := ⟨w.heap.size + 1, 1, none⟩) hz).trans (fz 1)
    have h2 := (hb5.frozen (p := ⟨w.heap.size + 1, 2, none⟩) hz).trans (fz 2)
    have HB5 := Lib.hid (HB2.out.trans (hb5.mono HB2.out.size))
    clear hb5 r0 r1 r2 fz
    go_wp2
    have hBB := ((HB5.out.setCell (p := ⟨w.heap.size + 1, 0, none⟩) (Nat.le_succ _) (.int .i64 1)).setCell (p := ⟨w.heap.size + 1, 1, none⟩) (Nat.le_succ _) (.int .i64 n)).setCell (p := ⟨w.heap.size + 1, 2, none⟩) (Nat.le_succ _) (.slice none 0 0)
    refine bodyPost_ret (v := .agg #[.int .i64 1, .int .i64 n, .slice none 0 0]) (by simp [results, Try.results59, go_sem, g0, g1, g2]) rfl ?_
    exact ⟨_, bv, fs, rfl, .var n none 0 hnum.1 hnum.2, HT.out.on hBB, Fr.of_below hBB⟩
  | .star => by
    intro L v w s bv fs hT hLw hv hs1 hs2
    obtain ⟨A, c, rfl⟩ := hv.form
    have hb2 : Below w.heap.size w ((w.alloc (.cells #[.int .i64 2, .int .i64 0, .slice A 0 c] 49)).alloc (.cells #[.int .i64 2, .int .i64 0, .slice none 0 0] 49)) := (below_new w _).trans ((below_new _ _).mono (by simp))
    have HT := Lib.hid hT
    have HB2 := Lib.hid hb2
    clear hT hv hb2
    change Calls Try.prog 59 #[.pointer (some ⟨tb, 0, none⟩), .agg #[.int .i64 2, .int .i64 0, .slice A 0 c]] w _
    go_enter Try.func59, Try.ntmps59
    go_wp2
    exact bodyPost_ret (v := .agg #[.int .i64 2, .int .i64 0, .slice none 0 0]) (by simp [results, Try.results59, go_sem]) rfl ⟨_, bv, fs, rfl, .star none 0, HT.out.on HB2.out, Fr.of_below HB2.out⟩
  | .arr a b => by
    intro L v w s bv fs hT hLw hv hs1 hs2
    have hna := named_of tb sb mb made a (flat_any tb sb mb made a)
    have hnb := named_of tb sb mb made b (flat_any tb sb mb made b)
    have hsza := flat_sz a s
    have harr : arrows (.arr a b) = arrows a + arrows b + 1 := rfl
    rw [harr] at hs1 hs2
    have hres : flatF (.arr a b) s = (.arr (nameF (flatF a s)).1 (nameF (flatF b (nameF (flatF a s)).2)).1, (nameF (flatF b (nameF (flatF a s)).2)).2) := rfl
    have hv9 := hv
    cases hv9 with
    | arr _ _ g off c a0 a1 a2 b0 b1 b2 hp hg c0 c1 c2 c3 c4 c5 hza hzb =>
    obtain ⟨Aa, ca, ea⟩ := hza.form
    obtain ⟨Ab, cb, eb⟩ := hzb.form
    injection ea with ea
    injection eb with eb
    simp only [Array.mk.injEq, List.cons.injEq, and_true] at ea eb
    obtain ⟨rfl, rfl, rfl⟩ := ea
    obtain ⟨rfl, rfl, rfl⟩ := eb
    generalize hFa : formZ a = Fa at *
    generalize hGa : numZ a = Ga at *
    generalize hMa : argsZ a = Ma at *
    generalize hFb : formZ b = Fb at *
    generalize hGb : numZ b = Gb at *
    generalize hMb : argsZ b = Mb at *
    have hb2 : Below w.heap.size w ((w.alloc (.cells #[.int .i64 3, .int .i64 0, .slice (some ⟨g, off, none⟩) 2 c] 49)).alloc (.cells #[.int .i64 0, .int .i64 0, .slice none 0 0] 49)) := (below_new w _).trans ((below_new _ _).mono (by simp))
    have hFB0 := FB_new hT (Nat.le_refl w.heap.size)
    have hFB1 := FB_new hT (Nat.le_succ w.heap.size)
    have hL : ∀ b', (L b' ∨ b' = w.heap.size ∨ b' = w.heap.size + 1) → L b' ∨ w.heap.size ≤ b' := fun b' hb' => by rcases hb' with h | h | h; exact .inl h; right; omega; right; omega
    have hTA := (hT.more (L' := fun b' => L b' ∨ b' = w.heap.size ∨ b' = w.heap.size + 1) hL).on hb2
    have hzA := (hza.more (L' := fun b' => L b' ∨ b' = w.heap.size ∨ b' = w.heap.size + 1) hL).on hb2
    have hzB := (hzb.more (L' := fun b' => L b' ∨ b' = w.heap.size ∨ b' = w.heap.size + 1) hL).on hb2
    have d0 := (hb2.cell (p := ⟨g, off, none⟩) hg).trans c0
    have d1 := (hb2.cell (p := ⟨g, off + 1, none⟩) hg).trans c1
    have d2 := (hb2.cell (p := ⟨g, off + 2, none⟩) hg).trans c2
    have d3 := (hb2.cell (p := ⟨g, off + 3, none⟩) hg).trans c3
    have d4 := (hb2.cell (p := ⟨g, off + 4, none⟩) hg).trans c4
    have d5 := (hb2.cell (p := ⟨g, off + 5, none⟩) hg).trans c5
    have hgF := hp.1
    have HT := Lib.hid hT
    have HTA := Lib.hid hTA
    have HZA := Lib.hid hzA
    have HZB := Lib.hid hzB
    have HB2 := Lib.hid hb2
    have HNA := Lib.hid hna
    have HNB := Lib.hid hnb
    have HRES := Lib.hid hres
    clear hT hv hza hzb hTA hzA hzB hb2 c0 c1 c2 c3 c4 c5 hna hnb hFa hGa hMa hFb hGb hMb hp hL hres harr
    go_enter Try.func59, Try.ntmps59
    go_wp2_with fail
    have e2 : ((w.alloc (.cells #[.int .i64 3, .int .i64 0, .slice (some ⟨g, off, none⟩) 2 c] 49)).alloc (.cells #[.int .i64 0, .int .i64 0, .slice none 0 0] 49)).cell? ⟨w.heap.size, 2, none⟩ = some (.slice (some ⟨g, off, none⟩) 2 c) := by simp [go_sem]
    have k1 : ((w.alloc (.cells #[.int .i64 3, .int .i64 0, .slice (some ⟨g, off, none⟩) 2 c] 49)).alloc (.cells #[.int .i64 0, .int .i64 0, .slice none 0 0] 49)).heap[w.heap.size + 1]? = some (.cells #[.int .i64 0, .int .i64 0, .slice none 0 0] 49) := by
      have := (MapKept.heap_alloc (w.alloc (.cells #[.int .i64 3, .int .i64 0, .slice (some ⟨g, off, none⟩) 2 c] 49)) (.cells #[.int .i64 0, .int .i64 0, .slice none 0 0] 49)).1
      simpa using this
    have hza : ((w.alloc (.cells #[.int .i64 3, .int .i64 0, .slice (some ⟨g, off, none⟩) 2 c] 49)).alloc (.cells #[.int .i64 0, .int .i64 0, .slice none 0 0] 49)).heap.size = w.heap.size + 2 := by simp
    generalize (w.alloc (.cells #[.int .i64 3, .int .i64 0, .slice (some ⟨g, off, none⟩) 2 c] 49)).alloc (.cells #[.int .i64 0, .int .i64 0, .slice none 0 0] 49) = wa at *
    have z0 : w.heap.size < wa.drew.heap.size := by show w.heap.size < wa.heap.size; omega
    have z1 : w.heap.size + 1 < wa.drew.heap.size := by show w.heap.size + 1 < wa.heap.size; omega
    have zg : g < wa.drew.heap.size := by show g < wa.heap.size; omega
    have hdr : Below wa.heap.size wa wa.drew := (Below.refl _ _).drew
    have keepS : Hid (∀ y bv', Fr tb sb mb bv bv' wa.drew y → (y.cell? ⟨w.heap.size, 2, none⟩ = some (.slice (some ⟨g, off, none⟩) 2 c) ∧ y.cell? ⟨g, off, none⟩ = some (.int .i64 Fa) ∧ y.cell? ⟨g, off + 1, none⟩ = some (.int .i64 Ga) ∧ y.cell? ⟨g, off + 2, none⟩ = some (.slice Aa Ma ca) ∧ y.cell? ⟨g, off + 3, none⟩ = some (.int .i64 Fb) ∧ y.cell? ⟨g, off + 4, none⟩ = some (.int .i64 Gb) ∧ y.cell? ⟨g, off + 5, none⟩ = some (.slice Ab Mb cb))) := fun y bv' fr => by
      have k0 := fr.block w.heap.size z0 hFB0
      have kg := fr.block g zg hgF
      exact ⟨(World.cell?_of_block (a := ⟨w.heap.size, 2, none⟩) k0).trans e2, (World.cell?_of_block (a := ⟨g, off, none⟩) kg).trans d0, (World.cell?_of_block (a := ⟨g, off + 1, none⟩) kg).trans d1, (World.cell?_of_block (a := ⟨g, off + 2, none⟩) kg).trans d2, (World.cell?_of_block (a := ⟨g, off + 3, none⟩) kg).trans d3, (World.cell?_of_block (a := ⟨g, off + 4, none⟩) kg).trans d4, (World.cell?_of_block (a := ⟨g, off + 5, none⟩) kg).trans d5⟩
    have hgn : g ≠ w.heap.size + 1 := by omega
    have keepT : Hid (∀ y bv', Fr tb sb mb bv bv' wa.drew y → y.cell? ⟨w.heap.size + 1, 0, none⟩ = some (.int .i64 0) ∧ y.cell? ⟨w.heap.size + 1, 1, none⟩ = some (.int .i64 0) ∧ y.cell? ⟨w.heap.size + 1, 2, none⟩ = some (.slice none 0 0) ∧ y.frozen? ⟨w.heap.size + 1, 0, none⟩ = false ∧ y.frozen? ⟨w.heap.size + 1, 1, none⟩ = false ∧ y.frozen? ⟨w.heap.size + 1, 2, none⟩ = false) := fun y bv' fr => by
      have kk := (fr.block (w.heap.size + 1) z1 hFB1).trans k1
      exact ⟨by simp [World.cell?, kk], by simp [World.cell?, kk], by simp [World.cell?, kk], by simp [World.frozen?, kk], by simp [World.frozen?, kk], by simp [World.frozen?, kk]⟩
    have keepV : Hid (∀ (y : World) (v0 v1 v2 : Value), (y.cell? ⟨w.heap.size, 2, none⟩ = some (.slice (some ⟨g, off, none⟩) 2 c) ∧ y.cell? ⟨g, off, none⟩ = some (.int .i64 Fa) ∧ y.cell? ⟨g, off + 1, none⟩ = some (.int .i64 Ga) ∧ y.cell? ⟨g, off + 2, none⟩ = some (.slice Aa Ma ca) ∧ y.cell? ⟨g, off + 3, none⟩ = some (.int .i64 Fb) ∧ y.cell? ⟨g, off + 4, none⟩ = some (.int .i64 Gb) ∧ y.cell? ⟨g, off + 5, none⟩ = some (.slice Ab Mb cb)) → ((((y.setCell ⟨w.heap.size + 1, 0, none⟩ v0).setCell ⟨w.heap.size + 1, 1, none⟩ v1).setCell ⟨w.heap.size + 1, 2, none⟩ v2).cell? ⟨w.heap.size, 2, none⟩ = some (.slice (some ⟨g, off, none⟩) 2 c) ∧ (((y.setCell ⟨w.heap.size + 1, 0, none⟩ v0).setCell ⟨w.heap.size + 1, 1, none⟩ v1).setCell ⟨w.heap.size + 1, 2, none⟩ v2).cell? ⟨g, off, none⟩ = some (.int .i64 Fa) ∧ (((y.setCell ⟨w.heap.size + 1, 0, none⟩ v0).setCell ⟨w.heap.size + 1, 1, none⟩ v1).setCell ⟨w.heap.size + 1, 2, none⟩ v2).cell? ⟨g, off + 1, none⟩ = some (.int .i64 Ga) ∧ (((y.setCell ⟨w.heap.size + 1, 0, none⟩ v0).setCell ⟨w.heap.size + 1, 1, none⟩ v1).setCell ⟨w.heap.size + 1, 2, none⟩ v2).cell? ⟨g, off + 2, none⟩ = some (.slice Aa Ma ca) ∧ (((y.setCell ⟨w.heap.size + 1, 0, none⟩ v0).setCell ⟨w.heap.size + 1, 1, none⟩ v1).setCell ⟨w.heap.size + 1, 2, none⟩ v2).cell? ⟨g, off + 3, none⟩ = some (.int .i64 Fb) ∧ (((y.setCell ⟨w.heap.size + 1, 0, none⟩ v0).setCell ⟨w.heap.size + 1, 1, none⟩ v1).setCell ⟨w.heap.size + 1, 2, none⟩ v2).cell? ⟨g, off + 4, none⟩ = some (.int .i64 Gb) ∧ (((y.setCell ⟨w.heap.size + 1, 0, none⟩ v0).setCell ⟨w.heap.size + 1, 1, none⟩ v1).setCell ⟨w.heap.size + 1, 2, none⟩ v2).cell? ⟨g, off + 5, none⟩ = some (.slice Ab Mb cb))) := fun y v0 v1 v2 h => by simpa [go_sem] using h
    have hS0 := keepS.out wa.drew bv (Fr.of_below (Below.refl _ _))
    have hLd : ∀ b', (L b' ∨ b' = w.heap.size ∨ b' = w.heap.size + 1) → b' < wa.drew.heap.size := fun b' hb' => by
      show b' < wa.heap.size
      rcases hb' with h | h | h
      · have := hLw b' h; omega
      · omega
      · omega
    have HC1 : Hid (Calls Try.prog 61 #[.pointer (some ⟨tb, 0, none⟩), .agg #[.int .i64 Fa, .int .i64 Ga, .slice Aa Ma ca]] wa.drew (FlatRes (fun b' => L b' ∨ b' = w.heap.size ∨ b' = w.heap.size + 1) tb sb mb made bv wa.drew (nameF (flatF a s)))) := HNA.out _ _ wa.drew s bv fs (HTA.out.on hdr) hLd (HZA.out.on hdr) (by omega) (by omega)
    have HC2 : Hid (∀ y bv1 fs1, TrAt (fun b' => L b' ∨ b' = w.heap.size ∨ b' = w.heap.size + 1) y tb sb mb (nameF (flatF a s)).2.sz made (nameF (flatF a s)).2.kn bv1 fs1 (nameF (flatF a s)).2.log → Fr tb sb mb bv bv1 wa.drew y →
        Calls Try.prog 61 #[.pointer (some ⟨tb, 0, none⟩), .agg #[.int .i64 Fb, .int .i64 Gb, .slice Ab Mb cb]] y (FlatRes (fun b' => L b' ∨ b' = w.heap.size ∨ b' = w.heap.size + 1) tb sb mb made bv1 y (nameF (flatF b (nameF (flatF a s)).2)))) := fun y bv1 fs1 h1 h2 => HNB.out _ _ y _ bv1 fs1 h1 (fun b' hb' => Nat.lt_of_lt_of_le (hLd b' hb') h2.size) (h2.zat (HZB.out.on hdr)) (by omega) (by omega)
    clear e2 d0 d1 d2 d3 d4 d5
    generalize nameF (flatF a s) = ra at *
    generalize nameF (flatF b ra.2) = rb at *
    go_region_held3 (fun y => y.cell? ⟨w.heap.size, 2, none⟩ = some (.slice (some ⟨g, off, none⟩) 2 c) ∧ y.cell? ⟨g, off, none⟩ = some (.int .i64 Fa) ∧ y.cell? ⟨g, off + 1, none⟩ = some (.int .i64 Ga) ∧ y.cell? ⟨g, off + 2, none⟩ = some (.slice Aa Ma ca) ∧ y.cell? ⟨g, off + 3, none⟩ = some (.int .i64 Fb) ∧ y.cell? ⟨g, off + 4, none⟩ = some (.int .i64 Gb) ∧ y.cell? ⟨g, off + 5, none⟩ = some (.slice Ab Mb cb)) (first | exact hS0 | exact hS1 | exact hS2 | exact hS3 | exact keepV.out _ _ _ _ hS3) (first | (go_at_call 61; (with_reducible refine HC1.out.mono ?_); rintro e y1 ⟨va, bv1, fs1, rfl, hza1, hT1, fr1⟩; have hS1 := keepS.out y1 bv1 fr1; obtain ⟨A1, cc1, rfl⟩ := hza1.form) | (go_at_call 49; (with_reducible refine (parrow_any _ _ _ _ _ _ (fr2.zat hza1) hzb2).mono ?_); rintro e y3 ⟨vc, rfl, hzc, b3⟩; have fr13 := fr12.trans (Fr.of_below b3); have hS3 := keepS.out y3 bv2 fr13; obtain ⟨g0, g1, g2, g3, g4, g5⟩ := keepT.out y3 bv2 fr13; obtain ⟨A3, cc3, rfl⟩ := hzc.form) | (go_at_call 61; (with_reducible refine (HC2.out _ _ _ hT1 fr1).mono ?_); rintro e y2 ⟨vb, bv2, fs2, rfl, hzb2, hT2, fr2⟩; have fr12 := fr1.trans fr2; have hS2 := keepS.out y2 bv2 fr12; obtain ⟨A2, cc2, rfl⟩ := hzb2.form))
    have l1 : (fun b' => L b' ∨ b' = w.heap.size ∨ b' = w.heap.size + 1) (w.heap.size + 1) := .inr (.inr rfl)
    have hFB3 := fr13.fb hFB1 z1
    have hzc' : ZAt (FL (fun b' => L b' ∨ b' = w.heap.size ∨ b' = w.heap.size + 1) tb sb mb bv2) y3 (.arr ra.1 rb.1) (.agg #[.int .i64 3, .int .i64 0, .slice A3 2 cc3]) := hzc.mono (fun x hx => by
      rcases hx with hx | hx
      · exact hx
      · exact ⟨FB_new hT2 hx, fun h9 => by have := hLd x h9; have := fr12.size; omega⟩)
    have HZF := Lib.hid (((((hzc'.box l1 (o := 0) (.int .i64 3)).box l1 (o := 1) (.int .i64 0)).box l1 (o := 2) (.slice A3 2 cc3)).more (L' := L) (fun b' hb' => .inl (.inl hb'))))
    have HTF := Lib.hid ((((((hT2.on b3).box l1 hFB3 (o := 0) (.int .i64 3)).box l1 hFB3 (o := 1) (.int .i64 0)).box l1 hFB3 (o := 2) (.slice A3 2 cc3)).more (L' := L) (fun b' hb' => .inl (.inl hb'))))
    have HFF := Lib.hid ((((((Fr.of_below HB2.out).trans (Fr.of_below hdr)).trans fr13).box (Nat.le_succ _) (o := 0) (.int .i64 3)).box (Nat.le_succ _) (o := 1) (.int .i64 0)).box (Nat.le_succ _) (o := 2) (.slice A3 2 cc3))
    clear hS0 hS1 hS2 hS3 hza1 hT1 fr1 hzb2 hT2 fr2 fr12 fr13 hzc b3 hzc' l1
    go_wp2
    refine bodyPost_ret (v := .agg #[.int .i64 3, .int .i64 0, .slice A3 2 cc3]) (by simp [results, Try.results59, go_sem, g0, g1, g2, formZ, numZ, argsZ]) rfl ?_
    rw [HRES.out]
    exact ⟨_, bv2, fs2, rfl, HZF.out, HTF.out, HFF.out⟩
end Go.Proofs.Ytomhojpoaicioaa
