/- The program's terms in memory, what a solver knows in memory, and the contract of its look. No conditions but those that each theorem names. -/
import Derived.Test.YtomhojpoaicioaaSolveM
import Derived.Test.YtomhojpoaicioaaMapI
import Derived.Test.YtomhojpoaicioaaTAt
import Derived.Deep.RegionHeld3
import Derived.Deep.RegionLaw
import Derived.Deep.LoopGhost
namespace Go.Proofs.Ytomhojpoaicioaa
open Go.RowKit

/-- A struct that reads as a term of the program's, in blocks of which P holds. -/
inductive ZAt (P : Nat → Prop) (w : World) : Tz → Value → Prop
  | var (n : Int) (A : Option Addr) (c : Nat) (h1 : -9223372036854775808 ≤ n) (h2 : n ≤ 9223372036854775807) : ZAt P w (.var n) (.agg #[.int .i64 1, .int .i64 n, .slice A 0 c])
  | star (A : Option Addr) (c : Nat) : ZAt P w .star (.agg #[.int .i64 2, .int .i64 0, .slice A 0 c])
  | arr (a b : Tz) (g off c : Nat) (a0 a1 a2 b0 b1 b2 : Value) (hp : P g) (hg : g < w.heap.size)
      (c0 : w.cell? ⟨g, off, none⟩ = some a0) (c1 : w.cell? ⟨g, off + 1, none⟩ = some a1) (c2 : w.cell? ⟨g, off + 2, none⟩ = some a2)
      (c3 : w.cell? ⟨g, off + 3, none⟩ = some b0) (c4 : w.cell? ⟨g, off + 4, none⟩ = some b1) (c5 : w.cell? ⟨g, off + 5, none⟩ = some b2)
      (ha : ZAt P w a (.agg #[a0, a1, a2])) (hb : ZAt P w b (.agg #[b0, b1, b2])) : ZAt P w (.arr a b) (.agg #[.int .i64 3, .int .i64 0, .slice (some ⟨g, off, none⟩) 2 c])
theorem ZAt.keep {P : Nat → Prop} {w w' : World} {t : Tz} {v : Value} (h : ZAt P w t v) (hb : Keeps P w w') : ZAt P w' t v := by
  induction h with
  | var n A c h1 h2 => exact .var n A c h1 h2
  | star A c => exact .star A c
  | arr a b g off c a0 a1 a2 b0 b1 b2 hp hg c0 c1 c2 c3 c4 c5 _ _ iha ihb =>
    exact .arr a b g off c a0 a1 a2 b0 b1 b2 hp (Nat.lt_of_lt_of_le hg hb.size) ((hb.cell g _ hp hg).trans c0) ((hb.cell g _ hp hg).trans c1) ((hb.cell g _ hp hg).trans c2)
      ((hb.cell g _ hp hg).trans c3) ((hb.cell g _ hp hg).trans c4) ((hb.cell g _ hp hg).trans c5) iha ihb
theorem ZAt.mono {P Q : Nat → Prop} {w : World} {t : Tz} {v : Value} (h : ZAt P w t v) (hpq : ∀ b, P b → Q b) : ZAt Q w t v := by
  induction h with
  | var n A c h1 h2 => exact .var n A c h1 h2
  | star A c => exact .star A c
  | arr a b g off c a0 a1 a2 b0 b1 b2 hp hg c0 c1 c2 c3 c4 c5 _ _ iha ihb => exact .arr a b g off c a0 a1 a2 b0 b1 b2 (hpq g hp) hg c0 c1 c2 c3 c4 c5 iha ihb
theorem ZAt.on {P : Nat → Prop} {w w' : World} {t : Tz} {v : Value} (h : ZAt P w t v) (hb : Below w.heap.size w w') : ZAt P w' t v := h.keep (.of_below hb)
theorem ZAt.bound {P : Nat → Prop} {w : World} {t : Tz} {v : Value} (h : ZAt P w t v) : ZAt (fun b => P b ∧ b < w.heap.size) w t v := by
  induction h with
  | var n A c h1 h2 => exact .var n A c h1 h2
  | star A c => exact .star A c
  | arr a b g off c a0 a1 a2 b0 b1 b2 hp hg c0 c1 c2 c3 c4 c5 _ _ iha ihb => exact .arr a b g off c a0 a1 a2 b0 b1 b2 ⟨hp, hg⟩ hg c0 c1 c2 c3 c4 c5 iha ihb
def formZ : Tz → Int
  | .var _ => 1
  | .star => 2
  | .arr _ _ => 3
def numZ : Tz → Int
  | .var n => n
  | .star => 0
  | .arr _ _ => 0
def argsZ : Tz → Nat
  | .var _ => 0
  | .star => 0
  | .arr _ _ => 2
theorem ZAt.form {P : Nat → Prop} {w : World} {t : Tz} {v : Value} (h : ZAt P w t v) : ∃ A c, v = .agg #[.int .i64 (formZ t), .int .i64 (numZ t), .slice A (argsZ t) c] := by
  cases h with
  | var n A c => exact ⟨A, c, rfl⟩
  | star A c => exact ⟨A, c, rfl⟩
  | arr a b g off c => exact ⟨_, c, rfl⟩
theorem ZAt.num {P : Nat → Prop} {w : World} {t : Tz} {v : Value} (h : ZAt P w t v) : -9223372036854775808 ≤ numZ t ∧ numZ t ≤ 9223372036854775807 := by
  cases h with
  | var n A c h1 h2 => exact ⟨h1, h2⟩
  | star A c => exact ⟨by simp [numZ], by simp [numZ]⟩
  | arr a b g off c => exact ⟨by simp [numZ], by simp [numZ]⟩
/-- What is known, in memory: a map of terms. -/
def KnAt (P : Nat → Prop) (w : World) (mb sz : Nat) (kn : Kn) : Prop :=
  ∃ f, MapI Try.prog 3 w mb sz f ∧ ∀ x, match kn x with | none => f x = none | some t => ∃ v, f x = some v ∧ ZAt P w t v
theorem KnAt.on {P : Nat → Prop} {w w' : World} {mb sz : Nat} {kn : Kn} (h : KnAt P w mb sz kn) (hb : Below w.heap.size w w') : KnAt P w' mb sz kn := by
  obtain ⟨f, h1, h2⟩ := h
  refine ⟨f, h1.on hb, fun x => ?_⟩
  have h9 := h2 x
  cases e : kn x with
  | none => rw [e] at h9; exact h9
  | some t => rw [e] at h9; obtain ⟨v, e1, e2⟩ := h9; exact ⟨v, e1, e2.on hb⟩
theorem zero49 (y : World) : (zeroValue 49).run Try.prog y = .ok (.agg #[.int .i64 0, .int .i64 0, .slice none 0 0]) y := by kernel_rfl
theorem KnAt.look_some {P : Nat → Prop} {w : World} {mb sz : Nat} {kn : Kn} (h : KnAt P w mb sz kn) {n : Int} {t : Tz} (hn : kn n = some t) (h1 : -9223372036854775808 ≤ n) (h2 : n ≤ 9223372036854775807) :
    ∃ v, (Instr.lookup 83 (.map (some mb)) (.int .i64 n) true).run Try.prog w = .ok (.tuple #[v, .bool true]) w ∧ (Instr.lookup 83 (.map (some mb)) (.int .i64 n) false).run Try.prog w = .ok v w ∧ ZAt P w t v := by
  obtain ⟨f, hm, hf⟩ := h
  have h9 := hf n
  rw [hn] at h9
  obtain ⟨v, e1, e2⟩ := h9
  have r1 := hm.look_ok Try.underlying3 Try.underlying83 zero49 h1 h2
  have r2 := hm.look Try.underlying3 Try.underlying83 zero49 h1 h2
  rw [e1] at r1 r2
  exact ⟨v, r1, r2, e2⟩
theorem KnAt.look_none {P : Nat → Prop} {w : World} {mb sz : Nat} {kn : Kn} (h : KnAt P w mb sz kn) {n : Int} (hn : kn n = none) (h1 : -9223372036854775808 ≤ n) (h2 : n ≤ 9223372036854775807) :
    (Instr.lookup 83 (.map (some mb)) (.int .i64 n) true).run Try.prog w = .ok (.tuple #[.agg #[.int .i64 0, .int .i64 0, .slice none 0 0], .bool false]) w ∧ (Instr.lookup 83 (.map (some mb)) (.int .i64 n) false).run Try.prog w = .ok (.agg #[.int .i64 0, .int .i64 0, .slice none 0 0]) w := by
  obtain ⟨f, hm, hf⟩ := h
  have h9 := hf n
  rw [hn] at h9
  have r1 := hm.look_ok Try.underlying3 Try.underlying83 zero49 h1 h2
  have r2 := hm.look Try.underlying3 Try.underlying83 zero49 h1 h2
  rw [h9] at r1 r2
  exact ⟨r1, r2⟩
theorem KnAt.look_all {P : Nat → Prop} {w : World} {mb sz : Nat} {kn : Kn} (h : KnAt P w mb sz kn) {n : Int} {t : Tz} (hn : kn n = some t) (h1 : -9223372036854775808 ≤ n) (h2 : n ≤ 9223372036854775807) :
    ∃ v, ZAt P w t v ∧ ∀ y, Below w.heap.size w y → (Instr.lookup 83 (.map (some mb)) (.int .i64 n) true).run Try.prog y = .ok (.tuple #[v, .bool true]) y ∧ (Instr.lookup 83 (.map (some mb)) (.int .i64 n) false).run Try.prog y = .ok v y := by
  obtain ⟨f, hm, hf⟩ := h
  have h9 := hf n
  rw [hn] at h9
  obtain ⟨v, e1, e2⟩ := h9
  refine ⟨v, e2, fun y hy => ?_⟩
  have r1 := (hm.on hy).look_ok Try.underlying3 Try.underlying83 zero49 h1 h2
  have r2 := (hm.on hy).look Try.underlying3 Try.underlying83 zero49 h1 h2
  rw [e1] at r1 r2
  exact ⟨r1, r2⟩
/-- A solver in memory: its two cells, and its map. -/
structure SolAt (P : Nat → Prop) (w : World) (sb mb sz : Nat) (made : Int) (kn : Kn) : Prop where
  c0 : w.cell? ⟨sb, 0, none⟩ = some (.int .i64 made)
  c1 : w.cell? ⟨sb, 1, none⟩ = some (.map (some mb))
  f0 : w.frozen? ⟨sb, 0, none⟩ = false
  lt : sb < w.heap.size
  known : KnAt P w mb sz kn
theorem SolAt.on {P : Nat → Prop} {w w' : World} {sb mb sz : Nat} {made : Int} {kn : Kn} (h : SolAt P w sb mb sz made kn) (hb : Below w.heap.size w w') : SolAt P w' sb mb sz made kn :=
  ⟨(hb.cell (p := ⟨sb, 0, none⟩) h.lt).trans h.c0, (hb.cell (p := ⟨sb, 1, none⟩) h.lt).trans h.c1, (hb.frozen (p := ⟨sb, 0, none⟩) h.lt).trans h.f0, Nat.lt_of_lt_of_le h.lt hb.size, h.known.on hb⟩
/-- A term was answered. -/
def TermZ (P : Nat → Prop) (w : World) (t : Tz) (e : Ending) (w' : World) : Prop := ∃ v, e = .returned v ∧ ZAt P w' t v ∧ Below w.heap.size w w'
/-- What look's loop knows: the variable t holds a term that leads to e in so many steps. -/
def LkInv (P : Nat → Prop) (w : World) (kn : Kn) (e : Tz) (k : Nat) (wr : World) : Prop :=
  ∃ (cur : Tz) (A : Option Addr) (c : Nat), Chain kn k cur e ∧ ZAt P w cur (.agg #[.int .i64 (formZ cur), .int .i64 (numZ cur), .slice A (argsZ cur) c]) ∧
    wr.cell? ⟨w.heap.size, 0, none⟩ = some (.int .i64 (formZ cur)) ∧ wr.cell? ⟨w.heap.size, 1, none⟩ = some (.int .i64 (numZ cur)) ∧ wr.cell? ⟨w.heap.size, 2, none⟩ = some (.slice A (argsZ cur) c) ∧
    wr.cell? ⟨w.heap.size + 1, 0, none⟩ = some (.int .i64 0) ∧ wr.cell? ⟨w.heap.size + 1, 1, none⟩ = some (.int .i64 0) ∧ wr.cell? ⟨w.heap.size + 1, 2, none⟩ = some (.slice none 0 0) ∧
    wr.frozen? ⟨w.heap.size, 0, none⟩ = false ∧ wr.frozen? ⟨w.heap.size, 1, none⟩ = false ∧ wr.frozen? ⟨w.heap.size, 2, none⟩ = false ∧
    wr.frozen? ⟨w.heap.size + 1, 0, none⟩ = false ∧ wr.frozen? ⟨w.heap.size + 1, 1, none⟩ = false ∧ wr.frozen? ⟨w.heap.size + 1, 2, none⟩ = false ∧ Below w.heap.size w wr ∧ w.heap.size + 2 ≤ wr.heap.size
set_option maxRecDepth 100000 in
set_option maxHeartbeats 1000000 in
theorem plook_any (P : Nat → Prop) (k : Nat) (t e : Tz) (v : Value) (w : World) (sb mb sz : Nat) (made : Int) (kn : Kn) (hc : Chain kn k t e) (hS : SolAt P w sb mb sz made kn) (hv : ZAt P w t v) :
    Calls Try.prog 47 #[.pointer (some ⟨sb, 0, none⟩), v] w (TermZ P w e) := by
  obtain ⟨A, c, rfl⟩ := hv.form
  have HS := Lib.hid hS
  have HV := Lib.hid hv
  have HC := Lib.hid hc
  clear hS hv hc
  go_enter Try.func47, Try.ntmps47
  go_wp2_with fail
  have hst : LkInv P w kn e k ((w.alloc (.cells #[.int .i64 (formZ t), .int .i64 (numZ t), .slice A (argsZ t) c] 49)).alloc (.cells #[.int .i64 0, .int .i64 0, .slice none 0 0] 49)) :=
    ⟨t, A, c, HC.out, HV.out, by simp [go_sem], by simp [go_sem], by simp [go_sem], by simp [go_sem], by simp [go_sem], by simp [go_sem], by simp [go_sem], by simp [go_sem], by simp [go_sem], by simp [go_sem], by simp [go_sem], by simp [go_sem], (below_new w _).trans ((below_new _ _).mono (by simp)), by simp⟩
  generalize (w.alloc (.cells #[.int .i64 (formZ t), .int .i64 (numZ t), .slice A (argsZ t) c] 49)).alloc (.cells #[.int .i64 0, .int .i64 0, .slice none 0 0] 49) = w0 at *
  have HST := Lib.hid hst
  clear hst HC HV
  go_loopg [5, 6] k (fun g _ _ wr => LkInv P w kn e g wr)
  case atStart => exact HST.out
  case round =>
    obtain ⟨cur, Ac, cc, hch, hz, a0, a1, a2, r0, r1, r2, f0, f1, f2, q0, q1, q2, hb, hsz⟩ := hrel
    have hnum := hz.num
    have HB := Lib.hid hb
    have HZ := Lib.hid hz
    have HSR := Lib.hid (HS.out.on hb)
    have s1 := HSR.out.c1
    have slt := HS.out.lt
    have hz0 : w.heap.size < wr.heap.size := by omega
    have hz1 : w.heap.size + 1 < wr.heap.size := by omega
    have hzs : sb < wr.heap.size := by omega
    clear hz hb
    cases gk with
    | zero =>
      obtain ⟨he, hun⟩ := hch
      subst he
      cases cur with
      | var n =>
        have hn := hun n rfl
        obtain ⟨l1, _⟩ := (HSR.out.on (Below.refl _ wr).drew).known.look_none hn hnum.1 hnum.2
        obtain ⟨l2, _⟩ := (HSR.out.on (below_new wr (.cells #[.int .i64 0, .int .i64 0, .slice none 0 0] 49)).drew).known.look_none hn hnum.1 hnum.2
        change wr.cell? ⟨w.heap.size, 0, none⟩ = some (.int .i64 1) at a0
        change wr.cell? ⟨w.heap.size, 1, none⟩ = some (.int .i64 n) at a1
        change wr.cell? ⟨w.heap.size, 2, none⟩ = some (.slice Ac 0 cc) at a2
        clear hun hn hnum
        go_wp2_with fail
        go_region
        all_goals go_wp2
        all_goals
          have hBB := ((((HB.out.setCell (p := ⟨w.heap.size + 1, 0, none⟩) (Nat.le_succ _) (.int .i64 1)).setCell (p := ⟨w.heap.size + 1, 1, none⟩) (Nat.le_succ _) (.int .i64 n)).setCell (p := ⟨w.heap.size + 1, 2, none⟩) (Nat.le_succ _) (.slice Ac 0 cc)).alloc (by simp; omega) (.cells #[.int .i64 0, .int .i64 0, .slice none 0 0] 49)).drew
          exact bodyPost_ret (v := .agg #[.int .i64 1, .int .i64 n, .slice Ac 0 cc]) (by simp [results, Try.results47, go_sem, r0, r1, r2, hz1]) rfl ⟨_, rfl, HZ.out.on hBB, hBB⟩
      | star =>
        change wr.cell? ⟨w.heap.size, 0, none⟩ = some (.int .i64 2) at a0
        change wr.cell? ⟨w.heap.size, 1, none⟩ = some (.int .i64 0) at a1
        change wr.cell? ⟨w.heap.size, 2, none⟩ = some (.slice Ac 0 cc) at a2
        clear hun hnum
        go_wp2
        have hBB := ((HB.out.setCell (p := ⟨w.heap.size + 1, 0, none⟩) (Nat.le_succ _) (.int .i64 2)).setCell (p := ⟨w.heap.size + 1, 1, none⟩) (Nat.le_succ _) (.int .i64 0)).setCell (p := ⟨w.heap.size + 1, 2, none⟩) (Nat.le_succ _) (.slice Ac 0 cc)
        exact bodyPost_ret (v := .agg #[.int .i64 2, .int .i64 0, .slice Ac 0 cc]) (by simp [results, Try.results47, go_sem, r0, r1, r2]) rfl ⟨_, rfl, HZ.out.on hBB, hBB⟩
      | arr x y =>
        change wr.cell? ⟨w.heap.size, 0, none⟩ = some (.int .i64 3) at a0
        change wr.cell? ⟨w.heap.size, 1, none⟩ = some (.int .i64 0) at a1
        change wr.cell? ⟨w.heap.size, 2, none⟩ = some (.slice Ac 2 cc) at a2
        clear hun hnum
        go_wp2
        have hBB := ((HB.out.setCell (p := ⟨w.heap.size + 1, 0, none⟩) (Nat.le_succ _) (.int .i64 3)).setCell (p := ⟨w.heap.size + 1, 1, none⟩) (Nat.le_succ _) (.int .i64 0)).setCell (p := ⟨w.heap.size + 1, 2, none⟩) (Nat.le_succ _) (.slice Ac 2 cc)
        exact bodyPost_ret (v := .agg #[.int .i64 3, .int .i64 0, .slice Ac 2 cc]) (by simp [results, Try.results47, go_sem, r0, r1, r2]) rfl ⟨_, rfl, HZ.out.on hBB, hBB⟩
    | succ gk =>
      obtain ⟨n, t', rfl, hn, hch⟩ := hch
      obtain ⟨v, hzv, hl⟩ := HS.out.known.look_all hn hnum.1 hnum.2
      obtain ⟨A', c', rfl⟩ := hzv.form
      have l1 := (hl wr.drew HB.out.drew).1
      have l2 := (hl (wr.alloc (.cells #[.int .i64 0, .int .i64 0, .slice none 0 0] 49)).drew ((HB.out.alloc HB.out.size _).drew)).1
      change wr.cell? ⟨w.heap.size, 0, none⟩ = some (.int .i64 1) at a0
      change wr.cell? ⟨w.heap.size, 1, none⟩ = some (.int .i64 n) at a1
      change wr.cell? ⟨w.heap.size, 2, none⟩ = some (.slice Ac 0 cc) at a2
      have HZV := Lib.hid hzv
      have HCH := Lib.hid hch
      clear hn hnum hl hzv hch
      generalize hF : formZ t' = F at *
      generalize hG : numZ t' = G at *
      generalize hAr : argsZ t' = M at *
      have HF := Lib.hid hF
      have HG := Lib.hid hG
      have HAr := Lib.hid hAr
      clear hF hG hAr
      go_wp2_with fail
      go_region
      all_goals go_wp2
      all_goals
        have hBB := ((((HB.out.setCell (p := ⟨w.heap.size, 0, none⟩) (Nat.le_refl _) (.int .i64 F)).setCell (p := ⟨w.heap.size, 1, none⟩) (Nat.le_refl _) (.int .i64 G)).setCell (p := ⟨w.heap.size, 2, none⟩) (Nat.le_refl _) (.slice A' M c')).alloc (by simp; omega) (.cells #[.int .i64 F, .int .i64 G, .slice A' M c'] 49)).drew
        go_roundg gk
        case measure => omega
        case rel =>
          have e1 := HF.out
          have e2 := HG.out
          have e3 := HAr.out
          subst e1 e2 e3
          exact ⟨t', A', c', HCH.out, HZV.out, by simp [go_sem, a0, hz0], by simp [go_sem, a1, hz0], by simp [go_sem, a2, hz0], by simp [go_sem, r0, hz1], by simp [go_sem, r1, hz1], by simp [go_sem, r2, hz1], by simp [go_sem, f0, hz0], by simp [go_sem, f1, hz0], by simp [go_sem, f2, hz0], by simp [go_sem, q0, hz1], by simp [go_sem, q1, hz1], by simp [go_sem, q2, hz1], hBB, by simp; omega⟩
end Go.Proofs.Ytomhojpoaicioaa
