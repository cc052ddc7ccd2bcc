/- Terms in memory, and the contract of the document's Term (chapter 3): a term made of numbers. Condition: the slice reads as numbers. -/
import Derived.Test.YtomhojpoaicioaaMade
namespace Go.Proofs.Ytomhojpoaicioaa
open Go.RowKit

/-- A struct that reads as a term: its form, its number, its two terms, in blocks of which P holds. -/
inductive TAt (P : Nat → Prop) (w : World) : Tm → Value → Prop
  | var (n : Nat) (A : Option Addr) (c : Nat) : TAt P w (.var n) (.agg #[.int .i64 1, .int .i64 n, .slice A 0 c])
  | star (A : Option Addr) (c : Nat) : TAt P w .star (.agg #[.int .i64 2, .int .i64 0, .slice A 0 c])
  | arr (a b : Tm) (g off c : Nat) (a0 a1 a2 b0 b1 b2 : Value) (hp : P g) (hg : g < w.heap.size)
      (c0 : w.cell? ⟨g, off, none⟩ = some a0) (c1 : w.cell? ⟨g, off + 1, none⟩ = some a1) (c2 : w.cell? ⟨g, off + 2, none⟩ = some a2)
      (c3 : w.cell? ⟨g, off + 3, none⟩ = some b0) (c4 : w.cell? ⟨g, off + 4, none⟩ = some b1) (c5 : w.cell? ⟨g, off + 5, none⟩ = some b2)
      (ha : TAt P w a (.agg #[a0, a1, a2])) (hb : TAt P w b (.agg #[b0, b1, b2])) : TAt P w (.arr a b) (.agg #[.int .i64 3, .int .i64 0, .slice (some ⟨g, off, none⟩) 2 c])
theorem TAt.keep {P : Nat → Prop} {w w' : World} {t : Tm} {v : Value} (h : TAt P w t v) (hb : Keeps P w w') : TAt P w' t v := by
  induction h with
  | var n A c => exact .var n A c
  | star A c => exact .star A c
  | arr a b g off c a0 a1 a2 b0 b1 b2 hp hg c0 c1 c2 c3 c4 c5 _ _ iha ihb =>
    exact .arr a b g off c a0 a1 a2 b0 b1 b2 hp (Nat.lt_of_lt_of_le hg hb.size) ((hb.cell g _ hp hg).trans c0) ((hb.cell g _ hp hg).trans c1) ((hb.cell g _ hp hg).trans c2)
      ((hb.cell g _ hp hg).trans c3) ((hb.cell g _ hp hg).trans c4) ((hb.cell g _ hp hg).trans c5) iha ihb
theorem TAt.mono {P Q : Nat → Prop} {w : World} {t : Tm} {v : Value} (h : TAt P w t v) (hpq : ∀ b, P b → Q b) : TAt Q w t v := by
  induction h with
  | var n A c => exact .var n A c
  | star A c => exact .star A c
  | arr a b g off c a0 a1 a2 b0 b1 b2 hp hg c0 c1 c2 c3 c4 c5 _ _ iha ihb => exact .arr a b g off c a0 a1 a2 b0 b1 b2 (hpq g hp) hg c0 c1 c2 c3 c4 c5 iha ihb
theorem TAt.on {P : Nat → Prop} {w w' : World} {t : Tm} {v : Value} (h : TAt P w t v) (hb : Below w.heap.size w w') : TAt P w' t v := h.keep (.of_below hb)
theorem TAt.bound {P : Nat → Prop} {w : World} {t : Tm} {v : Value} (h : TAt P w t v) : TAt (fun b => P b ∧ b < w.heap.size) w t v := by
  induction h with
  | var n A c => exact .var n A c
  | star A c => exact .star A c
  | arr a b g off c a0 a1 a2 b0 b1 b2 hp hg c0 c1 c2 c3 c4 c5 _ _ iha ihb => exact .arr a b g off c a0 a1 a2 b0 b1 b2 ⟨hp, hg⟩ hg c0 c1 c2 c3 c4 c5 iha ihb
/-- A term's form. -/
def formT : Tm → Int
  | .var _ => 1
  | .star => 2
  | .arr _ _ => 3
def numT : Tm → Int
  | .var n => n
  | .star => 0
  | .arr _ _ => 0
def argsT : Tm → Nat
  | .var _ => 0
  | .star => 0
  | .arr _ _ => 2
theorem TAt.form {P : Nat → Prop} {w : World} {t : Tm} {v : Value} (h : TAt P w t v) : ∃ A c, v = .agg #[.int .i64 (formT t), .int .i64 (numT t), .slice A (argsT t) c] := by
  cases h with
  | var n A c => exact ⟨A, c, rfl⟩
  | star A c => exact ⟨A, c, rfl⟩
  | arr a b g off c => exact ⟨_, c, rfl⟩
/-- The row of an arrow's two terms. -/
theorem six_new (w : World) (a0 a1 a2 b0 b1 b2 : Value) (t : TypeId) : ∀ j u, [a0, a1, a2, b0, b1, b2][j]? = some u → (w.alloc (.cells #[a0, a1, a2, b0, b1, b2] t)).cell? ⟨w.heap.size, j, none⟩ = some u := by
  intro j u h
  rw [World.cell?_alloc_at _ _ _ _ rfl]
  simpa using h

/-- Behind three stores into the result's block, and two new blocks: the arrow of both. -/
theorem arr_made {w w3 : World} {t1 t2 : Tm} {Aa Ab : Option Addr} {ca cb : Nat} {tt : TypeId} {Q : Nat → Prop} {v : Value} {zs : List Int} (o : Obj) (s0 s1 s2 : Value)
    (l0 : w.heap.size < w3.heap.size) (hQ : ∀ b, Q b → b < w.heap.size)
    (hA : TAt (fun b => w.heap.size + 1 ≤ b) w3 t1 (.agg #[.int .i64 (formT t1), .int .i64 (numT t1), .slice Aa (argsT t1) ca]))
    (hB : TAt (fun b => w.heap.size + 1 ≤ b) w3 t2 (.agg #[.int .i64 (formT t2), .int .i64 (numT t2), .slice Ab (argsT t2) cb]))
    (hI : IntsAt Q w3 v zs) (hW : Below w.heap.size w w3) :
    TAt (fun b => w.heap.size ≤ b) ((((((w3.setCell ⟨w.heap.size, 0, none⟩ s0).setCell ⟨w.heap.size, 1, none⟩ s1).setCell ⟨w.heap.size, 2, none⟩ s2)).alloc o).alloc (.cells #[.int .i64 (formT t1), .int .i64 (numT t1), .slice Aa (argsT t1) ca, .int .i64 (formT t2), .int .i64 (numT t2), .slice Ab (argsT t2) cb] tt))
        (.arr t1 t2) (.agg #[.int .i64 3, .int .i64 0, .slice (some ⟨w3.heap.size + 1, 0, none⟩) 2 2])
    ∧ IntsAt Q ((((((w3.setCell ⟨w.heap.size, 0, none⟩ s0).setCell ⟨w.heap.size, 1, none⟩ s1).setCell ⟨w.heap.size, 2, none⟩ s2)).alloc o).alloc (.cells #[.int .i64 (formT t1), .int .i64 (numT t1), .slice Aa (argsT t1) ca, .int .i64 (formT t2), .int .i64 (numT t2), .slice Ab (argsT t2) cb] tt)) v zs
    ∧ Below w.heap.size w ((((((w3.setCell ⟨w.heap.size, 0, none⟩ s0).setCell ⟨w.heap.size, 1, none⟩ s1).setCell ⟨w.heap.size, 2, none⟩ s2)).alloc o).alloc (.cells #[.int .i64 (formT t1), .int .i64 (numT t1), .slice Aa (argsT t1) ca, .int .i64 (formT t2), .int .i64 (numT t2), .slice Ab (argsT t2) cb] tt)) := by
  have nP : ¬ (fun b => w.heap.size + 1 ≤ b) w.heap.size := fun h => by have h9 : w.heap.size + 1 ≤ w.heap.size := h; omega
  have nQ : ¬ Q w.heap.size := fun h => by have := hQ _ h; omega
  have kP : Keeps (fun b => w.heap.size + 1 ≤ b) w3 (((w3.setCell ⟨w.heap.size, 0, none⟩ s0).setCell ⟨w.heap.size, 1, none⟩ s1).setCell ⟨w.heap.size, 2, none⟩ s2) := ((Keeps.setCell nP _).trans (Keeps.setCell nP _)).trans (Keeps.setCell nP _)
  have kQ : Keeps Q w3 (((w3.setCell ⟨w.heap.size, 0, none⟩ s0).setCell ⟨w.heap.size, 1, none⟩ s1).setCell ⟨w.heap.size, 2, none⟩ s2) := ((Keeps.setCell nQ _).trans (Keeps.setCell nQ _)).trans (Keeps.setCell nQ _)
  have bW : Below w.heap.size w (((w3.setCell ⟨w.heap.size, 0, none⟩ s0).setCell ⟨w.heap.size, 1, none⟩ s1).setCell ⟨w.heap.size, 2, none⟩ s2) := ((hW.setCell (Nat.le_refl _) _).setCell (Nat.le_refl _) _).setCell (Nat.le_refl _) _
  have hA' := hA.keep kP
  have hB' := hB.keep kP
  have hI' := hI.keep kQ
  have hz : (((w3.setCell ⟨w.heap.size, 0, none⟩ s0).setCell ⟨w.heap.size, 1, none⟩ s1).setCell ⟨w.heap.size, 2, none⟩ s2).heap.size = w3.heap.size := by simp
  generalize ((w3.setCell ⟨w.heap.size, 0, none⟩ s0).setCell ⟨w.heap.size, 1, none⟩ s1).setCell ⟨w.heap.size, 2, none⟩ s2 = w4 at *
  have n1 := below_new w4 o
  have hz5 : (w4.alloc o).heap.size = w3.heap.size + 1 := by simp [hz]
  have hA5 := hA'.on n1
  have hB5 := hB'.on n1
  have hI5 := hI'.on n1
  have bW5 := bW.alloc bW.size o
  generalize w4.alloc o = w5 at *
  have n2 := below_new w5 (.cells #[.int .i64 (formT t1), .int .i64 (numT t1), .slice Aa (argsT t1) ca, .int .i64 (formT t2), .int .i64 (numT t2), .slice Ab (argsT t2) cb] tt)
  have hs := six_new w5 (.int .i64 (formT t1)) (.int .i64 (numT t1)) (.slice Aa (argsT t1) ca) (.int .i64 (formT t2)) (.int .i64 (numT t2)) (.slice Ab (argsT t2) cb) tt
  refine ⟨?_, hI5.on n2, bW5.alloc bW5.size _⟩
  rw [← hz5]
  exact .arr t1 t2 w5.heap.size 0 2 _ _ _ _ _ _ (by omega) (by simp) (hs 0 _ rfl) (hs 1 _ rfl) (hs 2 _ rfl) (hs 3 _ rfl) (hs 4 _ rfl) (hs 5 _ rfl)
    ((hA5.on n2).mono (fun b (hb : w.heap.size + 1 ≤ b) => (by omega : w.heap.size ≤ b))) ((hB5.on n2).mono (fun b (hb : w.heap.size + 1 ≤ b) => (by omega : w.heap.size ≤ b)))
/-- The cells of the block that a function laid for its result stand on. -/
theorem three_old {w w1 : World} {a b c : Value} {t : TypeId} (h : Below (w.heap.size + 1) (w.alloc (.cells #[a, b, c] t)) w1) :
    w1.cell? ⟨w.heap.size, 0, none⟩ = some a ∧ w1.cell? ⟨w.heap.size, 1, none⟩ = some b ∧ w1.cell? ⟨w.heap.size, 2, none⟩ = some c
    ∧ w1.frozen? ⟨w.heap.size, 0, none⟩ = false ∧ w1.frozen? ⟨w.heap.size, 1, none⟩ = false ∧ w1.frozen? ⟨w.heap.size, 2, none⟩ = false := by
  refine ⟨?_, ?_, ?_, ?_, ?_, ?_⟩
  · exact (h.cell (p := ⟨w.heap.size, 0, none⟩) (Nat.lt_succ_self _)).trans (by simp [go_sem])
  · exact (h.cell (p := ⟨w.heap.size, 1, none⟩) (Nat.lt_succ_self _)).trans (by simp [go_sem])
  · exact (h.cell (p := ⟨w.heap.size, 2, none⟩) (Nat.lt_succ_self _)).trans (by simp [go_sem])
  · exact (h.frozen (p := ⟨w.heap.size, 0, none⟩) (Nat.lt_succ_self _)).trans (by simp [go_sem])
  · exact (h.frozen (p := ⟨w.heap.size, 1, none⟩) (Nat.lt_succ_self _)).trans (by simp [go_sem])
  · exact (h.frozen (p := ⟨w.heap.size, 2, none⟩) (Nat.lt_succ_self _)).trans (by simp [go_sem])
def termZ : Nat → List Int → Tm × List Int
  | _, [] => (.star, [])
  | 0, z :: l => (if aroundI z 9 < 5 then .var (1 + aroundI z 9).toNat else .star, l)
  | f + 1, z :: l => if aroundI z 9 < 5 then (.var (1 + aroundI z 9).toNat, l) else if aroundI z 9 < 7 then (.star, l)
      else (.arr (termZ f l).1 (termZ f (termZ f l).2).1, (termZ f (termZ f l).2).2)
def Termed (w : World) (t : Tm) (zs : List Int) (Q : Nat → Prop) (e : Ending) (w' : World) : Prop :=
  ∃ tv v, e = .returned (.tuple #[tv, v]) ∧ TAt (fun b => w.heap.size ≤ b) w' t tv ∧ IntsAt Q w' v zs ∧ Below w.heap.size w w'
/-- What is left of a slice of numbers behind its first. -/
theorem ints_tail {Q : Nat → Prop} {w : World} {z : Int} {r : List Int} {v : Value} (h : IntsAt Q w v (z :: r)) : ∃ b off c, v = .slice (some ⟨b, off, none⟩) (r.length + 1) c ∧ r.length + 1 ≤ c ∧ c ≤ maxLen ∧ b < w.heap.size ∧ w.cell? ⟨b, off, none⟩ = some (.int .i64 z) ∧ (-9223372036854775808 ≤ z ∧ z ≤ 9223372036854775807) ∧
    ∃ v2, (c = 1 → v2 = .slice (some ⟨b, off, none⟩) r.length 0) ∧ (c ≠ 1 → v2 = .slice (some ⟨b, off + 1, none⟩) r.length (c - 1)) ∧ IntsAt Q w v2 r := by
  obtain ⟨A, c, rfl, hc, hcm, hbd, hr⟩ := h
  obtain ⟨b, off, rfl, hq, hlt, hcell⟩ : ∃ b off, A = some ⟨b, off, none⟩ ∧ Q b ∧ b < w.heap.size ∧ ∀ i (h : i < (z :: r).length), w.cell? ⟨b, off + i, none⟩ = some (.int .i64 (z :: r)[i]) := by
    rcases hr with h9 | h9
    · cases h9
    · exact h9
  have hrl : r.length + 1 ≤ c := by simpa using hc
  refine ⟨b, off, c, rfl, hrl, hcm, hlt, by have := hcell 0 (by simp); simpa using this, hbd z (List.mem_cons_self ..), ?_⟩
  by_cases hc1 : c = 1
  · have hr0 : r = [] := List.eq_nil_of_length_eq_zero (by omega)
    subst hr0
    exact ⟨_, fun _ => rfl, fun h9 => absurd hc1 h9, ⟨_, 0, rfl, Nat.le_refl _, Nat.zero_le _, fun z hz => absurd hz (by simp), .inl rfl⟩⟩
  · refine ⟨_, fun h9 => absurd h9 hc1, fun _ => rfl, ⟨_, c - 1, rfl, by omega, by omega, fun y hy => hbd y (List.mem_cons_of_mem _ hy), .inr ⟨b, off + 1, rfl, hq, hlt, fun i hi => ?_⟩⟩⟩
    have h9 := hcell (i + 1) (by simpa using hi)
    rw [show off + 1 + i = off + (i + 1) by omega, h9]
    rfl

set_option maxRecDepth 100000 in
set_option maxHeartbeats 1000000 in
theorem term_any : ∀ (f d : Nat) (zs : List Int) (v : Value) (Q : Nat → Prop) (w : World), d + f = 3 → IntsAt Q w v zs → (∀ b, Q b → b < w.heap.size) →
    Calls Try.prog 42 #[v, .int .i64 d] w (Termed w (termZ f zs).1 (termZ f zs).2 Q)
  | f, d, [], v, Q, w, hd, h, hQ => by
    have H := Lib.hid h
    obtain ⟨A, c, rfl, hc, hcm, _, _⟩ := h
    have HE : Hid (termZ f [] = (.star, [])) := by show _ = _; cases f <;> rfl
    go_enter Try.func42, Try.ntmps42
    go_wp2
    exact bodyPost_ret (v := .tuple #[.agg #[.int .i64 2, .int .i64 0, .slice none 0 0], .slice A 0 c]) (by simp [results, Try.results42, go_sem]) rfl (by rw [HE.out]; exact ⟨_, _, rfl, .star _ _, H.out.on (below_new w _), below_new w _⟩)
  | f, d, z :: r, v, Q, w, hd, h, hQ => by
    obtain ⟨b, off, c, rfl, hrl, hcm, hlt, hz, ⟨hz1, hz2⟩, v2, e1, e2, hi2⟩ := ints_tail h
    have HI2 := Lib.hid hi2
    have hlen0 : (((r.length : Int) + 1) == 0) = false := by rw [beq_eq_false_iff_ne]; omega
    unfold maxLen at hcm
    have hbd9 := aroundI_bd z 9 (by omega)
    clear h hi2
    have hA := fun W => around_is z 9 W hz1 hz2 (by omega) (by omega)
    by_cases h5 : aroundI z 9 < 5
    · have HE : Hid (termZ f (z :: r) = (.var (1 + aroundI z 9).toNat, r)) := by
        show _ = _
        cases f with
        | zero => unfold termZ; rw [if_pos h5]
        | succ f => unfold termZ; rw [if_pos h5]
      have hnn : ((1 + aroundI z 9).toNat : Int) = 1 + aroundI z 9 := by omega
      generalize (1 + aroundI z 9).toNat = N at *
      have HTV : Hid (TAt (fun b => w.heap.size ≤ b) (w.alloc (.cells #[.int .i64 1, .int .i64 (1 + aroundI z 9), .slice none 0 0] 54)) (.var N) (.agg #[.int .i64 1, .int .i64 (1 + aroundI z 9), .slice none 0 0])) := by
        rw [← hnn]; exact .var _ _ _
      clear hnn
      generalize aroundI z 9 = az at *
      have HA := Lib.hid hA
      clear hA
      by_cases hc1 : c = 1
      · have e9 := e1 hc1
        clear e1 e2
        subst hc1 e9
        clear hrl
        go_enter Try.func42, Try.ntmps42
        go_wp2_with (go_at_call 16; refine (HA.out _).mono ?_; rintro e w' ⟨rfl, rfl⟩)
        exact bodyPost_ret (v := .tuple #[.agg #[.int .i64 1, .int .i64 (1 + az), .slice none 0 0], .slice (some ⟨b, off, none⟩) r.length 0]) (by simp [results, Try.results42, go_sem]) rfl (by rw [HE.out]; exact ⟨_, _, rfl, HTV.out, HI2.out.on (below_new w _), below_new w _⟩)
      · have e9 := e2 hc1
        clear e1 e2
        subst e9
        go_enter Try.func42, Try.ntmps42
        go_wp2_with (go_at_call 16; refine (HA.out _).mono ?_; rintro e w' ⟨rfl, rfl⟩)
        exact bodyPost_ret (v := .tuple #[.agg #[.int .i64 1, .int .i64 (1 + az), .slice none 0 0], .slice (some ⟨b, off + 1, none⟩) r.length (c - 1)]) (by simp [results, Try.results42, go_sem]) rfl (by rw [HE.out]; exact ⟨_, _, rfl, HTV.out, HI2.out.on (below_new w _), below_new w _⟩)
    · by_cases hs : aroundI z 9 < 7 ∨ f = 0
      · have HE : Hid (termZ f (z :: r) = (.star, r)) := by
          show _ = _
          cases f with
          | zero => unfold termZ; rw [if_neg h5]
          | succ f =>
            have h7 : aroundI z 9 < 7 := by rcases hs with h | h; exact h; cases h
            unfold termZ; rw [if_neg h5, if_pos h7]
        have hs' : decide (aroundI z 9 < 7) = true ∨ (decide (aroundI z 9 < 7) = false ∧ (2 : Int) < (d : Int)) := by
          by_cases h7 : aroundI z 9 < 7
          · exact .inl (by simpa using h7)
          · refine .inr ⟨by simpa using h7, ?_⟩
            rcases hs with h | h
            · exact absurd h h7
            · omega
        clear hs
        generalize aroundI z 9 = az at *
        have HA := Lib.hid hA
        clear hA
        rcases hs' with h7 | ⟨h7, hd2⟩
        all_goals
          by_cases hc1 : c = 1
          · have e9 := e1 hc1
            clear e1 e2
            subst hc1 e9
            clear hrl
            go_enter Try.func42, Try.ntmps42
            go_wp2_with (go_at_call 16; refine (HA.out _).mono ?_; rintro e w' ⟨rfl, rfl⟩)
            exact bodyPost_ret (v := .tuple #[.agg #[.int .i64 2, .int .i64 0, .slice none 0 0], .slice (some ⟨b, off, none⟩) r.length 0]) (by simp [results, Try.results42, go_sem]) rfl (by rw [HE.out]; exact ⟨_, _, rfl, .star _ _, HI2.out.on (below_new w _), below_new w _⟩)
          · have e9 := e2 hc1
            clear e1 e2
            subst e9
            go_enter Try.func42, Try.ntmps42
            go_wp2_with (go_at_call 16; refine (HA.out _).mono ?_; rintro e w' ⟨rfl, rfl⟩)
            exact bodyPost_ret (v := .tuple #[.agg #[.int .i64 2, .int .i64 0, .slice none 0 0], .slice (some ⟨b, off + 1, none⟩) r.length (c - 1)]) (by simp [results, Try.results42, go_sem]) rfl (by rw [HE.out]; exact ⟨_, _, rfl, .star _ _, HI2.out.on (below_new w _), below_new w _⟩)
      · obtain ⟨f', rfl⟩ : ∃ f', f = f' + 1 := by
          cases f with
          | zero => exact absurd (.inr rfl) hs
          | succ f' => exact ⟨f', rfl⟩
        have h7 : ¬ aroundI z 9 < 7 := fun h => hs (.inl h)
        have HE : Hid (termZ (f' + 1) (z :: r) = (.arr (termZ f' r).1 (termZ f' (termZ f' r).2).1, (termZ f' (termZ f' r).2).2)) := by
          show _ = _
          conv => lhs; unfold termZ
          rw [if_neg h5, if_neg h7]
        have hcast : ((d + 1 : Nat) : Int) = (d : Int) + 1 := by omega
        have IH : Hid (∀ (zs : List Int) (v : Value) (Q : Nat → Prop) (w : World), IntsAt Q w v zs → (∀ b, Q b → b < w.heap.size) → Calls Try.prog 42 #[v, .int .i64 ((d : Int) + 1)] w (Termed w (termZ f' zs).1 (termZ f' zs).2 Q)) := fun zs v Q w h1 h2 => by
          have h9 := term_any f' (d + 1) zs v Q w (by omega) h1 h2
          rw [hcast] at h9; exact h9
        have hd2 : ¬ (2 : Int) < (d : Int) := by omega
        have I1 := Lib.hid (IH.out r)
        have I2 := Lib.hid (IH.out (termZ f' r).2)
        clear hcast hs IH
        generalize termZ f' (termZ f' r).2 = p2 at *
        generalize termZ f' r = p1 at *
        obtain ⟨t1, r1⟩ := p1
        obtain ⟨t2, r2⟩ := p2
        have J1 : Hid (∀ (v : Value) (Q : Nat → Prop) (w : World), IntsAt Q w v r → (∀ b, Q b → b < w.heap.size) → Calls Try.prog 42 #[v, .int .i64 ((d : Int) + 1)] w (Termed w t1 r1 Q)) := I1
        have J2 : Hid (∀ (v : Value) (Q : Nat → Prop) (w : World), IntsAt Q w v r1 → (∀ b, Q b → b < w.heap.size) → Calls Try.prog 42 #[v, .int .i64 ((d : Int) + 1)] w (Termed w t2 r2 Q)) := I2
        have HE2 : Hid (termZ (f' + 1) (z :: r) = (.arr t1 t2, r2)) := HE
        clear I1 I2 HE
        generalize aroundI z 9 = az at *
        have HA := Lib.hid hA
        clear hA
        by_cases hc1 : c = 1
        · have e9 := e1 hc1
          clear e1 e2
          subst hc1 e9
          clear hrl
          go_enter Try.func42, Try.ntmps42
          go_wp2_with (go_at_call 16; refine (HA.out _).mono ?_; rintro e w' ⟨rfl, rfl⟩)
          have hz0 : (w.alloc (.cells #[.int .i64 0, .int .i64 0, .slice none 0 0] 54)).heap.size = w.heap.size + 1 := by simp
          have hb0 := below_new w (.cells #[.int .i64 0, .int .i64 0, .slice none 0 0] 54)
          obtain ⟨x0, x1, x2, y0, y1, y2⟩ := three_old (Below.refl (w.heap.size + 1) (w.alloc (.cells #[.int .i64 0, .int .i64 0, .slice none 0 0] 54)))
          generalize w.alloc (.cells #[.int .i64 0, .int .i64 0, .slice none 0 0] 54) = w0 at *
          refine (J1.out _ Q w0 (HI2.out.on hb0) (fun b hb => by have := hQ b hb; omega)).mono ?_
          rintro e w1 ⟨ta, va, rfl, hta, hva, b1⟩
          obtain ⟨Aa, ca, rfl⟩ := hta.form
          obtain ⟨Ai, ci, ei, _⟩ := id hva
          subst ei
          have HTA := Lib.hid hta
          have HVA := Lib.hid hva
          have HB1 := Lib.hid b1
          have hz1 := b1.size
          clear hta hva b1
          go_wp2_with fail
          have b12 := below_new w1 (.cells #[.int .i64 (formT t1), .int .i64 (numT t1), .slice Aa (argsT t1) ca] 54)
          have hz12 : (w1.alloc (.cells #[.int .i64 (formT t1), .int .i64 (numT t1), .slice Aa (argsT t1) ca] 54)).heap.size = w1.heap.size + 1 := by simp
          obtain ⟨p0, p1, p2, q0, q1, q2⟩ := three_old (Below.refl (w1.heap.size + 1) (w1.alloc (.cells #[.int .i64 (formT t1), .int .i64 (numT t1), .slice Aa (argsT t1) ca] 54)))
          have HB2 := Lib.hid (HB1.out.trans (b12.mono hz1))
          have HTA2 := Lib.hid (HTA.out.on b12)
          have HVA2 := Lib.hid (HVA.out.on b12)
          generalize w1.alloc (.cells #[.int .i64 (formT t1), .int .i64 (numT t1), .slice Aa (argsT t1) ca] 54) = w2 at *
          clear b12 HTA HVA HB1
          refine (J2.out _ Q w2 HVA2.out (fun b hb => by have := hQ b hb; omega)).mono ?_
          rintro e w3 ⟨tb, vb, rfl, htb, hvb, b3⟩
          obtain ⟨Ab, cb, rfl⟩ := htb.form
          obtain ⟨Aj, cj, ej, _⟩ := id hvb
          subst ej
          have hz3 := b3.size
          have l1 : w1.heap.size < w3.heap.size := by omega
          have l0 : w.heap.size < w3.heap.size := by omega
          have p0' := (b3.cell (p := ⟨w1.heap.size, 0, none⟩) (show w1.heap.size < w2.heap.size by omega)).trans p0
          have p1' := (b3.cell (p := ⟨w1.heap.size, 1, none⟩) (show w1.heap.size < w2.heap.size by omega)).trans p1
          have p2' := (b3.cell (p := ⟨w1.heap.size, 2, none⟩) (show w1.heap.size < w2.heap.size by omega)).trans p2
          have HB3 := Lib.hid (HB2.out.trans (b3.mono (Nat.le_trans hz1 (by omega))))
          have x0' := (HB3.out.cell (p := ⟨w.heap.size, 0, none⟩) (show w.heap.size < w0.heap.size by omega)).trans x0
          have x1' := (HB3.out.cell (p := ⟨w.heap.size, 1, none⟩) (show w.heap.size < w0.heap.size by omega)).trans x1
          have x2' := (HB3.out.cell (p := ⟨w.heap.size, 2, none⟩) (show w.heap.size < w0.heap.size by omega)).trans x2
          have y0' := (HB3.out.frozen (p := ⟨w.heap.size, 0, none⟩) (show w.heap.size < w0.heap.size by omega)).trans y0
          have y1' := (HB3.out.frozen (p := ⟨w.heap.size, 1, none⟩) (show w.heap.size < w0.heap.size by omega)).trans y1
          have y2' := (HB3.out.frozen (p := ⟨w.heap.size, 2, none⟩) (show w.heap.size < w0.heap.size by omega)).trans y2
          have HTA3 := Lib.hid ((HTA2.out.on b3).mono (fun b (hb : w0.heap.size ≤ b) => (by omega : w.heap.size + 1 ≤ b)))
          have HTB := Lib.hid (htb.mono (fun b (hb : w2.heap.size ≤ b) => (by omega : w.heap.size + 1 ≤ b)))
          have HVB := Lib.hid hvb
          have HBW := Lib.hid (hb0.trans (HB3.out.mono (show w.heap.size ≤ w0.heap.size by omega)))
          clear htb hvb b3 p0 p1 p2 q0 q1 q2 HTA2 HVA2 x0 x1 x2 y0 y1 y2 hb0
          go_wp2
          have hfin := arr_made (tt := 54) (.cells #[.int .i64 (formT t2), .int .i64 (numT t2), .slice Ab (argsT t2) cb] 54) (.int .i64 3) (.int .i64 0) (.slice (some ⟨w3.heap.size + 1, 0, none⟩) 2 2) l0 hQ HTA3.out HTB.out HVB.out HBW.out
          exact bodyPost_ret (v := .tuple #[.agg #[.int .i64 3, .int .i64 0, .slice (some ⟨w3.heap.size + 1, 0, none⟩) 2 2], .slice Aj r2.length cj]) (by simp [results, Try.results42, go_sem, x0', x1', x2', l0]) rfl (by rw [HE2.out]; exact ⟨_, _, rfl, hfin.1, hfin.2.1, hfin.2.2⟩)
        · have e9 := e2 hc1
          clear e1 e2
          subst e9
          go_enter Try.func42, Try.ntmps42
          go_wp2_with (go_at_call 16; refine (HA.out _).mono ?_; rintro e w' ⟨rfl, rfl⟩)
          have hz0 : (w.alloc (.cells #[.int .i64 0, .int .i64 0, .slice none 0 0] 54)).heap.size = w.heap.size + 1 := by simp
          have hb0 := below_new w (.cells #[.int .i64 0, .int .i64 0, .slice none 0 0] 54)
          obtain ⟨x0, x1, x2, y0, y1, y2⟩ := three_old (Below.refl (w.heap.size + 1) (w.alloc (.cells #[.int .i64 0, .int .i64 0, .slice none 0 0] 54)))
          generalize w.alloc (.cells #[.int .i64 0, .int .i64 0, .slice none 0 0] 54) = w0 at *
          refine (J1.out _ Q w0 (HI2.out.on hb0) (fun b hb => by have := hQ b hb; omega)).mono ?_
          rintro e w1 ⟨ta, va, rfl, hta, hva, b1⟩
          obtain ⟨Aa, ca, rfl⟩ := hta.form
          obtain ⟨Ai, ci, ei, _⟩ := id hva
          subst ei
          have HTA := Lib.hid hta
          have HVA := Lib.hid hva
          have HB1 := Lib.hid b1
          have hz1 := b1.size
          clear hta hva b1
          go_wp2_with fail
          have b12 := below_new w1 (.cells #[.int .i64 (formT t1), .int .i64 (numT t1), .slice Aa (argsT t1) ca] 54)
          have hz12 : (w1.alloc (.cells #[.int .i64 (formT t1), .int .i64 (numT t1), .slice Aa (argsT t1) ca] 54)).heap.size = w1.heap.size + 1 := by simp
          obtain ⟨p0, p1, p2, q0, q1, q2⟩ := three_old (Below.refl (w1.heap.size + 1) (w1.alloc (.cells #[.int .i64 (formT t1), .int .i64 (numT t1), .slice Aa (argsT t1) ca] 54)))
          have HB2 := Lib.hid (HB1.out.trans (b12.mono hz1))
          have HTA2 := Lib.hid (HTA.out.on b12)
          have HVA2 := Lib.hid (HVA.out.on b12)
          generalize w1.alloc (.cells #[.int .i64 (formT t1), .int .i64 (numT t1), .slice Aa (argsT t1) ca] 54) = w2 at *
          clear b12 HTA HVA HB1
          refine (J2.out _ Q w2 HVA2.out (fun b hb => by have := hQ b hb; omega)).mono ?_
          rintro e w3 ⟨tb, vb, rfl, htb, hvb, b3⟩
          obtain ⟨Ab, cb, rfl⟩ := htb.form
          obtain ⟨Aj, cj, ej, _⟩ := id hvb
          subst ej
          have hz3 := b3.size
          have l1 : w1.heap.size < w3.heap.size := by omega
          have l0 : w.heap.size < w3.heap.size := by omega
          have p0' := (b3.cell (p := ⟨w1.heap.size, 0, none⟩) (show w1.heap.size < w2.heap.size by omega)).trans p0
          have p1' := (b3.cell (p := ⟨w1.heap.size, 1, none⟩) (show w1.heap.size < w2.heap.size by omega)).trans p1
          have p2' := (b3.cell (p := ⟨w1.heap.size, 2, none⟩) (show w1.heap.size < w2.heap.size by omega)).trans p2
          have HB3 := Lib.hid (HB2.out.trans (b3.mono (Nat.le_trans hz1 (by omega))))
          have x0' := (HB3.out.cell (p := ⟨w.heap.size, 0, none⟩) (show w.heap.size < w0.heap.size by omega)).trans x0
          have x1' := (HB3.out.cell (p := ⟨w.heap.size, 1, none⟩) (show w.heap.size < w0.heap.size by omega)).trans x1
          have x2' := (HB3.out.cell (p := ⟨w.heap.size, 2, none⟩) (show w.heap.size < w0.heap.size by omega)).trans x2
          have y0' := (HB3.out.frozen (p := ⟨w.heap.size, 0, none⟩) (show w.heap.size < w0.heap.size by omega)).trans y0
          have y1' := (HB3.out.frozen (p := ⟨w.heap.size, 1, none⟩) (show w.heap.size < w0.heap.size by omega)).trans y1
          have y2' := (HB3.out.frozen (p := ⟨w.heap.size, 2, none⟩) (show w.heap.size < w0.heap.size by omega)).trans y2
          have HTA3 := Lib.hid ((HTA2.out.on b3).mono (fun b (hb : w0.heap.size ≤ b) => (by omega : w.heap.size + 1 ≤ b)))
          have HTB := Lib.hid (htb.mono (fun b (hb : w2.heap.size ≤ b) => (by omega : w.heap.size + 1 ≤ b)))
          have HVB := Lib.hid hvb
          have HBW := Lib.hid (hb0.trans (HB3.out.mono (show w.heap.size ≤ w0.heap.size by omega)))
          clear htb hvb b3 p0 p1 p2 q0 q1 q2 HTA2 HVA2 x0 x1 x2 y0 y1 y2 hb0
          go_wp2
          have hfin := arr_made (tt := 54) (.cells #[.int .i64 (formT t2), .int .i64 (numT t2), .slice Ab (argsT t2) cb] 54) (.int .i64 3) (.int .i64 0) (.slice (some ⟨w3.heap.size + 1, 0, none⟩) 2 2) l0 hQ HTA3.out HTB.out HVB.out HBW.out
          exact bodyPost_ret (v := .tuple #[.agg #[.int .i64 3, .int .i64 0, .slice (some ⟨w3.heap.size + 1, 0, none⟩) 2 2], .slice Aj r2.length cj]) (by simp [results, Try.results42, go_sem, x0', x1', x2', l0]) rfl (by rw [HE2.out]; exact ⟨_, _, rfl, hfin.1, hfin.2.1, hfin.2.2⟩)
end Go.Proofs.Ytomhojpoaicioaa
