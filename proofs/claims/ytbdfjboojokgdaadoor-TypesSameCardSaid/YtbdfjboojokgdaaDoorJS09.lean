/- The contracts of types.bare, write and Print. Conditions: numbers of what is not known are below 100; the print has at most 2^40 bytes. -/
import Derived.Test.YtbdfjboojokgdaaDoorJS06
import Derived.Test.YtbdfjboojokgdaaDoorJS08
namespace Go.Proofs.YtbdfjboojokgdaaDoor
open Go.RowKit

/-- The last place at which a type stands without brackets. -/
def Ty.bare (t : Ty) : Nat := match t with
  | .all _ _ => 0
  | .app x b => if (Ty.app x b).sides.isSome then 1 else 2
  | _ => 3
def brk (p : Nat) (t : Ty) (s : List UInt8) : List UInt8 := if t.bare < p then [40] ++ s ++ [41] else s
/-- A type in print. -/
def Ty.pr : Ty → List UInt8
  | .hole n => [63] ++ Lib.decDigits n.toNat
  | .var s => s.data.toList
  | .con s => if (Ty.con s).isArrow then [40, 45, 62, 41] else s.data.toList
  | .all s a => [102, 111, 114, 97, 108, 108, 32] ++ s.data.toList ++ [46, 32] ++ a.pr
  | .app (.app f a) b => if f.isArrow then brk 2 a a.pr ++ [32, 45, 62, 32] ++ brk 1 b b.pr else brk 2 (.app f a) (Ty.app f a).pr ++ [32] ++ brk 3 b b.pr
  | .app x b => brk 2 x x.pr ++ [32] ++ brk 3 b b.pr
def Ty.prAt (p : Nat) (t : Ty) : List UInt8 := brk p t t.pr
theorem Ty.pr_fun {t a b : Ty} (h : t.sides = some (a, b)) : t.pr = a.prAt 2 ++ [32, 45, 62, 32] ++ b.prAt 1 := by
  unfold Ty.sides at h
  split at h
  · split at h
    · rename_i hf
      simp only [Option.some.injEq, Prod.mk.injEq] at h
      obtain ⟨rfl, rfl⟩ := h
      rw [Ty.pr, if_pos hf]; rfl
    · cases h
  · cases h
theorem Ty.pr_app {x b : Ty} (h : (Ty.app x b).sides = none) : (Ty.app x b).pr = x.prAt 2 ++ [32] ++ b.prAt 3 := by
  cases x with
  | app f a =>
    have hf : ¬ (f.isArrow = true) := fun hf => by rw [Ty.sides, if_pos hf] at h; cases h
    rw [Ty.pr, if_neg hf]; rfl
  | _ => rfl
theorem sides_shape {t a b : Ty} (h : t.sides = some (a, b)) : ∃ f, t = .app (.app f a) b ∧ f.isArrow = true := by
  unfold Ty.sides at h
  split at h
  · split at h
    · rename_i hf
      simp only [Option.some.injEq, Prod.mk.injEq] at h
      obtain ⟨rfl, rfl⟩ := h
      exact ⟨_, rfl, hf⟩
    · cases h
  · cases h
/-- What is not known has a small number. -/
def Ty.small : Ty → Prop
  | .hole n => 0 ≤ n ∧ n < 100
  | .app a b => a.small ∧ b.small
  | .all _ a => a.small
  | _ => True
set_option maxRecDepth 100000 in
set_option maxHeartbeats 1000000 in
theorem bare_any (P : Nat → Prop) (t : Ty) (v : Value) (w : World) (h : TyAt P w t v) : Calls Tryd.prog 108 #[v] w fun e w' => e = .returned (.int .i64 t.bare) ∧ Below w.heap.size w w' := by
  obtain ⟨A, c, rfl, _, _⟩ := h.form
  have HS := Lib.hid (fun (w' : World) (hb : Below w.heap.size w w') => sides_any P t _ w' (h.on hb))
  have HA := Lib.hid (fun (w' : World) (hb : Below w.heap.size w w') => applied_any P t _ w' (h.on hb))
  clear h
  obtain ⟨W, eW, q1, b1, z1⟩ := one_box w (.int .i64 t.form) (.int .i64 t.num) (.string t.name) (.slice A t.args.length c) 25
  have HEW := Lib.hid eW
  have HQ := Lib.hid q1
  have HB := Lib.hid b1
  have hw : w.heap.size < W.heap.size := by omega
  have HT : Hid ((t.form = 5 ∧ t.sides = none ∧ t.bare = 0) ∨ (t.form ≠ 5 ∧ ∃ a b, t.sides = some (a, b) ∧ t.bare = 1) ∨ (t.form ≠ 5 ∧ t.sides = none ∧ t.isApp = true ∧ t.bare = 2) ∨ (t.form ≠ 5 ∧ t.sides = none ∧ t.isApp = false ∧ t.bare = 3)) := by
    cases t with
    | all s a => exact .inl ⟨rfl, rfl, rfl⟩
    | app x b =>
      right
      cases hs : (Ty.app x b).sides with
      | none => exact .inr (.inl ⟨by simp [Ty.form], rfl, rfl, by simp [Ty.bare, hs]⟩)
      | some p => exact .inl ⟨by simp [Ty.form], p.1, p.2, rfl, by simp [Ty.bare, hs]⟩
    | _ => exact .inr (.inr (.inr ⟨by simp [Ty.form], rfl, rfl, rfl⟩))
  clear eW q1 b1
  generalize hfo : t.form = tf, t.num = tn, t.name = ts, t.args.length = tl at *
  clear hfo
  go_enter Tryd.func108, Tryd.ntmps108
  go_wp2_with fail
  rw [HEW.out]
  refine (HS.out _ HB.out).mono ?_
  rintro e y ⟨hb, hr⟩
  have hby := HB.out.trans (hb.mono HB.out.size)
  have HBY := Lib.hid hby
  obtain ⟨x0, x1, x2, x3, x4, x5, x6, x7, x8⟩ := HQ.out.on hb
  clear hb hby HQ
  rcases hr with ⟨hsn, rfl⟩ | ⟨a, b, f1, n1, s1, A1, l1, c1, f2, n2, s2, A2, l2, c2, hss, rfl, ha, hb⟩
  · rw [hsn] at HT
    rcases HT.out with ⟨h5, _, hbar⟩ | ⟨h5, _, _, h9, _⟩ | ⟨h5, _, hap, hbar⟩ | ⟨h5, _, hap, hbar⟩
    · subst h5
      have HBR := Lib.hid hbar
      clear HT hbar hsn HA HS
      go_wp2
      go_ret
      exact ⟨by rw [HBR.out]; rfl, (HBY.out.alloc HBY.out.size _).alloc (Nat.le_trans HBY.out.size (by simp)) _⟩
    · cases h9
    · have h5' : (tf == 5) = false := by simpa using h5
      have HBR := Lib.hid hbar
      rw [hap] at HA
      clear HT hbar hsn HS h5
      go_wp2_with fail
      refine (HA.out _ ((HBY.out.alloc HBY.out.size _).alloc (Nat.le_trans HBY.out.size (by simp)) _)).mono ?_
      rintro e u ⟨rfl, hb⟩
      have HU := Lib.hid (((HBY.out.alloc HBY.out.size _).alloc (Nat.le_trans HBY.out.size (by simp)) _).trans (hb.mono (by have := HBY.out.size; simp; omega)))
      clear hb
      go_wp2
      go_ret
      exact ⟨by rw [HBR.out]; rfl, HU.out⟩
    · have h5' : (tf == 5) = false := by simpa using h5
      have HBR := Lib.hid hbar
      rw [hap] at HA
      clear HT hbar hsn HS h5
      go_wp2_with fail
      refine (HA.out _ ((HBY.out.alloc HBY.out.size _).alloc (Nat.le_trans HBY.out.size (by simp)) _)).mono ?_
      rintro e u ⟨rfl, hb⟩
      have HU := Lib.hid (((HBY.out.alloc HBY.out.size _).alloc (Nat.le_trans HBY.out.size (by simp)) _).trans (hb.mono (by have := HBY.out.size; simp; omega)))
      clear hb
      go_wp2
      go_ret
      exact ⟨by rw [HBR.out]; rfl, HU.out⟩
  · rw [hss] at HT
    rcases HT.out with ⟨_, h9, _⟩ | ⟨h5, _, _, _, hbar⟩ | ⟨_, h9, _⟩ | ⟨_, h9, _⟩
    · cases h9
    · have h5' : (tf == 5) = false := by simpa using h5
      have HBR := Lib.hid hbar
      clear HT hbar HS HA ha hb h5
      go_wp2
      go_ret
      exact ⟨by rw [HBR.out]; rfl, (HBY.out.alloc HBY.out.size _).alloc (Nat.le_trans HBY.out.size (by simp)) _⟩
    · cases h9
    · cases h9
end Go.Proofs.YtbdfjboojokgdaaDoor
