/- The contract of the solver's root. No conditions but those that each theorem names. -/
import Derived.Test.YtomhojpoaicioaaZAt
namespace Go.Proofs.Ytomhojpoaicioaa
open Go.RowKit

theorem field49 (F G : Int) (M : Nat) (A : Option Addr) (c : Nat) (w : World) : (Instr.field 49 (.agg #[.int .i64 F, .int .i64 G, .slice A M c]) 0).run Try.prog w = .ok (.int .i64 F) w := by
  first
  | kernel_rfl
  | (simp [Instr.field, run_underlying Try.underlying49, go_sem]; done)
/-- What root's loop knows: the variable t holds a term that leads to e in so many steps. -/
def RtInv (P : Nat → Prop) (w : World) (kn : Kn) (e : Tz) (k : Nat) (wr : World) : Prop :=
  ∃ (cur : Tz) (A : Option Addr) (c : Nat), RChain kn k cur e ∧ ZAt P w cur (.agg #[.int .i64 (formZ cur), .int .i64 (numZ cur), .slice A (argsZ cur) c]) ∧
    wr.cell? ⟨w.heap.size, 0, none⟩ = some (.int .i64 (formZ cur)) ∧ wr.cell? ⟨w.heap.size, 1, none⟩ = some (.int .i64 (numZ cur)) ∧ wr.cell? ⟨w.heap.size, 2, none⟩ = some (.slice A (argsZ cur) c) ∧
    wr.cell? ⟨w.heap.size + 1, 0, none⟩ = some (.int .i64 0) ∧ wr.cell? ⟨w.heap.size + 1, 1, none⟩ = some (.int .i64 0) ∧ wr.cell? ⟨w.heap.size + 1, 2, none⟩ = some (.slice none 0 0) ∧
    wr.frozen? ⟨w.heap.size, 0, none⟩ = false ∧ wr.frozen? ⟨w.heap.size, 1, none⟩ = false ∧ wr.frozen? ⟨w.heap.size, 2, none⟩ = false ∧
    wr.frozen? ⟨w.heap.size + 1, 0, none⟩ = false ∧ wr.frozen? ⟨w.heap.size + 1, 1, none⟩ = false ∧ wr.frozen? ⟨w.heap.size + 1, 2, none⟩ = false ∧ Below w.heap.size w wr ∧ w.heap.size + 2 ≤ wr.heap.size
set_option maxRecDepth 100000 in
set_option maxHeartbeats 1000000 in
theorem root_any (P : Nat → Prop) (k : Nat) (t e : Tz) (v : Value) (w : World) (sb mb sz : Nat) (made : Int) (kn : Kn) (hc : RChain kn k t e) (hS : SolAt P w sb mb sz made kn) (hv : ZAt P w t v) :
    Calls Try.prog 52 #[.pointer (some ⟨sb, 0, none⟩), v] w (TermZ P w e) := by
  obtain ⟨A, c, rfl⟩ := hv.form
  have HS := Lib.hid hS
  have HV := Lib.hid hv
  have HC := Lib.hid hc
  clear hS hv hc
  go_enter Try.func52, Try.ntmps52
  go_wp2_with fail
  have hst : RtInv P w kn e k ((w.alloc (.cells #[.int .i64 (formZ t), .int .i64 (numZ t), .slice A (argsZ t) c] 49)).alloc (.cells #[.int .i64 0, .int .i64 0, .slice none 0 0] 49)) :=
    ⟨t, A, c, HC.out, HV.out, by simp [go_sem], by simp [go_sem], by simp [go_sem], by simp [go_sem], by simp [go_sem], by simp [go_sem], by simp [go_sem], by simp [go_sem], by simp [go_sem], by simp [go_sem], by simp [go_sem], by simp [go_sem], (below_new w _).trans ((below_new _ _).mono (by simp)), by simp⟩
  generalize (w.alloc (.cells #[.int .i64 (formZ t), .int .i64 (numZ t), .slice A (argsZ t) c] 49)).alloc (.cells #[.int .i64 0, .int .i64 0, .slice none 0 0] 49) = w0 at *
  have HST := Lib.hid hst
  clear hst HC HV
  go_loopg [5, 6] k (fun g _ _ wr => RtInv P w kn e g wr)
  case atStart => exact HST.out
  case round =>
    obtain ⟨cur, Ac, cc, hch, hz, a0, a1, a2, r0, r1, r2, f0, f1, f2, q0, q1, q2, hb, hsz⟩ := hrel
    have hnum := hz.num
    have HB := Lib.hid hb
    have HZ := Lib.hid hz
    have HSR := Lib.hid (HS.out.on hb)
    have s1 := HSR.out.c1
    have slt := HS.out.lt
    have hz0 : w.heap.size < wr.heap.size := by omega
    have hz1 : w.heap.size + 1 < wr.heap.size := by omega
    have hzs : sb < wr.heap.size := by omega
    clear hz hb
    cases gk with
    | zero =>
      obtain ⟨he, hun⟩ := hch
      subst he
      cases cur with
      | var n =>
        change wr.cell? ⟨w.heap.size, 0, none⟩ = some (.int .i64 1) at a0
        change wr.cell? ⟨w.heap.size, 1, none⟩ = some (.int .i64 n) at a1
        change wr.cell? ⟨w.heap.size, 2, none⟩ = some (.slice Ac 0 cc) at a2
        obtain ⟨F, G, M, A9, c9, l1, hF⟩ : ∃ F G M A9 c9, (Instr.lookup 83 (.map (some mb)) (.int .i64 n) false).run Try.prog wr.drew = .ok (.agg #[.int .i64 F, .int .i64 G, .slice A9 M c9]) wr.drew ∧ (F == 1) = false := by
          cases e9 : kn n with
          | none => exact ⟨_, _, _, _, _, ((HSR.out.on (Below.refl _ wr).drew).known.look_none e9 hnum.1 hnum.2).2, by decide⟩
          | some t9 =>
            obtain ⟨v, _, l2, hz9⟩ := (HSR.out.on (Below.refl _ wr).drew).known.look_some e9 hnum.1 hnum.2
            obtain ⟨A9, c9, rfl⟩ := hz9.form
            refine ⟨_, _, _, _, _, l2, ?_⟩
            cases t9 with
            | var m => exact absurd e9 (hun n m rfl)
            | star => rfl
            | arr x y => rfl
        have fl := fun y => field49 F G M A9 c9 y
        clear hun hnum
        go_wp2_with fail
        go_region
        all_goals go_wp2
        all_goals
          have hBB := ((HB.out.drew.setCell (p := ⟨w.heap.size + 1, 0, none⟩) (Nat.le_succ _) (.int .i64 1)).setCell (p := ⟨w.heap.size + 1, 1, none⟩) (Nat.le_succ _) (.int .i64 n)).setCell (p := ⟨w.heap.size + 1, 2, none⟩) (Nat.le_succ _) (.slice Ac 0 cc)
          exact bodyPost_ret (v := .agg #[.int .i64 1, .int .i64 n, .slice Ac 0 cc]) (by simp [results, Try.results52, go_sem, r0, r1, r2]) rfl ⟨_, rfl, HZ.out.on hBB, hBB⟩
      | star =>
        change wr.cell? ⟨w.heap.size, 0, none⟩ = some (.int .i64 2) at a0
        change wr.cell? ⟨w.heap.size, 1, none⟩ = some (.int .i64 0) at a1
        change wr.cell? ⟨w.heap.size, 2, none⟩ = some (.slice Ac 0 cc) at a2
        clear hun hnum
        go_wp2_with fail
        go_region
        all_goals go_wp2
        all_goals
          have hBB := ((HB.out.drew.setCell (p := ⟨w.heap.size + 1, 0, none⟩) (Nat.le_succ _) (.int .i64 2)).setCell (p := ⟨w.heap.size + 1, 1, none⟩) (Nat.le_succ _) (.int .i64 0)).setCell (p := ⟨w.heap.size + 1, 2, none⟩) (Nat.le_succ _) (.slice Ac 0 cc)
          exact bodyPost_ret (v := .agg #[.int .i64 2, .int .i64 0, .slice Ac 0 cc]) (by simp [results, Try.results52, go_sem, r0, r1, r2]) rfl ⟨_, rfl, HZ.out.on hBB, hBB⟩
      | arr x y =>
        change wr.cell? ⟨w.heap.size, 0, none⟩ = some (.int .i64 3) at a0
        change wr.cell? ⟨w.heap.size, 1, none⟩ = some (.int .i64 0) at a1
        change wr.cell? ⟨w.heap.size, 2, none⟩ = some (.slice Ac 2 cc) at a2
        clear hun hnum
        go_wp2_with fail
        go_region
        all_goals go_wp2
        all_goals
          have hBB := ((HB.out.drew.setCell (p := ⟨w.heap.size + 1, 0, none⟩) (Nat.le_succ _) (.int .i64 3)).setCell (p := ⟨w.heap.size + 1, 1, none⟩) (Nat.le_succ _) (.int .i64 0)).setCell (p := ⟨w.heap.size + 1, 2, none⟩) (Nat.le_succ _) (.slice Ac 2 cc)
          exact bodyPost_ret (v := .agg #[.int .i64 3, .int .i64 0, .slice Ac 2 cc]) (by simp [results, Try.results52, go_sem, r0, r1, r2]) rfl ⟨_, rfl, HZ.out.on hBB, hBB⟩
    | succ gk =>
      obtain ⟨n, m, rfl, hn, hch⟩ := hch
      obtain ⟨v, hzv, hl⟩ := HS.out.known.look_all hn hnum.1 hnum.2
      obtain ⟨A', c', rfl⟩ := hzv.form
      have l1 : (Instr.lookup 83 (.map (some mb)) (.int .i64 n) false).run Try.prog wr.drew = .ok (.agg #[.int .i64 1, .int .i64 m, .slice A' 0 c']) wr.drew := (hl wr.drew HB.out.drew).2
      have l2 : (Instr.lookup 83 (.map (some mb)) (.int .i64 n) false).run Try.prog wr.drew.drew = .ok (.agg #[.int .i64 1, .int .i64 m, .slice A' 0 c']) wr.drew.drew := (hl wr.drew.drew HB.out.drew.drew).2
      change wr.cell? ⟨w.heap.size, 0, none⟩ = some (.int .i64 1) at a0
      change wr.cell? ⟨w.heap.size, 1, none⟩ = some (.int .i64 n) at a1
      change wr.cell? ⟨w.heap.size, 2, none⟩ = some (.slice Ac 0 cc) at a2
      have HZV := Lib.hid hzv
      have HCH := Lib.hid hch
      have fl := fun y => field49 1 m 0 A' c' y
      clear hn hnum hl hzv hch
      go_wp2_with fail
      go_region
      all_goals go_wp2_with fail
      all_goals go_region
      all_goals go_wp2
      all_goals
        have hBB := ((HB.out.drew.drew.setCell (p := ⟨w.heap.size, 0, none⟩) (Nat.le_refl _) (.int .i64 1)).setCell (p := ⟨w.heap.size, 1, none⟩) (Nat.le_refl _) (.int .i64 m)).setCell (p := ⟨w.heap.size, 2, none⟩) (Nat.le_refl _) (.slice A' 0 c')
        go_roundg gk
        case measure => omega
        case rel =>
          exact ⟨.var m, A', c', HCH.out, HZV.out, by simp [go_sem, formZ, a0], by simp [go_sem, numZ, a1], by simp [go_sem, argsZ, a2], by simp [go_sem, r0], by simp [go_sem, r1], by simp [go_sem, r2], by simp [go_sem, f0], by simp [go_sem, f1], by simp [go_sem, f2], by simp [go_sem, q0], by simp [go_sem, q1], by simp [go_sem, q2], hBB, by simp; omega⟩
end Go.Proofs.Ytomhojpoaicioaa
