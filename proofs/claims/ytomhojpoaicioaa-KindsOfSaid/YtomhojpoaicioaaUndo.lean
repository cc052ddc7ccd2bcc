/- The contract of a trial's undo. Conditions: those that the theorem names. -/
import Derived.Test.YtomhojpoaicioaaJoin
import Derived.LoopTactic
namespace Go.Proofs.Ytomhojpoaicioaa
open Go.RowKit
/-- What undo did. -/
def URes (L : Nat → Prop) (tb sb mb : Nat) (made : Int) (kn : Kn) (bv : Value) (fs : List F5) (log : List (Int × Option Tz)) (w : World) (e : Ending) (w' : World) : Prop :=
  e = .returned (.tuple #[]) ∧ ∃ sz', TrAt L w' tb sb mb sz' made (undoL log kn) bv fs log ∧ Fr tb sb mb bv bv w w'
theorem cellsF_at {fs : List F5} {k : Nat} (hk : k < fs.length) (j : Nat) (hj : j < 5) : (cellsF fs)[k * 5 + j]? = fs[k].cells[j]? := by
  induction fs generalizing k with
  | nil => simp at hk
  | cons f r ih =>
    have hl : f.cells.length = 5 := rfl
    cases k with
    | zero =>
      simp only [cellsF, List.flatMap_cons, Nat.zero_mul, Nat.zero_add, List.getElem_cons_zero]
      rw [List.getElem?_append_left (by omega)]
    | succ k =>
      simp only [cellsF, List.flatMap_cons, List.getElem_cons_succ]
      rw [List.getElem?_append_right (by omega), hl, show (k + 1) * 5 + j - 5 = k * 5 + j by omega]
      exact ih (by simpa using hk)
theorem TrAt.fact {L : Nat → Prop} {w : World} {tb sb mb sz : Nat} {made : Int} {kn : Kn} {bv : Value} {fs : List F5} {log : List (Int × Option Tz)} (h : TrAt L w tb sb mb sz made kn bv fs log) {k : Nat} (hk : k < fs.length) :
    ∃ g c, bv = .slice (some ⟨g, 0, none⟩) fs.length c ∧ fs.length ≤ c ∧ c ≤ maxLen ∧ w.cell? ⟨g, k * 5, none⟩ = some (.int .i64 fs[k].n) ∧ w.cell? ⟨g, k * 5 + 1, none⟩ = some fs[k].a ∧ w.cell? ⟨g, k * 5 + 2, none⟩ = some fs[k].b ∧ w.cell? ⟨g, k * 5 + 3, none⟩ = some fs[k].c ∧ w.cell? ⟨g, k * 5 + 4, none⟩ = some (.bool fs[k].k) := by
  have hx : ∃ g c, bv = .slice (some ⟨g, 0, none⟩) fs.length c ∧ fs.length ≤ c ∧ c ≤ maxLen := by
    rcases h.row with ⟨_, ⟨_, h2⟩ | ⟨g, c, cur, h2, _, _, h3, h4, _⟩⟩
    · omega
    · exact ⟨g, c, h2, h3, h4⟩
  obtain ⟨g, c, rfl, hc1, hc2⟩ := hx
  have hc := fun j (hj : j < 5) => h.row.cellAt (k * 5 + j) (by omega)
  refine ⟨g, c, rfl, hc1, hc2, ?_, ?_, ?_, ?_, ?_⟩
  · have := hc 0 (by omega); rw [cellsF_at hk 0 (by omega)] at this; exact this
  · rw [hc 1 (by omega), cellsF_at hk 1 (by omega)]; rfl
  · rw [hc 2 (by omega), cellsF_at hk 2 (by omega)]; rfl
  · rw [hc 3 (by omega), cellsF_at hk 3 (by omega)]; rfl
  · rw [hc 4 (by omega), cellsF_at hk 4 (by omega)]; rfl
set_option maxRecDepth 100000 in
set_option maxHeartbeats 2000000 in
theorem undo_any (L : Nat → Prop) (w : World) (tb sb mb sz : Nat) (made : Int) (kn : Kn) (bv : Value) (fs : List F5) (log : List (Int × Option Tz)) (hT : TrAt L w tb sb mb sz made kn bv fs log) (hsz : sz + log.length < 1000000000) (hlg : log.length < 1000000000) :
    Calls Try.prog 46 #[.pointer (some ⟨tb, 0, none⟩)] w (URes L tb sb mb made kn bv fs log w) := by
  have t1 := hT.t1
  obtain ⟨Ab, cbv, rfl⟩ := own_form hT.row
  have hl := hT.log.1
  have HT := Lib.hid hT
  have HL := Lib.hid hl
  have hfl : fs.length < 1000000000 := by omega
  clear hT hl
  go_enter Try.func46, Try.ntmps46
  go_wp2_with fail
  go_loopw [2] (fun i wr => ∃ k, k ≤ fs.length ∧ i = .int .i64 ((k : Int) - 1) ∧ ∃ szk, szk + k ≤ sz + fs.length ∧ TrAt L wr tb sb mb szk made (undoL (log.drop k) kn) (.slice Ab fs.length cbv) fs log ∧ Fr tb sb mb (.slice Ab fs.length cbv) (.slice Ab fs.length cbv) w wr) (fun i _ => (intOf i + 1).toNat)
  case atStart =>
    refine ⟨fs.length, Nat.le_refl _, rfl, sz, Nat.le_refl _, ?_, Fr.of_below (Below.refl _ _)⟩
    have h9 : log.drop fs.length = [] := by rw [HL.out, List.drop_length]
    rw [h9]
    exact HT.out
  case round =>
    obtain ⟨k, hk, rfl, szk, hz, hTk, hF⟩ := hrel
    have HTK := Lib.hid hTk
    have HFK := Lib.hid hF
    clear hTk hF
    cases k with
    | zero =>
      go_wp2
      go_end0
      exact ⟨rfl, szk, HTK.out, HFK.out⟩
    | succ k =>
      obtain ⟨g, c, ebv, hc1, hc2, k0, k1, k2, k3, k4⟩ := HTK.out.fact (k := k) (by omega)
      injection ebv with e1 e2 e3
      subst e1 e3
      have t1 := HTK.out.t1
      have HE := Lib.hid (show ((k + 1 : Nat) : Int) - 1 = (k : Int) by omega)
      rw [HE.out]
      have hk0 : (0 : Int) ≤ (k : Int) := by omega
      have hk1 : (k : Int) < (fs.length : Int) := by omega
      unfold maxLen at hc2
      have hkl : k < log.length := by have := HL.out; omega
      have hdrop : log.drop k = log[k] :: log.drop (k + 1) := List.drop_eq_getElem_cons hkl
      obtain ⟨q1, q2, ⟨q3, q4⟩, q5, qx, qy, qA, qm, qc, qa, qb, qcc⟩ := HTK.out.log.2 k (by omega) hkl
      have t0 := HTK.out.t0
      have s1 := HTK.out.sol.c1
      have slt := HTK.out.sol.lt
      have tlt := HTK.out.tlt
      have hne : wr.heap.size ≠ tb := by omega
      rw [qa, qb, qcc] at q5
      rw [qa] at k1
      rw [qb] at k2
      rw [qcc] at k3
      generalize fs[k].n = fn at *
      generalize fs[k].k = fk at *
      clear qa qb qcc
      generalize log[k] = lk at *
      obtain ⟨n, old⟩ := lk
      obtain rfl : fn = n := q1
      have hd1 : ∀ kn0 : Kn, undoL (log.drop k) kn0 = setK (undoL (log.drop (k + 1)) kn0) fn old := fun kn0 => by rw [hdrop]; rfl
      have HD1 := Lib.hid (hd1 kn)
      have hbox := below_new wr (.cells #[.int .i64 fn, .int .i64 qx, .int .i64 qy, .slice qA qm qc, .bool fk] 106)
      have HT1 := Lib.hid (HTK.out.on hbox.drew)
      clear hdrop hd1
      cases old with
      | some t =>
        obtain rfl : fk = true := q2
        have hzt := (q5 t rfl).on hbox.drew
        obtain ⟨f3, hM3, hf3⟩ := HT1.out.sol.known
        obtain ⟨W9, hrun, hMW, hgW⟩ := hM3.store Try.underlying3 Try.underlying83 (by unfold maxLen; omega) (.agg #[.int .i64 qx, .int .i64 qy, .slice qA qm qc]) q3 q4
        obtain ⟨hT4, fr4⟩ := HT1.out.store (x := some t) hf3 hMW hgW ⟨_, rfl, hzt⟩
        have HT4 := Lib.hid hT4
        have HF4 := Lib.hid ((HFK.out.trans (Fr.of_below hbox.drew)).trans fr4)
        have hz9 : (if (f3 fn).isSome then szk else szk + 1) ≤ szk + 1 := by split <;> omega
        have HZ9 := Lib.hid hz9
        generalize (if (f3 fn).isSome then szk else szk + 1) = sz9 at *
        clear q5 hzt hM3 hf3 hMW hgW hT4 fr4 hbox hz9
        go_wp2_with fail
        go_region
        all_goals go_wp2_with fail
        all_goals
          refine ⟨⟨k, by omega, rfl, sz9, by have := HZ9.out; omega, ?_, HF4.out⟩, by simp only [intOf]; omega⟩
          rw [HD1.out]
          exact HT4.out
      | none =>
        obtain rfl : fk = false := q2
        obtain ⟨f3, hM3, hf3⟩ := HT1.out.sol.known
        obtain ⟨W9, hrun, hMW, hgW⟩ := hM3.drop Try.underlying3 Try.underlying83 q3 q4 0
        obtain ⟨hT4, fr4⟩ := HT1.out.store (x := none) (v := none) hf3 hMW hgW rfl
        have HT4 := Lib.hid hT4
        have HF4 := Lib.hid ((HFK.out.trans (Fr.of_below hbox.drew)).trans fr4)
        have hz9 : (if (f3 fn).isSome then szk - 1 else szk) ≤ szk + 1 := by split <;> omega
        have HZ9 := Lib.hid hz9
        generalize (if (f3 fn).isSome then szk - 1 else szk) = sz9 at *
        clear q5 hM3 hf3 hMW hgW hT4 fr4 hbox hz9
        go_wp2_with fail
        go_region
        all_goals go_wp2_with fail
        all_goals
          refine ⟨⟨k, by omega, rfl, sz9, by have := HZ9.out; omega, ?_, HF4.out⟩, by simp only [intOf]; omega⟩
          rw [HD1.out]
          exact HT4.out
end Go.Proofs.Ytomhojpoaicioaa
