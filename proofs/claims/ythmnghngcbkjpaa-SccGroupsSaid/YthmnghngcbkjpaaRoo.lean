/- roots: of each thing one of its group. No conditions but those that each theorem names. -/
import Derived.Test.YthmnghngcbkjpaaRtA
namespace Go.Proofs.Ythmnghngcbkjpaa
open Go.RowKit
set_option maxRecDepth 100000 in
set_option maxHeartbeats 8000000 in
theorem roots_any (n : Nat) (uv : Value) (M : List (List Int)) (w : World) (h : MatAt (fun b => b < w.heap.size) w uv M) (hn : n ≤ 1099511627776) :
    Calls Try.prog 19 #[.agg #[.int .i64 n, uv]] w (RootsRes n (useL M) w) := by
  obtain ⟨Au, cu, rfl, _, _⟩ := h.form
  generalize hml : M.length = ml at *
  have hmk := make_ints n hn
  have H := Lib.hid h
  have HN := Lib.hid hn
  clear h hml
  go_enter Try.func19, Try.ntmps19
  go_wp2_with fail
  go_cut [3] (fun v wx => StartRel n (.slice Au ml cu) M w v wx)
  case first =>
    go_region
    all_goals
      go_wp2_with fail
      go_meet
      first | exact start_pos1 H.out _ _ _ (by omega) (by omega) (by omega) (by omega) | exact start_pos2 H.out _ _ _ (by omega) (by omega) (by omega) (by omega) | exact start_pos3 H.out _ _ _ (by omega) (by omega) (by omega) (by omega) | exact start_pos4 H.out _ _ _ (by omega) (by omega) (by omega) (by omega)
  case rest =>
    obtain ⟨sb, cb, lb, rb, rfl, hs, hb, h7⟩ := hcut
    clear hmk
    have HR0 : Hid (RootsRel n w.heap.size sb cb lb rb (.slice Au ml cu) M w 0 wc) := Lib.hid ⟨_, _, _, hs, Inv.start n (useL M), rfl, fun j hj => absurd hj (Nat.not_lt_zero _), hb⟩
    clear hs hb
    go_wp2_with fail
    clear h7
    go_loopw [18] (fun v wr => ∃ k : Nat, v = .int .i64 k ∧ k ≤ n ∧ RootsRel n w.heap.size sb cb lb rb (.slice Au ml cu) M w k wr) (fun v _ => n - (intOf v).toNat)
    case atStart => exact ⟨0, rfl, Nat.zero_le _, HR0.out⟩
    case round =>
      obtain ⟨k, rfl, hk, s, ov, pv, hs, hI, hp, hcm, hb⟩ := hrel
      have hn := HN.out
      by_cases hlt : k < n
      · have hki : (k : Int) < (n : Int) := by omega
        obtain ⟨_, _, _, d3, _, _, _, _, _⟩ := hs.cells
        have hcc := hs.come.cell hlt
        unfold natV at hcc
        by_cases h0 : s.come k = 0
        · have HF := Lib.hid (from_any hs hI hn hp k hlt h0)
          have HCM := Lib.hid hcm
          have HB := Lib.hid hb
          rw [h0] at hcc
          clear hs hI hp hcm hb h0
          go_wp2_with fail
          refine HF.out.mono ?_
          rintro e w2 ⟨rfl, s3, ov3, pv3, hs3, hI3, hp3, hmo3, hk3, hb3⟩
          have HREL : Hid (RootsRel n w.heap.size sb cb lb rb (.slice Au ml cu) M w (k + 1) w2) := Lib.hid ⟨s3, ov3, pv3, hs3, hI3, hp3, fun j hj => by
            by_cases e : j = k
            · rw [e]; exact hk3
            · exact hmo3 j (HCM.out j (by omega)), HB.out.trans hb3⟩
          clear hs3 hI3 hp3 hmo3 hk3 hb3
          go_wp2
          go_roundw
          case rel => exact ⟨k + 1, by go_num, by omega, HREL.out⟩
          case measure => simp [intOf]; omega
        · have HREL : Hid (RootsRel n w.heap.size sb cb lb rb (.slice Au ml cu) M w (k + 1) wr) := Lib.hid ⟨s, ov, pv, hs, hI, hp, fun j hj => by
            by_cases e : j = k
            · rw [e]; exact h0
            · exact hcm j (by omega), hb⟩
          have hci : ((s.come k : Int) == 0) = false := by rw [beq_eq_false_iff_ne]; omega
          clear hs hI hp hcm hb h0
          go_wp2
          go_roundw
          case rel => exact ⟨k + 1, by go_num, by omega, HREL.out⟩
          case measure => simp [intOf]; omega
      · have ek : k = n := by omega
        subst ek
        obtain ⟨_, _, _, _, _, _, _, d7, _⟩ := hs.cells
        have hall : ∀ i, i < k → s.shutP k i := fun i hi => ⟨hi, hcm i hi, by rw [hI.empty hp]; simp⟩
        have HFIN : Hid (RootsRes k (useL M) w (.returned (.slice (some ⟨rb, 0, none⟩) k k)) wr) := Lib.hid ⟨s.root, rb, rfl, hs.root, hs.le.2.2.2.1, fun i hi => (hI.group i (hall i hi)).2.1, fun i j hi hj => ⟨fun e => by
          have h1 := (hI.group i (hall i hi)).1
          have h2 := (hI.group j (hall j hj)).1
          rw [e] at h1
          exact h1.trans h2.symm, fun e => ((hI.group i (hall i hi)).2.2 j hj e).2.symm⟩, hb⟩
        clear hs hI hp hcm hb hall
        go_wp2
        go_ret
        exact HFIN.out
end Go.Proofs.Ythmnghngcbkjpaa
