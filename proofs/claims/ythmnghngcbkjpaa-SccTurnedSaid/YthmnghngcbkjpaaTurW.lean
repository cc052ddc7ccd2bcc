/- SccTurned: the walk. Conditions: the slices read as numbers, the number is one of 64 bits. -/
import Derived.Test.YthmnghngcbkjpaaOfW
import Derived.Test.YthmnghngcbkjpaaTur
import Derived.Test.YthmnghngcbkjpaaOmb
import Derived.Deep.Cut
namespace Go.Proofs.Ythmnghngcbkjpaa
open Go.RowKit
def TurR (n : Nat) (L : Nat → List Int) (w1 : World) (i j : Nat) (wr : World) : Prop :=
  ∃ vs, OMat w1.heap.size (fun _ => True) wr (.slice (some ⟨w1.heap.size, 0, none⟩) n n) (tmat n L i j) vs ∧ Below w1.heap.size w1 wr
def TurE (n : Nat) (p p2 : Nat → Nat) (ba bb : Nat) (w : World) (wr : World) : Prop := RowAt wr ba 3 n (fun x => natV (p x)) ∧ RowAt wr bb 3 n (fun x => natV (p2 x)) ∧ Below w.heap.size w wr
theorem TurE.drewN {n : Nat} {p p2 : Nat → Nat} {ba bb : Nat} {w wr : World} (h : TurE n p p2 ba bb w wr) (m : Nat) : TurE n p p2 ba bb w (wr.drewN m) := ⟨h.1.block rfl, h.2.1.block rfl, below_drewN h.2.2 m⟩
theorem iff_beq {a b c d : Nat} (h : a = b ↔ c = d) : ((a : Int) == (b : Int)) = ((c : Int) == (d : Int)) := by
  rw [Bool.eq_iff_iff, beq_iff_eq, beq_iff_eq]
  omega
set_option maxRecDepth 100000 in
set_option maxHeartbeats 8000000 in
theorem sccTurned_law (a0 : Int) (A1 : Option Addr) (l1 c1 : Nat) (w : World) (h : SomeMat w (.slice A1 l1 c1)) (h1 : -9223372036854775808 ≤ a0) (h2 : a0 ≤ 9223372036854775807) :
    Calls Try.prog 8 #[.int .i64 a0, .slice A1 l1 c1] w (TrueB w) := by
  obtain ⟨M, hM⟩ := h
  obtain ⟨i3, hi3, hz3, hs3, hb3⟩ := info_parts Try.info3
  have HFE := Lib.hid (few_any _ _ M w hM)
  have HBD := Lib.hid hM.bnd
  clear hM
  go_enter Try.func8, Try.ntmps8
  go_wp2_with fail
  refine (around_nat a0 11 _ h1 h2 (by omega) (by omega)).mono ?_
  rintro e w0 ⟨⟨k, hk, rfl⟩, rfl⟩
  go_wp2_with fail
  refine HFE.out.mono ?_
  rintro e w1 ⟨v, vs, rfl, hom, hb1⟩
  have hmat := few_mat HBD.out hom
  obtain ⟨Av, cv, rfl, _, hmx⟩ := hmat.form
  have hll : ((fewL M).length : Int) ≤ 9223372036854775807 := by unfold maxLen at hmx; omega
  have hmk := make_rows k (by omega)
  have HFS := Lib.hid (few_small M)
  have HFB := Lib.hid (few_bnd HBD.out)
  generalize fewL M = N at *
  have HMT := Lib.hid hmat
  have HB1 := Lib.hid hb1
  have HR0 : Hid (TurR k (useL N) w1 0 0 (w1.alloc (.cells (rowA k fun _ => .slice none 0 0) 30))) := by
    refine Lib.hid ⟨List.replicate k (.slice none 0 0), ?_, below_new w1 _⟩
    rw [tmat_start]
    exact omat_made (by rw [alloc_get2]; simp) (Nat.le_refl _) (by unfold maxLen; omega) trivial
  clear hom hb1 hmat hmx
  go_wp2_with fail
  clear hmk
  go_loopw [8] (fun v wr => ∃ i : Nat, v = .int .i64 i ∧ i ≤ k ∧ TurR k (useL N) w1 i 0 wr) (fun v _ => k - (intOf v).toNat)
  case atStart => exact ⟨0, rfl, Nat.zero_le _, HR0.out⟩
  case round =>
    obtain ⟨i, rfl, hi, hrel⟩ := hrel
    by_cases hik : i < k ∧ i < N.length
    · obtain ⟨hik, hil⟩ := hik
      have hiki : (i : Int) < (k : Int) := by omega
      have hili : (i : Int) < (N.length : Int) := by omega
      obtain ⟨bg, og, Ai, ci, rfl, hbg, hcg, hig⟩ := HMT.out.at i hil
      have euse : useL N i = N[i] := useL_in hil
      obtain ⟨hx1, _, hx2, hx3⟩ := hig.at
      have hls := HFS.out i
      rw [euse] at hls
      have hbnd := HFB.out _ (List.getElem_mem hil)
      generalize N[i] = u at *
      have HCG := Lib.hid hcg
      have HX3 := Lib.hid hx3
      have HEU := Lib.hid euse
      have HBN := Lib.hid hbnd
      have HR1 := Lib.hid hrel
      clear hcg hig hx3 hx2 hx1 euse hrel hbnd
      go_wp2_with fail
      go_loopw [9] (fun v wr => ∃ j : Nat, v = .int .i64 j ∧ j ≤ u.length ∧ TurR k (useL N) w1 i j wr) (fun v _ => u.length - (intOf v).toNat)
      case atStart => exact ⟨0, rfl, Nat.zero_le _, HR1.out⟩
      case round =>
        obtain ⟨j, rfl, hj, vs2, hom, hb⟩ := hrel
        have e1 := (hb.cell (p := ⟨bg, og + i, none⟩) hbg).trans HCG.out
        by_cases hju : j < u.length
        · have hji : (j : Int) < (u.length : Int) := by omega
          obtain ⟨bx, ox, rfl, _, hbx, hcx⟩ := HX3.out (by omega)
          have e2 := (hb.cell (p := ⟨bx, ox + j, none⟩) hbx).trans (hcx j hju)
          have hkL : j < (useL N i).length := by rw [HEU.out]; exact hju
          have ezL : (useL N i)[j] = u[j] := by simp only [HEU.out]
          have hzb := HBN.out _ (List.getElem_mem hju)
          have hzb1 := hzb.1
          have hzb2 := hzb.2
          generalize u[j] = z at *
          clear hcx hzb
          by_cases hz : 0 ≤ z ∧ z < k
          · have HPUT := Lib.hid (tmat_put hik hkL (by rw [ezL]; exact okZ_true hz.1 hz.2))
            obtain ⟨hz0, hz1⟩ := hz
            have hz2 : z ≥ 0 := hz0
            obtain ⟨m, hm⟩ : ∃ m : Nat, m = k - 1 - i := ⟨_, rfl⟩
            have hmi : (k : Int) - 1 - (i : Int) = (m : Int) := by omega
            have hmk9 : m < (tmat k (useL N) i j).length := by rw [tmat_len]; omega
            have hmki : (m : Int) < (k : Int) := by omega
            have hwk : IntKind.i64.wrap ((k : Int) - 1) = (k : Int) - 1 := IntWalk.i64_in _ (by omega)
            have hwm : IntKind.i64.wrap ((k : Int) - 1 - (i : Int)) = (m : Int) := by rw [hmi]; exact IntWalk.i64_in _ (by omega)
            have hwz : IntKind.i64.wrap ((k : Int) - 1 - z) = (k : Int) - 1 - z := IntWalk.i64_in _ (by omega)
            clear hmi
            rw [ezL] at HPUT
            obtain ⟨g, c, A, c', ev, _, hc1, hc2, hcell, hadd⟩ := hom.add (fun b _ => trivial) m hmk9
            injection ev with ev1 ev2 ev3
            injection ev1 with ev1
            injection ev1 with ev1
            subst ev1
            have hgl : w1.heap.size < wr.heap.size := (hom.own.lt _ rfl).2
            have hown := (hadd wr (Below.refl _ _)).2.1
            have hlen9 : (tmat k (useL N) i j)[m].length ≤ 1000 := by rw [tmat_get]; exact rowT_le HFS.out m
            have HTU : Hid (∀ W, Below wr.heap.size wr W → W.heap.size = wr.heap.size + 1 → ∀ gg cap w3, w3.ownsRow w1.heap.size 3 1 (.slice (some ⟨gg, 0, none⟩) ((tmat k (useL N) i j)[m].length + 1) cap) ((tmat k (useL N) i j)[m].length + 1) ((tmat k (useL N) i j)[m].map intV ++ [.int .i64 ((k : Int) - 1 - z)]) → W.grownBy w3 (Value.slice A (tmat k (useL N) i j)[m].length c').ownBlock → ((Value.slice A (tmat k (useL N) i j)[m].length c').ownBlock = some gg ∨ gg = wr.heap.size + 1) →
                w3.cell? ⟨w1.heap.size, m, none⟩ = some (.slice A (tmat k (useL N) i j)[m].length c') ∧ w3.frozen? ⟨w1.heap.size, m, none⟩ = false ∧ TurR k (useL N) w1 i (j + 1) (w3.setCell ⟨w1.heap.size, m, none⟩ (.slice (some ⟨gg, 0, none⟩) ((tmat k (useL N) i j)[m].length + 1) cap))) := by
              refine Lib.hid fun W hW hWs gg cap w3 q1 q2 q3 => ?_
              obtain ⟨r1, r2, ⟨vs7, r3⟩, _, r5, _⟩ := (hadd W hW).2.2 [(k : Int) - 1 - z] gg cap w3 q1 q2 (by rw [hWs]; exact q3)
              refine ⟨r1, r2, vs7, ?_, r5 w1 hb.size hb⟩
              rw [HPUT.out]
              simp only [hm] at r3 ⊢
              exact r3
            have HOWN := Lib.hid hown
            have HMX := Lib.hid (show (tmat k (useL N) i j)[m].length + 1 ≤ maxLen by unfold maxLen; omega)
            have HBY := Lib.hid (show ((tmat k (useL N) i j)[m].length + 1) * 8 ≤ 140737488355328 by omega)
            have HBS := Lib.hid hb.size
            have hca : (wr.alloc (.cells #[.int .i64 ((k : Int) - 1 - z)] 3)).cell? ⟨w1.heap.size, m, none⟩ = some (.slice A (tmat k (useL N) i j)[m].length c') := ((below_new wr _).cell (p := ⟨w1.heap.size, m, none⟩) hgl).trans hcell
            have hcb : (wr.drew.alloc (.cells #[.int .i64 ((k : Int) - 1 - z)] 3)).cell? ⟨w1.heap.size, m, none⟩ = some (.slice A (tmat k (useL N) i j)[m].length c') := (((Below.refl _ _).drew.trans (below_new wr.drew _)).cell (p := ⟨w1.heap.size, m, none⟩) hgl).trans hcell
            clear hom hb hadd hown ezL hkL hm ev2 ev3
            generalize (tmat k (useL N) i j)[m].map intV = xs at *
            generalize (tmat k (useL N) i j)[m].length = len at *
            clear hmk9
            go_upto_region 11 with (fail)
            go_region_law ((refine step_append_lies _ rfl (.tmp 70) (.tmp 81) 30 rfl w1.heap.size 3 i3 (.int .i64 0) 1 8 Try.underlying30 hi3 hz3 hs3 hb3 rfl (by decide) (.slice A len c') len xs rfl ((own_keep HOWN.out (fun _ _ => rfl)).alloc _) ⟨wr.heap.size, 0, none⟩ 1 1 [.int .i64 ((k : Int) - 1 - z)] rfl rfl (one_new _ _ 3) (one_int _) (by decide) HMX.out HBY.out (by have := HBS.out; simp; omega) (wr.heap.size + 1) (by simp) ?_; intro gg cap w7 h2 g2 hat _; (first | obtain ⟨q1, q2, q3⟩ := HTU.out (wr.drew.alloc (.cells #[.int .i64 ((k : Int) - 1 - z)] 3)) (((Below.refl _ _).drew).trans (below_new wr.drew _)) (by simp) gg cap w7 h2 g2 hat | obtain ⟨q1, q2, q3⟩ := HTU.out ((wr.alloc (.cells #[.int .i64 ((k : Int) - 1 - z)] 3)).drew) ((below_new wr _).drew) (by simp) gg cap w7 h2 g2 hat); have Q3 := Lib.hid q3; clear q3 h2 g2 hat))
            all_goals
              clear q1 q2
              go_wp2
              go_roundw
              case rel => exact ⟨j + 1, by go_num, by omega, Q3.out⟩
              case measure => simp [intOf]; omega
          · have HREL : Hid (TurR k (useL N) w1 i (j + 1) wr) := Lib.hid ⟨vs2, by rw [tmat_skip hkL (by rw [ezL]; exact okZ_false hz)]; exact hom, hb⟩
            clear hom hb ezL hkL
            by_cases hz0 : 0 ≤ z
            · have hz1 : ¬ z < (k : Int) := fun e => hz ⟨hz0, e⟩
              have hz2 : z ≥ 0 := hz0
              clear hz
              go_wp2
              go_roundw
              case rel => exact ⟨j + 1, by go_num, by omega, HREL.out⟩
              case measure => simp [intOf]; omega
            · have hz2 : ¬ z ≥ 0 := hz0
              clear hz
              go_wp2
              go_roundw
              case rel => exact ⟨j + 1, by go_num, by omega, HREL.out⟩
              case measure => simp [intOf]; omega
        · have hji : ¬ (j : Int) < (u.length : Int) := by omega
          have HREL : Hid (TurR k (useL N) w1 (i + 1) 0 wr) := Lib.hid ⟨vs2, by rw [← tmat_next (j := j) (by rw [HEU.out]; omega)]; exact hom, hb⟩
          clear hom hb
          go_wp2
          go_roundw
          case rel => exact ⟨i + 1, by go_num, by omega, HREL.out⟩
          case measure => simp [intOf]; omega
    · obtain ⟨ld, hld⟩ := ld_some k (useL N)
      obtain ⟨ld2, hld2⟩ := ld_some k (useL (tmat k (useL N) i 0))
      obtain ⟨vs2, hom, hb⟩ := hrel
      have HUS : Hid (useL (tmat k (useL N) i 0) = turnL k (useL N)) := Lib.hid (tmat_use (fun a h9 h8 => useL_out (by omega)))
      have HG1 := Lib.hid (groups_any k _ N ld wr ((HMT.out.on hb).mono (fun _ h => Nat.lt_of_lt_of_le h hb.size)) (by omega) HFS.out hld)
      have HTM : Hid (MatAt (fun b => b < wr.heap.size) wr (.slice (some ⟨w1.heap.size, 0, none⟩) k k) (tmat k (useL N) i 0)) := Lib.hid ((hom.mat (tmat_bnd (by omega))).bound.mono (fun _ h => h.2))
      have HLD := Lib.hid hld
      have HLD2 := Lib.hid hld2
      have HBR := Lib.hid hb
      have HBX : Hid (Below wr.heap.size wr wr) := Lib.hid (Below.refl _ _)
      have hcond : (i < k ∧ ¬ i < N.length) ∨ ¬ i < k := by omega
      clear hom hb hld hld2 hik
      rcases hcond with ⟨h7, h8⟩ | h7
      · have hiki : (i : Int) < (k : Int) := by omega
        have hili : ¬ (i : Int) < (N.length : Int) := by omega
        go_wp2_with fail
        refine HG1.out.mono ?_
        rintro e w3 ⟨gv, r, rfl, hgm, hrow, hb3⟩
        obtain ⟨Ag, cg, rfl, _, _⟩ := hgm.form
        have HO1 := Lib.hid (of_any k _ r (useL N) w3 (hgm.mono (fun _ h => h.2)) (by omega) (hrow.ok HLD.out))
        have HB3 := Lib.hid (HBX.out.trans (hb3.mono HBX.out.size))
        clear hgm hrow hb3
        go_wp2_with fail
        refine HO1.out.mono ?_
        rintro e w4 ⟨p, ba, rfl, hra, hpa, hb4⟩
        have HB4 := Lib.hid (HB3.out.trans (hb4.mono HB3.out.size))
        have HRA := Lib.hid hra
        have HPA := Lib.hid hpa
        have HG2 := Lib.hid (groups_any k _ (tmat k (useL N) i 0) ld2 w4 ((HTM.out.on HB4.out).mono (fun _ h => Nat.lt_of_lt_of_le h HB4.out.size)) (by omega) (fun m => tmat_small HFS.out m) HLD2.out)
        clear hra hpa hb4
        go_wp2_with fail
        refine HG2.out.mono ?_
        rintro e w5 ⟨gv2, r2, rfl, hgm, hrow, hb5⟩
        obtain ⟨Ag2, cg2, rfl, _, _⟩ := hgm.form
        have HO2 := Lib.hid (of_any k _ r2 (turnL k (useL N)) w5 (hgm.mono (fun _ h => h.2)) (by omega) (hrow.ok (HUS.out ▸ HLD2.out)))
        have hb45 := hb5
        have HB5 := Lib.hid (HB4.out.trans (hb5.mono HB4.out.size))
        have HRA5 := Lib.hid (HRA.out.block (hb5.block _ HRA.out.lt))
        clear hgm hrow hb5 hb45
        go_wp2_with fail
        refine HO2.out.mono ?_
        rintro e w6 ⟨p2, bb, rfl, hrb, hpb, hb6⟩
        have HE0 : Hid (TurE k p p2 ba bb w w6) := Lib.hid ⟨HRA5.out.block (hb6.block _ HRA5.out.lt), hrb, (HB1.out.trans ((HBR.out.trans (HB5.out.mono HBR.out.size)).mono HB1.out.size)).trans (hb6.mono (by have := HB5.out.size; have := HBR.out.size; have := HB1.out.size; omega))⟩
        have HPP : Hid (∀ x y, x < k → y < k → ((p x = p y) ↔ (p2 (k - 1 - x) = p2 (k - 1 - y)))) := Lib.hid fun x y hx hy => by
          rw [HPA.out x y hx hy, hpb (k - 1 - x) (k - 1 - y) (by omega) (by omega)]
          exact Mut.turn hx hy
        have hwk : IntKind.i64.wrap ((k : Int) - 1) = (k : Int) - 1 := IntWalk.i64_in _ (by omega)
        clear hrb hpb hb6
        go_wp2_with fail
        go_loopw [12] (fun v wx => ∃ x : Nat, v = .int .i64 x ∧ x ≤ k ∧ TurE k p p2 ba bb w wx) (fun v _ => k - (intOf v).toNat)
        case atStart => exact ⟨0, rfl, Nat.zero_le _, HE0.out⟩
        case round =>
          obtain ⟨x, rfl, hxk, hrel⟩ := hrel
          have HRX := Lib.hid hrel
          clear hrel
          by_cases hlx : x < k
          · have hxi : (x : Int) < (k : Int) := by omega
            obtain ⟨ma, hma⟩ : ∃ m : Nat, m = k - 1 - x := ⟨_, rfl⟩
            have hwa : IntKind.i64.wrap ((k : Int) - 1 - (x : Int)) = (ma : Int) := by rw [show (k : Int) - 1 - (x : Int) = (ma : Int) by omega]; exact IntWalk.i64_in _ (by omega)
            have hmai : (ma : Int) < (k : Int) := by omega
            have HMA := Lib.hid hma
            clear hma
            go_wp2_with fail
            go_loopw [13] (fun v wx => ∃ y : Nat, v = .int .i64 y ∧ y ≤ k ∧ TurE k p p2 ba bb w wx) (fun v _ => k - (intOf v).toNat)
            case atStart => exact ⟨0, rfl, Nat.zero_le _, HRX.out⟩
            case round =>
              obtain ⟨y, rfl, hyk, hrel⟩ := hrel
              by_cases hly : y < k
              · have hyi : (y : Int) < (k : Int) := by omega
                obtain ⟨mb, hmb⟩ : ∃ m : Nat, m = k - 1 - y := ⟨_, rfl⟩
                have hwb : IntKind.i64.wrap ((k : Int) - 1 - (y : Int)) = (mb : Int) := by rw [show (k : Int) - 1 - (y : Int) = (mb : Int) by omega]; exact IntWalk.i64_in _ (by omega)
                have hmbi : (mb : Int) < (k : Int) := by omega
                have hma2 := HMA.out
                have c1 := hrel.1.cell hlx
                have c2 := hrel.1.cell hly
                have c3 := hrel.2.1.cell (i := ma) (by omega)
                have c4 := hrel.2.1.cell (i := mb) (by omega)
                have hqq := iff_beq (HPP.out x y hlx hly)
                rw [← hma2, ← hmb] at hqq
                unfold natV at c1 c2 c3 c4
                generalize hq : ((p2 ma : Int) == (p2 mb : Int)) = q at *
                have hne : (q != q) = false := by simp
                have HREL : Hid (∀ m, TurE k p p2 ba bb w (wr.drewN m)) := Lib.hid fun m => hrel.drewN m
                clear hrel hmb hma2
                go_wp2_with fail
                go_quiet (fail)
                go_wp2_with fail
                go_roundw
                case rel => exact ⟨y + 1, by go_num, by omega, HREL.out _⟩
                case measure => simp [intOf]; omega
              · have hyi : ¬ (y : Int) < (k : Int) := by omega
                have HREL := Lib.hid hrel
                clear hrel
                go_wp2
                go_roundw
                case rel => exact ⟨x + 1, by go_num, by omega, HREL.out⟩
                case measure => simp [intOf]; omega
          · have hxi : ¬ (x : Int) < (k : Int) := by omega
            have HLV := Lib.hid (lives_any wr)
            have HBL := Lib.hid HRX.out.2.2
            go_wp2_with fail
            refine HLV.out.mono ?_
            rintro e w7 ⟨rfl, hb7⟩
            have HB7 := Lib.hid (HBL.out.trans (hb7.mono HBL.out.size))
            clear hb7
            go_wp2
            go_ret
            exact ⟨rfl, HB7.out⟩
      · have hiki : ¬ (i : Int) < (k : Int) := by omega
        go_wp2_with fail
        refine HG1.out.mono ?_
        rintro e w3 ⟨gv, r, rfl, hgm, hrow, hb3⟩
        obtain ⟨Ag, cg, rfl, _, _⟩ := hgm.form
        have HO1 := Lib.hid (of_any k _ r (useL N) w3 (hgm.mono (fun _ h => h.2)) (by omega) (hrow.ok HLD.out))
        have HB3 := Lib.hid (HBX.out.trans (hb3.mono HBX.out.size))
        clear hgm hrow hb3
        go_wp2_with fail
        refine HO1.out.mono ?_
        rintro e w4 ⟨p, ba, rfl, hra, hpa, hb4⟩
        have HB4 := Lib.hid (HB3.out.trans (hb4.mono HB3.out.size))
        have HRA := Lib.hid hra
        have HPA := Lib.hid hpa
        have HG2 := Lib.hid (groups_any k _ (tmat k (useL N) i 0) ld2 w4 ((HTM.out.on HB4.out).mono (fun _ h => Nat.lt_of_lt_of_le h HB4.out.size)) (by omega) (fun m => tmat_small HFS.out m) HLD2.out)
        clear hra hpa hb4
        go_wp2_with fail
        refine HG2.out.mono ?_
        rintro e w5 ⟨gv2, r2, rfl, hgm, hrow, hb5⟩
        obtain ⟨Ag2, cg2, rfl, _, _⟩ := hgm.form
        have HO2 := Lib.hid (of_any k _ r2 (turnL k (useL N)) w5 (hgm.mono (fun _ h => h.2)) (by omega) (hrow.ok (HUS.out ▸ HLD2.out)))
        have hb45 := hb5
        have HB5 := Lib.hid (HB4.out.trans (hb5.mono HB4.out.size))
        have HRA5 := Lib.hid (HRA.out.block (hb5.block _ HRA.out.lt))
        clear hgm hrow hb5 hb45
        go_wp2_with fail
        refine HO2.out.mono ?_
        rintro e w6 ⟨p2, bb, rfl, hrb, hpb, hb6⟩
        have HE0 : Hid (TurE k p p2 ba bb w w6) := Lib.hid ⟨HRA5.out.block (hb6.block _ HRA5.out.lt), hrb, (HB1.out.trans ((HBR.out.trans (HB5.out.mono HBR.out.size)).mono HB1.out.size)).trans (hb6.mono (by have := HB5.out.size; have := HBR.out.size; have := HB1.out.size; omega))⟩
        have HPP : Hid (∀ x y, x < k → y < k → ((p x = p y) ↔ (p2 (k - 1 - x) = p2 (k - 1 - y)))) := Lib.hid fun x y hx hy => by
          rw [HPA.out x y hx hy, hpb (k - 1 - x) (k - 1 - y) (by omega) (by omega)]
          exact Mut.turn hx hy
        have hwk : IntKind.i64.wrap ((k : Int) - 1) = (k : Int) - 1 := IntWalk.i64_in _ (by omega)
        clear hrb hpb hb6
        go_wp2_with fail
        go_loopw [12] (fun v wx => ∃ x : Nat, v = .int .i64 x ∧ x ≤ k ∧ TurE k p p2 ba bb w wx) (fun v _ => k - (intOf v).toNat)
        case atStart => exact ⟨0, rfl, Nat.zero_le _, HE0.out⟩
        case round =>
          obtain ⟨x, rfl, hxk, hrel⟩ := hrel
          have HRX := Lib.hid hrel
          clear hrel
          by_cases hlx : x < k
          · have hxi : (x : Int) < (k : Int) := by omega
            obtain ⟨ma, hma⟩ : ∃ m : Nat, m = k - 1 - x := ⟨_, rfl⟩
            have hwa : IntKind.i64.wrap ((k : Int) - 1 - (x : Int)) = (ma : Int) := by rw [show (k : Int) - 1 - (x : Int) = (ma : Int) by omega]; exact IntWalk.i64_in _ (by omega)
            have hmai : (ma : Int) < (k : Int) := by omega
            have HMA := Lib.hid hma
            clear hma
            go_wp2_with fail
            go_loopw [13] (fun v wx => ∃ y : Nat, v = .int .i64 y ∧ y ≤ k ∧ TurE k p p2 ba bb w wx) (fun v _ => k - (intOf v).toNat)
            case atStart => exact ⟨0, rfl, Nat.zero_le _, HRX.out⟩
            case round =>
              obtain ⟨y, rfl, hyk, hrel⟩ := hrel
              by_cases hly : y < k
              · have hyi : (y : Int) < (k : Int) := by omega
                obtain ⟨mb, hmb⟩ : ∃ m : Nat, m = k - 1 - y := ⟨_, rfl⟩
                have hwb : IntKind.i64.wrap ((k : Int) - 1 - (y : Int)) = (mb : Int) := by rw [show (k : Int) - 1 - (y : Int) = (mb : Int) by omega]; exact IntWalk.i64_in _ (by omega)
                have hmbi : (mb : Int) < (k : Int) := by omega
                have hma2 := HMA.out
                have c1 := hrel.1.cell hlx
                have c2 := hrel.1.cell hly
                have c3 := hrel.2.1.cell (i := ma) (by omega)
                have c4 := hrel.2.1.cell (i := mb) (by omega)
                have hqq := iff_beq (HPP.out x y hlx hly)
                rw [← hma2, ← hmb] at hqq
                unfold natV at c1 c2 c3 c4
                generalize hq : ((p2 ma : Int) == (p2 mb : Int)) = q at *
                have hne : (q != q) = false := by simp
                have HREL : Hid (∀ m, TurE k p p2 ba bb w (wr.drewN m)) := Lib.hid fun m => hrel.drewN m
                clear hrel hmb hma2
                go_wp2_with fail
                go_quiet (fail)
                go_wp2_with fail
                go_roundw
                case rel => exact ⟨y + 1, by go_num, by omega, HREL.out _⟩
                case measure => simp [intOf]; omega
              · have hyi : ¬ (y : Int) < (k : Int) := by omega
                have HREL := Lib.hid hrel
                clear hrel
                go_wp2
                go_roundw
                case rel => exact ⟨x + 1, by go_num, by omega, HREL.out⟩
                case measure => simp [intOf]; omega
          · have hxi : ¬ (x : Int) < (k : Int) := by omega
            have HLV := Lib.hid (lives_any wr)
            have HBL := Lib.hid HRX.out.2.2
            go_wp2_with fail
            refine HLV.out.mono ?_
            rintro e w7 ⟨rfl, hb7⟩
            have HB7 := Lib.hid (HBL.out.trans (hb7.mono HBL.out.size))
            clear hb7
            go_wp2
            go_ret
            exact ⟨rfl, HB7.out⟩
end Go.Proofs.Ythmnghngcbkjpaa
