/- SccRow: the walk. Conditions: the slices read as numbers, the number is one of 64 bits. -/
import Derived.Test.YthmnghngcbkjpaaLiv
import Derived.Test.YthmnghngcbkjpaaFew
import Derived.Test.YthmnghngcbkjpaaOnce
namespace Go.Proofs.Ythmnghngcbkjpaa
open Go.RowKit
/-- A slice of slices that reads as some numbers. -/
def SomeMat (w : World) (v : Value) : Prop := ∃ M, MatAt (fun b => b < w.heap.size) w v M
theorem MatAt.bnd {P : Nat → Prop} {w : World} {v : Value} {M : List (List Int)} (h : MatAt P w v M) : ∀ r ∈ M, ∀ z ∈ r, -9223372036854775808 ≤ z ∧ z ≤ 9223372036854775807 := by
  obtain ⟨A, c, _, _, _, hr⟩ := h
  intro r hrm
  obtain ⟨i, hi, rfl⟩ := List.getElem_of_mem hrm
  rcases hr with hr | ⟨b, off, _, _, _, hc⟩
  · rw [hr] at hi; simp at hi
  · obtain ⟨u, _, _, _, _, _, _, h9, _⟩ := hc i hi
    exact h9
theorem few_bnd {M : List (List Int)} (h : ∀ r ∈ M, ∀ z ∈ r, -9223372036854775808 ≤ z ∧ z ≤ 9223372036854775807) : ∀ r ∈ fewL M, ∀ z ∈ r, -9223372036854775808 ≤ z ∧ z ≤ 9223372036854775807 := by
  intro r hr z hz
  obtain ⟨q, hq, rfl⟩ := List.mem_map.1 hr
  exact h q (List.mem_of_mem_take hq) z (List.mem_of_mem_take hz)
theorem few_small (M : List (List Int)) (i : Nat) : (useL (fewL M) i).length ≤ 1000 := by
  rcases Nat.lt_or_ge i (fewL M).length with h | h
  · rw [useL_in h]
    have : (fewL M)[i] ∈ fewL M := List.getElem_mem h
    obtain ⟨q, _, e⟩ := List.mem_map.1 this
    rw [← e, List.length_take]; omega
  · rw [useL_out h]; simp
/-- What Few made, as a matrix. -/
theorem few_mat {M : List (List Int)} {w w' : World} {v : Value} {vs : List Value} (hM : ∀ r ∈ M, ∀ z ∈ r, -9223372036854775808 ≤ z ∧ z ≤ 9223372036854775807) (h : OMat w.heap.size (fun _ => True) w' v (fewL M) vs) : MatAt (fun b => b < w'.heap.size) w' v (fewL M) :=
  (h.mat (few_bnd hM)).bound.mono (fun _ hb => hb.2)
theorem PlOk.le {r : List (List Nat)} {n i j : Nat} {p : Nat → Nat} {many : Nat} {L : Nat → List Int} (h : PlOk r n i j p many) (hr : RowOk n L r) : many ≤ n := by
  have ht := hr.total
  have e : r.flatten = (r.take i).flatten ++ (r.drop i).flatten := by rw [← List.flatten_append, List.take_append_drop]
  have hl := congrArg List.length e
  rw [List.length_append, ht] at hl
  rw [h.many, List.length_append]
  have : ((r.getD i []).take j).length ≤ (r.drop i).flatten.length := by
    rcases Nat.lt_or_ge i r.length with h9 | h9
    · rw [getD_at r i h9, List.drop_eq_getElem_cons h9, List.flatten_cons, List.length_append, List.length_take]; omega
    · rw [List.getD_eq_getElem?_getD, List.getElem?_eq_none h9]; simp
  omega
def RowL (pb k : Nat) (r : List (List Nat)) (w W : World) (i j : Nat) (many : Value) (wr : World) : Prop :=
  ∃ p mn, many = .int .i64 ((mn : Nat) : Int) ∧ mn ≤ 1000 ∧ PlOk r k i j p mn ∧ RowAt wr pb 3 k (fun x => natV (p x)) ∧ (∀ q, q < pb → wr.heap[q]? = W.heap[q]?) ∧ Below w.heap.size w wr
set_option maxRecDepth 100000 in
set_option maxHeartbeats 8000000 in
theorem sccRow_law (a0 : Int) (A1 : Option Addr) (l1 c1 : Nat) (w : World) (h : SomeMat w (.slice A1 l1 c1)) (h1 : -9223372036854775808 ≤ a0) (h2 : a0 ≤ 9223372036854775807) :
    Calls Try.prog 5 #[.int .i64 a0, .slice A1 l1 c1] w (TrueB w) := by
  obtain ⟨M, hM⟩ := h
  have HFE := Lib.hid (few_any _ _ M w hM)
  have HBD := Lib.hid hM.bnd
  clear hM
  go_enter Try.func5, Try.ntmps5
  go_wp2_with fail
  refine (around_nat a0 11 _ h1 h2 (by omega) (by omega)).mono ?_
  rintro e w0 ⟨⟨k, hk, rfl⟩, rfl⟩
  go_wp2_with fail
  refine HFE.out.mono ?_
  rintro e w1 ⟨v, vs, rfl, hom, hb1⟩
  have hmat := few_mat HBD.out hom
  obtain ⟨ld, hld⟩ := ld_some k (useL (fewL M))
  have HG := Lib.hid (groups_any k v (fewL M) ld w1 hmat (by omega) (few_small M) hld)
  obtain ⟨Av, cv, rfl, _, _⟩ := hmat.form
  have HMT := Lib.hid hmat
  have HB1 := Lib.hid hb1
  have HLD := Lib.hid hld
  clear hom hb1 hmat hld
  go_wp2_with fail
  refine HG.out.mono ?_
  rintro e w2 ⟨gv, r, rfl, hgm, hrow, hb2⟩
  have hok := hrow.ok HLD.out
  have hmk := make_ints k (by omega)
  obtain ⟨Ag, cg, eg, hg1, hg2⟩ := hgm.form
  rw [toI_length] at eg hg1
  subst eg
  have hrl : r.length ≤ 9223372036854775807 := by unfold maxLen at hg2; omega
  have hb12 := HB1.out.trans (hb2.mono HB1.out.size)
  have hm2 := HMT.out.on hb2
  have HR0 : Hid (RowL w2.heap.size k r w w2 0 0 (.int .i64 0) (w2.alloc (.cells (rowA k fun _ => natV 0) 3))) := Lib.hid ⟨fun _ => 0, 0, rfl, by omega, .start r k, by show _ = _; rw [alloc_get]; simp, fun q hq => Below.heap_alloc _ _ _ hq, hb12.alloc hb12.size _⟩
  have HGM := Lib.hid hgm
  have HM2 := Lib.hid hm2
  have HOK := Lib.hid hok
  have HZW := Lib.hid hb12.size
  clear hrow hb2 hgm hok hm2 hb12 hg1 hg2
  go_wp2_with fail
  clear hmk
  go_loopw [9, 10] (fun mv v wr => ∃ i : Nat, v = .int .i64 i ∧ i ≤ r.length ∧ RowL w2.heap.size k r w w2 i 0 mv wr) (fun _ v _ => r.length - (intOf v).toNat)
  case atStart => exact ⟨0, rfl, Nat.zero_le _, HR0.out⟩
  case round =>
    obtain ⟨i, rfl, hi, hrel⟩ := hrel
    by_cases hlt : i < r.length
    · have hii : (i : Int) < (r.length : Int) := by omega
      have hiI : i < (toI r).length := by rw [toI_length]; exact hlt
      obtain ⟨bg, og, Ai, ci, rfl, hbg, hcg, hig⟩ := HGM.out.at i hiI
      have egi : (toI r)[i] = r[i].map (fun x : Nat => (x : Int)) := toI_get r i hlt
      rw [egi] at hcg hig
      rw [List.length_map] at hcg hig
      obtain ⟨hx1, _, hx2, hx3⟩ := hig.at
      have hgl : (r[i].length : Int) ≤ 9223372036854775807 := by unfold maxLen at hx2; omega
      have HCG := Lib.hid hcg
      have HX3 := Lib.hid hx3
      have HRL := Lib.hid hrel
      clear hcg hig hx3 hx1 egi hrel
      go_wp2_with fail
      go_loopw [9, 11] (fun mv v wr => ∃ j : Nat, v = .int .i64 j ∧ j ≤ r[i].length ∧ RowL w2.heap.size k r w w2 i j mv wr) (fun _ v _ => r[i].length - (intOf v).toNat)
      case atStart => exact ⟨0, rfl, Nat.zero_le _, HRL.out⟩
      case round =>
        obtain ⟨j, rfl, hj, p, mn, rfl, hmn, hpl, hrow, hold, hb⟩ := hrel
        have e1 : wr.cell? ⟨bg, og + i, none⟩ = some (.slice Ai r[i].length ci) := (World.cell?_of_block (a := ⟨bg, og + i, none⟩) (hold bg hbg)).trans HCG.out
        by_cases hjl : j < r[i].length
        · have hji : (j : Int) < (r[i].length : Int) := by omega
          obtain ⟨bx, ox, rfl, _, hbx, hcx⟩ := HX3.out (by omega)
          have hcx := hcx j (by rw [List.length_map]; exact hjl)
          rw [List.getElem_map] at hcx
          have e2 := (World.cell?_of_block (a := ⟨bx, ox + j, none⟩) (hold bx hbx)).trans hcx
          obtain ⟨hp0, hxk, hpl2⟩ := hpl.step HOK.out hlt hjl
          have hpc := hrow.cell hxk
          have hpf := hrow.free r[i][j]
          have hle := hpl2.le HOK.out
          have hst := hrow.set r[i][j] (natV (i + 1))
          generalize r[i][j] = x at *
          rw [hp0] at hpc
          have hxi : (x : Int) < (k : Int) := by omega
          have hpz : wr.cell? ⟨w2.heap.size, x, none⟩ = some (.int .i64 0) := hpc
          have HREL : Hid (RowL w2.heap.size k r w w2 i (j + 1) (.int .i64 ((mn : Int) + 1)) (wr.setCell ⟨w2.heap.size, x, none⟩ (.int .i64 ((i : Int) + 1)))) := by
            refine Lib.hid ⟨upd p x (i + 1), mn + 1, rfl, by omega, hpl2, ?_, fun q hq => (Below.heap_setCell _ _ _ _ (by simp; omega)).trans (hold q hq), hb.setCell HZW.out _⟩
            rw [upd_comp]
            exact hst
          clear hpl hrow hold hb hcx hp0 hpl2 hpc hst
          go_wp2
          go_roundw
          case rel => exact ⟨j + 1, by go_num, by omega, HREL.out⟩
          case measure => simp [intOf]; omega
        · have hji : ¬ (j : Int) < (r[i].length : Int) := by omega
          have HREL : Hid (RowL w2.heap.size k r w w2 (i + 1) 0 (.int .i64 (mn : Int)) wr) := Lib.hid ⟨p, mn, rfl, hmn, hpl.next hlt (by omega), hrow, hold, hb⟩
          clear hpl hrow hold hb
          go_wp2
          go_roundw
          case rel => exact ⟨i + 1, by go_num, by omega, HREL.out⟩
          case measure => simp [intOf]; omega
    · have ei : i = r.length := by omega
      subst ei
      have hii : ¬ (r.length : Int) < (r.length : Int) := by omega
      obtain ⟨p, mn, rfl, hmn, hpl, hrow, hold, hb⟩ := hrel
      obtain ⟨hmany, hps⟩ := hpl.fin HOK.out
      subst hmany
      have HPS := Lib.hid hps
      have HR3 : Hid (RowAt wr w2.heap.size 3 mn (fun x => natV (p x)) ∧ (∀ q, q < w2.heap.size → wr.heap[q]? = w2.heap[q]?) ∧ Below w.heap.size w wr) := Lib.hid ⟨hrow, hold, hb⟩
      clear hpl hrow hold hb hps
      go_wp2_with fail
      go_loopw [13] (fun v wr => ∃ i : Nat, v = .int .i64 i ∧ i ≤ mn ∧ RowAt wr w2.heap.size 3 mn (fun x => natV (p x)) ∧ (∀ q, q < w2.heap.size → wr.heap[q]? = w2.heap[q]?) ∧ Below w.heap.size w wr) (fun v _ => mn - (intOf v).toNat)
      case atStart => exact ⟨0, rfl, Nat.zero_le _, HR3.out⟩
      case round =>
        obtain ⟨i, rfl, hi, hrow, hold, hb⟩ := hrel
        by_cases hik : i < mn ∧ i < (fewL M).length
        · obtain ⟨hik, hil⟩ := hik
          have hiki : (i : Int) < (mn : Int) := by omega
          have hili : (i : Int) < ((fewL M).length : Int) := by omega
          obtain ⟨bg, og, Ai, ci, rfl, hbg, hcg, hig⟩ := HM2.out.at i hil
          have euse : useL (fewL M) i = (fewL M)[i] := useL_in hil
          obtain ⟨_, _, hx2, hx3⟩ := hig.at
          have hls := few_small M i
          rw [euse] at hls
          generalize (fewL M)[i] = u at *
          have HCG := Lib.hid hcg
          have HX3 := Lib.hid hx3
          have HEU := Lib.hid euse
          have e1 := (World.cell?_of_block (a := ⟨bg, og + i, none⟩) (hold bg hbg)).trans hcg
          have HR4 : Hid (RowAt wr w2.heap.size 3 mn (fun x => natV (p x)) ∧ (∀ q, q < w2.heap.size → wr.heap[q]? = w2.heap[q]?) ∧ Below w.heap.size w wr) := Lib.hid ⟨hrow, hold, hb⟩
          clear hcg hig hx3 hx2 euse hrow hold hb
          go_wp2_with fail
          clear e1
          go_loopw [14] (fun v wr => ∃ j : Nat, v = .int .i64 j ∧ j ≤ u.length ∧ RowAt wr w2.heap.size 3 mn (fun x => natV (p x)) ∧ (∀ q, q < w2.heap.size → wr.heap[q]? = w2.heap[q]?) ∧ Below w.heap.size w wr) (fun v _ => u.length - (intOf v).toNat)
          case atStart => exact ⟨0, rfl, Nat.zero_le _, HR4.out⟩
          case round =>
            obtain ⟨j, rfl, hj, hrow, hold, hb⟩ := hrel
            have e1 := (World.cell?_of_block (a := ⟨bg, og + i, none⟩) (hold bg hbg)).trans HCG.out
            by_cases hju : j < u.length
            · have hji : (j : Int) < (u.length : Int) := by omega
              obtain ⟨bx, ox, rfl, _, hbx, hcx⟩ := HX3.out (by omega)
              have e2 := (World.cell?_of_block (a := ⟨bx, ox + j, none⟩) (hold bx hbx)).trans (hcx j hju)
              have hzm : u[j] ∈ u := List.getElem_mem hju
              generalize u[j] = z at *
              by_cases hz : 0 ≤ z ∧ z < mn
              · obtain ⟨hz0, hz1⟩ := hz
                obtain ⟨y, rfl⟩ := Int.eq_ofNat_of_zero_le hz0
                have hyk : y < mn := by omega
                have hle := HPS.out i y hik hyk (.edge ⟨hik, hyk, by rw [HEU.out]; exact hzm⟩)
                have hpx := hrow.cell hyk
                have hpi := hrow.cell hik
                unfold natV at hpx hpi
                have hgt : ¬ ((p y : Int) > (p i : Int)) := by omega
                have HR5 : Hid (∀ m, RowAt (wr.drewN m) w2.heap.size 3 mn (fun x => natV (p x)) ∧ (∀ q, q < w2.heap.size → (wr.drewN m).heap[q]? = w2.heap[q]?) ∧ Below w.heap.size w (wr.drewN m)) := Lib.hid fun m => ⟨hrow.block rfl, hold, below_drewN hb m⟩
                clear hrow hold hb hcx hzm hle
                go_wp2_with fail
                go_quiet (fail)
                go_wp2_with fail
                go_roundw
                case rel => exact ⟨j + 1, by go_num, by omega, HR5.out _⟩
                case measure => simp [intOf]; omega
              · have HR5 : Hid (RowAt wr w2.heap.size 3 mn (fun x => natV (p x)) ∧ (∀ q, q < w2.heap.size → wr.heap[q]? = w2.heap[q]?) ∧ Below w.heap.size w wr) := Lib.hid ⟨hrow, hold, hb⟩
                clear hrow hold hb hcx hzm
                by_cases hz0 : 0 ≤ z
                · have hz1 : ¬ z < (mn : Int) := fun e => hz ⟨hz0, e⟩
                  clear hz
                  go_wp2
                  go_roundw
                  case rel => exact ⟨j + 1, by go_num, by omega, HR5.out⟩
                  case measure => simp [intOf]; omega
                · clear hz
                  go_wp2
                  go_roundw
                  case rel => exact ⟨j + 1, by go_num, by omega, HR5.out⟩
                  case measure => simp [intOf]; omega
            · have hji : ¬ (j : Int) < (u.length : Int) := by omega
              have HR5 : Hid (RowAt wr w2.heap.size 3 mn (fun x => natV (p x)) ∧ (∀ q, q < w2.heap.size → wr.heap[q]? = w2.heap[q]?) ∧ Below w.heap.size w wr) := Lib.hid ⟨hrow, hold, hb⟩
              clear hrow hold hb
              go_wp2
              go_roundw
              case rel => exact ⟨i + 1, by go_num, by omega, HR5.out⟩
              case measure => simp [intOf]; omega
        · have HLV := Lib.hid (lives_any wr)
          have HB := Lib.hid hb
          clear hrow hold hb
          by_cases hik2 : i < mn
          · have hiki : (i : Int) < (mn : Int) := by omega
            have hili : ¬ (i : Int) < ((fewL M).length : Int) := fun e => hik ⟨hik2, by omega⟩
            clear hik
            go_wp2_with fail
            refine HLV.out.mono ?_
            rintro e w5 ⟨rfl, hb5⟩
            have HB5 := Lib.hid (HB.out.trans (hb5.mono HB.out.size))
            clear hb5
            go_wp2
            go_ret
            exact ⟨rfl, HB5.out⟩
          · have hiki : ¬ (i : Int) < (mn : Int) := by omega
            clear hik
            go_wp2_with fail
            refine HLV.out.mono ?_
            rintro e w5 ⟨rfl, hb5⟩
            have HB5 := Lib.hid (HB.out.trans (hb5.mono HB.out.size))
            clear hb5
            go_wp2
            go_ret
            exact ⟨rfl, HB5.out⟩
end Go.Proofs.Ythmnghngcbkjpaa
