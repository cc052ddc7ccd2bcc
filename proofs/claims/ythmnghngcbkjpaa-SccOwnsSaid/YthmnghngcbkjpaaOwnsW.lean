/- SccOwns: the walk. Conditions: the slices read as numbers, the numbers are of 64 bits. -/
import Derived.Test.YthmnghngcbkjpaaRowW
import Derived.Test.YthmnghngcbkjpaaAga
import Derived.Test.YthmnghngcbkjpaaOmb
namespace Go.Proofs.Ythmnghngcbkjpaa
open Go.RowKit
theorem three_new (w : World) (a b c : Value) (t : TypeId) : ∀ j u, [a, b, c][j]? = some u → (w.alloc (.cells #[a, b, c] t)).cell? ((⟨w.heap.size, 0, none⟩ : Addr).add j) = some u := by
  intro j u h
  have hj := (List.getElem?_eq_some_iff.1 h).1
  simp at hj
  have : j = 0 ∨ j = 1 ∨ j = 2 := by omega
  rcases this with rfl | rfl | rfl <;> (simp at h; subst h; simp [Addr.add, go_sem])
theorem set_bnd {M : List (List Int)} {i : Nat} {x : List Int} (h : ∀ r ∈ M, ∀ z ∈ r, -9223372036854775808 ≤ z ∧ z ≤ 9223372036854775807) (hi : i < M.length) (hx : ∀ z ∈ x, -9223372036854775808 ≤ z ∧ z ≤ 9223372036854775807) :
    ∀ r ∈ M.set i (M[i] ++ x), ∀ z ∈ r, -9223372036854775808 ≤ z ∧ z ≤ 9223372036854775807 := by
  intro r hr z hz
  rcases List.mem_or_eq_of_mem_set hr with h1 | h1
  · exact h r h1 z hz
  · rw [h1] at hz
    rcases List.mem_append.1 hz with h2 | h2
    · exact h _ (List.getElem_mem hi) z h2
    · exact hx z h2
theorem set_small {M : List (List Int)} {i : Nat} {x : List Int} (h : ∀ j, (useL M j).length ≤ 1000) (hi : i < M.length) (h8 : M[i].length ≤ 8) (hx : x.length ≤ 10) (j : Nat) : (useL (M.set i (M[i] ++ x)) j).length ≤ 1000 := by
  rw [useL_set hi]
  split
  · rw [List.length_append]; omega
  · exact h j
theorem few_len (M : List (List Int)) : (fewL M).length ≤ 10 := by unfold fewL; simp; omega
theorem few_row (M : List (List Int)) (i : Nat) (hi : i < (fewL M).length) : (fewL M)[i].length ≤ 8 := by unfold fewL; simp; omega
/-- Behind a store into a row of l; w4: the world behind the first groups. -/
def OwRel (w w1 w4 : World) (v : Value) (M2 : List (List Int)) (w6 : World) : Prop :=
  (∃ vs', OMat w.heap.size (fun b => b < w1.heap.size ∨ w4.heap.size ≤ b) w6 v M2 vs') ∧ (∀ b, w1.heap.size ≤ b → b < w4.heap.size → w6.heap[b]? = w4.heap[b]?) ∧ Below w.heap.size w w6 ∧ w4.heap.size ≤ w6.heap.size
theorem OwRel.mat {w w1 w4 : World} {v : Value} {M2 : List (List Int)} {w6 : World} (h : OwRel w w1 w4 v M2 w6) (hz : ∀ r ∈ M2, ∀ z ∈ r, -9223372036854775808 ≤ z ∧ z ≤ 9223372036854775807) : MatAt (fun b => b < w6.heap.size) w6 v M2 := by
  obtain ⟨⟨vs', ho⟩, _⟩ := h
  exact (ho.mat hz).bound.mono (fun b hb => hb.2)
theorem OwRel.drew {w w1 w4 : World} {v : Value} {M2 : List (List Int)} {w6 : World} (h : OwRel w w1 w4 v M2 w6) : OwRel w w1 w4 v M2 w6.drew := by
  obtain ⟨⟨vs', ho⟩, h1, h2, h3⟩ := h
  exact ⟨⟨vs', ho.on ((Below.refl _ _).drew)⟩, fun b a c => h1 b a c, h2.drew, h3⟩
theorem OwRel.kept {w w1 w4 : World} {v u : Value} {M2 M3 : List (List Int)} {w6 : World} {P : Nat → Prop} (h : OwRel w w1 w4 v M2 w6) (hm : MatAt P w4 u M3) (hP : ∀ b, P b → w1.heap.size ≤ b) : MatAt P w6 u M3 :=
  hm.keepB h.2.2.2 (fun b hb hl => h.2.1 b (hP b hb) hl)
set_option maxRecDepth 100000 in
set_option maxHeartbeats 4000000 in
theorem sccOwns_law (a0 : Int) (A1 : Option Addr) (l1 c1 : Nat) (a2 : Int) (w : World) (h : SomeMat w (.slice A1 l1 c1)) (h1 : -9223372036854775808 ≤ a0) (h2 : a0 ≤ 9223372036854775807) (h3 : -9223372036854775808 ≤ a2) (h4 : a2 ≤ 9223372036854775807) :
    Calls Try.prog 7 #[.int .i64 a0, .slice A1 l1 c1, .int .i64 a2] w (TrueB w) := by
  obtain ⟨i3, hi3, hz3, hs3, hb3⟩ := info_parts Try.info3
  obtain ⟨M, hM⟩ := h
  have HFE := Lib.hid (few_any _ _ M w hM)
  have HMW := Lib.hid hM
  have HBD := Lib.hid hM.bnd
  clear hM
  go_enter Try.func7, Try.ntmps7
  go_wp2_with fail
  refine (around_nat a0 11 _ h1 h2 (by omega) (by omega)).mono ?_
  rintro e w0 ⟨⟨k, hk, rfl⟩, rfl⟩
  go_wp2_with fail
  refine HFE.out.mono ?_
  rintro e w1 ⟨v, vs, rfl, hom, hb1⟩
  have HFE2 := Lib.hid (few_any _ _ M w1 (HMW.out.on hb1))
  obtain ⟨Av, cv, rfl, _, hcv⟩ := (few_mat HBD.out hom).form
  have HOM := Lib.hid hom
  have HB1 := Lib.hid hb1
  clear hom hb1
  go_wp2_with fail
  refine HFE2.out.mono ?_
  rintro e w2 ⟨v2, vs2, rfl, hom2, hbb2⟩
  obtain ⟨A2, c2, rfl, _, _⟩ := (few_mat HBD.out hom2).form
  obtain ⟨ld, hld⟩ := ld_some k (useL (fewL M))
  have HOM2 := Lib.hid hom2
  have HB12 := Lib.hid (HB1.out.trans (hbb2.mono HB1.out.size))
  have HBB2 := Lib.hid hbb2
  have HG := Lib.hid (groups_any k _ (fewL M) ld w2 (few_mat HBD.out (HOM.out.on hbb2)) (by omega) (few_small M) hld)
  have HLD := Lib.hid hld
  clear hom2 hbb2 hld
  go_wp2_with fail
  refine HG.out.mono ?_
  rintro e w3 ⟨gv, r, rfl, hgm, hrow, hbb3⟩
  have HS := Lib.hid (same_any _ _ _ _ (fewL M) w3 (few_mat HBD.out (HOM.out.on (HBB2.out.trans (hbb3.mono HBB2.out.size)))) (few_mat HBD.out (HOM2.out.on hbb3)))
  obtain ⟨Ag, cg, rfl, _, _⟩ := hgm.form
  have HROW := Lib.hid hrow
  have HGM := Lib.hid hgm
  have HBB3 := Lib.hid hbb3
  clear hgm hrow hbb3
  go_wp2_with fail
  refine HS.out.mono ?_
  rintro e w4 ⟨rfl, hbb4⟩
  have HB24 := Lib.hid (HBB3.out.trans (hbb4.mono HBB3.out.size))
  have HB4 := Lib.hid (HB12.out.trans (HB24.out.mono HB12.out.size))
  have HGM4 := Lib.hid (HGM.out.on hbb4)
  have HSZ := Lib.hid (show w.heap.size ≤ w1.heap.size ∧ w1.heap.size ≤ w2.heap.size ∧ w2.heap.size ≤ w3.heap.size ∧ w3.heap.size ≤ w4.heap.size from ⟨HB1.out.size, HBB2.out.size, HBB3.out.size, hbb4.size⟩)
  have HOM4 := Lib.hid (((HOM.out.mono (F' := fun b => b < w1.heap.size ∨ w4.heap.size ≤ b) (fun b _ hb => .inl hb)).on HBB2.out).on HB24.out)
  have HWAS := Lib.hid ((((HOM2.out.mat (few_bnd HBD.out)).bound.mono (Q := fun b => w1.heap.size ≤ b ∧ b < w4.heap.size) (fun b hb => ⟨hb.1.1, by have := HSZ.out; omega⟩)).on HB24.out))
  have HSM := Lib.hid (few_small M)
  have HFB := Lib.hid (few_bnd HBD.out)
  have HFR := Lib.hid (few_row M)
  have hlen10 := few_len M
  clear hbb4
  generalize fewL M = N at *
  by_cases hl0 : 0 < N.length
  · have hii : (0 : Int) < (N.length : Int) := by omega
    have HAR := Lib.hid (around_nat a2 N.length w4 h3 h4 hl0 (by omega))
    go_wp2_with fail
    refine HAR.out.mono ?_
    rintro e w4' ⟨⟨i, hi, rfl⟩, rfl⟩
    have hiN : i < N.length := by omega
    have hiI : (i : Int) < (N.length : Int) := by omega
    obtain ⟨g0, cg0, A0, c0, ev, hmx, hc01, hc02, hcell4, hadd0⟩ := HOM4.out.add (fun b hb => .inr hb) i hiN
    obtain ⟨hcell, hown, hadd⟩ := hadd0 _ (below_new w4 (.cells #[.int .i64 (-1), .int .i64 (k : Int), .int .i64 (i : Int)] 3))
    injection ev with ev1 ev2 ev3
    subst ev1 ev3
    have h8 := HFR.out i hiN
    have HMX := Lib.hid (show N[i].length + 3 ≤ maxLen by unfold maxLen; omega)
    have HBY := Lib.hid (show (N[i].length + 3) * 8 ≤ 140737488355328 by omega)
    have HOWN := Lib.hid hown
    have HADD := Lib.hid (hadd [-1, k, i])
    have HBS := Lib.hid HB4.out.size
    clear hadd0 hadd hown hc01 hc02 hmx
    go_upto_region 10 with (at_builtin; refine wpList_append_lies _ rfl (.tmp 37) (.tmp 40) 30 rfl w.heap.size 3 i3 (.int .i64 0) 1 8 Try.underlying30 hi3 hz3 hs3 hb3 rfl (by decide) (.slice A0 N[i].length c0) N[i].length _ rfl HOWN.out ⟨w4.heap.size, 0, none⟩ 3 3 [.int .i64 (-1), .int .i64 (k : Int), .int .i64 (i : Int)] rfl rfl (three_new _ _ _ _ 3) (by simp [Value.oneCell']) (by decide) HMX.out HBY.out (by have := HBS.out; simp; omega) (w4.heap.size + 1) (by simp) ?_; intro gg cap w5 q1 q2 q3 _; obtain ⟨p1, p2, ⟨vs5, p3⟩, p4, p5, p6⟩ := HADD.out gg cap w5 q1 q2 (q3.imp id (fun e => e.trans (by simp))); have P := Lib.hid (show OwRel w w1 w4 (.slice (some ⟨g0, 0, none⟩) N.length cv) (N.set i (N[i] ++ [-1, (k : Int), (i : Int)])) (w5.setCell ⟨g0, i, none⟩ (.slice (some ⟨gg, 0, none⟩) (N[i].length + 3) cap)) from ⟨⟨vs5, p3⟩, fun b h1 h2 => p4 b h2 (by omega), p5 w (by have := HBS.out; omega) HB4.out, by simpa using p6⟩); clear p3 p4 p5 p6 q1 q2 q3)
    clear hcell hcell4
    generalize w5.setCell ⟨g0, i, none⟩ (.slice (some ⟨gg, 0, none⟩) (N[i].length + 3) cap) = w6 at *
    have hx3 : ∀ z ∈ [(-1 : Int), (k : Int), (i : Int)], -9223372036854775808 ≤ z ∧ z ≤ 9223372036854775807 := by intro z hz; simp at hz; omega
    have HX3 := Lib.hid hx3
    have HLD2 := Lib.hid (HLD.out.again hiN (x := [-1, (k : Int), (i : Int)]) (by intro z hz; simp at hz; omega))
    have HSM2 := Lib.hid (set_small HSM.out hiN h8 (x := [-1, (k : Int), (i : Int)]) (by simp))
    have HMT2 := Lib.hid (P.out.mat (set_bnd HFB.out hiN hx3))
    have HGM6 := Lib.hid (P.out.kept HGM4.out (fun b hb => by have := HSZ.out; omega))
    have hwas := P.out.kept HWAS.out (fun b hb => hb.1)
    obtain ⟨bw, ow, Aw, cw, rfl, hbw, hcw, hrw⟩ := hwas.at i hiN
    obtain ⟨_, _, hmw, hra⟩ := hrw.at
    have HRA := Lib.hid hra
    clear hx3 hwas hrw hra
    by_cases hr0 : 0 < N[i].length
    · have hri : (0 : Int) < (N[i].length : Int) := by omega
      obtain ⟨pw, qw, rfl, _, hpw, hzw⟩ := HRA.out hr0
      have hz0 := hzw 0 hr0
      rw [Nat.add_zero] at hz0
      generalize hzz : N[i][0] = zz at *
      obtain ⟨⟨vs6, hom6⟩, hkeep6, hbel6, hsz6⟩ := P.out
      have hi2 : i < (N.set i (N[i] ++ [-1, (k : Int), (i : Int)])).length := by rw [List.length_set]; exact hiN
      have hR : (N.set i (N[i] ++ [-1, (k : Int), (i : Int)]))[i] = N[i] ++ [-1, (k : Int), (i : Int)] := by simp
      obtain ⟨g1, cg1, A3, c3, ev', _, hd1, hd2, hcell6, hadd0⟩ := hom6.add (fun b hb => .inr (by omega)) i hi2
      rw [hR] at hd1 hcell6 hadd0
      injection ev' with ev4 ev5 ev6
      injection ev4 with ev4
      injection ev4 with ev4
      subst ev4
      have hg06 : g0 < w6.heap.size := (hom6.own.lt g0 rfl).2
      have hown6 := (hadd0 w6 (Below.refl _ _)).2.1
      have hRl : (N[i] ++ [-1, (k : Int), (i : Int)]).length = N[i].length + 3 := by simp
      have HTU : Hid (∀ W, Below w6.heap.size w6 W → W.heap.size = w6.heap.size + 1 → ∀ gg cap w7, w7.ownsRow w.heap.size 3 1 (.slice (some ⟨gg, 0, none⟩) ((N[i] ++ [-1, (k : Int), (i : Int)]).length + 1) cap) ((N[i] ++ [-1, (k : Int), (i : Int)]).length + 1) ((N[i] ++ [-1, (k : Int), (i : Int)]).map intV ++ [.int .i64 zz]) → W.grownBy w7 (Value.slice A3 (N[i] ++ [-1, (k : Int), (i : Int)]).length c3).ownBlock → ((Value.slice A3 (N[i] ++ [-1, (k : Int), (i : Int)]).length c3).ownBlock = some gg ∨ gg = w6.heap.size + 1) →
          w7.cell? ⟨g0, i, none⟩ = some (.slice A3 (N[i] ++ [-1, (k : Int), (i : Int)]).length c3) ∧ w7.frozen? ⟨g0, i, none⟩ = false ∧ OwRel w w1 w4 (.slice (some ⟨g0, 0, none⟩) N.length cv) (N.set i (N[i] ++ [-1, (k : Int), (i : Int), zz])) (w7.setCell ⟨g0, i, none⟩ (.slice (some ⟨gg, 0, none⟩) ((N[i] ++ [-1, (k : Int), (i : Int)]).length + 1) cap))) := by
        refine Lib.hid fun W hW hWs gg cap w7 q1 q2 q3 => ?_
        obtain ⟨r1, r2, ⟨vs7, r3⟩, r4, r5, r6⟩ := (hadd0 W hW).2.2 [zz] gg cap w7 q1 q2 (by rw [hWs]; exact q3)
        refine ⟨r1, r2, ⟨vs7, ?_⟩, fun b hb1 hb2 => (r4 b (by omega) (by omega)).trans (hkeep6 b hb1 hb2), r5 w (by have := HBS.out; omega) hbel6, by simp; omega⟩
        have e9 : (N.set i (N[i] ++ [-1, (k : Int), (i : Int)])).set i ((N[i] ++ [-1, (k : Int), (i : Int)]) ++ [zz]) = N.set i (N[i] ++ [-1, (k : Int), (i : Int), zz]) := by simp
        rw [← e9]; exact r3
      have hzzb : -9223372036854775808 ≤ zz ∧ zz ≤ 9223372036854775807 := by rw [← hzz]; exact HFB.out _ (List.getElem_mem hiN) _ (List.getElem_mem hr0)
      have hx4 : ∀ z ∈ [(-1 : Int), (k : Int), (i : Int), zz], -9223372036854775808 ≤ z ∧ z ≤ 9223372036854775807 := by intro z hz; simp at hz; omega
      have HBD4 := Lib.hid (set_bnd HFB.out hiN hx4)
      have HLD4 := Lib.hid (HLD.out.again hiN (x := [-1, (k : Int), (i : Int), zz]) (by
        intro z hz; simp at hz
        rcases hz with hz | hz | hz | hz
        · omega
        · omega
        · omega
        · right; right; right; rw [hz, ← hzz]; exact List.getElem_mem hr0))
      have HSM4 := Lib.hid (set_small HSM.out hiN h8 (x := [-1, (k : Int), (i : Int), zz]) (by simp))
      have HOWN6 := Lib.hid hown6
      have HMX6 := Lib.hid (show (N[i] ++ [-1, (k : Int), (i : Int)]).length + 1 ≤ maxLen by rw [hRl]; unfold maxLen; omega)
      have HBY6 := Lib.hid (show ((N[i] ++ [-1, (k : Int), (i : Int)]).length + 1) * 8 ≤ 140737488355328 by rw [hRl]; omega)
      have HBS6 := Lib.hid hbel6.size
      generalize (N[i] ++ [-1, (k : Int), (i : Int)]).map intV = xs6 at *
      simp only [hRl] at hcell6 HTU HOWN6 HMX6 HBY6
      have hcell6a : (w6.alloc (.cells #[.int .i64 zz] 3)).cell? ⟨g0, i, none⟩ = some (.slice A3 (N[i].length + 3) c3) := ((below_new w6 _).cell (p := ⟨g0, i, none⟩) hg06).trans hcell6
      have hcell6b : (w6.drew.alloc (.cells #[.int .i64 zz] 3)).cell? ⟨g0, i, none⟩ = some (.slice A3 (N[i].length + 3) c3) := (((Below.refl _ _).drew.trans (below_new w6.drew _)).cell (p := ⟨g0, i, none⟩) hg06).trans hcell6
      clear hom6 hkeep6 hbel6 hsz6 hi2 hR hadd0 hd1 hd2 ev5 ev6 hown6 hzw hx4 hzzb hmw
      go_upto_region 11 with (fail)
      go_region_law ((refine step_append_lies _ rfl (.tmp 54) (.tmp 61) 30 rfl w.heap.size 3 i3 (.int .i64 0) 1 8 Try.underlying30 hi3 hz3 hs3 hb3 rfl (by decide) (.slice A3 (N[i].length + 3) c3) (N[i].length + 3) xs6 rfl ((own_keep HOWN6.out (fun _ _ => rfl)).alloc _) ⟨w6.heap.size, 0, none⟩ 1 1 [.int .i64 zz] rfl rfl (one_new _ _ 3) (one_int _) (by decide) HMX6.out HBY6.out (by have := HBS6.out; simp; omega) (w6.heap.size + 1) (by simp) ?_; intro gg cap w7 h2 g2 hat _; (first | obtain ⟨q1, q2, q3⟩ := HTU.out (w6.drew.alloc (.cells #[.int .i64 zz] 3)) (((Below.refl _ _).drew).trans (below_new w6.drew _)) (by simp) gg cap w7 h2 g2 hat | obtain ⟨q1, q2, q3⟩ := HTU.out ((w6.alloc (.cells #[.int .i64 zz] 3)).drew) ((below_new w6 _).drew) (by simp) gg cap w7 h2 g2 hat); have Q3 := Lib.hid q3; clear q3 h2 g2 hat))
      all_goals
        clear q1 q2
        first
        | (
          have HG2 := Lib.hid (groups_any k _ _ ld _ (Q3.out.mat HBD4.out) (by omega) HSM4.out HLD4.out)
          go_wp2_with fail
          refine HG2.out.mono ?_
          rintro e w7 ⟨gv2, r2, rfl, hgm2, hrow2, hb7⟩
          have hrr := hrow2.one HROW.out
          subst hrr
          have HS2 := Lib.hid (same_any _ _ _ _ (toI r2) w7 hgm2 ((Q3.out.kept HGM4.out (fun b hb => by have := HSZ.out; omega)).on hb7))
          have HB7 := Lib.hid ((Q3.out.2.2.1).trans (hb7.mono (Q3.out.2.2.1).size))
          obtain ⟨A7, c7, rfl, _, _⟩ := hgm2.form
          clear hgm2 hrow2 hb7
          go_wp2_with fail
          refine HS2.out.mono ?_
          rintro e w8 ⟨rfl, hb8⟩
          have HLV := Lib.hid (lives_any w8)
          have HB8 := Lib.hid (HB7.out.trans (hb8.mono HB7.out.size))
          clear hb8
          go_wp2_with fail
          refine HLV.out.mono ?_
          rintro e w9 ⟨rfl, hb9⟩
          have HB9 := Lib.hid (HB8.out.trans (hb9.mono HB8.out.size))
          clear hb9
          go_wp2
          go_ret
          exact ⟨rfl, HB9.out⟩)
        | (
          have Q5 := Lib.hid Q3.out.drew
          have HG2 := Lib.hid (groups_any k _ _ ld _ (Q5.out.mat HBD4.out) (by omega) HSM4.out HLD4.out)
          go_wp2_with fail
          refine HG2.out.mono ?_
          rintro e w7 ⟨gv2, r2, rfl, hgm2, hrow2, hb7⟩
          have hrr := hrow2.one HROW.out
          subst hrr
          have HS2 := Lib.hid (same_any _ _ _ _ (toI r2) w7 hgm2 ((Q5.out.kept HGM4.out (fun b hb => by have := HSZ.out; omega)).on hb7))
          have HB7 := Lib.hid ((Q5.out.2.2.1).trans (hb7.mono (Q5.out.2.2.1).size))
          obtain ⟨A7, c7, rfl, _, _⟩ := hgm2.form
          clear hgm2 hrow2 hb7
          go_wp2_with fail
          refine HS2.out.mono ?_
          rintro e w8 ⟨rfl, hb8⟩
          have HLV := Lib.hid (lives_any w8)
          have HB8 := Lib.hid (HB7.out.trans (hb8.mono HB7.out.size))
          clear hb8
          go_wp2_with fail
          refine HLV.out.mono ?_
          rintro e w9 ⟨rfl, hb9⟩
          have HB9 := Lib.hid (HB8.out.trans (hb9.mono HB8.out.size))
          clear hb9
          go_wp2
          go_ret
          exact ⟨rfl, HB9.out⟩)
    · have hri : ¬ (0 : Int) < (N[i].length : Int) := by omega
      have HG2 := Lib.hid (groups_any k _ _ ld _ HMT2.out (by omega) HSM2.out HLD2.out)
      go_wp2_with fail
      refine HG2.out.mono ?_
      rintro e w7 ⟨gv2, r2, rfl, hgm2, hrow2, hb7⟩
      have hrr := hrow2.one HROW.out
      subst hrr
      have HS2 := Lib.hid (same_any _ _ _ _ (toI r2) w7 hgm2 ((HGM6.out).on hb7))
      have HB7 := Lib.hid ((P.out.2.2.1).trans (hb7.mono (P.out.2.2.1).size))
      obtain ⟨A7, c7, rfl, _, _⟩ := hgm2.form
      clear hgm2 hrow2 hb7
      go_wp2_with fail
      refine HS2.out.mono ?_
      rintro e w8 ⟨rfl, hb8⟩
      have HLV := Lib.hid (lives_any w8)
      have HB8 := Lib.hid (HB7.out.trans (hb8.mono HB7.out.size))
      clear hb8
      go_wp2_with fail
      refine HLV.out.mono ?_
      rintro e w9 ⟨rfl, hb9⟩
      have HB9 := Lib.hid (HB8.out.trans (hb9.mono HB8.out.size))
      clear hb9
      go_wp2
      go_ret
      exact ⟨rfl, HB9.out⟩
  · have hl0' : ¬ (0 : Int) < (N.length : Int) := by omega
    have HG2 := Lib.hid (groups_any k _ _ ld _ ((HOM4.out.mat HFB.out).bound.mono (fun b hb => hb.2)) (by omega) HSM.out HLD.out)
    go_wp2_with fail
    refine HG2.out.mono ?_
    rintro e w7 ⟨gv2, r2, rfl, hgm2, hrow2, hb7⟩
    have hrr := hrow2.one HROW.out
    subst hrr
    have HS2 := Lib.hid (same_any _ _ _ _ (toI r2) w7 hgm2 ((HGM4.out).on hb7))
    have HB7 := Lib.hid ((HB4.out).trans (hb7.mono (HB4.out).size))
    obtain ⟨A7, c7, rfl, _, _⟩ := hgm2.form
    clear hgm2 hrow2 hb7
    go_wp2_with fail
    refine HS2.out.mono ?_
    rintro e w8 ⟨rfl, hb8⟩
    have HLV := Lib.hid (lives_any w8)
    have HB8 := Lib.hid (HB7.out.trans (hb8.mono HB7.out.size))
    clear hb8
    go_wp2_with fail
    refine HLV.out.mono ?_
    rintro e w9 ⟨rfl, hb9⟩
    have HB9 := Lib.hid (HB8.out.trans (hb9.mono HB8.out.size))
    clear hb9
    go_wp2
    go_ret
    exact ⟨rfl, HB9.out⟩
end Go.Proofs.Ythmnghngcbkjpaa
