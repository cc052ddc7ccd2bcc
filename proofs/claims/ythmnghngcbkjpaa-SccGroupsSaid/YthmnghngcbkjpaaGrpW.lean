/- SccGroups: the walk. Conditions: the slices read as numbers, the number is one of 64 bits. -/
import Derived.Test.YthmnghngcbkjpaaDgr
import Derived.Test.YthmnghngcbkjpaaRowW
namespace Go.Proofs.Ythmnghngcbkjpaa
open Go.RowKit
set_option maxRecDepth 100000 in
set_option maxHeartbeats 4000000 in
theorem sccGroups_law (a0 : Int) (A1 : Option Addr) (l1 c1 : Nat) (w : World) (h : SomeMat w (.slice A1 l1 c1)) (h1 : -9223372036854775808 ≤ a0) (h2 : a0 ≤ 9223372036854775807) :
    Calls Try.prog 3 #[.int .i64 a0, .slice A1 l1 c1] w (TrueB w) := by
  obtain ⟨M, hM⟩ := h
  have HFE := Lib.hid (few_any _ _ M w hM)
  have HBD := Lib.hid hM.bnd
  clear hM
  go_enter Try.func3, Try.ntmps3
  go_wp2_with fail
  refine (around_nat a0 11 _ h1 h2 (by omega) (by omega)).mono ?_
  rintro e w0 ⟨⟨k, hk, rfl⟩, rfl⟩
  go_wp2_with fail
  refine HFE.out.mono ?_
  rintro e w1 ⟨v, vs, rfl, hom, hb1⟩
  have hmat := few_mat HBD.out hom
  obtain ⟨ld, hld⟩ := ld_some k (useL (fewL M))
  obtain ⟨Av, cv, rfl, _, _⟩ := hmat.form
  have HG := Lib.hid (groups_any k _ (fewL M) ld w1 hmat (by omega) (few_small M) hld)
  have HMT := Lib.hid hmat
  have HB1 := Lib.hid hb1
  have HLD := Lib.hid hld
  clear hom hb1 hmat hld
  go_wp2_with fail
  refine HG.out.mono ?_
  rintro e w2 ⟨gv, r, rfl, hgm, hrow, hb2⟩
  obtain ⟨Ag, cg, rfl, _, _⟩ := hgm.form
  have HD := Lib.hid (docgroups_any k _ (fewL M) ld w2 ((HMT.out.on hb2).mono (fun _ h => Nat.lt_of_lt_of_le h hb2.size)) (by omega) (few_small M) HLD.out)
  have HGM := Lib.hid hgm
  have HRW := Lib.hid hrow
  have HB2 := Lib.hid (HB1.out.trans (hb2.mono HB1.out.size))
  clear hgm hrow hb2
  go_wp2_with fail
  refine HD.out.mono ?_
  rintro e w3 ⟨gv2, r2, rfl, hgm2, hrow2, hb3⟩
  obtain rfl := hrow2.one HRW.out
  obtain ⟨Ag2, cg2, rfl, _, _⟩ := hgm2.form
  have HSA := Lib.hid (same_any _ _ _ _ (toI r2) w3 (HGM.out.on hb3) hgm2)
  have HB3 := Lib.hid (HB2.out.trans (hb3.mono HB2.out.size))
  clear hgm2 hrow2 hb3
  go_wp2_with fail
  refine HSA.out.mono ?_
  rintro e w4 ⟨rfl, hb4⟩
  have HB4 := Lib.hid (HB3.out.trans (hb4.mono HB3.out.size))
  clear hb4
  go_wp2_with fail
  refine (lives_any w4).mono ?_
  rintro e w5 ⟨rfl, hb5⟩
  have HB5 := Lib.hid (HB4.out.trans (hb5.mono HB4.out.size))
  clear hb5
  go_wp2
  go_ret
  exact ⟨rfl, HB5.out⟩
end Go.Proofs.Ythmnghngcbkjpaa
