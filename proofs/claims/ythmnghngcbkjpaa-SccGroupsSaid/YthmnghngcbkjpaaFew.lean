/- The document's Few. No conditions but those that each theorem names. -/
import Derived.Test.YthmnghngcbkjpaaFewA
namespace Go.Proofs.Ythmnghngcbkjpaa
open Go.RowKit
def FewRel (M : List (List Int)) (w : World) (k : Nat) (v : Value) (wr : World) : Prop :=
  ∃ vs, OMat w.heap.size (fun _ => True) wr v ((M.take k).map (fun r => r.take 8)) vs ∧ Below w.heap.size w wr
set_option maxRecDepth 100000 in
set_option maxHeartbeats 4000000 in
theorem few_any (P : Nat → Prop) (v : Value) (M : List (List Int)) (w : World) (h : MatAt P w v M) :
    Calls Try.prog 10 #[v] w (FewRes M w) := by
  obtain ⟨A, c, rfl, hc1, hc2⟩ := h.form
  obtain ⟨i3, hi3, hz3, hs3, hb3⟩ := info_parts Try.info3
  obtain ⟨i30, hi30, hz30, hs30, hb30⟩ := info_parts Try.info30
  have HR0 : Hid (FewRel M w 0 (.slice none 0 0) w) := Lib.hid ⟨[], omat_nil _ _ _, Below.refl _ _⟩
  have H := Lib.hid h
  have hap := append_none
  unfold maxLen at hc2
  clear h
  go_enter Try.func10, Try.ntmps10
  go_wp2_with fail
  go_loopw [3, 4] (fun v i wr => ∃ k : Nat, i = .int .i64 k ∧ k ≤ 10 ∧ k ≤ M.length ∧ FewRel M w k v wr) (fun _ i _ => 10 - (intOf i).toNat)
  case atStart => exact ⟨0, rfl, Nat.zero_le _, Nat.zero_le _, HR0.out⟩
  case round =>
    obtain ⟨k, rfl, hk10, hkl, vs, hom, hb⟩ := hrel
    obtain ⟨Ar, cr, rfl, _, _⟩ := own_form hom.own
    by_cases hlt : k < M.length
    · by_cases hlt10 : k < 10
      · have hki : (k : Int) < (M.length : Int) := by omega
        have hki10 : (k : Int) < 10 := by omega
        obtain ⟨bo, oo, A', c', rfl, hbo, hcell, hrow⟩ := H.out.at k hlt
        have htk : M.take (k + 1) = M.take k ++ [M[k]] := List.take_succ_eq_append_getElem hlt
        obtain ⟨_, hlc, hcm, hat⟩ := hrow.at
        have hbnd : ∀ z ∈ M[k], -9223372036854775808 ≤ z ∧ z ≤ 9223372036854775807 := by obtain ⟨_, _, _, _, _, h9, _⟩ := hrow; exact h9
        generalize M[k] = r at *
        have hcw := (hb.cell (p := ⟨bo, oo + k, none⟩) hbo).trans hcell
        have hlen0 : ((M.take k).map (fun r => r.take 8)).length = k := by simp; omega
        have hwz := hb.size
        have HOM := Lib.hid hom
        have HB := Lib.hid hb
        have HTK := Lib.hid htk
        have HNX : Hid (∀ w1 u1, Below wr.heap.size wr w1 → w1.ownsRow w.heap.size 3 1 u1 (r.take 8).length ((r.take 8).map intV) → (∀ g, u1.ownBlock = some g → wr.heap.size ≤ g) →
            (w1.alloc (.cells #[u1] 30)).ownsRow w.heap.size 30 1 (.slice Ar ((M.take k).map (fun r => r.take 8)).length cr) ((M.take k).map (fun r => r.take 8)).length vs ∧ w.heap.size ≤ (w1.alloc (.cells #[u1] 30)).heap.size ∧
            ∀ gg cap w2, w2.ownsRow w.heap.size 30 1 (.slice (some ⟨gg, 0, none⟩) (((M.take k).map (fun r => r.take 8)).length + 1) cap) (((M.take k).map (fun r => r.take 8)).length + 1) (vs ++ [u1]) → (w1.alloc (.cells #[u1] 30)).grownBy w2 (Value.slice Ar ((M.take k).map (fun r => r.take 8)).length cr).ownBlock → ((Value.slice Ar ((M.take k).map (fun r => r.take 8)).length cr).ownBlock = some gg ∨ gg = w1.heap.size + 1) → FewRel M w (k + 1) (.slice (some ⟨gg, 0, none⟩) (((M.take k).map (fun r => r.take 8)).length + 1) cap) w2) := by
          refine Lib.hid fun w1 u1 h1 h2 h3 => ?_
          have hba := below_new w1 (.cells #[u1] 30)
          have hz1 := h1.size
          have ho1 := (HOM.out.on h1).on hba
          refine ⟨ho1.own, by simp; omega, fun gg cap w2 q1 q2 q3 => ⟨vs ++ [u1], ?_, ?_⟩⟩
          · rw [HTK.out, List.map_append, List.map_singleton]
            refine ho1.pushRow (own_on h2 hba) (fun g hg => ⟨trivial, fun x hx e => ?_⟩) q1 q2 (q3.imp (fun e => e.symm) (fun e => ⟨gg, rfl, by simp; omega⟩)) (fun _ _ => trivial)
            obtain ⟨i, hi, rfl⟩ := List.getElem_of_mem hx
            have := ((HOM.out.rows i hi (by have := HOM.out.len; omega)).lt g e).2
            have := h3 g hg
            omega
          · exact ((HB.out.trans ((h1.trans (hba.mono hz1)).mono hwz)).grown q2 (by simp; omega) (fun q hq => (HOM.out.own.lt q hq).1))
        rw [hlen0] at HNX
        rw [hlen0]
        by_cases hz : r.length = 0
        · have hz2 := hz
          have e0 : r.take 8 = [] := by rw [List.eq_nil_of_length_eq_zero hz]; rfl
          have hT := HNX.out wr.drew (.slice none 0 0) ((Below.refl _ _).drew) (by rw [e0]; exact World.ownsRow_nil _ _ _ _) (fun g hg => by simp [Value.ownBlock] at hg)
          have T1 := Lib.hid hT.1
          have T2 := Lib.hid hT.2.1
          have T3 := Lib.hid hT.2.2
          rw [hz] at hcw hlc
          clear hT
          clear hrow hat hcell HNX hbnd htk hlen0 hom hb e0
          cases A' with
          | none =>
            go_wp2
            go_region_law (first | (refine step_append_lies _ rfl (.tmp 16) (.tmp 30) 22 rfl w.heap.size 30 i30 (.slice none 0 0) 1 24 Try.underlying22 hi30 hz30 hs30 hb30 rfl (by decide) (.slice Ar k cr) k vs rfl T1.out ⟨wr.drew.heap.size, 0, none⟩ 1 1 [(.slice none 0 0)] rfl rfl (one_new _ _ 30) (by intro u hu; rw [List.mem_singleton.1 hu]; rfl) (by decide) (by unfold maxLen; omega) (by omega) T2.out (wr.drew.heap.size + 1) (by simp) ?_; intro gg cap w2 q1 q2 q3 _; have hrel2 := T3.out gg cap w2 q1 q2 q3; have HREL := Lib.hid hrel2; clear hrel2 q1 q2 q3))
            all_goals
              go_wp2
              go_roundw
              case rel => exact ⟨k + 1, by go_num, by omega, by omega, by first | exact HREL.out | (obtain ⟨vs9, r1, r2⟩ := HREL.out; exact ⟨vs9, r1.on ((Below.refl _ _).drew), r2.drew⟩)⟩
              case measure => simp [intOf]; omega
          | some a9 =>
            go_wp2
            go_region_law (first | (refine step_append_lies _ rfl (.tmp 16) (.tmp 30) 22 rfl w.heap.size 30 i30 (.slice none 0 0) 1 24 Try.underlying22 hi30 hz30 hs30 hb30 rfl (by decide) (.slice Ar k cr) k vs rfl T1.out ⟨wr.drew.heap.size, 0, none⟩ 1 1 [(.slice none 0 0)] rfl rfl (one_new _ _ 30) (by intro u hu; rw [List.mem_singleton.1 hu]; rfl) (by decide) (by unfold maxLen; omega) (by omega) T2.out (wr.drew.heap.size + 1) (by simp) ?_; intro gg cap w2 q1 q2 q3 _; have hrel2 := T3.out gg cap w2 q1 q2 q3; have HREL := Lib.hid hrel2; clear hrel2 q1 q2 q3))
            all_goals
              go_wp2
              go_roundw
              case rel => exact ⟨k + 1, by go_num, by omega, by omega, by first | exact HREL.out | (obtain ⟨vs9, r1, r2⟩ := HREL.out; exact ⟨vs9, r1.on ((Below.refl _ _).drew), r2.drew⟩)⟩
              case measure => simp [intOf]; omega
        · by_cases h8 : r.length ≤ 8
          · skip
            have etk : r.take 8 = r := List.take_of_length_le h8
            have h8i : (if (8 : Int) < (r.length : Int) then (8 : Int) else (r.length : Int)) = (r.length : Int) := if_neg (by omega)
            have hcl : (r.length : Int) ≤ (c' : Int) := by omega
            obtain ⟨br, og, rfl, _, hbr, hcs⟩ := hat (by omega)
            have hl8 : (r.take 8).length = r.length := by rw [List.length_take]; omega
            have HLEN := Lib.hid (show ((r.take 8).map intV).length = r.length * 1 by rw [List.length_map, hl8, Nat.mul_one])
            have HONE := Lib.hid (show ∀ u ∈ (r.take 8).map intV, u.oneCell' = true by intro u hu; obtain ⟨z, _, rfl⟩ := List.mem_map.1 hu; rfl)
            have HCS : Hid (∀ W : World, W.heap = wr.heap → ∀ j u, ((r.take 8).map intV)[j]? = some u → W.cell? ((⟨br, og, none⟩ : Addr).add j) = some u) := by
              refine Lib.hid fun W hW j u hu => ?_
              rw [List.getElem?_map] at hu
              obtain ⟨z, hz9, rfl⟩ := Option.map_eq_some_iff.1 hu
              have hj : j < (r.take 8).length := (List.getElem?_eq_some_iff.1 hz9).1
              have hj2 : j < r.length := by rw [List.length_take] at hj; omega
              rw [Go.WideShapes.add_plain]
              have e1 : W.cell? ⟨br, og + j, none⟩ = w.cell? ⟨br, og + j, none⟩ := by
                have := HB.out.cell (p := ⟨br, og + j, none⟩) hbr
                rw [← this]
                exact World.cell?_of_block (a := ⟨br, og + j, none⟩) (by rw [hW])
              rw [e1, hcs j hj2]
              rw [List.getElem?_take_of_lt (by omega), List.getElem?_eq_getElem hj2] at hz9
              injection hz9 with hz9
              rw [hz9]; rfl
            have HNX1 : Hid (∀ W : World, W = wr.drew → ∀ g1 cap1 (w1 : World), w1.ownsRow w.heap.size 3 1 (.slice (some ⟨g1, 0, none⟩) (0 + r.length) cap1) (0 + r.length) ([] ++ (r.take 8).map intV) → W.grownBy w1 (Value.slice none 0 0).ownBlock → ((Value.slice none 0 0).ownBlock = some g1 ∨ g1 = wr.heap.size) →
                (w1.alloc (.cells #[.slice (some ⟨g1, 0, none⟩) r.length cap1] 30)).ownsRow w.heap.size 30 1 (.slice Ar k cr) k vs ∧ w.heap.size ≤ (w1.alloc (.cells #[.slice (some ⟨g1, 0, none⟩) r.length cap1] 30)).heap.size ∧
                ∀ gg cap w2, w2.ownsRow w.heap.size 30 1 (.slice (some ⟨gg, 0, none⟩) (k + 1) cap) (k + 1) (vs ++ [.slice (some ⟨g1, 0, none⟩) r.length cap1]) → (w1.alloc (.cells #[.slice (some ⟨g1, 0, none⟩) r.length cap1] 30)).grownBy w2 (Value.slice Ar k cr).ownBlock → ((Value.slice Ar k cr).ownBlock = some gg ∨ gg = w1.heap.size + 1) → FewRel M w (k + 1) (.slice (some ⟨gg, 0, none⟩) (k + 1) cap) w2) := by
              refine Lib.hid ?_
              rintro W rfl g1 cap1 w1 p1 p2 p3
              have hbw1 : Below wr.heap.size wr w1 := ((Below.refl wr.heap.size wr).drew).trans ⟨p2.os, p2.tape, p2.output, p2.size, fun q hq => p2.block q hq (fun e => by simp [Value.ownBlock] at e)⟩
              refine HNX.out w1 _ hbw1 (by rw [hl8]; simpa using p1) (fun g hg => ?_)
              simp only [Value.ownBlock, Option.some.injEq] at hg
              rcases p3 with p3 | p3
              · simp [Value.ownBlock] at p3
              · omega
            have HWZ := Lib.hid hwz
            clear hrow hat hcell HNX hbnd htk hlen0 hom hb hl8 hcs etk
            go_wp2
            go_region_law (first | (refine step_append_lies _ rfl (.tmp 17) (.tmp 28) 30 rfl w.heap.size 3 i3 (.int .i64 0) 1 8 Try.underlying30 hi3 hz3 hs3 hb3 rfl (by decide) (.slice none 0 0) 0 [] rfl (World.ownsRow_nil _ _ _ _) ⟨br, og, none⟩ r.length c' ((r.take 8).map intV) rfl HLEN.out (HCS.out _ rfl) HONE.out (by omega) (by unfold maxLen; omega) (by omega) (by have := HWZ.out; simp; omega) wr.heap.size rfl ?_; intro g1 cap1 w1 p1 p2 p3 _; obtain ⟨t1, t2, t3⟩ := HNX1.out _ rfl g1 cap1 w1 p1 p2 p3; have T1 := Lib.hid t1; have T2 := Lib.hid t2; have T3 := Lib.hid t3; clear t1 t2 t3 p1 p2 p3) | (refine step_append_lies _ rfl (.tmp 16) (.tmp 30) 22 rfl w.heap.size 30 i30 (.slice none 0 0) 1 24 Try.underlying22 hi30 hz30 hs30 hb30 rfl (by decide) (.slice Ar k cr) k vs rfl T1.out ⟨w1.heap.size, 0, none⟩ 1 1 [(.slice (some ⟨g1, 0, none⟩) r.length cap1)] rfl rfl (one_new _ _ 30) (by intro u hu; rw [List.mem_singleton.1 hu]; rfl) (by decide) (by unfold maxLen; omega) (by omega) T2.out (w1.heap.size + 1) (by simp) ?_; intro gg cap w2 q1 q2 q3 _; have hrel2 := T3.out gg cap w2 q1 q2 q3; have HREL := Lib.hid hrel2; clear hrel2 q1 q2 q3))
            all_goals
              go_wp2
              go_roundw
              case rel => exact ⟨k + 1, by go_num, by omega, by omega, by first | exact HREL.out | (obtain ⟨vs9, r1, r2⟩ := HREL.out; exact ⟨vs9, r1.on ((Below.refl _ _).drew), r2.drew⟩)⟩
              case measure => simp [intOf]; omega
          · skip
            have h8i : (8 : Int) < (r.length : Int) := by omega
            have hcl : (8 : Int) ≤ (c' : Int) := by omega
            obtain ⟨br, og, rfl, _, hbr, hcs⟩ := hat (by omega)
            have hl8 : (r.take 8).length = 8 := by rw [List.length_take]; omega
            have HLEN := Lib.hid (show ((r.take 8).map intV).length = 8 * 1 by rw [List.length_map, hl8, Nat.mul_one])
            have HONE := Lib.hid (show ∀ u ∈ (r.take 8).map intV, u.oneCell' = true by intro u hu; obtain ⟨z, _, rfl⟩ := List.mem_map.1 hu; rfl)
            have HCS : Hid (∀ W : World, W.heap = wr.heap → ∀ j u, ((r.take 8).map intV)[j]? = some u → W.cell? ((⟨br, og, none⟩ : Addr).add j) = some u) := by
              refine Lib.hid fun W hW j u hu => ?_
              rw [List.getElem?_map] at hu
              obtain ⟨z, hz9, rfl⟩ := Option.map_eq_some_iff.1 hu
              have hj : j < (r.take 8).length := (List.getElem?_eq_some_iff.1 hz9).1
              have hj2 : j < r.length := by rw [List.length_take] at hj; omega
              rw [Go.WideShapes.add_plain]
              have e1 : W.cell? ⟨br, og + j, none⟩ = w.cell? ⟨br, og + j, none⟩ := by
                have := HB.out.cell (p := ⟨br, og + j, none⟩) hbr
                rw [← this]
                exact World.cell?_of_block (a := ⟨br, og + j, none⟩) (by rw [hW])
              rw [e1, hcs j hj2]
              rw [List.getElem?_take_of_lt (by omega), List.getElem?_eq_getElem hj2] at hz9
              injection hz9 with hz9
              rw [hz9]; rfl
            have HNX1 : Hid (∀ W : World, W = wr.drew → ∀ g1 cap1 (w1 : World), w1.ownsRow w.heap.size 3 1 (.slice (some ⟨g1, 0, none⟩) (0 + 8) cap1) (0 + 8) ([] ++ (r.take 8).map intV) → W.grownBy w1 (Value.slice none 0 0).ownBlock → ((Value.slice none 0 0).ownBlock = some g1 ∨ g1 = wr.heap.size) →
                (w1.alloc (.cells #[.slice (some ⟨g1, 0, none⟩) 8 cap1] 30)).ownsRow w.heap.size 30 1 (.slice Ar k cr) k vs ∧ w.heap.size ≤ (w1.alloc (.cells #[.slice (some ⟨g1, 0, none⟩) 8 cap1] 30)).heap.size ∧
                ∀ gg cap w2, w2.ownsRow w.heap.size 30 1 (.slice (some ⟨gg, 0, none⟩) (k + 1) cap) (k + 1) (vs ++ [.slice (some ⟨g1, 0, none⟩) 8 cap1]) → (w1.alloc (.cells #[.slice (some ⟨g1, 0, none⟩) 8 cap1] 30)).grownBy w2 (Value.slice Ar k cr).ownBlock → ((Value.slice Ar k cr).ownBlock = some gg ∨ gg = w1.heap.size + 1) → FewRel M w (k + 1) (.slice (some ⟨gg, 0, none⟩) (k + 1) cap) w2) := by
              refine Lib.hid ?_
              rintro W rfl g1 cap1 w1 p1 p2 p3
              have hbw1 : Below wr.heap.size wr w1 := ((Below.refl wr.heap.size wr).drew).trans ⟨p2.os, p2.tape, p2.output, p2.size, fun q hq => p2.block q hq (fun e => by simp [Value.ownBlock] at e)⟩
              refine HNX.out w1 _ hbw1 (by rw [hl8]; simpa using p1) (fun g hg => ?_)
              simp only [Value.ownBlock, Option.some.injEq] at hg
              rcases p3 with p3 | p3
              · simp [Value.ownBlock] at p3
              · omega
            have HWZ := Lib.hid hwz
            clear hrow hat hcell HNX hbnd htk hlen0 hom hb hl8 hcs
            go_wp2
            go_region_law (first | (refine step_append_lies _ rfl (.tmp 17) (.tmp 28) 30 rfl w.heap.size 3 i3 (.int .i64 0) 1 8 Try.underlying30 hi3 hz3 hs3 hb3 rfl (by decide) (.slice none 0 0) 0 [] rfl (World.ownsRow_nil _ _ _ _) ⟨br, og, none⟩ 8 c' ((r.take 8).map intV) rfl HLEN.out (HCS.out _ rfl) HONE.out (by omega) (by unfold maxLen; omega) (by omega) (by have := HWZ.out; simp; omega) wr.heap.size rfl ?_; intro g1 cap1 w1 p1 p2 p3 _; obtain ⟨t1, t2, t3⟩ := HNX1.out _ rfl g1 cap1 w1 p1 p2 p3; have T1 := Lib.hid t1; have T2 := Lib.hid t2; have T3 := Lib.hid t3; clear t1 t2 t3 p1 p2 p3) | (refine step_append_lies _ rfl (.tmp 16) (.tmp 30) 22 rfl w.heap.size 30 i30 (.slice none 0 0) 1 24 Try.underlying22 hi30 hz30 hs30 hb30 rfl (by decide) (.slice Ar k cr) k vs rfl T1.out ⟨w1.heap.size, 0, none⟩ 1 1 [(.slice (some ⟨g1, 0, none⟩) 8 cap1)] rfl rfl (one_new _ _ 30) (by intro u hu; rw [List.mem_singleton.1 hu]; rfl) (by decide) (by unfold maxLen; omega) (by omega) T2.out (w1.heap.size + 1) (by simp) ?_; intro gg cap w2 q1 q2 q3 _; have hrel2 := T3.out gg cap w2 q1 q2 q3; have HREL := Lib.hid hrel2; clear hrel2 q1 q2 q3))
            all_goals
              go_wp2
              go_roundw
              case rel => exact ⟨k + 1, by go_num, by omega, by omega, by first | exact HREL.out | (obtain ⟨vs9, r1, r2⟩ := HREL.out; exact ⟨vs9, r1.on ((Below.refl _ _).drew), r2.drew⟩)⟩
              case measure => simp [intOf]; omega
      · have hk : k = 10 := by omega
        subst hk
        have hki : (10 : Int) < (M.length : Int) := by omega
        have HFIN : Hid (FewRes M w (.returned (.slice Ar ((M.take 10).map (fun r => r.take 8)).length cr)) wr) := Lib.hid ⟨_, vs, rfl, hom, hb⟩
        clear hom hb
        go_wp2
        go_ret
        exact HFIN.out
    · have hk : k = M.length := by omega
      subst hk
      have hki : ¬ (M.length : Int) < (M.length : Int) := by omega
      have hll : ((M.take M.length).map (fun r => r.take 8)).length = M.length := by simp
      rw [hll] at hom
      rw [hll]
      clear hll
      have HFIN : Hid (FewRes M w (.returned (.slice Ar M.length cr)) wr) := Lib.hid ⟨_, vs, rfl, by
        have e : M.take M.length = M.take 10 := by rw [List.take_of_length_le (by omega), List.take_of_length_le (by omega)]
        have : fewL M = (M.take M.length).map (fun r => r.take 8) := by rw [e]; rfl
        rw [this]; exact hom, hb⟩
      clear hom hb
      go_wp2
      go_ret
      exact HFIN.out
end Go.Proofs.Ythmnghngcbkjpaa
