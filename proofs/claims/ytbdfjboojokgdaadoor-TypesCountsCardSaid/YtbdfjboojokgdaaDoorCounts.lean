/- TypesCounts (chapter 4): the law's walk. Condition: the slice reads as numbers. -/
import Derived.Test.YtbdfjboojokgdaaDoorFree
import Derived.Test.YtbdfjboojokgdaaDoorMetasP
import Derived.Test.YtbdfjboojokgdaaDoorSizeP
import Derived.Test.YtbdfjboojokgdaaDoorPrInj
import Derived.Test.YtbdfjboojokgdaaDoorRefA
import Derived.Test.YtbdfjboojokgdaaDoorLives
import Derived.Test.YtbdfjboojokgdaaDoorOpen
import Derived.Deep.RegionHeld3
namespace Go.Proofs.YtbdfjboojokgdaaDoor
open Go.RowKit

theorem madeC_leaf (n k : Int) : (leafZ n k).sz = 1 := by
  unfold leafZ
  split
  · rfl
  · split <;> rfl
theorem builtC_sz : ∀ (f : Nat) (l : List Int), (builtZ f l).1.sz ≤ 4 ^ (f + 1)
  | f, [] => by
    have : builtZ f [] = (.con ⟨#[73, 110, 116]⟩, []) := by cases f <;> rfl
    rw [this]; exact Nat.one_le_pow _ _ (by omega)
  | 0, z :: l => by show (leafZ _ _).sz ≤ 4; rw [madeC_leaf]; omega
  | f + 1, z :: l => by
    have h1 := builtC_sz f l
    have h2 := builtC_sz f (builtZ f l).2
    have h3 : 4 ≤ 4 ^ (f + 1) := by have := Nat.one_le_pow f 4 (by omega); rw [Nat.pow_succ]; omega
    rw [builtZ]
    split
    · show (leafZ _ _).sz ≤ _; rw [madeC_leaf]; exact Nat.one_le_pow _ _ (by omega)
    · split
      · show (builtZ f l).1.sz + 1 ≤ _; rw [Nat.pow_succ]; omega
      · show (ite _ _ _ : Ty).sz ≤ _
        split
        · show 1 + (builtZ f l).1.sz + 1 + (builtZ f (builtZ f l).2).1.sz + 1 ≤ _; rw [Nat.pow_succ]; omega
        · show (builtZ f l).1.sz + (builtZ f (builtZ f l).2).1.sz + 1 ≤ _; rw [Nat.pow_succ]; omega
theorem madeC_sz (zs : List Int) : (madeZ zs).sz ≤ 4096 := builtC_sz 5 _
theorem world_fit : ∀ (t : Ty), t.world → t.fit
  | .hole _, h => by rcases h with rfl | rfl | rfl | rfl <;> exact ⟨by omega, by omega⟩
  | .var _, _ => trivial
  | .con _, _ => trivial
  | .app a b, h => ⟨world_fit a h.1, world_fit b h.2⟩
  | .all _ a, h => world_fit a h.2
set_option maxRecDepth 100000 in
set_option maxHeartbeats 2000000 in
theorem typesCounts_walk (P : Nat → Prop) (v1 : Value) (zs : List Int) (w : World) (h1 : IntsAt P w v1 zs) : Calls Tryd.prog 3 #[v1] w (TrueB w) := by
  have hc1 := made_any P v1 zs w h1
  obtain ⟨A0, c0, rfl⟩ := h1.slice
  have hw1 := madeZ_world zs
  have hz1 := madeC_sz zs
  generalize madeZ zs = t at *
  have hsh := world_short t hw1
  have hfit := world_fit t hw1
  have HC1 := Lib.hid hc1
  clear hc1 h1 hw1
  go_enter Tryd.func3, Tryd.ntmps3
  go_wp2_with fail
  refine HC1.out.mono ?_
  rintro e y1 ⟨tv, rfl, ht, hb1⟩
  obtain ⟨f1, n1, s1, A1, l1, c1, rfl⟩ := ht.flat
  obtain ⟨W, eW, k1, b1, z1⟩ := one_box y1 (.int .i64 f1) (.int .i64 n1) (.string s1) (.slice A1 l1 c1) 25
  have HT := Lib.hid (ht.all.on b1)
  have HEW := Lib.hid eW
  have HQ := Lib.hid k1
  have HB := Lib.hid (hb1.trans (b1.mono hb1.size))
  clear ht hb1 eW k1 b1
  obtain ⟨G, hG⟩ : ∃ G : World → Prop, G = fun q => Below w.heap.size w q ∧ Below W.heap.size W q := ⟨_, rfl⟩
  have HG := Lib.hid hG
  have keep : Hid (∀ q : World, G q → (q.cell? ⟨y1.heap.size, 0, none⟩ = some (.int .i64 f1) ∧ q.cell? ⟨y1.heap.size, 1, none⟩ = some (.int .i64 n1) ∧ q.cell? ⟨y1.heap.size, 2, none⟩ = some (.string s1) ∧ q.cell? ⟨y1.heap.size, 3, none⟩ = some (.slice A1 l1 c1))) := fun q hb => by
    rw [HG.out] at hb
    obtain ⟨_, u1, u2, u3, u4, _⟩ := HQ.out.on hb.2
    exact ⟨u1, u2, u3, u4⟩
  have hon : Hid (∀ (q q' : World), G q → Below q.heap.size q q' → G q') := fun q q' hb hq => by
    rw [HG.out] at hb ⊢
    exact ⟨hb.1.trans (hq.mono hb.1.size), hb.2.trans (hq.mono hb.2.size)⟩
  have HTG : Hid (∀ q, G q → TyAt (fun _ => True) q t (.agg #[.int .i64 f1, .int .i64 n1, .string s1, .slice A1 l1 c1])) := fun q hb => by rw [HG.out] at hb; exact HT.out.on hb.2
  have HF : Hid (∀ q : World, G q → Calls Tryd.prog 14 #[.agg #[.int .i64 f1, .int .i64 n1, .string s1, .slice A1 l1 c1]] q fun e q' => (∃ u, e = .returned u ∧ StrsAt (fun _ => True) q' u t.free) ∧ G q') := fun q hb => (free_any _ t _ q (HTG.out q hb) hsh (by omega)).mono (fun e q' h => ⟨by obtain ⟨⟨u, e1, e2⟩, _⟩ := h; exact ⟨u, e1, e2.strs.mono (fun _ _ => trivial)⟩, hon.out q q' hb h.2⟩)
  have HRF : Hid (∀ q : World, G q → Calls Tryd.prog 15 #[.agg #[.int .i64 f1, .int .i64 n1, .string s1, .slice A1 l1 c1]] q fun e q' => (∃ u, e = .returned u ∧ StrsAt (fun _ => True) q' u t.free) ∧ G q' ∧ Below q.heap.size q q') := fun q hb => (reffree_any _ t _ q (HTG.out q hb) (by omega)).mono (fun e q' h => ⟨by obtain ⟨⟨u, e1, e2⟩, _⟩ := h; exact ⟨u, e1, e2.strs.mono (fun _ _ => trivial)⟩, hon.out q q' hb h.2, h.2⟩)
  have HM : Hid (∀ q : World, G q → Calls Tryd.prog 17 #[.agg #[.int .i64 f1, .int .i64 n1, .string s1, .slice A1 l1 c1]] q fun e q' => (∃ u, e = .returned u ∧ IntsAt (fun _ => True) q' u t.metas) ∧ G q') := fun q hb => (metas_any _ t _ q (HTG.out q hb) hfit (by omega)).mono (fun e q' h => ⟨by obtain ⟨⟨u, e1, e2⟩, _⟩ := h; exact ⟨u, e1, e2.mono (fun _ _ => trivial)⟩, hon.out q q' hb h.2⟩)
  have HRM : Hid (∀ q : World, G q → Calls Tryd.prog 18 #[.agg #[.int .i64 f1, .int .i64 n1, .string s1, .slice A1 l1 c1]] q fun e q' => (∃ u, e = .returned u ∧ IntsAt (fun _ => True) q' u t.metas) ∧ G q' ∧ Below q.heap.size q q') := fun q hb => (refmetas_any _ t _ q (HTG.out q hb) hfit (by omega)).mono (fun e q' h => ⟨by obtain ⟨⟨u, e1, e2⟩, _⟩ := h; exact ⟨u, e1, (e2.ints (metasL_nodes_fit hfit)).mono (fun _ _ => trivial)⟩, hon.out q q' hb h.2, h.2⟩)
  have HZ : Hid (∀ q : World, G q → Calls Tryd.prog 19 #[.agg #[.int .i64 f1, .int .i64 n1, .string s1, .slice A1 l1 c1]] q fun e q' => e = .returned (.int .i64 t.count) ∧ G q') := fun q hb => (size_any _ t _ q (HTG.out q hb) (by omega)).mono (fun e q' h => ⟨h.1, hon.out q q' hb h.2⟩)
  have HRZ : Hid (∀ q : World, G q → Calls Tryd.prog 20 #[.agg #[.int .i64 f1, .int .i64 n1, .string s1, .slice A1 l1 c1]] q fun e q' => e = .returned (.int .i64 t.count) ∧ G q') := fun q hb => (refsize_any _ _ t _ q (Nat.le_refl _) (HTG.out q hb) (by omega)).mono (fun e q' h => ⟨h.1, hon.out q q' hb h.2⟩)
  have HLV : Hid (∀ q : World, G q → Calls Tryd.prog 21 #[] q fun e q' => e = .returned (.bool true) ∧ Below w.heap.size w q' ∧ G q') := fun q hb => (lives_any q).mono (fun e q' h => by have h9 := hon.out q q' hb h.2; exact ⟨h.1, (by rw [HG.out] at h9; exact h9.1), h9⟩)
  have hYd : G W.drew := by rw [HG.out]; exact ⟨HB.out.drew, (Below.refl _ W).drew⟩
  have hS0 := keep.out W.drew hYd
  clear hsh hfit hG HG
  go_wp2_with fail
  rw [HEW.out]
  refine wp_region_held_drew (S := fun q => (q.cell? ⟨y1.heap.size, 0, none⟩ = some (.int .i64 f1) ∧ q.cell? ⟨y1.heap.size, 1, none⟩ = some (.int .i64 n1) ∧ q.cell? ⟨y1.heap.size, 2, none⟩ = some (.string s1) ∧ q.cell? ⟨y1.heap.size, 3, none⟩ = some (.slice A1 l1 c1))) (by kernel_rfl) hS0 (fun hHeld => ?_)
  refine wpAnyH_take (i := 0) (oi := ⟨some 6, _, _, _, _, _⟩) (v := .agg #[.int .i64 f1, .int .i64 n1, .string s1, .slice A1 l1 c1]) rfl (by kernel_rfl) (by kernel_rfl) (by kernel_rfl) (fun _ _ _ h => h) (Or.inl ⟨by rfl, ?_⟩) (by assumption) ?_
  · intro w9 hSw; go_simp
  try simp only [Act.put, List.setIfInBounds_toArray, List.set_cons_zero, List.set_cons_succ]
  refine wpAnyH_take (i := 2) (oi := ⟨some 8, _, _, _, _, _⟩) (v := .agg #[.int .i64 f1, .int .i64 n1, .string s1, .slice A1 l1 c1]) rfl (by kernel_rfl) (by kernel_rfl) (by kernel_rfl) (fun _ _ _ h => h) (Or.inl ⟨by rfl, ?_⟩) (by assumption) ?_
  · intro w9 hSw; go_simp
  try simp only [Act.put, List.setIfInBounds_toArray, List.set_cons_zero, List.set_cons_succ]
  refine wpAnyH_ready (rs := [1]) (by kernel_rfl) (by simp) ?_
  refine AllReadyH.cons (o := ⟨some 7, _, _, _, _, _⟩) rfl (fun K hK => ?_) AllReadyH.nil
  go_simp
  (with_reducible refine (HF.out _ hYd).mono ?_)
  rintro e q1 ⟨⟨u1, rfl, ho1⟩, hs1⟩
  obtain ⟨B1, d1, rfl, _, _⟩ := ho1.shape
  have HO1 := Lib.hid ho1
  clear ho1
  refine hK.out _ _ (keep.out q1 hs1) (fun hHeld => ?_)
  clear hK K
  try simp only [Act.put, List.setIfInBounds_toArray, List.set_cons_zero, List.set_cons_succ]
  refine wpAnyH_ready (rs := [3]) (by kernel_rfl) (by simp) ?_
  refine AllReadyH.cons (o := ⟨some 9, _, _, _, _, _⟩) rfl (fun K hK => ?_) AllReadyH.nil
  go_simp
  (with_reducible refine (HRF.out _ hs1).mono ?_)
  rintro e q2 ⟨⟨u2, rfl, ho2⟩, hs2, hb2⟩
  obtain ⟨B2, d2, rfl, _, _⟩ := ho2.shape
  have HC13 := Lib.hid ((sameTexts_any _ _ t.free _ _ q2 (HO1.out.on hb2) ho2).mono (fun e q' h => (⟨h.1, hon.out q2 q' hs2 h.2⟩ : e = .returned (.bool true) ∧ G q')))
  clear ho2 hb2
  refine hK.out _ _ (keep.out q2 hs2) (fun hHeld => ?_)
  clear hK K
  try simp only [Act.put, List.setIfInBounds_toArray, List.set_cons_zero, List.set_cons_succ]
  refine wpAnyH_ready (rs := [4]) (by kernel_rfl) (by simp) ?_
  refine AllReadyH.cons (o := ⟨some 10, _, _, _, _, _⟩) rfl (fun K hK => ?_) AllReadyH.nil
  go_simp
  (with_reducible refine (HC13.out).mono ?_)
  rintro e q3 ⟨rfl, hs3⟩
  refine hK.out _ _ (keep.out q3 hs3) (fun hHeld => ?_)
  clear hK K
  try simp only [Act.put, List.setIfInBounds_toArray, List.set_cons_zero, List.set_cons_succ]
  refine wpAnyH_take (i := 5) (oi := ⟨some 11, _, _, _, _, _⟩) (v := .bool true) rfl (by kernel_rfl) (by kernel_rfl) (by kernel_rfl) (fun _ _ _ h => h) (Or.inl ⟨by rfl, ?_⟩) (by assumption) ?_
  · intro w9 hSw; go_simp
  try simp only [Act.put, List.setIfInBounds_toArray, List.set_cons_zero, List.set_cons_succ]
  refine wpAnyH_take (i := 6) (oi := ⟨some 12, _, _, _, _, _⟩) (v := .agg #[.int .i64 f1, .int .i64 n1, .string s1, .slice A1 l1 c1]) rfl (by kernel_rfl) (by kernel_rfl) (by kernel_rfl) (fun _ _ _ h => h) (Or.inl ⟨by rfl, ?_⟩) (by assumption) ?_
  · intro w9 hSw; go_simp
  try simp only [Act.put, List.setIfInBounds_toArray, List.set_cons_zero, List.set_cons_succ]
  refine wpAnyH_take (i := 8) (oi := ⟨some 14, _, _, _, _, _⟩) (v := .agg #[.int .i64 f1, .int .i64 n1, .string s1, .slice A1 l1 c1]) rfl (by kernel_rfl) (by kernel_rfl) (by kernel_rfl) (fun _ _ _ h => h) (Or.inl ⟨by rfl, ?_⟩) (by assumption) ?_
  · intro w9 hSw; go_simp
  try simp only [Act.put, List.setIfInBounds_toArray, List.set_cons_zero, List.set_cons_succ]
  refine wpAnyH_ready (rs := [7]) (by kernel_rfl) (by simp) ?_
  refine AllReadyH.cons (o := ⟨some 13, _, _, _, _, _⟩) rfl (fun K hK => ?_) AllReadyH.nil
  go_simp
  (with_reducible refine (HM.out _ hs3).mono ?_)
  rintro e q4 ⟨⟨u3, rfl, ho3⟩, hs4⟩
  obtain ⟨B3, d3, rfl, _, _⟩ := ho3.shape
  have HO3 := Lib.hid ho3
  clear ho3
  refine hK.out _ _ (keep.out q4 hs4) (fun hHeld => ?_)
  clear hK K
  try simp only [Act.put, List.setIfInBounds_toArray, List.set_cons_zero, List.set_cons_succ]
  refine wpAnyH_ready (rs := [9]) (by kernel_rfl) (by simp) ?_
  refine AllReadyH.cons (o := ⟨some 15, _, _, _, _, _⟩) rfl (fun K hK => ?_) AllReadyH.nil
  go_simp
  (with_reducible refine (HRM.out _ hs4).mono ?_)
  rintro e q5 ⟨⟨u4, rfl, ho4⟩, hs5, hb5⟩
  obtain ⟨B4, d4, rfl, _, _⟩ := ho4.shape
  have HC16 := Lib.hid ((sameInts_any _ _ t.metas _ _ q5 (HO3.out.on hb5) ho4).mono (fun e q' h => (⟨h.1, hon.out q5 q' hs5 h.2⟩ : e = .returned (.bool true) ∧ G q')))
  clear ho4 hb5
  refine hK.out _ _ (keep.out q5 hs5) (fun hHeld => ?_)
  clear hK K
  try simp only [Act.put, List.setIfInBounds_toArray, List.set_cons_zero, List.set_cons_succ]
  refine wpAnyH_ready (rs := [10]) (by kernel_rfl) (by simp) ?_
  refine AllReadyH.cons (o := ⟨some 16, _, _, _, _, _⟩) rfl (fun K hK => ?_) AllReadyH.nil
  go_simp
  (with_reducible refine (HC16.out).mono ?_)
  rintro e q6 ⟨rfl, hs6⟩
  refine hK.out _ _ (keep.out q6 hs6) (fun hHeld => ?_)
  clear hK K
  try simp only [Act.put, List.setIfInBounds_toArray, List.set_cons_zero, List.set_cons_succ]
  refine wpAnyH_take (i := 11) (oi := ⟨some 17, _, _, _, _, _⟩) (v := .bool true) rfl (by kernel_rfl) (by kernel_rfl) (by kernel_rfl) (fun _ _ _ h => h) (Or.inl ⟨by rfl, ?_⟩) (by assumption) ?_
  · intro w9 hSw; go_simp
  try simp only [Act.put, List.setIfInBounds_toArray, List.set_cons_zero, List.set_cons_succ]
  refine wpAnyH_take (i := 12) (oi := ⟨some 18, _, _, _, _, _⟩) (v := .bool true) rfl (by kernel_rfl) (by kernel_rfl) (by kernel_rfl) (fun _ _ _ h => h) (Or.inl ⟨by rfl, ?_⟩) (by assumption) ?_
  · intro w9 hSw; go_simp
  try simp only [Act.put, List.setIfInBounds_toArray, List.set_cons_zero, List.set_cons_succ]
  refine wpAnyH_take (i := 13) (oi := ⟨some 19, _, _, _, _, _⟩) (v := .agg #[.int .i64 f1, .int .i64 n1, .string s1, .slice A1 l1 c1]) rfl (by kernel_rfl) (by kernel_rfl) (by kernel_rfl) (fun _ _ _ h => h) (Or.inl ⟨by rfl, ?_⟩) (by assumption) ?_
  · intro w9 hSw; go_simp
  try simp only [Act.put, List.setIfInBounds_toArray, List.set_cons_zero, List.set_cons_succ]
  refine wpAnyH_take (i := 15) (oi := ⟨some 21, _, _, _, _, _⟩) (v := .agg #[.int .i64 f1, .int .i64 n1, .string s1, .slice A1 l1 c1]) rfl (by kernel_rfl) (by kernel_rfl) (by kernel_rfl) (fun _ _ _ h => h) (Or.inl ⟨by rfl, ?_⟩) (by assumption) ?_
  · intro w9 hSw; go_simp
  try simp only [Act.put, List.setIfInBounds_toArray, List.set_cons_zero, List.set_cons_succ]
  refine wpAnyH_ready (rs := [14]) (by kernel_rfl) (by simp) ?_
  refine AllReadyH.cons (o := ⟨some 20, _, _, _, _, _⟩) rfl (fun K hK => ?_) AllReadyH.nil
  go_simp
  (with_reducible refine (HZ.out _ hs6).mono ?_)
  rintro e q7 ⟨rfl, hs7⟩
  refine hK.out _ _ (keep.out q7 hs7) (fun hHeld => ?_)
  clear hK K
  try simp only [Act.put, List.setIfInBounds_toArray, List.set_cons_zero, List.set_cons_succ]
  refine wpAnyH_ready (rs := [16]) (by kernel_rfl) (by simp) ?_
  refine AllReadyH.cons (o := ⟨some 22, _, _, _, _, _⟩) rfl (fun K hK => ?_) AllReadyH.nil
  go_simp
  (with_reducible refine (HRZ.out _ hs7).mono ?_)
  rintro e q8 ⟨rfl, hs8⟩
  refine hK.out _ _ (keep.out q8 hs8) (fun hHeld => ?_)
  clear hK K
  try simp only [Act.put, List.setIfInBounds_toArray, List.set_cons_zero, List.set_cons_succ]
  refine wpAnyH_take (i := 17) (oi := ⟨some 23, _, _, _, _, _⟩) (v := .bool true) rfl (by kernel_rfl) (by kernel_rfl) (by kernel_rfl) (fun _ _ _ h => h) (Or.inl ⟨by rfl, ?_⟩) (by assumption) ?_
  · intro w9 hSw; go_simp
  try simp only [Act.put, List.setIfInBounds_toArray, List.set_cons_zero, List.set_cons_succ]
  refine wpAnyH_take (i := 18) (oi := ⟨some 24, _, _, _, _, _⟩) (v := .bool true) rfl (by kernel_rfl) (by kernel_rfl) (by kernel_rfl) (fun _ _ _ h => h) (Or.inl ⟨by rfl, ?_⟩) (by assumption) ?_
  · intro w9 hSw; go_simp
  try simp only [Act.put, List.setIfInBounds_toArray, List.set_cons_zero, List.set_cons_succ]
  refine wpAnyH_take (i := 19) (oi := ⟨some 25, _, _, _, _, _⟩) (v := .bool true) rfl (by kernel_rfl) (by kernel_rfl) (by kernel_rfl) (fun _ _ _ h => h) (Or.inl ⟨by rfl, ?_⟩) (by assumption) ?_
  · intro w9 hSw; go_simp
  try simp only [Act.put, List.setIfInBounds_toArray, List.set_cons_zero, List.set_cons_succ]
  refine wpAnyH_ready (rs := [20]) (by kernel_rfl) (by simp) ?_
  refine AllReadyH.cons (o := ⟨some 26, _, _, _, _, _⟩) rfl (fun K hK => ?_) AllReadyH.nil
  go_simp
  (with_reducible refine (HLV.out _ hs8).mono ?_)
  rintro e q9 ⟨rfl, hs9⟩
  refine hK.out _ _ (keep.out q9 hs9.2) (fun hHeld => ?_)
  clear hK K
  try simp only [Act.put, List.setIfInBounds_toArray, List.set_cons_zero, List.set_cons_succ]
  refine wpAnyH_take (i := 21) (oi := ⟨some 27, _, _, _, _, _⟩) (v := .bool true) rfl (by kernel_rfl) (by kernel_rfl) (by kernel_rfl) (fun _ _ _ h => h) (Or.inl ⟨by rfl, ?_⟩) (by assumption) ?_
  · intro w9 hSw; go_simp
  try simp only [Act.put, List.setIfInBounds_toArray, List.set_cons_zero, List.set_cons_succ]
  refine wpAnyH_take (i := 22) (oi := ⟨some 2, _, _, _, _, _⟩) (v := .bool true) rfl (by kernel_rfl) (by kernel_rfl) (by kernel_rfl) (fun _ _ _ h => h) (Or.inl ⟨by rfl, ?_⟩) (by assumption) ?_
  · intro w9 hSw; go_simp
  try simp only [Act.put, List.setIfInBounds_toArray, List.set_cons_zero, List.set_cons_succ]
  refine wpAnyH_done (by kernel_rfl) ?_ _
  go_wp2
  go_ret
  exact ⟨rfl, hs9.1⟩
theorem typesCounts_law (a : Option Addr) (len cap : Nat) (w : World) (h : SomeInts w (.slice a len cap)) : Calls Tryd.prog 3 #[.slice a len cap] w (TrueB w) := by
  obtain ⟨zs, hz⟩ := h
  exact typesCounts_walk _ _ zs w hz
end Go.Proofs.YtbdfjboojokgdaaDoor
