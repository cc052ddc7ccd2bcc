/- TypesPrints (chapter 4): the law's walk. Condition: the slices read as numbers. -/
import Derived.Test.YtbdfjboojokgdaaDoorRefA
import Derived.Test.YtbdfjboojokgdaaDoorSame4
import Derived.Test.YtbdfjboojokgdaaDoorLives
import Derived.Test.YtbdfjboojokgdaaDoorOpen
namespace Go.Proofs.YtbdfjboojokgdaaDoor
open Go.RowKit

theorem leaf_sz (n k : Int) : (leafZ n k).sz = 1 := by
  unfold leafZ
  split
  · rfl
  · split <;> rfl
theorem built_sz : ∀ (f : Nat) (l : List Int), (builtZ f l).1.sz ≤ 4 ^ (f + 1)
  | f, [] => by
    have : builtZ f [] = (.con ⟨#[73, 110, 116]⟩, []) := by cases f <;> rfl
    rw [this]; exact Nat.one_le_pow _ _ (by omega)
  | 0, z :: l => by show (leafZ _ _).sz ≤ 4; rw [leaf_sz]; omega
  | f + 1, z :: l => by
    have h1 := built_sz f l
    have h2 := built_sz f (builtZ f l).2
    have h3 : 4 ≤ 4 ^ (f + 1) := by have := Nat.one_le_pow f 4 (by omega); rw [Nat.pow_succ]; omega
    rw [builtZ]
    split
    · show (leafZ _ _).sz ≤ _; rw [leaf_sz]; exact Nat.one_le_pow _ _ (by omega)
    · split
      · show (builtZ f l).1.sz + 1 ≤ _; rw [Nat.pow_succ]; omega
      · show (ite _ _ _ : Ty).sz ≤ _
        split
        · show 1 + (builtZ f l).1.sz + 1 + (builtZ f (builtZ f l).2).1.sz + 1 ≤ _; rw [Nat.pow_succ]; omega
        · show (builtZ f l).1.sz + (builtZ f (builtZ f l).2).1.sz + 1 ≤ _; rw [Nat.pow_succ]; omega
theorem madeZ_sz (zs : List Int) : (madeZ zs).sz ≤ 4096 := built_sz 5 _
set_option maxRecDepth 100000 in
set_option maxHeartbeats 2000000 in
theorem typesPrints_walk (P Q : Nat → Prop) (v1 v2 : Value) (zs ys : List Int) (w : World) (h1 : IntsAt P w v1 zs) (h2 : IntsAt Q w v2 ys) : Calls Tryd.prog 7 #[v1, v2] w (TrueB w) := by
  have hc1 := made_any P v1 zs w h1
  have HC2 := Lib.hid (fun w' (hb : Below w.heap.size w w') => made_any Q v2 ys w' (h2.on hb))
  obtain ⟨A0, c0, rfl⟩ := h1.slice
  obtain ⟨A9, c9, rfl⟩ := h2.slice
  have hw1 := madeZ_world zs
  have hw2 := madeZ_world ys
  have hz1 := madeZ_sz zs
  have hz2 := madeZ_sz ys
  have hp1 := world_pr _ hw1
  have hp2 := world_pr _ hw2
  generalize madeZ zs = a at *
  generalize madeZ ys = b at *
  have HPA0 := Lib.hid (fun (P : Nat → Prop) (v : Value) (q : World) (h : TyAt P q a v) => print_any P a v q h (world_small a hw1) (by omega))
  have HPB0 := Lib.hid (fun (P : Nat → Prop) (v : Value) (q : World) (h : TyAt P q b v) => print_any P b v q h (world_small b hw2) (by omega))
  have HRA0 := Lib.hid (fun (P : Nat → Prop) => refprint_any P a (world_ten a hw1) (by omega))
  have HINJ := Lib.hid (fun (h : a.pr = b.pr) => pr_inj hw1 hw2 h)
  have HSM0 := Lib.hid (fun (P Q : Nat → Prop) (va vb : Value) (q : World) (ha : TyAt P q a va) (hb : TyAt Q q b vb) => same_any P Q a b va vb q ha hb (world_short a hw1) (world_short b hw2) (by omega))
  have HC1 := Lib.hid hc1
  clear hc1 h1 h2 hw1 hw2 hz1 hz2 hp1 hp2
  go_enter Tryd.func7, Tryd.ntmps7
  go_wp2_with fail
  refine HC1.out.mono ?_
  rintro e y1 ⟨tv, rfl, ht, hb1⟩
  obtain ⟨f1, n1, s1, A1, l1, c1, rfl⟩ := ht.flat
  obtain ⟨W, eW, q1, b1, z1⟩ := one_box y1 (.int .i64 f1) (.int .i64 n1) (.string s1) (.slice A1 l1 c1) 25
  have HT := Lib.hid (ht.all.on b1)
  have HEW := Lib.hid eW
  have HQ := Lib.hid q1
  have HB := Lib.hid (hb1.trans (b1.mono hb1.size))
  clear ht hb1 eW q1 b1
  go_wp2_with fail
  rw [HEW.out]
  refine (HC2.out W HB.out).mono ?_
  rintro e y2 ⟨tv, rfl, ht2, hb2⟩
  obtain ⟨f2, n2, s2, A2, l2, c2, rfl⟩ := ht2.flat
  obtain ⟨V, eV, q2, b2, z2⟩ := one_box y2 (.int .i64 f2) (.int .i64 n2) (.string s2) (.slice A2 l2 c2) 25
  have hbV := hb2.trans (b2.mono hb2.size)
  have HT1 := Lib.hid (HT.out.on hbV)
  have HT2 := Lib.hid (ht2.all.on b2)
  have HEV := Lib.hid eV
  have HQ1 := Lib.hid (HQ.out.on hbV)
  have HQ2 := Lib.hid q2
  have HBV := Lib.hid (HB.out.trans (hbV.mono HB.out.size))
  clear ht2 hb2 eV q2 b2 hbV HT HQ HB
  have keep : Hid (∀ q : World, Below w.heap.size w q ∧ Below V.heap.size V q → (q.cell? ⟨y1.heap.size, 0, none⟩ = some (.int .i64 f1) ∧ q.cell? ⟨y1.heap.size, 1, none⟩ = some (.int .i64 n1) ∧ q.cell? ⟨y1.heap.size, 2, none⟩ = some (.string s1) ∧ q.cell? ⟨y1.heap.size, 3, none⟩ = some (.slice A1 l1 c1)) ∧ (q.cell? ⟨y2.heap.size, 0, none⟩ = some (.int .i64 f2) ∧ q.cell? ⟨y2.heap.size, 1, none⟩ = some (.int .i64 n2) ∧ q.cell? ⟨y2.heap.size, 2, none⟩ = some (.string s2) ∧ q.cell? ⟨y2.heap.size, 3, none⟩ = some (.slice A2 l2 c2))) := fun q hb => by
    obtain ⟨_, u1, u2, u3, u4, _⟩ := HQ1.out.on hb.2
    obtain ⟨_, k1, k2, k3, k4, _⟩ := HQ2.out.on hb.2
    exact ⟨⟨u1, u2, u3, u4⟩, k1, k2, k3, k4⟩
  have hon : ∀ (q q' : World), Below w.heap.size w q ∧ Below V.heap.size V q → Below q.heap.size q q' → Below w.heap.size w q' ∧ Below V.heap.size V q' := fun q q' hb hq => ⟨hb.1.trans (hq.mono hb.1.size), hb.2.trans (hq.mono hb.2.size)⟩
  have HPA : Hid (∀ q : World, Below w.heap.size w q ∧ Below V.heap.size V q → Calls Tryd.prog 31 #[.agg #[.int .i64 f1, .int .i64 n1, .string s1, .slice A1 l1 c1]] q fun e q' => e = .returned (.string ⟨a.pr.toArray⟩) ∧ Below w.heap.size w q' ∧ Below V.heap.size V q') := fun q hb => (HPA0.out _ _ q (HT1.out.on hb.2)).mono (fun e q' h => ⟨h.1, hon q q' hb h.2⟩)
  have HPB : Hid (∀ q : World, Below w.heap.size w q ∧ Below V.heap.size V q → Calls Tryd.prog 31 #[.agg #[.int .i64 f2, .int .i64 n2, .string s2, .slice A2 l2 c2]] q fun e q' => e = .returned (.string ⟨b.pr.toArray⟩) ∧ Below w.heap.size w q' ∧ Below V.heap.size V q') := fun q hb => (HPB0.out _ _ q (HT2.out.on hb.2)).mono (fun e q' h => ⟨h.1, hon q q' hb h.2⟩)
  have HRA : Hid (∀ q : World, Below w.heap.size w q ∧ Below V.heap.size V q → Calls Tryd.prog 32 #[.agg #[.int .i64 f1, .int .i64 n1, .string s1, .slice A1 l1 c1]] q fun e q' => e = .returned (.string ⟨a.pr.toArray⟩) ∧ Below w.heap.size w q' ∧ Below V.heap.size V q') := fun q hb => (HRA0.out _ _ q (HT1.out.on hb.2)).mono (fun e q' h => ⟨h.1, hon q q' hb h.2⟩)
  have HSM1 : Hid (∀ q : World, Below w.heap.size w q ∧ Below V.heap.size V q → Calls Tryd.prog 25 #[.agg #[.int .i64 f1, .int .i64 n1, .string s1, .slice A1 l1 c1], .agg #[.int .i64 f2, .int .i64 n2, .string s2, .slice A2 l2 c2]] q fun e q' => e = .returned (.bool (sameT noG noG 0 a b)) ∧ Below w.heap.size w q' ∧ Below V.heap.size V q') := fun q hb => (HSM0.out _ _ _ _ q (HT1.out.on hb.2) (HT2.out.on hb.2)).mono (fun e q' h => ⟨h.1, hon q q' hb h.2⟩)
  have HLV : Hid (∀ q : World, Below w.heap.size w q ∧ Below V.heap.size V q → Calls Tryd.prog 21 #[] q fun e q' => e = .returned (.bool true) ∧ Below w.heap.size w q' ∧ Below V.heap.size V q') := fun q hb => (lives_any q).mono (fun e q' h => ⟨h.1, hon q q' hb h.2⟩)
  have hYd : Below w.heap.size w V.drew ∧ Below V.heap.size V V.drew := ⟨HBV.out.drew, (Below.refl _ V).drew⟩
  have hS0 := keep.out V.drew hYd
  clear HPA0 HPB0 HRA0 HSM0 hon HC1 HC2
  by_cases heq : a.pr = b.pr
  · have hab := HINJ.out heq
    subst hab
    have HSM : Hid (∀ q : World, Below w.heap.size w q ∧ Below V.heap.size V q → Calls Tryd.prog 25 #[.agg #[.int .i64 f1, .int .i64 n1, .string s1, .slice A1 l1 c1], .agg #[.int .i64 f2, .int .i64 n2, .string s2, .slice A2 l2 c2]] q fun e q' => e = .returned (.bool true) ∧ Below w.heap.size w q' ∧ Below V.heap.size V q') := fun q hb => by
      have h := HSM1.out q hb
      rw [sameT_refl] at h
      exact h
    clear HSM1 HINJ heq
    generalize (⟨a.pr.toArray⟩ : ByteArray) = X at *
    go_wp2_with fail
    rw [HEV.out]
    refine wp_region_held_drew (S := fun q => (q.cell? ⟨y1.heap.size, 0, none⟩ = some (.int .i64 f1) ∧ q.cell? ⟨y1.heap.size, 1, none⟩ = some (.int .i64 n1) ∧ q.cell? ⟨y1.heap.size, 2, none⟩ = some (.string s1) ∧ q.cell? ⟨y1.heap.size, 3, none⟩ = some (.slice A1 l1 c1)) ∧ (q.cell? ⟨y2.heap.size, 0, none⟩ = some (.int .i64 f2) ∧ q.cell? ⟨y2.heap.size, 1, none⟩ = some (.int .i64 n2) ∧ q.cell? ⟨y2.heap.size, 2, none⟩ = some (.string s2) ∧ q.cell? ⟨y2.heap.size, 3, none⟩ = some (.slice A2 l2 c2))) (by kernel_rfl) hS0 (fun hHeld => ?_)
    refine wpAnyH_take (i := 0) (oi := ⟨some 11, _, _, _, _, _⟩) (v := .agg #[.int .i64 f1, .int .i64 n1, .string s1, .slice A1 l1 c1]) rfl (by kernel_rfl) (by kernel_rfl) (by kernel_rfl) (fun _ _ _ h => h) (Or.inl ⟨by rfl, ?_⟩) (by assumption) ?_
    · intro w9 hSw; go_simp
    try simp only [Act.put, List.setIfInBounds_toArray, List.set_cons_zero, List.set_cons_succ]
    refine wpAnyH_take (i := 2) (oi := ⟨some 13, _, _, _, _, _⟩) (v := .agg #[.int .i64 f1, .int .i64 n1, .string s1, .slice A1 l1 c1]) rfl (by kernel_rfl) (by kernel_rfl) (by kernel_rfl) (fun _ _ _ h => h) (Or.inl ⟨by rfl, ?_⟩) (by assumption) ?_
    · intro w9 hSw; go_simp
    try simp only [Act.put, List.setIfInBounds_toArray, List.set_cons_zero, List.set_cons_succ]
    refine wpAnyH_ready (rs := [1]) (by kernel_rfl) (by simp) ?_
    refine AllReadyH.cons (o := ⟨some 12, _, _, _, _, _⟩) rfl (fun K hK => ?_) AllReadyH.nil
    go_simp
    (with_reducible refine (HPA.out _ hYd).mono ?_)
    rintro e q1 ⟨rfl, hs1⟩
    refine hK.out _ _ (keep.out q1 hs1) (fun hHeld => ?_)
    clear hK K
    try simp only [Act.put, List.setIfInBounds_toArray, List.set_cons_zero, List.set_cons_succ]
    refine wpAnyH_ready (rs := [3]) (by kernel_rfl) (by simp) ?_
    refine AllReadyH.cons (o := ⟨some 14, _, _, _, _, _⟩) rfl (fun K hK => ?_) AllReadyH.nil
    go_simp
    (with_reducible refine (HRA.out _ hs1).mono ?_)
    rintro e q2 ⟨rfl, hs2⟩
    refine hK.out _ _ (keep.out q2 hs2) (fun hHeld => ?_)
    clear hK K
    try simp only [Act.put, List.setIfInBounds_toArray, List.set_cons_zero, List.set_cons_succ]
    refine wpAnyH_take (i := 4) (oi := ⟨some 15, _, _, _, _, _⟩) (v := .bool true) rfl (by kernel_rfl) (by kernel_rfl) (by kernel_rfl) (fun _ _ _ h => h) (Or.inl ⟨by rfl, ?_⟩) (by assumption) ?_
    · intro w9 hSw; go_simp
    try simp only [Act.put, List.setIfInBounds_toArray, List.set_cons_zero, List.set_cons_succ]
    refine wpAnyH_take (i := 5) (oi := ⟨some 16, _, _, _, _, _⟩) (v := .bool true) rfl (by kernel_rfl) (by kernel_rfl) (by kernel_rfl) (fun _ _ _ h => h) (Or.inl ⟨by rfl, ?_⟩) (by assumption) ?_
    · intro w9 hSw; go_simp
    try simp only [Act.put, List.setIfInBounds_toArray, List.set_cons_zero, List.set_cons_succ]
    refine wpAnyH_take (i := 6) (oi := ⟨some 17, _, _, _, _, _⟩) (v := .agg #[.int .i64 f1, .int .i64 n1, .string s1, .slice A1 l1 c1]) rfl (by kernel_rfl) (by kernel_rfl) (by kernel_rfl) (fun _ _ _ h => h) (Or.inl ⟨by rfl, ?_⟩) (by assumption) ?_
    · intro w9 hSw; go_simp
    try simp only [Act.put, List.setIfInBounds_toArray, List.set_cons_zero, List.set_cons_succ]
    refine wpAnyH_take (i := 8) (oi := ⟨some 19, _, _, _, _, _⟩) (v := .agg #[.int .i64 f2, .int .i64 n2, .string s2, .slice A2 l2 c2]) rfl (by kernel_rfl) (by kernel_rfl) (by kernel_rfl) (fun _ _ _ h => h) (Or.inl ⟨by rfl, ?_⟩) (by assumption) ?_
    · intro w9 hSw; go_simp
    try simp only [Act.put, List.setIfInBounds_toArray, List.set_cons_zero, List.set_cons_succ]
    refine wpAnyH_ready (rs := [7]) (by kernel_rfl) (by simp) ?_
    refine AllReadyH.cons (o := ⟨some 18, _, _, _, _, _⟩) rfl (fun K hK => ?_) AllReadyH.nil
    go_simp
    (with_reducible refine (HPA.out _ hs2).mono ?_)
    rintro e q3 ⟨rfl, hs3⟩
    refine hK.out _ _ (keep.out q3 hs3) (fun hHeld => ?_)
    clear hK K
    try simp only [Act.put, List.setIfInBounds_toArray, List.set_cons_zero, List.set_cons_succ]
    refine wpAnyH_ready (rs := [9]) (by kernel_rfl) (by simp) ?_
    refine AllReadyH.cons (o := ⟨some 20, _, _, _, _, _⟩) rfl (fun K hK => ?_) AllReadyH.nil
    go_simp
    (with_reducible refine (HPB.out _ hs3).mono ?_)
    rintro e q4 ⟨rfl, hs4⟩
    refine hK.out _ _ (keep.out q4 hs4) (fun hHeld => ?_)
    clear hK K
    try simp only [Act.put, List.setIfInBounds_toArray, List.set_cons_zero, List.set_cons_succ]
    refine wpAnyH_take (i := 10) (oi := ⟨some 21, _, _, _, _, _⟩) (v := .bool false) rfl (by kernel_rfl) (by kernel_rfl) (by kernel_rfl) (fun _ _ _ h => h) (Or.inl ⟨by rfl, ?_⟩) (by assumption) ?_
    · intro w9 hSw; go_simp
    try simp only [Act.put, List.setIfInBounds_toArray, List.set_cons_zero, List.set_cons_succ]
    refine wpAnyH_take (i := 11) (oi := ⟨some 22, _, _, _, _, _⟩) (v := .bool false) rfl (by kernel_rfl) (by kernel_rfl) (by kernel_rfl) (fun _ _ _ h => h) (Or.inl ⟨by rfl, ?_⟩) (by assumption) ?_
    · intro w9 hSw; go_simp
    try simp only [Act.put, List.setIfInBounds_toArray, List.set_cons_zero, List.set_cons_succ]
    refine wpAnyH_take (i := 12) (oi := ⟨some 23, _, _, _, _, _⟩) (v := .agg #[.int .i64 f1, .int .i64 n1, .string s1, .slice A1 l1 c1]) rfl (by kernel_rfl) (by kernel_rfl) (by kernel_rfl) (fun _ _ _ h => h) (Or.inl ⟨by rfl, ?_⟩) (by assumption) ?_
    · intro w9 hSw; go_simp
    try simp only [Act.put, List.setIfInBounds_toArray, List.set_cons_zero, List.set_cons_succ]
    refine wpAnyH_take (i := 13) (oi := ⟨some 24, _, _, _, _, _⟩) (v := .agg #[.int .i64 f2, .int .i64 n2, .string s2, .slice A2 l2 c2]) rfl (by kernel_rfl) (by kernel_rfl) (by kernel_rfl) (fun _ _ _ h => h) (Or.inl ⟨by rfl, ?_⟩) (by assumption) ?_
    · intro w9 hSw; go_simp
    try simp only [Act.put, List.setIfInBounds_toArray, List.set_cons_zero, List.set_cons_succ]
    refine wpAnyH_ready (rs := [14]) (by kernel_rfl) (by simp) ?_
    refine AllReadyH.cons (o := ⟨some 25, _, _, _, _, _⟩) rfl (fun K hK => ?_) AllReadyH.nil
    go_simp
    (with_reducible refine (HSM.out _ hs4).mono ?_)
    rintro e q5 ⟨rfl, hs5⟩
    refine hK.out _ _ (keep.out q5 hs5) (fun hHeld => ?_)
    clear hK K
    try simp only [Act.put, List.setIfInBounds_toArray, List.set_cons_zero, List.set_cons_succ]
    refine wpAnyH_take (i := 15) (oi := ⟨some 26, _, _, _, _, _⟩) (v := .bool true) rfl (by kernel_rfl) (by kernel_rfl) (by kernel_rfl) (fun _ _ _ h => h) (Or.inl ⟨by rfl, ?_⟩) (by assumption) ?_
    · intro w9 hSw; go_simp
    try simp only [Act.put, List.setIfInBounds_toArray, List.set_cons_zero, List.set_cons_succ]
    refine wpAnyH_take (i := 16) (oi := ⟨some 27, _, _, _, _, _⟩) (v := .bool true) rfl (by kernel_rfl) (by kernel_rfl) (by kernel_rfl) (fun _ _ _ h => h) (Or.inl ⟨by rfl, ?_⟩) (by assumption) ?_
    · intro w9 hSw; go_simp
    try simp only [Act.put, List.setIfInBounds_toArray, List.set_cons_zero, List.set_cons_succ]
    refine wpAnyH_take (i := 17) (oi := ⟨some 28, _, _, _, _, _⟩) (v := .bool true) rfl (by kernel_rfl) (by kernel_rfl) (by kernel_rfl) (fun _ _ _ h => h) (Or.inl ⟨by rfl, ?_⟩) (by assumption) ?_
    · intro w9 hSw; go_simp
    try simp only [Act.put, List.setIfInBounds_toArray, List.set_cons_zero, List.set_cons_succ]
    refine wpAnyH_ready (rs := [18]) (by kernel_rfl) (by simp) ?_
    refine AllReadyH.cons (o := ⟨some 29, _, _, _, _, _⟩) rfl (fun K hK => ?_) AllReadyH.nil
    go_simp
    (with_reducible refine (HLV.out _ hs5).mono ?_)
    rintro e q6 ⟨rfl, hs6⟩
    refine hK.out _ _ (keep.out q6 hs6) (fun hHeld => ?_)
    clear hK K
    try simp only [Act.put, List.setIfInBounds_toArray, List.set_cons_zero, List.set_cons_succ]
    refine wpAnyH_take (i := 19) (oi := ⟨some 30, _, _, _, _, _⟩) (v := .bool true) rfl (by kernel_rfl) (by kernel_rfl) (by kernel_rfl) (fun _ _ _ h => h) (Or.inl ⟨by rfl, ?_⟩) (by assumption) ?_
    · intro w9 hSw; go_simp
    try simp only [Act.put, List.setIfInBounds_toArray, List.set_cons_zero, List.set_cons_succ]
    refine wpAnyH_take (i := 20) (oi := ⟨some 4, _, _, _, _, _⟩) (v := .bool true) rfl (by kernel_rfl) (by kernel_rfl) (by kernel_rfl) (fun _ _ _ h => h) (Or.inl ⟨by rfl, ?_⟩) (by assumption) ?_
    · intro w9 hSw; go_simp
    try simp only [Act.put, List.setIfInBounds_toArray, List.set_cons_zero, List.set_cons_succ]
    refine wpAnyH_done (by kernel_rfl) ?_ _
    go_wp2
    go_ret
    exact ⟨rfl, hs6.1⟩
  · have hne : ((⟨a.pr.toArray⟩ : ByteArray).toList == (⟨b.pr.toArray⟩ : ByteArray).toList) = false := by
      have h9 : ∀ l : List UInt8, (⟨l.toArray⟩ : ByteArray).toList = l := fun l => by rw [Lib.toList_data]
      rw [h9, h9]
      simpa using heq
    clear HSM1 HINJ heq
    generalize (⟨a.pr.toArray⟩ : ByteArray) = X at *
    generalize (⟨b.pr.toArray⟩ : ByteArray) = Y at *
    go_wp2_with fail
    rw [HEV.out]
    refine wp_region_held_drew (S := fun q => (q.cell? ⟨y1.heap.size, 0, none⟩ = some (.int .i64 f1) ∧ q.cell? ⟨y1.heap.size, 1, none⟩ = some (.int .i64 n1) ∧ q.cell? ⟨y1.heap.size, 2, none⟩ = some (.string s1) ∧ q.cell? ⟨y1.heap.size, 3, none⟩ = some (.slice A1 l1 c1)) ∧ (q.cell? ⟨y2.heap.size, 0, none⟩ = some (.int .i64 f2) ∧ q.cell? ⟨y2.heap.size, 1, none⟩ = some (.int .i64 n2) ∧ q.cell? ⟨y2.heap.size, 2, none⟩ = some (.string s2) ∧ q.cell? ⟨y2.heap.size, 3, none⟩ = some (.slice A2 l2 c2))) (by kernel_rfl) hS0 (fun hHeld => ?_)
    refine wpAnyH_take (i := 0) (oi := ⟨some 11, _, _, _, _, _⟩) (v := .agg #[.int .i64 f1, .int .i64 n1, .string s1, .slice A1 l1 c1]) rfl (by kernel_rfl) (by kernel_rfl) (by kernel_rfl) (fun _ _ _ h => h) (Or.inl ⟨by rfl, ?_⟩) (by assumption) ?_
    · intro w9 hSw; go_simp
    try simp only [Act.put, List.setIfInBounds_toArray, List.set_cons_zero, List.set_cons_succ]
    refine wpAnyH_take (i := 2) (oi := ⟨some 13, _, _, _, _, _⟩) (v := .agg #[.int .i64 f1, .int .i64 n1, .string s1, .slice A1 l1 c1]) rfl (by kernel_rfl) (by kernel_rfl) (by kernel_rfl) (fun _ _ _ h => h) (Or.inl ⟨by rfl, ?_⟩) (by assumption) ?_
    · intro w9 hSw; go_simp
    try simp only [Act.put, List.setIfInBounds_toArray, List.set_cons_zero, List.set_cons_succ]
    refine wpAnyH_ready (rs := [1]) (by kernel_rfl) (by simp) ?_
    refine AllReadyH.cons (o := ⟨some 12, _, _, _, _, _⟩) rfl (fun K hK => ?_) AllReadyH.nil
    go_simp
    (with_reducible refine (HPA.out _ hYd).mono ?_)
    rintro e q1 ⟨rfl, hs1⟩
    refine hK.out _ _ (keep.out q1 hs1) (fun hHeld => ?_)
    clear hK K
    try simp only [Act.put, List.setIfInBounds_toArray, List.set_cons_zero, List.set_cons_succ]
    refine wpAnyH_ready (rs := [3]) (by kernel_rfl) (by simp) ?_
    refine AllReadyH.cons (o := ⟨some 14, _, _, _, _, _⟩) rfl (fun K hK => ?_) AllReadyH.nil
    go_simp
    (with_reducible refine (HRA.out _ hs1).mono ?_)
    rintro e q2 ⟨rfl, hs2⟩
    refine hK.out _ _ (keep.out q2 hs2) (fun hHeld => ?_)
    clear hK K
    try simp only [Act.put, List.setIfInBounds_toArray, List.set_cons_zero, List.set_cons_succ]
    refine wpAnyH_take (i := 4) (oi := ⟨some 15, _, _, _, _, _⟩) (v := .bool true) rfl (by kernel_rfl) (by kernel_rfl) (by kernel_rfl) (fun _ _ _ h => h) (Or.inl ⟨by rfl, ?_⟩) (by assumption) ?_
    · intro w9 hSw; go_simp
    try simp only [Act.put, List.setIfInBounds_toArray, List.set_cons_zero, List.set_cons_succ]
    refine wpAnyH_take (i := 5) (oi := ⟨some 16, _, _, _, _, _⟩) (v := .bool true) rfl (by kernel_rfl) (by kernel_rfl) (by kernel_rfl) (fun _ _ _ h => h) (Or.inl ⟨by rfl, ?_⟩) (by assumption) ?_
    · intro w9 hSw; go_simp
    try simp only [Act.put, List.setIfInBounds_toArray, List.set_cons_zero, List.set_cons_succ]
    refine wpAnyH_take (i := 6) (oi := ⟨some 17, _, _, _, _, _⟩) (v := .agg #[.int .i64 f1, .int .i64 n1, .string s1, .slice A1 l1 c1]) rfl (by kernel_rfl) (by kernel_rfl) (by kernel_rfl) (fun _ _ _ h => h) (Or.inl ⟨by rfl, ?_⟩) (by assumption) ?_
    · intro w9 hSw; go_simp
    try simp only [Act.put, List.setIfInBounds_toArray, List.set_cons_zero, List.set_cons_succ]
    refine wpAnyH_take (i := 8) (oi := ⟨some 19, _, _, _, _, _⟩) (v := .agg #[.int .i64 f2, .int .i64 n2, .string s2, .slice A2 l2 c2]) rfl (by kernel_rfl) (by kernel_rfl) (by kernel_rfl) (fun _ _ _ h => h) (Or.inl ⟨by rfl, ?_⟩) (by assumption) ?_
    · intro w9 hSw; go_simp
    try simp only [Act.put, List.setIfInBounds_toArray, List.set_cons_zero, List.set_cons_succ]
    refine wpAnyH_ready (rs := [7]) (by kernel_rfl) (by simp) ?_
    refine AllReadyH.cons (o := ⟨some 18, _, _, _, _, _⟩) rfl (fun K hK => ?_) AllReadyH.nil
    go_simp
    (with_reducible refine (HPA.out _ hs2).mono ?_)
    rintro e q3 ⟨rfl, hs3⟩
    refine hK.out _ _ (keep.out q3 hs3) (fun hHeld => ?_)
    clear hK K
    try simp only [Act.put, List.setIfInBounds_toArray, List.set_cons_zero, List.set_cons_succ]
    refine wpAnyH_ready (rs := [9]) (by kernel_rfl) (by simp) ?_
    refine AllReadyH.cons (o := ⟨some 20, _, _, _, _, _⟩) rfl (fun K hK => ?_) AllReadyH.nil
    go_simp
    (with_reducible refine (HPB.out _ hs3).mono ?_)
    rintro e q4 ⟨rfl, hs4⟩
    refine hK.out _ _ (keep.out q4 hs4) (fun hHeld => ?_)
    clear hK K
    try simp only [Act.put, List.setIfInBounds_toArray, List.set_cons_zero, List.set_cons_succ]
    refine wpAnyH_take (i := 10) (oi := ⟨some 21, _, _, _, _, _⟩) (v := .bool true) rfl (by kernel_rfl) (by kernel_rfl) (by kernel_rfl) (fun _ _ _ h => h) (Or.inl ⟨by rfl, ?_⟩) (by assumption) ?_
    · intro w9 hSw; go_simp
    try simp only [Act.put, List.setIfInBounds_toArray, List.set_cons_zero, List.set_cons_succ]
    refine wpAnyH_take (i := 11) (oi := ⟨some 22, _, _, _, _, _⟩) (v := .bool true) rfl (by kernel_rfl) (by kernel_rfl) (by kernel_rfl) (fun _ _ _ h => h) (Or.inl ⟨by rfl, ?_⟩) (by assumption) ?_
    · intro w9 hSw; go_simp
    try simp only [Act.put, List.setIfInBounds_toArray, List.set_cons_zero, List.set_cons_succ]
    refine wpAnyH_take (i := 12) (oi := ⟨some 23, _, _, _, _, _⟩) (v := undef) rfl (by kernel_rfl) (by kernel_rfl) (by kernel_rfl) (fun _ _ _ h => h) (Or.inr ⟨by rfl, rfl⟩) (by assumption) ?_
    try simp only [Act.put, List.setIfInBounds_toArray, List.set_cons_zero, List.set_cons_succ]
    refine wpAnyH_take (i := 13) (oi := ⟨some 24, _, _, _, _, _⟩) (v := undef) rfl (by kernel_rfl) (by kernel_rfl) (by kernel_rfl) (fun _ _ _ h => h) (Or.inr ⟨by rfl, rfl⟩) (by assumption) ?_
    try simp only [Act.put, List.setIfInBounds_toArray, List.set_cons_zero, List.set_cons_succ]
    refine wpAnyH_ready (rs := [14]) (by kernel_rfl) (by simp) ?_
    refine AllReadyH.cons (o := ⟨some 25, _, _, _, _, _⟩) rfl (fun K hK => ?_) AllReadyH.nil
    go_simp
    refine hK.out _ _ (keep.out _ hs4) (fun hHeld => ?_)
    clear hK K
    try simp only [Act.put, List.setIfInBounds_toArray, List.set_cons_zero, List.set_cons_succ]
    refine wpAnyH_take (i := 15) (oi := ⟨some 26, _, _, _, _, _⟩) (v := .bool true) rfl (by kernel_rfl) (by kernel_rfl) (by kernel_rfl) (fun _ _ _ h => h) (Or.inl ⟨by rfl, ?_⟩) (by assumption) ?_
    · intro w9 hSw; go_simp
    try simp only [Act.put, List.setIfInBounds_toArray, List.set_cons_zero, List.set_cons_succ]
    refine wpAnyH_take (i := 16) (oi := ⟨some 27, _, _, _, _, _⟩) (v := .bool true) rfl (by kernel_rfl) (by kernel_rfl) (by kernel_rfl) (fun _ _ _ h => h) (Or.inl ⟨by rfl, ?_⟩) (by assumption) ?_
    · intro w9 hSw; go_simp
    try simp only [Act.put, List.setIfInBounds_toArray, List.set_cons_zero, List.set_cons_succ]
    refine wpAnyH_take (i := 17) (oi := ⟨some 28, _, _, _, _, _⟩) (v := .bool true) rfl (by kernel_rfl) (by kernel_rfl) (by kernel_rfl) (fun _ _ _ h => h) (Or.inl ⟨by rfl, ?_⟩) (by assumption) ?_
    · intro w9 hSw; go_simp
    try simp only [Act.put, List.setIfInBounds_toArray, List.set_cons_zero, List.set_cons_succ]
    refine wpAnyH_ready (rs := [18]) (by kernel_rfl) (by simp) ?_
    refine AllReadyH.cons (o := ⟨some 29, _, _, _, _, _⟩) rfl (fun K hK => ?_) AllReadyH.nil
    go_simp
    (with_reducible refine (HLV.out _ hs4).mono ?_)
    rintro e q6 ⟨rfl, hs6⟩
    refine hK.out _ _ (keep.out q6 hs6) (fun hHeld => ?_)
    clear hK K
    try simp only [Act.put, List.setIfInBounds_toArray, List.set_cons_zero, List.set_cons_succ]
    refine wpAnyH_take (i := 19) (oi := ⟨some 30, _, _, _, _, _⟩) (v := .bool true) rfl (by kernel_rfl) (by kernel_rfl) (by kernel_rfl) (fun _ _ _ h => h) (Or.inl ⟨by rfl, ?_⟩) (by assumption) ?_
    · intro w9 hSw; go_simp
    try simp only [Act.put, List.setIfInBounds_toArray, List.set_cons_zero, List.set_cons_succ]
    refine wpAnyH_take (i := 20) (oi := ⟨some 4, _, _, _, _, _⟩) (v := .bool true) rfl (by kernel_rfl) (by kernel_rfl) (by kernel_rfl) (fun _ _ _ h => h) (Or.inl ⟨by rfl, ?_⟩) (by assumption) ?_
    · intro w9 hSw; go_simp
    try simp only [Act.put, List.setIfInBounds_toArray, List.set_cons_zero, List.set_cons_succ]
    refine wpAnyH_done (by kernel_rfl) ?_ _
    go_wp2
    go_ret
    exact ⟨rfl, hs6.1⟩
theorem typesPrints_law (a : Option Addr) (len cap : Nat) (b : Option Addr) (len2 cap2 : Nat) (w : World) (h1 : SomeInts w (.slice a len cap)) (h2 : SomeInts w (.slice b len2 cap2)) : Calls Tryd.prog 7 #[.slice a len cap, .slice b len2 cap2] w (TrueB w) := by
  obtain ⟨zs, h1⟩ := h1
  obtain ⟨ys, h2⟩ := h2
  exact typesPrints_walk _ _ _ _ zs ys w h1 h2
end Go.Proofs.YtbdfjboojokgdaaDoor
