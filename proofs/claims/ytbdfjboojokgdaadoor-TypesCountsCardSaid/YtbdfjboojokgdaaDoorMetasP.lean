/- The contracts of types.Metas and of the document's (chapter 4): the walks. Condition: the type has at most 2^40 nodes; its numbers are int64's. -/
import Derived.Test.YtbdfjboojokgdaaDoorMetas
namespace Go.Proofs.YtbdfjboojokgdaaDoor
open Go.RowKit

set_option maxRecDepth 100000 in
set_option maxHeartbeats 1000000 in
theorem metas1_any (base sb nb mb : Nat) (l : List Ty) (t : Ty) (v : Value) (w : World) (hl : l.length < 1099511627776) (hfit : t.fit) (hs : MetSt base sb nb mb l w) (h : TyAt (fun b => b < base) w t v) :
    Calls Tryd.prog 57 (#[v] ++ #[.pointer (some ⟨sb, 0, none⟩), .pointer (some ⟨nb, 0, none⟩)]) w fun e w' => e = .returned (.tuple #[]) ∧ MetSt base sb nb mb (l ++ [t]) w' ∧ FrM (MetM sb nb mb) w w' := by
  obtain ⟨A, c, rfl, _, _⟩ := h.form
  have hml := metasL_len l
  obtain ⟨W, eW, q1, b1, z1⟩ := one_box w (.int .i64 t.form) (.int .i64 t.num) (.string t.name) (.slice A t.args.length c) 25
  have hsW := hs.on b1
  have HEW := Lib.hid eW
  obtain ⟨x0, x1, x2, x3, x4, _⟩ := q1
  have HN : Hid (metaS (metasL l) t = metasL l → MetSt base sb nb mb (l ++ [t]) W ∧ FrM (MetM sb nb mb) w W) := fun hz =>
    ⟨⟨hsW.bs, hsW.hs, by rw [metasL_snoc, hz]; exact hsW.hn, by rw [metasL_snoc, hz]; exact hsW.hm⟩, FrM.of_below b1 (fun k _ hk => by
      have hb := b1.block nb hs.nb_lt
      unfold MetM at hk; rw [hb] at hk; exact hk)⟩
  by_cases hf : t.form = 1
  · obtain ⟨hn1, hn2⟩ := Ty.fit_num hfit
    have hcs : W.cell? ⟨sb, 0, none⟩ = some (.map (some mb)) := cell_of_one hsW.hs
    have hsl := lt_of_block hsW.hs
    have hlk := hsW.hm.look hn1 hn2
    by_cases hin : t.num ∈ metasL l
    · have HE : Hid (metaS (metasL l) t = metasL l) := by show _ = _; unfold metaS; rw [if_neg (fun e => e.2 hin)]
      rw [decide_eq_true hin] at hlk
      clear eW hin hs hsW h
      generalize t.num = nn at *
      generalize t.form = ff at *
      subst hf
      go_enter Tryd.func57, Tryd.ntmps57
      go_upto_region 1 with (fail)
      rw [HEW.out]
      go_wp2
      go_end0
      exact ⟨rfl, HN.out HE.out⟩
    · have HE : Hid (metasL (l ++ [t]) = metasL l ++ [t.num]) := by show _ = _; rw [metasL_snoc]; unfold metaS; rw [if_pos ⟨hf, hin⟩]
      obtain ⟨w1, hr1, hk1, hg1⟩ := hsW.hm.store hn1 hn2 (by omega) hin
      obtain ⟨v, hv, hown⟩ := hsW.hn
      have hz1 := hg1.size
      have hnbW := lt_of_block hv
      have hne1 : nb ≠ mb := hsW.hm.notCells hv
      have hv1 : w1.heap[nb]? = some (.cells #[v] 22) := (hg1.block nb hnbW (fun e => by injection e with e; exact hne1 e)).trans hv
      have hown1 : OwnI base w1 v (metasL l) := own_keep hown (fun g hg => hg1.block g (World.ownsRow.lt hown g hg).2 (fun e => by
        injection e with e; subst e
        obtain ⟨cur, hc⟩ := own_type hown hg
        obtain ⟨sz, f, ⟨D, ⟨es, clock, hb, _⟩, _⟩, _⟩ := hsW.hm
        rw [hc] at hb; cases hb))
      obtain ⟨A3, c3, rfl⟩ := own_form hown
      have c1 : w1.cell? ⟨nb, 0, none⟩ = some (.slice A3 (metasL l).length c3) := cell_of_one hv1
      have y1 : w1.cell? ⟨w.heap.size, 1, none⟩ = some (.int .i64 t.num) := (World.cell?_of_block (a := ⟨w.heap.size, 1, none⟩) (hg1.block w.heap.size (by omega) (fun e => by injection e with e; have := hs.hm.lt; omega))).trans x2
      have y0 : w.heap.size < w1.heap.size := by omega
      have hn1' : nb < w1.heap.size := by omega
      have hbs := hs.bs
      have HST : Hid (∀ (w2 : World) (g cap : Nat), w2.ownsRow base 3 1 (.slice (some ⟨g, 0, none⟩) ((metasL l).length + 1) cap) ((metasL l).length + 1) ((metasL l).map (Value.int .i64) ++ [.int .i64 t.num]) → (w1.alloc (.cells #[.int .i64 t.num] 3)).grownBy w2 (Value.slice A3 (metasL l).length c3).ownBlock → ((Value.slice A3 (metasL l).length c3).ownBlock = some g ∨ g = w1.heap.size + 1) →
          w2.cell? ⟨nb, 0, none⟩ = some (.slice A3 (metasL l).length c3) ∧ w2.frozen? ⟨nb, 0, none⟩ = false ∧ MetSt base sb nb mb (l ++ [t]) (w2.setCell ⟨nb, 0, none⟩ (.slice (some ⟨g, 0, none⟩) ((metasL l).length + 1) cap)) ∧ FrM (MetM sb nb mb) w (w2.setCell ⟨nb, 0, none⟩ (.slice (some ⟨g, 0, none⟩) ((metasL l).length + 1) cap))) := fun w2 g cap h2 g2 hat => by
        have hb2 : w2.heap[nb]? = some (.cells #[.slice A3 (metasL l).length c3] 22) := by
          rw [g2.block nb (by simp; omega) (fun e => own_not hown hv (by decide) e.symm), (below_new w1 _).block nb hn1', hv1]
        exact ⟨cell_of_one hb2, free_of_one hb2, hs.step t HE.out b1 hv hk1 hg1 3 h2 g2 hat⟩
      have HOWN := Lib.hid (own_below hown1 (below_new w1 (.cells #[.int .i64 t.num] 3)))
      have HNEW := Lib.hid (news_one w1 (.int .i64 t.num) 3)
      have HONE := Lib.hid (one_int t.num)
      obtain ⟨i0, hi, hz0, hzs, hzb⟩ := info_parts' Tryd.info3
      rw [decide_eq_false hin] at hlk
      have HC1 := Lib.hid c1
      clear eW hin hs hsW h hv hv1 hown hown1 hk1 hg1 hne1 HN
      generalize t.num = nn at *
      generalize t.form = ff at *
      subst hf
      generalize (metasL l).length = ml at *
      generalize (metasL l).map (Value.int .i64) = mv at *
      go_enter Tryd.func57, Tryd.ntmps57
      go_upto_region 1 with (fail)
      rw [HEW.out]
      go_wp2_with (at_builtin; refine wpList_append_lies _ rfl (.tmp 17) (.tmp 20) 22 rfl base 3 i0 (.int .i64 0) 1 8 Tryd.underlying22 hi hz0 hzs hzb rfl (by decide) (.slice A3 ml c3) ml mv rfl HOWN.out ⟨w1.heap.size, 0, none⟩ 1 1 [.int .i64 nn] rfl rfl HNEW.out HONE.out (by omega) (by unfold maxLen; omega) (by omega) (by simp; omega) (w1.heap.size + 1) (by simp) ?_; intro g cap w2 h2 g2 hat _; obtain ⟨p1, p2, p3⟩ := HST.out w2 g cap h2 g2 hat; have HP := Lib.hid p3; clear p3 h2 g2 hat)
      go_end0
      exact ⟨rfl, HP.out⟩
  · have HE : Hid (metaS (metasL l) t = metasL l) := by show _ = _; unfold metaS; rw [if_neg (fun e => hf e.1)]
    clear eW hs hsW h
    generalize t.form = ff at *
    generalize t.num = nn at *
    go_enter Tryd.func57, Tryd.ntmps57
    go_wp2_with fail
    rw [HEW.out]
    go_wp2
    go_end0
    exact ⟨rfl, HN.out HE.out⟩
theorem metasL_nodes_fit {t : Ty} (h : t.fit) : ∀ z ∈ t.metas, -9223372036854775808 ≤ z ∧ z ≤ 9223372036854775807 := by
  refine metasL_fit _ ?_
  induction t with
  | hole n => intro t ht; simp [Ty.nodes] at ht; subst ht; exact h
  | var s => intro t ht; simp [Ty.nodes] at ht; subst ht; trivial
  | con s => intro t ht; simp [Ty.nodes] at ht; subst ht; trivial
  | app a b iha ihb =>
    intro t ht
    simp [Ty.nodes] at ht
    rcases ht with rfl | ht | ht
    · exact h
    · exact iha h.1 t ht
    · exact ihb h.2 t ht
  | all s a ih =>
    intro t ht
    simp [Ty.nodes] at ht
    rcases ht with rfl | ht
    · exact h
    · exact ih h t ht
set_option maxRecDepth 100000 in
set_option maxHeartbeats 1000000 in
theorem metas_any (P : Nat → Prop) (t : Ty) (v : Value) (w : World) (h : TyAt P w t v) (hfit : t.fit) (hz : t.sz ≤ 1099511627776) :
    Calls Tryd.prog 17 #[v] w fun e w' => (∃ u, e = .returned u ∧ IntsAt (fun b => w.heap.size ≤ b) w' u t.metas) ∧ Below w.heap.size w w' := by
  obtain ⟨f1, n1, s1, A1, l1, c1, rfl⟩ := h.flat
  have hcf : ∀ (vs : Array Value) (y : World), (callFunc 57 vs).run Tryd.prog y = .ok (.enter 57 vs) y := fun vs y => by first | kernel_rfl | rfl
  have hmm : ∀ y : World, (Instr.makeMap 95 none).run Tryd.prog y = .ok (.map (some y.heap.size)) (y.alloc (.map #[] 0)) := fun y => run_makeMap 95 y
  obtain ⟨X, eX, hst, bX, zX⟩ : ∃ X, ((((w.alloc (.cells #[.int .i64 f1, .int .i64 n1, .string s1, .slice A1 l1 c1] 25)).alloc (.cells #[.slice none 0 0] 22)).alloc (.map #[] 0)).alloc (.cells #[.map (some (w.heap.size + 1 + 1))] 95)) = X ∧ MetSt w.heap.size (w.heap.size + 1 + 1 + 1) (w.heap.size + 1) (w.heap.size + 1 + 1) [] X ∧ Below w.heap.size w X ∧ X.heap.size = w.heap.size + 4 := by
    refine ⟨_, rfl, ?_, ?_, by simp⟩
    · obtain ⟨w1, e1⟩ : ∃ w1, w.alloc (.cells #[.int .i64 f1, .int .i64 n1, .string s1, .slice A1 l1 c1] 25) = w1 := ⟨_, rfl⟩
      have z1 : w1.heap.size = w.heap.size + 1 := by rw [← e1]; simp
      rw [e1, ← z1]
      have k2 := (MapKept.heap_alloc w1 (.cells #[.slice none 0 0] 22)).1
      obtain ⟨w2, e2⟩ : ∃ w2, w1.alloc (.cells #[.slice none 0 0] 22) = w2 := ⟨_, rfl⟩
      have z2 : w2.heap.size = w1.heap.size + 1 := by rw [← e2]; simp
      rw [e2] at k2 ⊢
      rw [← z2]
      have k3 := MapI.made Tryd.prog 3 w2
      obtain ⟨w3, e3⟩ : ∃ w3, w2.alloc (.map #[] 0) = w3 := ⟨_, rfl⟩
      have b3 : Below w2.heap.size w2 w3 := by rw [← e3]; exact below_new _ _
      have z3 : w3.heap.size = w2.heap.size + 1 := by rw [← e3]; simp
      rw [e3] at k3 ⊢
      rw [← z3]
      have k4 := (MapKept.heap_alloc w3 (.cells #[.map (some w2.heap.size)] 95)).1
      have b4 := below_new w3 (.cells #[.map (some w2.heap.size)] 95)
      refine ⟨⟨by omega, by omega, by omega⟩, k4, ⟨.slice none 0 0, ?_, OwnI.nil _ _⟩, ⟨0, fun _ => none, k3.on b4, Nat.zero_le _, fun x => .inr ⟨by simp [metasL], rfl⟩⟩⟩
      rw [b4.block _ (by omega), b3.block _ (by omega)]; exact k2
    · exact (below3 w _ _ _).trans ((below_new _ _).mono (by simp; omega))
  have HC := Lib.hid (each_of Ty.fit (fun _ _ => Ty.fit_arg) w.heap.size (MetM _ _ _) (MetSt w.heap.size (w.heap.size + 1 + 1 + 1) (w.heap.size + 1) (w.heap.size + 1 + 1)) (met_told _ _ _ _) 57 #[.pointer (some ⟨w.heap.size + 1 + 1 + 1, 0, none⟩), .pointer (some ⟨w.heap.size + 1, 0, none⟩)] 1099511627776 hcf
    (fun l t v y hl hok hs _ h => metas1_any _ _ _ _ l t v y hl hok hs h) _ [] t _ X (Nat.le_refl _) (by simpa using hz) hfit hst (by omega) (h.bound'.on bX))
  have hst' := hst
  have HMB : Hid (∀ k, MetM (w.heap.size + 1 + 1 + 1) (w.heap.size + 1) (w.heap.size + 1 + 1) X k → w.heap.size ≤ k) := fun k hk => (hst'.lt hk).2
  have HEX := Lib.hid eX
  have HB := Lib.hid bX
  clear hst'
  have HFI := Lib.hid (metasL_nodes_fit hfit)
  clear eX hst h bX
  go_enter Tryd.func17, Tryd.ntmps17
  go_wp2_with fail
  rw [HEX.out]
  (with_reducible refine HC.out.mono ?_)
  rintro e y ⟨rfl, hs, hf⟩
  obtain ⟨u, hu, hown⟩ := hs.hn
  rw [List.nil_append] at hown
  have HI := Lib.hid ((hown.ints HFI.out).mono (Q := fun b => w.heap.size ≤ b) (fun _ h => h.1))
  have hcl := cell_of_one hu
  have HBY := Lib.hid (HB.out.trans (hf.below (by omega) HMB.out))
  obtain ⟨A9, c9, rfl⟩ := own_form hown
  clear hs hf hu hown
  go_wp2
  go_ret
  exact ⟨⟨_, rfl, HI.out⟩, HBY.out⟩
end Go.Proofs.YtbdfjboojokgdaaDoor
