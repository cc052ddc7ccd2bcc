/- The contract of the document's Of: a kind as a term. Condition: the kind reads as one. -/
import Derived.Test.YtomhojpoaicioaaSplit
import Derived.Test.YtomhojpoaicioaaTAt
import Derived.Test.YtomhojpoaicioaaKindsV
import Derived.Deep.RegionHeld3
namespace Go.Proofs.Ytomhojpoaicioaa
open Go.RowKit Tm

def ROfRes (w : World) (k : K) (e : Ending) (w' : World) : Prop := ∃ u, e = .returned u ∧ TAt (fun b => w.heap.size ≤ b) w' (ofK k) u ∧ Below w.heap.size w w'
theorem rof_end {w y : World} {t1 t2 : Tm} {Aa Ab : Option Addr} {ca cb : Nat} {tt : TypeId} (s0 s1 s2 : Value) (l0 : w.heap.size + 1 < y.heap.size)
    (hA : TAt (fun b => w.heap.size + 2 ≤ b) y t1 (.agg #[.int .i64 (formT t1), .int .i64 (numT t1), .slice Aa (argsT t1) ca]))
    (hB : TAt (fun b => w.heap.size + 2 ≤ b) y t2 (.agg #[.int .i64 (formT t2), .int .i64 (numT t2), .slice Ab (argsT t2) cb]))
    (hW : Below w.heap.size w y) :
    TAt (fun b => w.heap.size ≤ b) ((((y.setCell ⟨w.heap.size + 1, 0, none⟩ s0).setCell ⟨w.heap.size + 1, 1, none⟩ s1).setCell ⟨w.heap.size + 1, 2, none⟩ s2).alloc (.cells #[.int .i64 (formT t1), .int .i64 (numT t1), .slice Aa (argsT t1) ca, .int .i64 (formT t2), .int .i64 (numT t2), .slice Ab (argsT t2) cb] tt)) (.arr t1 t2) (.agg #[.int .i64 3, .int .i64 0, .slice (some ⟨y.heap.size, 0, none⟩) 2 2])
    ∧ Below w.heap.size w ((((y.setCell ⟨w.heap.size + 1, 0, none⟩ s0).setCell ⟨w.heap.size + 1, 1, none⟩ s1).setCell ⟨w.heap.size + 1, 2, none⟩ s2).alloc (.cells #[.int .i64 (formT t1), .int .i64 (numT t1), .slice Aa (argsT t1) ca, .int .i64 (formT t2), .int .i64 (numT t2), .slice Ab (argsT t2) cb] tt)) := by
  have nP : ¬ (fun b => w.heap.size + 2 ≤ b) (w.heap.size + 1) := fun h => by have h9 : w.heap.size + 2 ≤ w.heap.size + 1 := h; omega
  have kP : Keeps (fun b => w.heap.size + 2 ≤ b) y (((y.setCell ⟨w.heap.size + 1, 0, none⟩ s0).setCell ⟨w.heap.size + 1, 1, none⟩ s1).setCell ⟨w.heap.size + 1, 2, none⟩ s2) := ((Keeps.setCell nP _).trans (Keeps.setCell nP _)).trans (Keeps.setCell nP _)
  have bW : Below w.heap.size w (((y.setCell ⟨w.heap.size + 1, 0, none⟩ s0).setCell ⟨w.heap.size + 1, 1, none⟩ s1).setCell ⟨w.heap.size + 1, 2, none⟩ s2) := ((hW.setCell (Nat.le_succ _) _).setCell (Nat.le_succ _) _).setCell (Nat.le_succ _) _
  have hA' := hA.keep kP
  have hB' := hB.keep kP
  have hz : (((y.setCell ⟨w.heap.size + 1, 0, none⟩ s0).setCell ⟨w.heap.size + 1, 1, none⟩ s1).setCell ⟨w.heap.size + 1, 2, none⟩ s2).heap.size = y.heap.size := by simp
  generalize ((y.setCell ⟨w.heap.size + 1, 0, none⟩ s0).setCell ⟨w.heap.size + 1, 1, none⟩ s1).setCell ⟨w.heap.size + 1, 2, none⟩ s2 = w4 at *
  have n1 := below_new w4 (.cells #[.int .i64 (formT t1), .int .i64 (numT t1), .slice Aa (argsT t1) ca, .int .i64 (formT t2), .int .i64 (numT t2), .slice Ab (argsT t2) cb] tt)
  have hs := six_new w4 (.int .i64 (formT t1)) (.int .i64 (numT t1)) (.slice Aa (argsT t1) ca) (.int .i64 (formT t2)) (.int .i64 (numT t2)) (.slice Ab (argsT t2) cb) tt
  refine ⟨?_, bW.alloc bW.size _⟩
  rw [← hz]
  rw [← hz] at l0
  exact .arr t1 t2 w4.heap.size 0 2 _ _ _ _ _ _ (Nat.le_of_lt (Nat.lt_of_succ_lt l0)) (by simp) (hs 0 _ rfl) (hs 1 _ rfl) (hs 2 _ rfl) (hs 3 _ rfl) (hs 4 _ rfl) (hs 5 _ rfl)
    ((hA'.on n1).mono (fun b (hb : w.heap.size + 2 ≤ b) => (by omega : w.heap.size ≤ b))) ((hB'.on n1).mono (fun b (hb : w.heap.size + 2 ≤ b) => (by omega : w.heap.size ≤ b)))
theorem rof_cells {y : World} {g : Nat} {A : Option Addr} (o : Obj) (h : (y.cell? ⟨g, 0, none⟩ = some (.int .i64 0) ∧ y.cell? ⟨g, 1, none⟩ = some (.int .i64 0) ∧ y.cell? ⟨g, 2, none⟩ = some (.slice none 0 0))) :
    ((((y.setCell ⟨g, 0, none⟩ (.int .i64 3)).setCell ⟨g, 1, none⟩ (.int .i64 0)).setCell ⟨g, 2, none⟩ (.slice A 2 2)).alloc o).cell? ⟨g, 0, none⟩ = some (.int .i64 3)
    ∧ ((((y.setCell ⟨g, 0, none⟩ (.int .i64 3)).setCell ⟨g, 1, none⟩ (.int .i64 0)).setCell ⟨g, 2, none⟩ (.slice A 2 2)).alloc o).cell? ⟨g, 1, none⟩ = some (.int .i64 0)
    ∧ ((((y.setCell ⟨g, 0, none⟩ (.int .i64 3)).setCell ⟨g, 1, none⟩ (.int .i64 0)).setCell ⟨g, 2, none⟩ (.slice A 2 2)).alloc o).cell? ⟨g, 2, none⟩ = some (.slice A 2 2) := by
  have hlt := World.block_lt_of_cell? y _ h.1
  obtain ⟨e0, e1, e2⟩ := h
  have n := below_new (((y.setCell ⟨g, 0, none⟩ (.int .i64 3)).setCell ⟨g, 1, none⟩ (.int .i64 0)).setCell ⟨g, 2, none⟩ (.slice A 2 2)) o
  have hz : (((y.setCell ⟨g, 0, none⟩ (.int .i64 3)).setCell ⟨g, 1, none⟩ (.int .i64 0)).setCell ⟨g, 2, none⟩ (.slice A 2 2)).heap.size = y.heap.size := by simp
  refine ⟨(n.cell (p := ⟨g, 0, none⟩) (by rw [hz]; exact hlt)).trans ?_, (n.cell (p := ⟨g, 1, none⟩) (by rw [hz]; exact hlt)).trans ?_, (n.cell (p := ⟨g, 2, none⟩) (by rw [hz]; exact hlt)).trans ?_⟩
  all_goals simp [go_sem, e0, e1, e2]
set_option maxRecDepth 100000 in
set_option maxHeartbeats 2000000 in
theorem rof_any (P : Nat → Prop) : ∀ (n : Nat) (k : K) (v : Value) (w : World), K.sz k ≤ n → KAt P w k v → Calls Try.prog 32 #[.agg #[v]] w (ROfRes w k)
  | 0, .mk l, _, _, hn, _ => by rw [K.sz_mk] at hn; omega
  | n + 1, .mk [], v, w, hn, h => by
    obtain ⟨A, c, rfl, hm⟩ := h.form
    clear h hm
    have HE : Hid (ofK (.mk []) = .star) := ofK_nil
    go_enter Try.func32, Try.ntmps32
    go_wp2
    exact bodyPost_ret (v := .agg #[.int .i64 2, .int .i64 0, .slice none 0 0]) (by simp [results, Try.results32, go_sem]) rfl ⟨_, rfl, by rw [HE.out]; exact .star _ _, (below_new w _).trans ((below_new _ _).mono (by simp))⟩
  | n + 1, .mk (q :: l), v, w, hn, h => by
    obtain ⟨A, c, rfl, hm⟩ := h.form
    obtain ⟨b, off, u, rfl, hlt, hcu, hku⟩ := h.at 0 (by simp)
    rw [Nat.add_zero] at hcu
    have hku' : KAt P w q u := hku
    obtain ⟨v2, e1, e2, hk2⟩ := h.tail
    have hcc : l.length + 1 ≤ c := by
      cases h with
      | intro _ _ _ us hc hm hu hrow hk => simpa using hc
    have hq1 : 1 ≤ K.sz q := by cases q with | mk q => rw [K.sz_mk]; omega
    have hs1 : K.sz q ≤ n := by rw [K.sz_mk] at hn; simp at hn; omega
    have hs2 : K.sz (.mk l) ≤ n := by rw [K.sz_mk] at hn ⊢; simp at hn; omega
    have hl0 : (((l.length : Int) + 1) == 0) = false := by rw [beq_eq_false_iff_ne]; omega
    obtain ⟨Au, nu, cu, rfl⟩ : ∃ Au nu cu, u = .slice Au nu cu := by
      cases q with
      | mk q => obtain ⟨A2, c2, e2, _⟩ := hku'.form; exact ⟨A2, _, c2, e2⟩
    have HKU := Lib.hid hku'
    have HK2 := Lib.hid hk2
    have hi1 : (1 : Int) ≤ (l.length : Int) + 1 := by omega
    have hi2 : (l.length : Int) + 1 ≤ (c : Int) := by omega
    have hi3 : (0 : Int) < (l.length : Int) + 1 := by omega
    unfold maxLen at hm
    simp only [List.length_cons] at hm
    have HE : Hid (ofK (.mk (q :: l)) = .arr (ofK q) (ofK (.mk l))) := ofK_cons q l
    have hb0 : Below w.heap.size w ((w.alloc (.cells #[.slice (some ⟨b, off, none⟩) (l.length + 1) c] 25)).alloc (.cells #[.int .i64 0, .int .i64 0, .slice none 0 0] 54)) := ((below_new w _).trans ((below_new _ _).mono (by simp)))
    have hx0 : ((w.alloc (.cells #[.slice (some ⟨b, off, none⟩) (l.length + 1) c] 25)).alloc (.cells #[.int .i64 0, .int .i64 0, .slice none 0 0] 54)).cell? ⟨w.heap.size, 0, none⟩ = some (.slice (some ⟨b, off, none⟩) (l.length + 1) c) := by simp [go_sem]
    have hr : ∀ (W : World), W = (w.alloc (.cells #[.slice (some ⟨b, off, none⟩) (l.length + 1) c] 25)).alloc (.cells #[.int .i64 0, .int .i64 0, .slice none 0 0] 54) → (W.cell? ⟨w.heap.size + 1, 0, none⟩ = some (.int .i64 0) ∧ W.cell? ⟨w.heap.size + 1, 1, none⟩ = some (.int .i64 0) ∧ W.cell? ⟨w.heap.size + 1, 2, none⟩ = some (.slice none 0 0)) ∧ W.frozen? ⟨w.heap.size + 1, 0, none⟩ = false ∧ W.frozen? ⟨w.heap.size + 1, 1, none⟩ = false ∧ W.frozen? ⟨w.heap.size + 1, 2, none⟩ = false := by
      rintro W rfl
      simp [go_sem]
    have HB0 := Lib.hid hb0
    have hz1 : w.heap.size + 1 < ((w.alloc (.cells #[.slice (some ⟨b, off, none⟩) (l.length + 1) c] 25)).alloc (.cells #[.int .i64 0, .int .i64 0, .slice none 0 0] 54)).heap.size := by simp
    have hcu0 := (hb0.cell (p := ⟨b, off, none⟩) hlt).trans hcu
    have hz0 := hb0.size
    have HR := Lib.hid (hr _ rfl)
    have IH := Lib.hid (rof_any P n)
    clear h hku hku' hk2 hn hb0 hcu hr
    by_cases hc1 : c = 1
    · have e9 := e1 hc1
      clear e1 e2
      subst hc1
      obtain rfl : l = [] := List.eq_nil_of_length_eq_zero (by omega)
      simp only [List.length_nil, Nat.zero_add] at *
      go_enter Try.func32, Try.ntmps32
      go_wp2_with fail
      subst e9
      generalize (w.alloc _).alloc _ = w0 at *
      have HK20 : Hid (∀ y, Below w0.heap.size w0 y → KAt P y (.mk []) (.slice (some ⟨b, off, none⟩) 0 0)) := fun y hy => (HK2.out.on HB0.out).on hy
      have HC2 : Hid (∀ y, Below w0.heap.size w0 y → Calls Try.prog 32 #[.agg #[.slice (some ⟨b, off, none⟩) 0 0]] y (ROfRes y (.mk []))) := fun y hy => IH.out (.mk []) _ _ hs2 (HK20.out y hy)
      have HKU0 : Hid (KAt P w0.drew q (.slice Au nu cu)) := (HKU.out.on HB0.out).on (Below.refl _ _).drew
      have HC1 : Hid (Calls Try.prog 32 #[.agg #[.slice Au nu cu]] w0.drew (ROfRes w0.drew q)) := IH.out q _ _ hs1 HKU0.out
      have hltb : b < w0.heap.size := by omega
      have hlt0 : w.heap.size < w0.heap.size := by omega
      have keepS : Hid (∀ y, Below w0.heap.size w0 y → y.cell? ⟨w.heap.size, 0, none⟩ = some (.slice (some ⟨b, off, none⟩) 1 1) ∧ y.cell? ⟨b, off, none⟩ = some (.slice Au nu cu)) := fun y hy => ⟨(hy.cell (p := ⟨w.heap.size, 0, none⟩) hlt0).trans hx0, (hy.cell (p := ⟨b, off, none⟩) hltb).trans hcu0⟩
      have keepT : Hid (∀ y, Below w0.heap.size w0 y → (y.cell? ⟨w.heap.size + 1, 0, none⟩ = some (.int .i64 0) ∧ y.cell? ⟨w.heap.size + 1, 1, none⟩ = some (.int .i64 0) ∧ y.cell? ⟨w.heap.size + 1, 2, none⟩ = some (.slice none 0 0)) ∧ y.frozen? ⟨w.heap.size + 1, 0, none⟩ = false ∧ y.frozen? ⟨w.heap.size + 1, 1, none⟩ = false ∧ y.frozen? ⟨w.heap.size + 1, 2, none⟩ = false) := fun y hy => ⟨⟨(hy.cell (p := ⟨w.heap.size + 1, 0, none⟩) hz1).trans HR.out.1.1, (hy.cell (p := ⟨w.heap.size + 1, 1, none⟩) hz1).trans HR.out.1.2.1, (hy.cell (p := ⟨w.heap.size + 1, 2, none⟩) hz1).trans HR.out.1.2.2⟩, (hy.frozen (p := ⟨w.heap.size + 1, 0, none⟩) hz1).trans HR.out.2.1, (hy.frozen (p := ⟨w.heap.size + 1, 1, none⟩) hz1).trans HR.out.2.2.1, (hy.frozen (p := ⟨w.heap.size + 1, 2, none⟩) hz1).trans HR.out.2.2.2⟩
      have hS0 := And.intro hx0 hcu0
      have keepU : Hid (∀ (y : World) (o : Obj), (y.cell? ⟨w.heap.size, 0, none⟩ = some (.slice (some ⟨b, off, none⟩) 1 1) ∧ y.cell? ⟨b, off, none⟩ = some (.slice Au nu cu)) → ((y.alloc o).cell? ⟨w.heap.size, 0, none⟩ = some (.slice (some ⟨b, off, none⟩) 1 1) ∧ (y.alloc o).cell? ⟨b, off, none⟩ = some (.slice Au nu cu))) := fun y o h => ⟨((below_new y o).cell (p := ⟨w.heap.size, 0, none⟩) (World.block_lt_of_cell? y _ h.1)).trans h.1, ((below_new y o).cell (p := ⟨b, off, none⟩) (World.block_lt_of_cell? y _ h.2)).trans h.2⟩
      have keepV : Hid (∀ (y : World) (s0 s1 s2 : Value), (y.cell? ⟨w.heap.size, 0, none⟩ = some (.slice (some ⟨b, off, none⟩) 1 1) ∧ y.cell? ⟨b, off, none⟩ = some (.slice Au nu cu)) → ((((y.setCell ⟨w.heap.size + 1, 0, none⟩ s0).setCell ⟨w.heap.size + 1, 1, none⟩ s1).setCell ⟨w.heap.size + 1, 2, none⟩ s2).cell? ⟨w.heap.size, 0, none⟩ = some (.slice (some ⟨b, off, none⟩) 1 1) ∧ (((y.setCell ⟨w.heap.size + 1, 0, none⟩ s0).setCell ⟨w.heap.size + 1, 1, none⟩ s1).setCell ⟨w.heap.size + 1, 2, none⟩ s2).cell? ⟨b, off, none⟩ = some (.slice Au nu cu))) := fun y s0 s1 s2 h => by have hne1 : b ≠ w.heap.size + 1 := Nat.ne_of_lt (Nat.lt_succ_of_lt hlt); simpa [go_sem] using h
      go_region_held3 (fun y => y.cell? ⟨w.heap.size, 0, none⟩ = some (.slice (some ⟨b, off, none⟩) 1 1) ∧ y.cell? ⟨b, off, none⟩ = some (.slice Au nu cu)) (first | exact hS0 | exact hS1 | exact hS2 | exact keepU.out _ _ hS2 | exact keepU.out _ _ (keepV.out _ _ _ _ hS2) | exact keepV.out _ _ _ _ hS2) (first | (go_at_call 32; (with_reducible refine HC1.out.mono ?_); rintro e y1 ⟨kv1, rfl, hk1, b1⟩; have b1' : Below w0.heap.size w0 y1 := (Below.refl _ w0).drew.trans b1; have z1 := b1'.size; have hS1 := keepS.out y1 b1'; obtain ⟨A1, c1, rfl⟩ := hk1.form) | (go_at_call 32; (with_reducible refine (HC2.out y1 b1').mono ?_); rintro e y2 ⟨kv2, rfl, hk2, b2⟩; have b2' := b1'.trans (b2.mono z1); have hS2 := keepS.out y2 b2'; obtain ⟨⟨g1, g2, g3⟩, g4, g5, g6⟩ := keepT.out y2 b2'; obtain ⟨A2, c2, rfl⟩ := hk2.form; have hq := Nat.lt_of_lt_of_le hz1 b2'.size; have k1 : ∀ o, (y2.alloc o).cell? ⟨w.heap.size + 1, 0, none⟩ = some (.int .i64 0) := fun o => ((below_new y2 o).cell (p := ⟨w.heap.size + 1, 0, none⟩) hq).trans g1; have k2 : ∀ o, (y2.alloc o).cell? ⟨w.heap.size + 1, 1, none⟩ = some (.int .i64 0) := fun o => ((below_new y2 o).cell (p := ⟨w.heap.size + 1, 1, none⟩) hq).trans g2; have k3 : ∀ o, (y2.alloc o).cell? ⟨w.heap.size + 1, 2, none⟩ = some (.slice none 0 0) := fun o => ((below_new y2 o).cell (p := ⟨w.heap.size + 1, 2, none⟩) hq).trans g3; have k4 : ∀ o, (y2.alloc o).frozen? ⟨w.heap.size + 1, 0, none⟩ = false := fun o => ((below_new y2 o).frozen (p := ⟨w.heap.size + 1, 0, none⟩) hq).trans g4; have k5 : ∀ o, (y2.alloc o).frozen? ⟨w.heap.size + 1, 1, none⟩ = false := fun o => ((below_new y2 o).frozen (p := ⟨w.heap.size + 1, 1, none⟩) hq).trans g5; have k6 : ∀ o, (y2.alloc o).frozen? ⟨w.heap.size + 1, 2, none⟩ = false := fun o => ((below_new y2 o).frozen (p := ⟨w.heap.size + 1, 2, none⟩) hq).trans g6))
      all_goals
        have HT := Lib.hid (rof_end (w := w) (y := y2) (tt := 54) (.int .i64 3) (.int .i64 0) (.slice (some ⟨y2.heap.size, 0, none⟩) 2 2) hq ((hk1.on b2).mono (fun x (hx : w0.heap.size ≤ x) => Nat.le_trans hz1 hx)) (hk2.mono (fun x (hx : y1.heap.size ≤ x) => Nat.le_trans hz1 (Nat.le_trans z1 hx))) (HB0.out.trans (b2'.mono hz0)))
        obtain ⟨r0, r1, r2⟩ := rof_cells (A := some ⟨y2.heap.size, 0, none⟩) (.cells #[.int .i64 (formT (ofK q)), .int .i64 (numT (ofK q)), .slice A1 (argsT (ofK q)) c1, .int .i64 (formT (ofK (.mk []))), .int .i64 (numT (ofK (.mk []))), .slice A2 (argsT (ofK (.mk []))) c2] 54) ⟨g1, g2, g3⟩
        clear k1 k2 k3 k4 k5 k6 b1 b2 b1' b2' hk1 hk2 hS0 hS1 hS2
        generalize ((((y2.setCell ⟨w.heap.size + 1, 0, none⟩ (.int .i64 3)).setCell ⟨w.heap.size + 1, 1, none⟩ (.int .i64 0)).setCell ⟨w.heap.size + 1, 2, none⟩ (.slice (some ⟨y2.heap.size, 0, none⟩) 2 2)).alloc (.cells #[.int .i64 (formT (ofK q)), .int .i64 (numT (ofK q)), .slice A1 (argsT (ofK q)) c1, .int .i64 (formT (ofK (.mk []))), .int .i64 (numT (ofK (.mk []))), .slice A2 (argsT (ofK (.mk []))) c2] 54)) = W at *
        clear g1 g2 g3 g4 g5 g6
        go_wp2
        exact bodyPost_ret (v := .agg #[.int .i64 3, .int .i64 0, .slice (some ⟨y2.heap.size, 0, none⟩) 2 2]) (by simp [results, Try.results32, go_sem, r0, r1, r2]) rfl ⟨_, rfl, by rw [HE.out]; exact HT.out.1, HT.out.2⟩
    · have e9 := e2 hc1
      clear e1 e2
      go_enter Try.func32, Try.ntmps32
      go_wp2_with fail
      subst e9
      generalize (w.alloc _).alloc _ = w0 at *
      have HK20 : Hid (∀ y, Below w0.heap.size w0 y → KAt P y (.mk l) (.slice (some ⟨b, off + 1, none⟩) l.length (c - 1))) := fun y hy => (HK2.out.on HB0.out).on hy
      have HC2 : Hid (∀ y, Below w0.heap.size w0 y → Calls Try.prog 32 #[.agg #[.slice (some ⟨b, off + 1, none⟩) l.length (c - 1)]] y (ROfRes y (.mk l))) := fun y hy => IH.out (.mk l) _ _ hs2 (HK20.out y hy)
      have HKU0 : Hid (KAt P w0.drew q (.slice Au nu cu)) := (HKU.out.on HB0.out).on (Below.refl _ _).drew
      have HC1 : Hid (Calls Try.prog 32 #[.agg #[.slice Au nu cu]] w0.drew (ROfRes w0.drew q)) := IH.out q _ _ hs1 HKU0.out
      have hltb : b < w0.heap.size := by omega
      have hlt0 : w.heap.size < w0.heap.size := by omega
      have keepS : Hid (∀ y, Below w0.heap.size w0 y → y.cell? ⟨w.heap.size, 0, none⟩ = some (.slice (some ⟨b, off, none⟩) (l.length + 1) c) ∧ y.cell? ⟨b, off, none⟩ = some (.slice Au nu cu)) := fun y hy => ⟨(hy.cell (p := ⟨w.heap.size, 0, none⟩) hlt0).trans hx0, (hy.cell (p := ⟨b, off, none⟩) hltb).trans hcu0⟩
      have keepT : Hid (∀ y, Below w0.heap.size w0 y → (y.cell? ⟨w.heap.size + 1, 0, none⟩ = some (.int .i64 0) ∧ y.cell? ⟨w.heap.size + 1, 1, none⟩ = some (.int .i64 0) ∧ y.cell? ⟨w.heap.size + 1, 2, none⟩ = some (.slice none 0 0)) ∧ y.frozen? ⟨w.heap.size + 1, 0, none⟩ = false ∧ y.frozen? ⟨w.heap.size + 1, 1, none⟩ = false ∧ y.frozen? ⟨w.heap.size + 1, 2, none⟩ = false) := fun y hy => ⟨⟨(hy.cell (p := ⟨w.heap.size + 1, 0, none⟩) hz1).trans HR.out.1.1, (hy.cell (p := ⟨w.heap.size + 1, 1, none⟩) hz1).trans HR.out.1.2.1, (hy.cell (p := ⟨w.heap.size + 1, 2, none⟩) hz1).trans HR.out.1.2.2⟩, (hy.frozen (p := ⟨w.heap.size + 1, 0, none⟩) hz1).trans HR.out.2.1, (hy.frozen (p := ⟨w.heap.size + 1, 1, none⟩) hz1).trans HR.out.2.2.1, (hy.frozen (p := ⟨w.heap.size + 1, 2, none⟩) hz1).trans HR.out.2.2.2⟩
      have hS0 := And.intro hx0 hcu0
      have keepU : Hid (∀ (y : World) (o : Obj), (y.cell? ⟨w.heap.size, 0, none⟩ = some (.slice (some ⟨b, off, none⟩) (l.length + 1) c) ∧ y.cell? ⟨b, off, none⟩ = some (.slice Au nu cu)) → ((y.alloc o).cell? ⟨w.heap.size, 0, none⟩ = some (.slice (some ⟨b, off, none⟩) (l.length + 1) c) ∧ (y.alloc o).cell? ⟨b, off, none⟩ = some (.slice Au nu cu))) := fun y o h => ⟨((below_new y o).cell (p := ⟨w.heap.size, 0, none⟩) (World.block_lt_of_cell? y _ h.1)).trans h.1, ((below_new y o).cell (p := ⟨b, off, none⟩) (World.block_lt_of_cell? y _ h.2)).trans h.2⟩
      have keepV : Hid (∀ (y : World) (s0 s1 s2 : Value), (y.cell? ⟨w.heap.size, 0, none⟩ = some (.slice (some ⟨b, off, none⟩) (l.length + 1) c) ∧ y.cell? ⟨b, off, none⟩ = some (.slice Au nu cu)) → ((((y.setCell ⟨w.heap.size + 1, 0, none⟩ s0).setCell ⟨w.heap.size + 1, 1, none⟩ s1).setCell ⟨w.heap.size + 1, 2, none⟩ s2).cell? ⟨w.heap.size, 0, none⟩ = some (.slice (some ⟨b, off, none⟩) (l.length + 1) c) ∧ (((y.setCell ⟨w.heap.size + 1, 0, none⟩ s0).setCell ⟨w.heap.size + 1, 1, none⟩ s1).setCell ⟨w.heap.size + 1, 2, none⟩ s2).cell? ⟨b, off, none⟩ = some (.slice Au nu cu))) := fun y s0 s1 s2 h => by have hne1 : b ≠ w.heap.size + 1 := Nat.ne_of_lt (Nat.lt_succ_of_lt hlt); simpa [go_sem] using h
      go_region_held3 (fun y => y.cell? ⟨w.heap.size, 0, none⟩ = some (.slice (some ⟨b, off, none⟩) (l.length + 1) c) ∧ y.cell? ⟨b, off, none⟩ = some (.slice Au nu cu)) (first | exact hS0 | exact hS1 | exact hS2 | exact keepU.out _ _ hS2 | exact keepU.out _ _ (keepV.out _ _ _ _ hS2) | exact keepV.out _ _ _ _ hS2) (first | (go_at_call 32; (with_reducible refine HC1.out.mono ?_); rintro e y1 ⟨kv1, rfl, hk1, b1⟩; have b1' : Below w0.heap.size w0 y1 := (Below.refl _ w0).drew.trans b1; have z1 := b1'.size; have hS1 := keepS.out y1 b1'; obtain ⟨A1, c1, rfl⟩ := hk1.form) | (go_at_call 32; (with_reducible refine (HC2.out y1 b1').mono ?_); rintro e y2 ⟨kv2, rfl, hk2, b2⟩; have b2' := b1'.trans (b2.mono z1); have hS2 := keepS.out y2 b2'; obtain ⟨⟨g1, g2, g3⟩, g4, g5, g6⟩ := keepT.out y2 b2'; obtain ⟨A2, c2, rfl⟩ := hk2.form; have hq := Nat.lt_of_lt_of_le hz1 b2'.size; have k1 : ∀ o, (y2.alloc o).cell? ⟨w.heap.size + 1, 0, none⟩ = some (.int .i64 0) := fun o => ((below_new y2 o).cell (p := ⟨w.heap.size + 1, 0, none⟩) hq).trans g1; have k2 : ∀ o, (y2.alloc o).cell? ⟨w.heap.size + 1, 1, none⟩ = some (.int .i64 0) := fun o => ((below_new y2 o).cell (p := ⟨w.heap.size + 1, 1, none⟩) hq).trans g2; have k3 : ∀ o, (y2.alloc o).cell? ⟨w.heap.size + 1, 2, none⟩ = some (.slice none 0 0) := fun o => ((below_new y2 o).cell (p := ⟨w.heap.size + 1, 2, none⟩) hq).trans g3; have k4 : ∀ o, (y2.alloc o).frozen? ⟨w.heap.size + 1, 0, none⟩ = false := fun o => ((below_new y2 o).frozen (p := ⟨w.heap.size + 1, 0, none⟩) hq).trans g4; have k5 : ∀ o, (y2.alloc o).frozen? ⟨w.heap.size + 1, 1, none⟩ = false := fun o => ((below_new y2 o).frozen (p := ⟨w.heap.size + 1, 1, none⟩) hq).trans g5; have k6 : ∀ o, (y2.alloc o).frozen? ⟨w.heap.size + 1, 2, none⟩ = false := fun o => ((below_new y2 o).frozen (p := ⟨w.heap.size + 1, 2, none⟩) hq).trans g6))
      all_goals
        have HT := Lib.hid (rof_end (w := w) (y := y2) (tt := 54) (.int .i64 3) (.int .i64 0) (.slice (some ⟨y2.heap.size, 0, none⟩) 2 2) hq ((hk1.on b2).mono (fun x (hx : w0.heap.size ≤ x) => Nat.le_trans hz1 hx)) (hk2.mono (fun x (hx : y1.heap.size ≤ x) => Nat.le_trans hz1 (Nat.le_trans z1 hx))) (HB0.out.trans (b2'.mono hz0)))
        obtain ⟨r0, r1, r2⟩ := rof_cells (A := some ⟨y2.heap.size, 0, none⟩) (.cells #[.int .i64 (formT (ofK q)), .int .i64 (numT (ofK q)), .slice A1 (argsT (ofK q)) c1, .int .i64 (formT (ofK (.mk l))), .int .i64 (numT (ofK (.mk l))), .slice A2 (argsT (ofK (.mk l))) c2] 54) ⟨g1, g2, g3⟩
        clear k1 k2 k3 k4 k5 k6 b1 b2 b1' b2' hk1 hk2 hS0 hS1 hS2
        generalize ((((y2.setCell ⟨w.heap.size + 1, 0, none⟩ (.int .i64 3)).setCell ⟨w.heap.size + 1, 1, none⟩ (.int .i64 0)).setCell ⟨w.heap.size + 1, 2, none⟩ (.slice (some ⟨y2.heap.size, 0, none⟩) 2 2)).alloc (.cells #[.int .i64 (formT (ofK q)), .int .i64 (numT (ofK q)), .slice A1 (argsT (ofK q)) c1, .int .i64 (formT (ofK (.mk l))), .int .i64 (numT (ofK (.mk l))), .slice A2 (argsT (ofK (.mk l))) c2] 54)) = W at *
        clear g1 g2 g3 g4 g5 g6
        go_wp2
        exact bodyPost_ret (v := .agg #[.int .i64 3, .int .i64 0, .slice (some ⟨y2.heap.size, 0, none⟩) 2 2]) (by simp [results, Try.results32, go_sem, r0, r1, r2]) rfl ⟨_, rfl, by rw [HE.out]; exact HT.out.1, HT.out.2⟩
end Go.Proofs.Ytomhojpoaicioaa
