/- The contract of kinds.Split. Condition: a kind has at most 2^40 parts. -/
import Derived.Test.YtomhojpoaicioaaOwn
namespace Go.Proofs.Ytomhojpoaicioaa
open Go.RowKit

/-- What is behind the first of a kind's own. -/
theorem KAt.tail {P : Nat → Prop} {w : World} {q : K} {l : List K} {b off c n : Nat} (h : KAt P w (.mk (q :: l)) (.slice (some ⟨b, off, none⟩) n c)) : ∃ v2, (c = 1 → v2 = .slice (some ⟨b, off, none⟩) l.length 0) ∧ (c ≠ 1 → v2 = .slice (some ⟨b, off + 1, none⟩) l.length (c - 1)) ∧ KAt P w (.mk l) v2 := by
  cases h with
  | intro _ _ _ us hc hm hu hrow hk =>
    have hrl : l.length + 1 ≤ c := by simpa using hc
    by_cases hc1 : c = 1
    · have hr0 : l = [] := List.eq_nil_of_length_eq_zero (by omega)
      subst hr0
      exact ⟨_, fun _ => rfl, fun h9 => absurd hc1 h9, kat_nil _ _ _ _ (Nat.zero_le _)⟩
    · refine ⟨_, fun h9 => absurd h9 hc1, fun _ => rfl, .intro l _ (c - 1) us.tail (by omega) (by omega) (by simp [hu]) ?_ (fun i hi => ?_)⟩
      · rcases hrow with h9 | ⟨b', off', e, hp, hlt, hcell⟩
        · cases h9
        · injection e with e
          injection e with e1 e2
          subst e1 e2
          refine .inr ⟨b, off + 1, rfl, hp, hlt, fun i hi => ?_⟩
          have h9 := hcell (i + 1) (by simp at hi; omega)
          rw [show off + 1 + i = off + (i + 1) by omega, h9]
          simp
      · have h9 := hk (i + 1) (by simp; omega)
        simpa using h9
theorem kform {P : Nat → Prop} {w : World} {k : K} {v : Value} (h : KAt P w k v) : ∃ A n c, v = .slice A n c := by
  cases k with
  | mk q => obtain ⟨A2, c2, e2, _⟩ := h.form; exact ⟨A2, _, c2, e2⟩
/-- What Split answered. -/
def SplitRes (w : World) (k1 k2 : K) (is : Bool) (e : Ending) (w' : World) : Prop :=
  ∃ v1 v2, e = .returned (.tuple #[.agg #[v1], .agg #[v2], .bool is]) ∧ KAt (fun b => w.heap.size ≤ b) w' k1 v1 ∧ KAt (fun b => w.heap.size ≤ b) w' k2 v2 ∧ Below w.heap.size w w'
set_option maxRecDepth 100000 in
set_option maxHeartbeats 1000000 in
theorem split_none (P : Nat → Prop) (v : Value) (w : World) (h : KAt P w (.mk []) v) : Calls Try.prog 18 #[.agg #[v]] w (SplitRes w (.mk []) (.mk []) false) := by
  obtain ⟨A, c, rfl, hm⟩ := h.form
  clear h hm
  have hb0 : Below w.heap.size w (((w.alloc (.cells #[.slice A 0 c] 25)).alloc (.cells #[.slice none 0 0] 25)).alloc (.cells #[.slice none 0 0] 25)) := ((below_new w _).trans ((below_new _ _).mono (by simp))).trans ((below_new _ _).mono (by simp; omega))
  have HB0 := Lib.hid hb0
  clear hb0
  go_enter Try.func18, Try.ntmps18
  go_wp2_with fail
  have hx1 : (((w.alloc (.cells #[.slice A 0 c] 25)).alloc (.cells #[.slice none 0 0] 25)).alloc (.cells #[.slice none 0 0] 25)).cell? ⟨w.heap.size + 1, 0, none⟩ = some (.slice none 0 0) := by simp [go_sem]
  have hx2 : (((w.alloc (.cells #[.slice A 0 c] 25)).alloc (.cells #[.slice none 0 0] 25)).alloc (.cells #[.slice none 0 0] 25)).cell? ⟨w.heap.size + 2, 0, none⟩ = some (.slice none 0 0) := by simp [go_sem]
  have hf1 : (((w.alloc (.cells #[.slice A 0 c] 25)).alloc (.cells #[.slice none 0 0] 25)).alloc (.cells #[.slice none 0 0] 25)).frozen? ⟨w.heap.size + 1, 0, none⟩ = false := by simp [go_sem]
  have hf2 : (((w.alloc (.cells #[.slice A 0 c] 25)).alloc (.cells #[.slice none 0 0] 25)).alloc (.cells #[.slice none 0 0] 25)).frozen? ⟨w.heap.size + 2, 0, none⟩ = false := by simp [go_sem]
  have hz1 : w.heap.size + 2 < (((w.alloc (.cells #[.slice A 0 c] 25)).alloc (.cells #[.slice none 0 0] 25)).alloc (.cells #[.slice none 0 0] 25)).heap.size := by simp
  generalize ((w.alloc (.cells #[.slice A 0 c] 25)).alloc (.cells #[.slice none 0 0] 25)).alloc (.cells #[.slice none 0 0] 25) = w0 at *
  refine (star_new _).mono ?_
  rintro e y1 ⟨rfl, b1⟩
  go_wp2_with fail
  refine (star_new _).mono ?_
  rintro e y2 ⟨rfl, b2⟩
  have hzz := b1.size
  have b12 : Below w0.heap.size w0 y2 := b1.trans (b2.mono hzz)
  have d1 := (b12.cell (p := ⟨w.heap.size + 1, 0, none⟩) (show w.heap.size + 1 < w0.heap.size by omega)).trans hx1
  have d2 := (b12.cell (p := ⟨w.heap.size + 2, 0, none⟩) hz1).trans hx2
  have f1 := (b12.frozen (p := ⟨w.heap.size + 1, 0, none⟩) (show w.heap.size + 1 < w0.heap.size by omega)).trans hf1
  have f2 := (b12.frozen (p := ⟨w.heap.size + 2, 0, none⟩) hz1).trans hf2
  have HB2 := Lib.hid (HB0.out.trans (b12.mono (by omega)))
  clear b1 b2 b12
  go_wp2
  exact bodyPost_ret (v := .tuple #[.agg #[.slice none 0 0], .agg #[.slice none 0 0], .bool false]) (by simp [results, Try.results18, go_sem, d1, d2]) rfl ⟨_, _, rfl, kat_nil _ _ _ _ (Nat.zero_le _), kat_nil _ _ _ _ (Nat.zero_le _), (HB2.out.setCell (Nat.le_succ _) _).setCell (Nat.le_succ_of_le (Nat.le_succ _)) _⟩
set_option maxRecDepth 100000 in
set_option maxHeartbeats 1000000 in
theorem split_some (P : Nat → Prop) (q : K) (l : List K) (v : Value) (w : World) (h : KAt P w (.mk (q :: l)) v) (hsz : K.sz (.mk (q :: l)) ≤ 1099511627776) : Calls Try.prog 18 #[.agg #[v]] w (SplitRes w q (.mk l) true) := by
  obtain ⟨A, c, rfl, hm⟩ := h.form
  obtain ⟨b, off, u, rfl, hlt, hcu, hku⟩ := h.at 0 (by simp)
  rw [Nat.add_zero] at hcu
  have hku' : KAt P w q u := hku
  obtain ⟨v2, e1, e2, hk2⟩ := h.tail
  have hcc : l.length + 1 ≤ c := by
    cases h with
    | intro _ _ _ us hc hm hu hrow hk => simpa using hc
  have hs1 : K.sz q ≤ 1099511627776 := by rw [K.sz_mk] at hsz; simp at hsz; omega
  have hs2 : K.sz (.mk l) ≤ 1099511627776 := by
    have : 1 ≤ K.sz q := by cases q with | mk q => rw [K.sz_mk]; omega
    rw [K.sz_mk] at hsz ⊢; simp at hsz; omega
  have hb0 : Below w.heap.size w (((w.alloc (.cells #[.slice (some ⟨b, off, none⟩) (l.length + 1) c] 25)).alloc (.cells #[.slice none 0 0] 25)).alloc (.cells #[.slice none 0 0] 25)) := ((below_new w _).trans ((below_new _ _).mono (by simp))).trans ((below_new _ _).mono (by simp; omega))
  have HB0 := Lib.hid hb0
  have hl0 : (((l.length : Int) + 1) == 0) = false := by rw [beq_eq_false_iff_ne]; omega
  obtain ⟨Au, nu, cu, rfl⟩ : ∃ Au nu cu, u = .slice Au nu cu := by
    cases q with
    | mk q => obtain ⟨A2, c2, e2, _⟩ := hku'.form; exact ⟨A2, _, c2, e2⟩
  have HKU := Lib.hid hku'
  have HK2 := Lib.hid hk2
  have hi1 : (1 : Int) ≤ (l.length : Int) + 1 := by omega
  have hi2 : (l.length : Int) + 1 ≤ (c : Int) := by omega
  have hi3 : (0 : Int) < (l.length : Int) + 1 := by omega
  unfold maxLen at hm
  simp only [List.length_cons] at hm
  have hx0 : (((w.alloc (.cells #[.slice (some ⟨b, off, none⟩) (l.length + 1) c] 25)).alloc (.cells #[.slice none 0 0] 25)).alloc (.cells #[.slice none 0 0] 25)).cell? ⟨w.heap.size, 0, none⟩ = some (.slice (some ⟨b, off, none⟩) (l.length + 1) c) := by simp [go_sem]
  have hx1 : (((w.alloc (.cells #[.slice (some ⟨b, off, none⟩) (l.length + 1) c] 25)).alloc (.cells #[.slice none 0 0] 25)).alloc (.cells #[.slice none 0 0] 25)).cell? ⟨w.heap.size + 1, 0, none⟩ = some (.slice none 0 0) := by simp [go_sem]
  have hx2 : (((w.alloc (.cells #[.slice (some ⟨b, off, none⟩) (l.length + 1) c] 25)).alloc (.cells #[.slice none 0 0] 25)).alloc (.cells #[.slice none 0 0] 25)).cell? ⟨w.heap.size + 2, 0, none⟩ = some (.slice none 0 0) := by simp [go_sem]
  have hf1 : (((w.alloc (.cells #[.slice (some ⟨b, off, none⟩) (l.length + 1) c] 25)).alloc (.cells #[.slice none 0 0] 25)).alloc (.cells #[.slice none 0 0] 25)).frozen? ⟨w.heap.size + 1, 0, none⟩ = false := by simp [go_sem]
  have hf2 : (((w.alloc (.cells #[.slice (some ⟨b, off, none⟩) (l.length + 1) c] 25)).alloc (.cells #[.slice none 0 0] 25)).alloc (.cells #[.slice none 0 0] 25)).frozen? ⟨w.heap.size + 2, 0, none⟩ = false := by simp [go_sem]
  have hz1 : w.heap.size + 2 < (((w.alloc (.cells #[.slice (some ⟨b, off, none⟩) (l.length + 1) c] 25)).alloc (.cells #[.slice none 0 0] 25)).alloc (.cells #[.slice none 0 0] 25)).heap.size := by simp
  have hcu0 := (hb0.cell (p := ⟨b, off, none⟩) hlt).trans hcu
  have hz0 := hb0.size
  clear h hku hku' hk2 hsz hb0 hcu
  by_cases hc1 : c = 1
  · have e9 := e1 hc1
    clear e1 e2
    subst hc1
    obtain rfl : l = [] := List.eq_nil_of_length_eq_zero (by omega)
    simp only [List.length_nil, Nat.zero_add] at *
    go_enter Try.func18, Try.ntmps18
    go_wp2_with fail
    subst e9
    generalize ((w.alloc _).alloc _).alloc _ = w0 at *
    have HK20 : Hid (∀ y, Below w0.heap.size w0 y → KAt P y (.mk []) (.slice (some ⟨b, off, none⟩) 0 0)) := fun y hy => (HK2.out.on HB0.out).on hy
    have HC2 : Hid (∀ y, Below w0.heap.size w0 y → Calls Try.prog 39 #[.agg #[.slice (some ⟨b, off, none⟩) 0 0]] y (KindMade y (.mk []))) := fun y hy => own_any _ _ (.mk []) _ _ (Nat.le_refl _) (HK20.out y hy) hs2
    have HKU0 : Hid (KAt P w0.drew q (.slice Au nu cu)) := (HKU.out.on HB0.out).on (Below.refl _ _).drew
    have HC1 : Hid (Calls Try.prog 39 #[.agg #[.slice Au nu cu]] w0.drew (KindMade w0.drew q)) := own_any _ _ q _ _ (Nat.le_refl _) HKU0.out hs1
    have hltb : b < w0.heap.size := by omega
    have hlt0 : w.heap.size < w0.heap.size := by omega
    have hlt1 : w.heap.size + 1 < w0.heap.size := by omega
    have keepS : Hid (∀ y, Below w0.heap.size w0 y → y.cell? ⟨w.heap.size, 0, none⟩ = some (.slice (some ⟨b, off, none⟩) 1 1) ∧ y.cell? ⟨b, off, none⟩ = some (.slice Au nu cu)) := fun y hy => ⟨(hy.cell (p := ⟨w.heap.size, 0, none⟩) hlt0).trans hx0, (hy.cell (p := ⟨b, off, none⟩) hltb).trans hcu0⟩
    have keepT : Hid (∀ y, Below w0.heap.size w0 y → y.cell? ⟨w.heap.size + 1, 0, none⟩ = some (.slice none 0 0) ∧ y.cell? ⟨w.heap.size + 2, 0, none⟩ = some (.slice none 0 0) ∧ y.frozen? ⟨w.heap.size + 1, 0, none⟩ = false ∧ y.frozen? ⟨w.heap.size + 2, 0, none⟩ = false) := fun y hy => ⟨(hy.cell (p := ⟨w.heap.size + 1, 0, none⟩) hlt1).trans hx1, (hy.cell (p := ⟨w.heap.size + 2, 0, none⟩) hz1).trans hx2, (hy.frozen (p := ⟨w.heap.size + 1, 0, none⟩) hlt1).trans hf1, (hy.frozen (p := ⟨w.heap.size + 2, 0, none⟩) hz1).trans hf2⟩
    clear hx1 hx2 hf1 hf2
    have hS0 := And.intro hx0 hcu0
    have keepU : Hid (∀ (y : World) (v : Value), (y.cell? ⟨w.heap.size, 0, none⟩ = some (.slice (some ⟨b, off, none⟩) 1 1) ∧ y.cell? ⟨b, off, none⟩ = some (.slice Au nu cu)) → ((y.setCell ⟨w.heap.size + 1, 0, none⟩ v).cell? ⟨w.heap.size, 0, none⟩ = some (.slice (some ⟨b, off, none⟩) 1 1) ∧ (y.setCell ⟨w.heap.size + 1, 0, none⟩ v).cell? ⟨b, off, none⟩ = some (.slice Au nu cu))) := fun y v h => by have hne1 : b ≠ w.heap.size + 1 := Nat.ne_of_lt (Nat.lt_succ_of_lt hlt); simpa [go_sem] using h
    have keepV : Hid (∀ (y : World) (v : Value), (y.cell? ⟨w.heap.size, 0, none⟩ = some (.slice (some ⟨b, off, none⟩) 1 1) ∧ y.cell? ⟨b, off, none⟩ = some (.slice Au nu cu)) → ((y.setCell ⟨w.heap.size + 2, 0, none⟩ v).cell? ⟨w.heap.size, 0, none⟩ = some (.slice (some ⟨b, off, none⟩) 1 1) ∧ (y.setCell ⟨w.heap.size + 2, 0, none⟩ v).cell? ⟨b, off, none⟩ = some (.slice Au nu cu))) := fun y v h => by have hne1 : b ≠ w.heap.size + 2 := Nat.ne_of_lt (Nat.lt_succ_of_lt (Nat.lt_succ_of_lt hlt)); simpa [go_sem] using h
    go_region_held3 (fun y => y.cell? ⟨w.heap.size, 0, none⟩ = some (.slice (some ⟨b, off, none⟩) 1 1) ∧ y.cell? ⟨b, off, none⟩ = some (.slice Au nu cu)) (first | exact hS0 | exact hS1 | exact hS2 | exact keepU.out _ _ hS2 | exact keepV.out _ _ (keepU.out _ _ hS2)) (first | (go_at_call 39; (with_reducible refine HC1.out.mono ?_); rintro e y1 ⟨kv1, rfl, hk1, b1⟩; have b1' : Below w0.heap.size w0 y1 := (Below.refl _ w0).drew.trans b1; have z1 := b1'.size; have hS1 := keepS.out y1 b1'; obtain ⟨A1, n1, c1, rfl⟩ := kform hk1) | (go_at_call 39; (with_reducible refine (HC2.out y1 b1').mono ?_); rintro e y2 ⟨kv2, rfl, hk2, b2⟩; have b2' := b1'.trans (b2.mono z1); have hS2 := keepS.out y2 b2'; obtain ⟨g1, g2, g3, g4⟩ := keepT.out y2 b2'; obtain ⟨A2, n2, c2, rfl⟩ := kform hk2))
    all_goals
      have HK1 := Lib.hid ((((hk1.on b2).mono (fun x (hx : w0.heap.size ≤ x) => (by omega : w.heap.size + 3 ≤ x))).keep (.setCell (b := w.heap.size + 1) (o := 0) (fun e => by omega) (.slice A1 n1 c1))).keep (.setCell (b := w.heap.size + 2) (o := 0) (fun e => by omega) (.slice A2 n2 c2)))
      have HK3 := Lib.hid (((hk2.mono (fun x (hx : y1.heap.size ≤ x) => (by omega : w.heap.size + 3 ≤ x))).keep (.setCell (b := w.heap.size + 1) (o := 0) (fun e => by omega) (.slice A1 n1 c1))).keep (.setCell (b := w.heap.size + 2) (o := 0) (fun e => by omega) (.slice A2 n2 c2)))
      have HBB := Lib.hid (HB0.out.trans (b2'.mono hz0))
      clear b1 b2 b1' b2' hk1 hk2 hS0 hS1 hS2
      go_wp2
      exact bodyPost_ret (v := .tuple #[.agg #[.slice A1 n1 c1], .agg #[.slice A2 n2 c2], .bool true]) (by simp [results, Try.results18, go_sem, g1, g2]) rfl ⟨_, _, rfl, HK1.out.mono (fun x (hx : w.heap.size + 3 ≤ x) => (by omega : w.heap.size ≤ x)), HK3.out.mono (fun x (hx : w.heap.size + 3 ≤ x) => (by omega : w.heap.size ≤ x)), (HBB.out.setCell (Nat.le_succ _) _).setCell (Nat.le_succ_of_le (Nat.le_succ _)) _⟩
  · have e9 := e2 hc1
    clear e1 e2
    go_enter Try.func18, Try.ntmps18
    go_wp2_with fail
    subst e9
    generalize ((w.alloc _).alloc _).alloc _ = w0 at *
    have HK20 : Hid (∀ y, Below w0.heap.size w0 y → KAt P y (.mk l) (.slice (some ⟨b, off + 1, none⟩) l.length (c - 1))) := fun y hy => (HK2.out.on HB0.out).on hy
    have HC2 : Hid (∀ y, Below w0.heap.size w0 y → Calls Try.prog 39 #[.agg #[.slice (some ⟨b, off + 1, none⟩) l.length (c - 1)]] y (KindMade y (.mk l))) := fun y hy => own_any _ _ (.mk l) _ _ (Nat.le_refl _) (HK20.out y hy) hs2
    have HKU0 : Hid (KAt P w0.drew q (.slice Au nu cu)) := (HKU.out.on HB0.out).on (Below.refl _ _).drew
    have HC1 : Hid (Calls Try.prog 39 #[.agg #[.slice Au nu cu]] w0.drew (KindMade w0.drew q)) := own_any _ _ q _ _ (Nat.le_refl _) HKU0.out hs1
    have hltb : b < w0.heap.size := by omega
    have hlt0 : w.heap.size < w0.heap.size := by omega
    have hlt1 : w.heap.size + 1 < w0.heap.size := by omega
    have keepS : Hid (∀ y, Below w0.heap.size w0 y → y.cell? ⟨w.heap.size, 0, none⟩ = some (.slice (some ⟨b, off, none⟩) (l.length + 1) c) ∧ y.cell? ⟨b, off, none⟩ = some (.slice Au nu cu)) := fun y hy => ⟨(hy.cell (p := ⟨w.heap.size, 0, none⟩) hlt0).trans hx0, (hy.cell (p := ⟨b, off, none⟩) hltb).trans hcu0⟩
    have keepT : Hid (∀ y, Below w0.heap.size w0 y → y.cell? ⟨w.heap.size + 1, 0, none⟩ = some (.slice none 0 0) ∧ y.cell? ⟨w.heap.size + 2, 0, none⟩ = some (.slice none 0 0) ∧ y.frozen? ⟨w.heap.size + 1, 0, none⟩ = false ∧ y.frozen? ⟨w.heap.size + 2, 0, none⟩ = false) := fun y hy => ⟨(hy.cell (p := ⟨w.heap.size + 1, 0, none⟩) hlt1).trans hx1, (hy.cell (p := ⟨w.heap.size + 2, 0, none⟩) hz1).trans hx2, (hy.frozen (p := ⟨w.heap.size + 1, 0, none⟩) hlt1).trans hf1, (hy.frozen (p := ⟨w.heap.size + 2, 0, none⟩) hz1).trans hf2⟩
    clear hx1 hx2 hf1 hf2
    have hS0 := And.intro hx0 hcu0
    have keepU : Hid (∀ (y : World) (v : Value), (y.cell? ⟨w.heap.size, 0, none⟩ = some (.slice (some ⟨b, off, none⟩) (l.length + 1) c) ∧ y.cell? ⟨b, off, none⟩ = some (.slice Au nu cu)) → ((y.setCell ⟨w.heap.size + 1, 0, none⟩ v).cell? ⟨w.heap.size, 0, none⟩ = some (.slice (some ⟨b, off, none⟩) (l.length + 1) c) ∧ (y.setCell ⟨w.heap.size + 1, 0, none⟩ v).cell? ⟨b, off, none⟩ = some (.slice Au nu cu))) := fun y v h => by have hne1 : b ≠ w.heap.size + 1 := Nat.ne_of_lt (Nat.lt_succ_of_lt hlt); simpa [go_sem] using h
    have keepV : Hid (∀ (y : World) (v : Value), (y.cell? ⟨w.heap.size, 0, none⟩ = some (.slice (some ⟨b, off, none⟩) (l.length + 1) c) ∧ y.cell? ⟨b, off, none⟩ = some (.slice Au nu cu)) → ((y.setCell ⟨w.heap.size + 2, 0, none⟩ v).cell? ⟨w.heap.size, 0, none⟩ = some (.slice (some ⟨b, off, none⟩) (l.length + 1) c) ∧ (y.setCell ⟨w.heap.size + 2, 0, none⟩ v).cell? ⟨b, off, none⟩ = some (.slice Au nu cu))) := fun y v h => by have hne1 : b ≠ w.heap.size + 2 := Nat.ne_of_lt (Nat.lt_succ_of_lt (Nat.lt_succ_of_lt hlt)); simpa [go_sem] using h
    go_region_held3 (fun y => y.cell? ⟨w.heap.size, 0, none⟩ = some (.slice (some ⟨b, off, none⟩) (l.length + 1) c) ∧ y.cell? ⟨b, off, none⟩ = some (.slice Au nu cu)) (first | exact hS0 | exact hS1 | exact hS2 | exact keepU.out _ _ hS2 | exact keepV.out _ _ (keepU.out _ _ hS2)) (first | (go_at_call 39; (with_reducible refine HC1.out.mono ?_); rintro e y1 ⟨kv1, rfl, hk1, b1⟩; have b1' : Below w0.heap.size w0 y1 := (Below.refl _ w0).drew.trans b1; have z1 := b1'.size; have hS1 := keepS.out y1 b1'; obtain ⟨A1, n1, c1, rfl⟩ := kform hk1) | (go_at_call 39; (with_reducible refine (HC2.out y1 b1').mono ?_); rintro e y2 ⟨kv2, rfl, hk2, b2⟩; have b2' := b1'.trans (b2.mono z1); have hS2 := keepS.out y2 b2'; obtain ⟨g1, g2, g3, g4⟩ := keepT.out y2 b2'; obtain ⟨A2, n2, c2, rfl⟩ := kform hk2))
    all_goals
      have HK1 := Lib.hid ((((hk1.on b2).mono (fun x (hx : w0.heap.size ≤ x) => (by omega : w.heap.size + 3 ≤ x))).keep (.setCell (b := w.heap.size + 1) (o := 0) (fun e => by omega) (.slice A1 n1 c1))).keep (.setCell (b := w.heap.size + 2) (o := 0) (fun e => by omega) (.slice A2 n2 c2)))
      have HK3 := Lib.hid (((hk2.mono (fun x (hx : y1.heap.size ≤ x) => (by omega : w.heap.size + 3 ≤ x))).keep (.setCell (b := w.heap.size + 1) (o := 0) (fun e => by omega) (.slice A1 n1 c1))).keep (.setCell (b := w.heap.size + 2) (o := 0) (fun e => by omega) (.slice A2 n2 c2)))
      have HBB := Lib.hid (HB0.out.trans (b2'.mono hz0))
      clear b1 b2 b1' b2' hk1 hk2 hS0 hS1 hS2
      go_wp2
      exact bodyPost_ret (v := .tuple #[.agg #[.slice A1 n1 c1], .agg #[.slice A2 n2 c2], .bool true]) (by simp [results, Try.results18, go_sem, g1, g2]) rfl ⟨_, _, rfl, HK1.out.mono (fun x (hx : w.heap.size + 3 ≤ x) => (by omega : w.heap.size ≤ x)), HK3.out.mono (fun x (hx : w.heap.size + 3 ≤ x) => (by omega : w.heap.size ≤ x)), (HBB.out.setCell (Nat.le_succ _) _).setCell (Nat.le_succ_of_le (Nat.le_succ _)) _⟩
end Go.Proofs.Ytomhojpoaicioaa
