/- The document's Same, of what is the same; the example. No conditions but those that each theorem names. -/
import Derived.Test.YthmnghngcbkjpaaGrp
import Derived.Deep.LoopGhost
namespace Go.Proofs.Ythmnghngcbkjpaa
open Go.RowKit
set_option maxRecDepth 100000 in
set_option maxHeartbeats 2000000 in
theorem same_any (P Q : Nat → Prop) (v1 v2 : Value) (M : List (List Int)) (w : World) (h1 : MatAt P w v1 M) (h2 : MatAt Q w v2 M) :
    Calls Try.prog 11 #[v1, v2] w (TrueB w) := by
  obtain ⟨A1, c1, rfl, _, hm1⟩ := h1.form
  obtain ⟨A2, c2, rfl, _, hm2⟩ := h2.form
  have H1 := Lib.hid h1
  have H2 := Lib.hid h2
  have hml : (M.length : Int) ≤ 9223372036854775807 := by unfold maxLen at hm1; omega
  clear h1 h2 hm1 hm2
  go_enter Try.func11, Try.ntmps11
  go_wp2_with fail
  go_loopw [5] (fun v wr => ∃ i : Nat, v = .int .i64 i ∧ i ≤ M.length ∧ Below w.heap.size w wr) (fun v _ => M.length - (intOf v).toNat)
  case atStart => exact ⟨0, rfl, Nat.zero_le _, Below.refl _ _⟩
  case round =>
    obtain ⟨i, rfl, hi, hb⟩ := hrel
    by_cases hlt : i < M.length
    · have hii : (i : Int) < (M.length : Int) := by omega
      obtain ⟨b1, o1, B1, d1, rfl, hb1, hc1, hr1⟩ := H1.out.at i hlt
      obtain ⟨b2, o2, B2, d2, rfl, hb2, hc2, hr2⟩ := H2.out.at i hlt
      obtain ⟨_, hl1, hm1, ha1⟩ := hr1.at
      obtain ⟨_, _, _, ha2⟩ := hr2.at
      generalize M[i] = r at *
      have hrl : (r.length : Int) ≤ 9223372036854775807 := by unfold maxLen at hm1; omega
      have e1 := (hb.cell (p := ⟨b1, o1 + i, none⟩) hb1).trans hc1
      have e2 := (hb.cell (p := ⟨b2, o2 + i, none⟩) hb2).trans hc2
      have hne : ((r.length : Int) != (r.length : Int)) = false := by simp
      have HB := Lib.hid hb
      have HA1 := Lib.hid ha1
      have HA2 := Lib.hid ha2
      have HC1 := Lib.hid hc1
      have HC2 := Lib.hid hc2
      clear hr1 hr2 ha1 ha2 hl1 hm1 hb hc1 hc2
      go_wp2_with fail
      go_quiet (fail)
      go_wp2_with fail
      clear e1 e2
      go_loopw [6] (fun v wr => ∃ k : Nat, v = .int .i64 k ∧ k ≤ r.length ∧ Below w.heap.size w wr) (fun v _ => r.length - (intOf v).toNat)
      case atStart => exact ⟨0, rfl, Nat.zero_le _, below_drewN HB.out _⟩
      case round =>
        obtain ⟨k, rfl, hk, hb⟩ := hrel
        have e1 := (hb.cell (p := ⟨b1, o1 + i, none⟩) hb1).trans HC1.out
        have e2 := (hb.cell (p := ⟨b2, o2 + i, none⟩) hb2).trans HC2.out
        have HB3 := Lib.hid hb
        by_cases hkl : k < r.length
        · have hki : (k : Int) < (r.length : Int) := by omega
          obtain ⟨p1, q1, rfl, _, hp1, hz1⟩ := HA1.out (by omega)
          obtain ⟨p2, q2, rfl, _, hp2, hz2⟩ := HA2.out (by omega)
          have f1 := (hb.cell (p := ⟨p1, q1 + k, none⟩) hp1).trans (hz1 k hkl)
          have f2 := (hb.cell (p := ⟨p2, q2 + k, none⟩) hp2).trans (hz2 k hkl)
          generalize r[k] = z at *
          have hne2 : (z != z) = false := by simp
          clear hz1 hz2 hb
          go_wp2_with fail
          go_quiet (fail)
          go_wp2_with fail
          go_roundw
          case rel => exact ⟨k + 1, by go_num, by omega, below_drewN HB3.out _⟩
          case measure => simp [intOf]; omega
        · have hki : ¬ (k : Int) < (r.length : Int) := by omega
          clear hb
          go_wp2_with fail
          go_roundw
          case rel => exact ⟨i + 1, by go_num, by omega, HB3.out⟩
          case measure => simp [intOf]; omega
    · have hii : ¬ (i : Int) < (M.length : Int) := by omega
      have HB := Lib.hid hb
      clear hb
      go_wp2
      go_ret
      exact ⟨rfl, HB.out⟩
/-- The example's uses. -/
def exM : List (List Int) := [[1], [0, 2]]
def exLd (i k : Nat) : Bool := !(i == 2) || k == 2
theorem exLd_is : LdIs 3 (useL exM) exLd := by
  have e01 : Edge 3 (useL exM) 0 1 := ⟨by omega, by omega, by simp [useL, exM]⟩
  have e10 : Edge 3 (useL exM) 1 0 := ⟨by omega, by omega, by simp [useL, exM]⟩
  have e12 : Edge 3 (useL exM) 1 2 := ⟨by omega, by omega, by simp [useL, exM]⟩
  have l0 : ∀ k, k < 3 → Leads 3 (useL exM) 0 k := fun k hk => by
    rcases (by omega : k = 0 ∨ k = 1 ∨ k = 2) with rfl | rfl | rfl
    · exact .refl _
    · exact .edge e01
    · exact (Leads.edge e01).step e12
  have l1 : ∀ k, k < 3 → Leads 3 (useL exM) 1 k := fun k hk => (Leads.edge e10).trans (l0 k hk)
  have l2 : ∀ k, Leads 3 (useL exM) 2 k → k = 2 := fun k hl => Leads.inside (P := fun i => i = 2) (fun i k hi he => by
    subst hi
    have := he.2.2
    simp [useL, exM] at this) hl rfl
  intro i k hi hk
  rcases (by omega : i = 0 ∨ i = 1 ∨ i = 2) with rfl | rfl | rfl
  · exact ⟨fun _ => l0 k hk, fun _ => rfl⟩
  · exact ⟨fun _ => l1 k hk, fun _ => rfl⟩
  · constructor
    · intro h
      have : k = 2 := by simpa [exLd] using h
      rw [this]; exact .refl _
    · intro h; rw [l2 k h]; rfl
theorem ex_row : IsRow 3 exLd [[2], [0, 1]] := by
  have t1 : Told 3 exLd _ ([] ++ [cls 3 exLd 2]) := .snoc .nil (i := 2) (by decide)
  have t2 : Told 3 exLd _ (([] ++ [cls 3 exLd 2]) ++ [cls 3 exLd 0]) := .snoc t1 (i := 0) (by decide)
  have e : (([] ++ [cls 3 exLd 2]) ++ [cls 3 exLd 0]) = [[2], [0, 1]] := by decide
  rw [e] at t2
  exact ⟨_, t2, by decide⟩
theorem ints_new {W : World} {b : Nat} {zs : List Int} (hb : W.heap[b]? = some (.cells (zs.map intV).toArray 3)) (hl : zs.length ≤ 1000) (hz : ∀ z ∈ zs, 0 ≤ z ∧ z ≤ 1000) (P : Nat → Prop) (hP : P b) : IntsAt P W (.slice (some ⟨b, 0, none⟩) zs.length zs.length) zs := by
  refine ⟨_, zs.length, rfl, Nat.le_refl _, by unfold maxLen; omega, fun z hm => by have := hz z hm; omega, .inr ⟨b, 0, rfl, hP, lt_of_block hb, fun i hi => ?_⟩⟩
  simp [World.cell?, hb, intV, hi]
theorem mat_new (w : World) (a b c : Int) (ha : 0 ≤ a ∧ a ≤ 1000) (hb : 0 ≤ b ∧ b ≤ 1000) (hc : 0 ≤ c ∧ c ≤ 1000) :
    MatAt (fun k => k < (((w.alloc (.cells #[.int .i64 a] 3)).alloc (.cells #[.int .i64 b, .int .i64 c] 3)).alloc (.cells #[.slice (some ⟨w.heap.size, 0, none⟩) 1 1, .slice (some ⟨w.heap.size + 1, 0, none⟩) 2 2] 30)).heap.size) (((w.alloc (.cells #[.int .i64 a] 3)).alloc (.cells #[.int .i64 b, .int .i64 c] 3)).alloc (.cells #[.slice (some ⟨w.heap.size, 0, none⟩) 1 1, .slice (some ⟨w.heap.size + 1, 0, none⟩) 2 2] 30)) (.slice (some ⟨w.heap.size + 1 + 1, 0, none⟩) 2 2) [[a], [b, c]] := by
  generalize hW : ((w.alloc (.cells #[.int .i64 a] 3)).alloc (.cells #[.int .i64 b, .int .i64 c] 3)).alloc (.cells #[.slice (some ⟨w.heap.size, 0, none⟩) 1 1, .slice (some ⟨w.heap.size + 1, 0, none⟩) 2 2] 30) = W
  have g : ∀ k, W.heap[k]? = if k = w.heap.size + 1 + 1 then some (.cells #[.slice (some ⟨w.heap.size, 0, none⟩) 1 1, .slice (some ⟨w.heap.size + 1, 0, none⟩) 2 2] 30) else if k = w.heap.size + 1 then some (.cells #[.int .i64 b, .int .i64 c] 3) else if k = w.heap.size then some (.cells #[.int .i64 a] 3) else w.heap[k]? := fun k => by
    rw [← hW, alloc_get, alloc_get, alloc_get]; simp
  have hs : W.heap.size = w.heap.size + 1 + 1 + 1 := by rw [← hW]; simp
  have g2 : W.heap[w.heap.size + 1 + 1]? = some (.cells #[.slice (some ⟨w.heap.size, 0, none⟩) 1 1, .slice (some ⟨w.heap.size + 1, 0, none⟩) 2 2] 30) := by rw [g, if_pos rfl]
  have g1 : W.heap[w.heap.size + 1]? = some (.cells ([b, c].map intV).toArray 3) := by rw [g, if_neg (by omega), if_pos rfl]; rfl
  have g0 : W.heap[w.heap.size]? = some (.cells ([a].map intV).toArray 3) := by rw [g, if_neg (by omega), if_neg (by omega), if_pos rfl]; rfl
  refine ⟨_, 2, rfl, by simp, by unfold maxLen; omega, .inr ⟨w.heap.size + 1 + 1, 0, rfl, by omega, by omega, fun i hi => ?_⟩⟩
  rcases (by simp at hi; omega : i = 0 ∨ i = 1) with rfl | rfl
  · refine ⟨_, by simp [World.cell?, g2], ints_new g0 (by simp) (by simp; omega) _ (by omega)⟩
  · refine ⟨_, by simp [World.cell?, g2], ints_new g1 (by simp) (by simp; omega) _ (by omega)⟩
set_option maxRecDepth 100000 in
set_option maxHeartbeats 2000000 in
theorem lives_any (w : World) : Calls Try.prog 14 #[] w (TrueB w) := by
  have hm0 := mat_new w 1 0 2 (by omega) (by omega) (by omega)
  have hb0 : Below w.heap.size w (((w.alloc (.cells #[.int .i64 1] 3)).alloc (.cells #[.int .i64 0, .int .i64 2] 3)).alloc (.cells #[.slice (some ⟨w.heap.size, 0, none⟩) 1 1, .slice (some ⟨w.heap.size + 1, 0, none⟩) 2 2] 30)) := (((Below.refl _ _).alloc (Nat.le_refl _) _).alloc (by simp) _).alloc (by simp; omega) _
  have HGR := Lib.hid (groups_any 3 _ exM exLd _ hm0 (by omega) (fun i => by
    unfold useL exM
    rcases (by omega : i = 0 ∨ i = 1 ∨ 2 ≤ i) with rfl | rfl | h
    · simp
    · simp
    · rw [List.getD_eq_getElem?_getD, List.getElem?_eq_none (by simpa using h)]; simp) exLd_is)
  have HB0 := Lib.hid hb0
  clear hm0 hb0
  go_enter Try.func14, Try.ntmps14
  go_wp2_with fail
  refine HGR.out.mono ?_
  rintro e w1 ⟨v, r, rfl, hm1, hr1, hb1⟩
  obtain rfl := hr1.one ex_row
  obtain ⟨Av, cv, rfl, _, _⟩ := hm1.form
  have hm2 := mat_new w1 2 0 1 (by omega) (by omega) (by omega)
  have hb2 : Below w1.heap.size w1 (((w1.alloc (.cells #[.int .i64 2] 3)).alloc (.cells #[.int .i64 0, .int .i64 1] 3)).alloc (.cells #[.slice (some ⟨w1.heap.size, 0, none⟩) 1 1, .slice (some ⟨w1.heap.size + 1, 0, none⟩) 2 2] 30)) := (((Below.refl _ _).alloc (Nat.le_refl _) _).alloc (by simp) _).alloc (by simp; omega) _
  have e9 : toI [[2], [0, 1]] = [[(2 : Int)], [0, 1]] := rfl
  have HSA := Lib.hid (same_any _ _ _ _ (toI [[2], [0, 1]]) _ (hm1.on hb2) (by rw [e9]; exact hm2))
  have hb1' := hb1
  have HB2 := Lib.hid ((HB0.out.trans (hb1.mono HB0.out.size)).trans (hb2.mono (by have := HB0.out.size; have := hb1.size; omega)))
  clear hm1 hr1 hb1 hb1' hm2 hb2 e9
  go_wp2_with fail
  refine HSA.out.mono ?_
  rintro e w3 ⟨rfl, hb3⟩
  have HB3 := Lib.hid (HB2.out.trans (hb3.mono HB2.out.size))
  clear hb3
  go_wp2
  go_ret
  exact ⟨rfl, HB3.out⟩
end Go.Proofs.Ythmnghngcbkjpaa
