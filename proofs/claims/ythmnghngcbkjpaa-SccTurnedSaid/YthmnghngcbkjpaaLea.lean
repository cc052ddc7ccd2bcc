/- leave: the path's last step is left. No conditions but those that each theorem names. -/
import Derived.Test.YthmnghngcbkjpaaClo
namespace Go.Proofs.Ythmnghngcbkjpaa
open Go.RowKit
def LeaveRes (n B sb cb lb rb : Nat) (uv : Value) (M : List (List Int)) (cm : Nat → Nat) (r : List (Nat × List Int)) (w : World) (e : Ending) (w' : World) : Prop :=
  e = .returned (.tuple #[]) ∧ ∃ s ov pv, SAt n B sb cb lb rb uv M s ov pv w' ∧ Inv n (useL M) s ∧ s.path = r ∧ s.come = cm ∧ Below B w w'
/-- The one before the path's last one is open, below it, and leads to it. -/
theorem Inv.before {n : Nat} {L : Nat → List Int} {s : S} (h : Inv n L s) {r : List (Nat × List Int)} {u t : Nat} {m l : List Int} (hp : s.path = (r ++ [(u, m)]) ++ [(t, l)]) : Leads n L u t ∧ u < n ∧ t < n ∧ s.come t ≠ 0 := by
  have hto := h.pathopen t l (by rw [hp]; simp)
  have huo := h.pathopen u m (by rw [hp]; simp)
  have h9 := h.pathsorted
  rw [hp, List.pairwise_append] at h9
  have hlt := h9.2.2 (u, m) (by simp) (t, l) (by simp)
  exact ⟨h.up u t huo hto (Nat.le_of_lt hlt), (h.openlt u huo).1, (h.openlt t hto).1, (h.openlt t hto).2⟩
set_option maxRecDepth 100000 in
set_option maxHeartbeats 2000000 in
theorem leave_shut0 {n B sb cb lb rb : Nat} {uv : Value} {M : List (List Int)} {s : S} {ov pv : Value} {w : World} (h : SAt n B sb cb lb rb uv M s ov pv w) (hI : Inv n (useL M) s) (hn : n ≤ 1099511627776) {t : Nat} (hp : s.path = [] ++ [(t, [])]) (he : s.least t = s.come t) :
    Calls Try.prog 30 #[.pointer (some ⟨sb, 0, none⟩)] w (LeaveRes n B sb cb lb rb uv M s.come [] w) := by
  have htt : (t, []) ∈ s.path := by rw [hp]; simp
  have hto := hI.pathopen _ _ htt
  have ht := (hI.openlt t hto).1
  obtain ⟨pre, post, ho⟩ := List.append_of_mem hto
  have hnp : t ∉ post := by
    intro hm
    have h9 := hI.sorted
    rw [ho, List.pairwise_append] at h9
    have := (List.pairwise_cons.1 h9.2.1).1 t hm
    omega
  have hI2 := hI.shut hp he ho
  obtain ⟨pb, c, vs, u, rfl, hB, hpb, hc1, hc2, _, _, _, _, d1, _, _⟩ := h.last hp
  have hs1 := h.popPath hp
  have hb1 : Below B w (w.setCell ⟨sb, 6, none⟩ (.slice (some ⟨pb, 0, none⟩) ([] : List (Nat × List Int)).length c)) := (Below.refl _ _).setCell h.le.1 _
  obtain ⟨_, _, _, _, _, _, d6, _, cf⟩ := h.cells
  have cf6 := cf 6
  have HLT := Lib.hid (fun y hy => (hI.openlt y hy).1)
  have HI2 := Lib.hid hI2
  have HO := Lib.hid ho
  have HNP := Lib.hid hnp
  have HE := Lib.hid he
  have HN := Lib.hid hn
  unfold natV at d1
  unfold maxLen at hc2
  simp only [List.length_nil, Nat.zero_mul, Nat.zero_add] at d1 d6 hs1 hb1 hc1 hc2
  clear h hI hp htt hto ho hnp hI2 he hn cf
  go_enter Try.func30, Try.ntmps30
  go_upto_region 3 with (fail)
  generalize w.setCell ⟨sb, 6, none⟩ (.slice (some ⟨pb, 0, none⟩) 0 c) = w1 at *
  have hcl := hs1.least.cell ht
  have hcc := hs1.come.cell ht
  have e1 : (({ s with path := [] } : S).least t) = s.come t := HE.out
  rw [e1] at hcl
  unfold natV at hcl hcc
  obtain ⟨_, _, _, d3, d4, _, _, _, _⟩ := hs1.cells
  have hti : (t : Int) < (n : Int) := by omega
  have HC : Hid (∀ k : Nat, Calls Try.prog 34 #[.pointer (some ⟨sb, 0, none⟩), .int .i64 t] (w1.drewN k) (ShutRes n B sb cb lb rb uv M ({s with path := []}.shut pre (t :: post) t) (.slice (some ⟨pb, 0, none⟩) 0 c) (w1.drewN k))) :=
    Lib.hid fun k => close_any (hs1.on (below_drewN (Below.refl _ _) k)) HN.out pre post t HO.out HLT.out HNP.out
  have HB1 := Lib.hid hb1
  clear hs1 hb1 d1 d6 cf6 hc1 hc2 hpb hB e1
  have hn := HN.out
  go_quiet (fail)
  go_wp2_with fail
  with_reducible refine (HC.out _).mono ?_
  rintro e w2 ⟨rfl, ov2, hs2, hb2⟩
  have HS2 := Lib.hid hs2
  have HB2 := Lib.hid ((below_drewN HB1.out _).trans hb2)
  clear hs2 hb2
  go_wp2
  go_end0
  exact ⟨rfl, _, _, _, HS2.out, HI2.out, rfl, rfl, HB2.out⟩
set_option maxRecDepth 100000 in
set_option maxHeartbeats 2000000 in
theorem leave_shut1 {n B sb cb lb rb : Nat} {uv : Value} {M : List (List Int)} {s : S} {ov pv : Value} {w : World} (h : SAt n B sb cb lb rb uv M s ov pv w) (hI : Inv n (useL M) s) (hn : n ≤ 1099511627776) {t : Nat} {r : List (Nat × List Int)} {u : Nat} {m : List Int} (hp : s.path = (r ++ [(u, m)]) ++ [(t, [])]) (he : s.least t = s.come t) :
    Calls Try.prog 30 #[.pointer (some ⟨sb, 0, none⟩)] w (LeaveRes n B sb cb lb rb uv M s.come (r ++ [(u, m)]) w) := by
  have htt : (t, []) ∈ s.path := by rw [hp]; simp
  have hto := hI.pathopen _ _ htt
  have ht := (hI.openlt t hto).1
  obtain ⟨pre, post, ho⟩ := List.append_of_mem hto
  have hnp : t ∉ post := by
    intro hm
    have h9 := hI.sorted
    rw [ho, List.pairwise_append] at h9
    have := (List.pairwise_cons.1 h9.2.1).1 t hm
    omega
  have hI2 := hI.shut hp he ho
  obtain ⟨pb, c, vs, uu, rfl, hB, hpb, hc1, hc2, _, _, _, _, d1, _, _⟩ := h.last hp
  have hs1 := h.popPath hp
  have hb1 : Below B w (w.setCell ⟨sb, 6, none⟩ (.slice (some ⟨pb, 0, none⟩) (r ++ [(u, m)]).length c)) := (Below.refl _ _).setCell h.le.1 _
  obtain ⟨_, _, _, _, _, _, d6, _, cf⟩ := h.cells
  have cf6 := cf 6
  have HLT := Lib.hid (fun y hy => (hI.openlt y hy).1)
  have HI2 := Lib.hid hI2
  have HO := Lib.hid ho
  have HNP := Lib.hid hnp
  have HE := Lib.hid he
  have HN := Lib.hid hn
  unfold natV at d1
  unfold maxLen at hc2
  simp only [List.length_append, List.length_singleton] at d1 d6 hs1 hb1 hc1 hc2
  obtain ⟨hut, hun, _, htc⟩ := hI.before hp
  have hI3 := hI2.leads (by unfold top; omega) (t := u) (y := t) ⟨m, by show (u, m) ∈ r ++ [(u, m)]; simp⟩ hut ht htc
  have HI3 := Lib.hid hI3
  have hri : (0 : Int) < (r.length : Int) + 1 := by omega
  clear hI3 hut htc
  clear h hI hp htt hto ho hnp hI2 he hn cf
  go_enter Try.func30, Try.ntmps30
  go_upto_region 3 with (fail)
  generalize w.setCell ⟨sb, 6, none⟩ (.slice (some ⟨pb, 0, none⟩) (r.length + 1) c) = w1 at *
  have hcl := hs1.least.cell ht
  have hcc := hs1.come.cell ht
  have e1 : (({ s with path := r ++ [(u, m)] } : S).least t) = s.come t := HE.out
  rw [e1] at hcl
  unfold natV at hcl hcc
  obtain ⟨_, _, _, d3, d4, _, _, _, _⟩ := hs1.cells
  have hti : (t : Int) < (n : Int) := by omega
  have HC : Hid (∀ k : Nat, Calls Try.prog 34 #[.pointer (some ⟨sb, 0, none⟩), .int .i64 t] (w1.drewN k) (ShutRes n B sb cb lb rb uv M ({s with path := r ++ [(u, m)]}.shut pre (t :: post) t) (.slice (some ⟨pb, 0, none⟩) (r.length + 1) c) (w1.drewN k))) :=
    Lib.hid fun k => close_any (hs1.on (below_drewN (Below.refl _ _) k)) HN.out pre post t HO.out HLT.out HNP.out
  have HB1 := Lib.hid hb1
  clear hs1 hb1 d1 d6 cf6 hc1 hc2 hpb hB e1
  have hn := HN.out
  go_quiet (fail)
  go_wp2_with fail
  with_reducible refine (HC.out _).mono ?_
  rintro e w2 ⟨rfl, ov2, hs2, hb2⟩
  have HS2 := Lib.hid hs2
  have HB2 := Lib.hid ((below_drewN HB1.out _).trans hb2)
  obtain ⟨pb', c', vs', uu', ep, _, _, hd1, hd2, _, _, _, _, e1, _, _⟩ := hs2.last (r := r) (t := u) (l := m) rfl
  injection ep with ep1 ep2 ep3
  injection ep1 with ep1
  injection ep1 with ep1
  subst ep1 ep3
  obtain ⟨_, _, _, _, _, _, e6, _, _⟩ := hs2.cells
  have HL := Lib.hid (leads_any hs2 u t hun ht)
  unfold natV at e1
  unfold maxLen at hd2
  clear hs2 hb2 ep2
  go_wp2_with fail
  with_reducible refine HL.out.mono ?_
  rintro e w3 ⟨rfl, hs3, hb3⟩
  have HS3 := Lib.hid hs3
  have HB3 := Lib.hid (HB2.out.trans hb3)
  clear hs3 hb3
  go_wp2
  go_end0
  exact ⟨rfl, _, _, _, HS3.out, HI3.out, rfl, rfl, HB3.out⟩
set_option maxRecDepth 100000 in
set_option maxHeartbeats 2000000 in
theorem leave_back {n B sb cb lb rb : Nat} {uv : Value} {M : List (List Int)} {s : S} {ov pv : Value} {w : World} (h : SAt n B sb cb lb rb uv M s ov pv w) (hI : Inv n (useL M) s) (hn : n ≤ 1099511627776) {t : Nat} {r : List (Nat × List Int)} {u : Nat} {m : List Int} (hp : s.path = (r ++ [(u, m)]) ++ [(t, [])]) (he : s.least t ≠ s.come t) :
    Calls Try.prog 30 #[.pointer (some ⟨sb, 0, none⟩)] w (LeaveRes n B sb cb lb rb uv M s.come (r ++ [(u, m)]) w) := by
  have htt : (t, []) ∈ s.path := by rw [hp]; simp
  have hto := hI.pathopen _ _ htt
  have ht := (hI.openlt t hto).1
  have hp2 : s.path = r ++ [(u, m), (t, [])] := by rw [hp]; simp
  have hI3 := hI.back hp2 he
  obtain ⟨_, hun, _, _⟩ := hI.before hp
  obtain ⟨pb, c, vs, uu, rfl, hB, hpb, hc1, hc2, _, _, _, _, d1, _, _⟩ := h.last hp
  have hs1 := h.popPath hp
  have hb1 : Below B w (w.setCell ⟨sb, 6, none⟩ (.slice (some ⟨pb, 0, none⟩) (r ++ [(u, m)]).length c)) := (Below.refl _ _).setCell h.le.1 _
  obtain ⟨_, _, _, _, _, _, d6, _, cf⟩ := h.cells
  have cf6 := cf 6
  have HI3 := Lib.hid hI3
  have HN := Lib.hid hn
  have hne : ((s.least t : Int) == (s.come t : Int)) = false := by rw [beq_eq_false_iff_ne]; omega
  unfold natV at d1
  unfold maxLen at hc2
  simp only [List.length_append, List.length_singleton] at d1 d6 hs1 hb1 hc1 hc2
  have hri : (0 : Int) < (r.length : Int) + 1 := by omega
  clear h hI hp hp2 htt hto hI3 he hn cf
  go_enter Try.func30, Try.ntmps30
  go_upto_region 3 with (fail)
  generalize w.setCell ⟨sb, 6, none⟩ (.slice (some ⟨pb, 0, none⟩) (r.length + 1) c) = w1 at *
  have hcl := hs1.least.cell ht
  have hcc := hs1.come.cell ht
  unfold natV at hcl hcc
  obtain ⟨_, _, _, d3, d4, _, d6', _, _⟩ := hs1.cells
  have hti : (t : Int) < (n : Int) := by omega
  obtain ⟨pb', c', vs', uu', ep, _, _, hd1, hd2, _, _, _, _, e1, _, _⟩ := hs1.last (r := r) (t := u) (l := m) rfl
  injection ep with ep1 ep2 ep3
  injection ep1 with ep1
  injection ep1 with ep1
  subst ep1 ep3
  have HC : Hid (∀ k : Nat, Calls Try.prog 31 #[.pointer (some ⟨sb, 0, none⟩), .int .i64 u, .int .i64 t] (w1.drewN k) (LeadsRes n B sb cb lb rb uv M (({s with path := r ++ [(u, m)]} : S).leads u t) ov (.slice (some ⟨pb, 0, none⟩) (r.length + 1) c) (w1.drewN k))) :=
    Lib.hid fun k => leads_any (hs1.on (below_drewN (Below.refl _ _) k)) u t hun ht
  have HB1 := Lib.hid hb1
  unfold natV at e1
  unfold maxLen at hd2
  clear hs1 hb1 d1 d6 cf6 hpb hB ep2
  have hn := HN.out
  go_quiet (fail)
  go_wp2_with fail
  with_reducible refine (HC.out _).mono ?_
  rintro e w2 ⟨rfl, hs2, hb2⟩
  have HS2 := Lib.hid hs2
  have HB2 := Lib.hid ((below_drewN HB1.out _).trans hb2)
  clear hs2 hb2
  go_wp2
  go_end0
  exact ⟨rfl, _, _, _, HS2.out, HI3.out, rfl, rfl, HB2.out⟩
/-- The path's last step is left. -/
theorem leave_any {n B sb cb lb rb : Nat} {uv : Value} {M : List (List Int)} {s : S} {ov pv : Value} {w : World} (h : SAt n B sb cb lb rb uv M s ov pv w) (hI : Inv n (useL M) s) (hn : n ≤ 1099511627776) {t : Nat} {r : List (Nat × List Int)} (hp : s.path = r ++ [(t, [])]) :
    Calls Try.prog 30 #[.pointer (some ⟨sb, 0, none⟩)] w (LeaveRes n B sb cb lb rb uv M s.come r w) := by
  rcases List.eq_nil_or_concat r with e | ⟨r0, ⟨u, m⟩, e⟩
  · subst e
    by_cases he : s.least t = s.come t
    · exact leave_shut0 h hI hn hp he
    · obtain ⟨p, h1, ⟨l, h2⟩, _⟩ := hI.parent hp he
      rw [hp] at h2
      simp at h2
      exact absurd h2.1 h1
  · have e2 : r = r0 ++ [(u, m)] := by rw [e]; simp
    subst e2
    by_cases he : s.least t = s.come t
    · exact leave_shut1 h hI hn hp he
    · exact leave_back h hI hn hp he
end Go.Proofs.Ythmnghngcbkjpaa
