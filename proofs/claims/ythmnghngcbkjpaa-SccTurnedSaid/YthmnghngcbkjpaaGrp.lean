/- Groups. No conditions but those that each theorem names. -/
import Derived.Test.YthmnghngcbkjpaaInR
import Derived.Test.YthmnghngcbkjpaaRoo
namespace Go.Proofs.Ythmnghngcbkjpaa
open Go.RowKit
theorem mem_pick {n : Nat} {inn : Nat → Nat} {g x : Nat} {z : Int} : x ∈ pick n inn g z ↔ (0 ≤ z ∧ z < n ∧ inn z.toNat ≠ g ∧ inn z.toNat = x) := by
  unfold pick
  split
  · rename_i h
    rw [List.mem_singleton]
    constructor
    · intro e; exact ⟨h.1, h.2.1, h.2.2, e.symm⟩
    · intro e; exact e.2.2.2.symm
  · rename_i h
    constructor
    · intro e; cases e
    · intro e; exact absurd ⟨e.1, e.2.1, e.2.2.1⟩ h
theorem mem_usedOf {n : Nat} {L : Nat → List Int} {inn : Nat → Nat} {g x : Nat} {l : List Nat} : x ∈ usedOf n L inn g l ↔ ∃ t ∈ l, ∃ z ∈ L t, 0 ≤ z ∧ z < n ∧ inn z.toNat ≠ g ∧ inn z.toNat = x := by
  unfold usedOf
  rw [List.mem_flatMap]
  constructor
  · rintro ⟨t, ht, h⟩
    obtain ⟨z, hz, h⟩ := List.mem_flatMap.1 h
    exact ⟨t, ht, z, hz, mem_pick.1 h⟩
  · rintro ⟨t, ht, z, hz, h⟩
    exact ⟨t, ht, List.mem_flatMap.2 ⟨z, hz, mem_pick.2 h⟩⟩
theorem uses_ok {n m : Nat} {L : Nat → List Int} {inn : Nat → Nat} {gs : List (List Nat)} (hm : gs.length = m) (his : ∀ g (h : g < gs.length), gs[g] = grp n inn g) : UsesG n L inn m (fun g => usedOf n L inn g (gs.getD g [])) := by
  intro g hg x
  have e : gs.getD g [] = grp n inn g := by
    rw [List.getD_eq_getElem?_getD, List.getElem?_eq_getElem (by omega)]
    exact his g (by omega)
  show x ∈ usedOf n L inn g (gs.getD g []) ↔ _
  rw [e, mem_usedOf]
  constructor
  · rintro ⟨t, ht, z, hz, h0, h1, h2, h3⟩
    obtain ⟨ht1, ht2⟩ := List.mem_filter.1 ht
    have ht1 := List.mem_range.1 ht1
    refine ⟨t, z.toNat, ht1, by simpa using ht2, ⟨ht1, by omega, ?_⟩, h3, by rw [← h3]; exact h2⟩
    rw [Int.toNat_of_nonneg h0]; exact hz
  · rintro ⟨i, k, h1, h2, h3, h4, h5⟩
    refine ⟨i, List.mem_filter.2 ⟨List.mem_range.2 h1, by simpa using h2⟩, (k : Int), h3.2.2, by omega, by have := h3.2.1; omega, ?_, ?_⟩
    · simp only [Int.toNat_natCast]; rw [h4]; exact h5
    · simp only [Int.toNat_natCast]; exact h4
theorem ToldG.lt {m : Nat} {U : Nat → List Nat} {t : Nat → Bool} {r : List Nat} (h : ToldG m U t r) : ∀ g ∈ r, g < m := by
  induction h with
  | nil => intro g hg; cases hg
  | @snoc t r g _ hn ih =>
    intro g' hg'
    rcases List.mem_append.1 hg' with h | h
    · exact ih g' h
    · rw [List.mem_singleton.1 h]; exact (nextG_some.1 hn).1
theorem MatAt.bound {P : Nat → Prop} {w : World} {v : Value} {M : List (List Int)} (h : MatAt P w v M) : MatAt (fun b => P b ∧ b < w.heap.size) w v M := by
  obtain ⟨A, c, e, h1, h2, hr⟩ := h
  refine ⟨A, c, e, h1, h2, ?_⟩
  rcases hr with hr | ⟨b, off, e, hp, hlt, hc⟩
  · exact .inl hr
  · refine .inr ⟨b, off, e, ⟨hp, hlt⟩, hlt, fun i hi => ?_⟩
    obtain ⟨u, a1, A', c', e', f1, f2, f3, f4⟩ := hc i hi
    refine ⟨u, a1, A', c', e', f1, f2, f3, ?_⟩
    rcases f4 with f4 | ⟨b', off', g1, g2, g3, g4⟩
    · exact .inl f4
    · exact .inr ⟨b', off', g1, ⟨g2, g3⟩, g3, g4⟩
theorem own_ints {w : World} {B : Nat} {v : Value} {zs : List Int} (h : w.ownsRow B 3 1 v zs.length (zs.map intV)) (hz : ∀ z ∈ zs, -9223372036854775808 ≤ z ∧ z ≤ 9223372036854775807) : IntsAt (fun b => v.ownBlock = some b) w v zs := by
  obtain ⟨A, c, e, h5, h6⟩ := own_form h
  rw [e] at h ⊢
  refine ⟨A, c, rfl, h5, h6, hz, ?_⟩
  rcases Nat.eq_zero_or_pos zs.length with h7 | h7
  · exact .inl (List.eq_nil_of_length_eq_zero h7)
  · obtain ⟨g', c9, e9, b1, b2, _, _⟩ := own_some h h7
    injection e9 with f1 f2 f3
    subst f1 f3
    refine .inr ⟨g', 0, rfl, rfl, b2, fun k hk => ?_⟩
    rw [Nat.zero_add, h.cellAt k (by omega), List.getElem?_map, List.getElem?_eq_getElem hk]; rfl
def GroupsRes (n : Nat) (ld : Nat → Nat → Bool) (w : World) (e : Ending) (w' : World) : Prop :=
  ∃ v r, e = .returned v ∧ MatAt (fun b => w.heap.size ≤ b ∧ b < w'.heap.size) w' v (toI r) ∧ IsRow n ld r ∧ Below w.heap.size w w'
theorem isRow_zero (ld : Nat → Nat → Bool) : IsRow 0 ld [] := ⟨_, .nil, rfl⟩
set_option maxRecDepth 100000 in
set_option maxHeartbeats 4000000 in
theorem groups_any (n : Nat) (uv : Value) (M : List (List Int)) (ld : Nat → Nat → Bool) (w : World) (h : MatAt (fun b => b < w.heap.size) w uv M) (hn : n ≤ 1000) (hM : ∀ i, (useL M i).length ≤ 1000) (hld : LdIs n (useL M) ld) :
    Calls Try.prog 12 #[.int .i64 n, uv] w (GroupsRes n ld w) := by
  obtain ⟨Au, cu, rfl, _, _⟩ := h.form
  generalize hml : M.length = ml at *
  by_cases h0 : n = 0
  · subst h0
    have HFIN : Hid (GroupsRes 0 ld w (.returned (.slice none 0 0)) w) := Lib.hid ⟨_, [], rfl, ⟨none, 0, rfl, Nat.le_refl _, Nat.zero_le _, .inl rfl⟩, isRow_zero ld, Below.refl _ _⟩
    clear h hld
    go_enter Try.func12, Try.ntmps12
    go_wp2
    go_ret
    exact HFIN.out
  · have hb0 := below_new w (.cells #[.int .i64 n, .slice Au ml cu] 34)
    have hRT := roots_any n _ M (w.alloc (.cells #[.int .i64 n, .slice Au ml cu] 34)) ((h.on hb0).mono (fun b hb => by simp; omega)) (by omega)
    have HRT := Lib.hid hRT
    have H := Lib.hid h
    have HM := Lib.hid hM
    have HLD := Lib.hid hld
    have hn0 : ¬ (n : Int) ≤ 0 := by omega
    have hn1 : ¬ (n : Int) > 2147483647 := by omega
    have hbx : ∀ W, Below (w.alloc (.cells #[.int .i64 n, .slice Au ml cu] 34)).heap.size (w.alloc (.cells #[.int .i64 n, .slice Au ml cu] 34)) W → W.cell? ⟨w.heap.size, 0, none⟩ = some (.int .i64 n) ∧ W.cell? ⟨w.heap.size, 1, none⟩ = some (.slice Au ml cu) := fun W hW => by
      have e := (hW.block w.heap.size (by simp)).trans (heap_alloc_new w _)
      simp [World.cell?, e]
    have HBX := Lib.hid hbx
    clear h hM hld hb0 hRT hbx
    go_enter Try.func12, Try.ntmps12
    go_wp2_with fail
    refine HRT.out.mono ?_
    rintro e w1 ⟨R, b, rfl, hrow, hbw, hR1, hR2, hb1⟩
    have HNU := Lib.hid (numbered_any n b R w1 hrow hR1 (by omega))
    have HR2 := Lib.hid hR2
    have HB1 := Lib.hid hb1
    clear hrow hbw hR1 hR2 hb1
    go_wp2_with fail
    refine HNU.out.mono ?_
    rintro e w2 ⟨gs, num, inn, vs, gv, ib, rfl, hok, hom, hin, hib, hb2⟩
    have hgr := hok.grouped (L := useL M) HR2.out
    have hB12 := HB1.out.trans (hb2.mono HB1.out.size)
    have hxlt : ∀ r ∈ gs, ∀ x ∈ r, x < n := fun r hr x hx => by
      obtain ⟨i, hi, rfl⟩ := List.getElem_of_mem hr
      rw [hok.is i hi] at hx
      exact List.mem_range.1 (List.mem_filter.1 hx).1
    have hzs : ∀ r ∈ toI gs, ∀ z ∈ r, -9223372036854775808 ≤ z ∧ z ≤ 9223372036854775807 := fun r hr z hz => by
      obtain ⟨g, hg, rfl⟩ := List.mem_map.1 hr
      obtain ⟨x, hx, rfl⟩ := List.mem_map.1 hz
      have := hxlt g hg x hx; omega
    have hgm := (hom.mat hzs).bound
    have hrl : ∀ r ∈ gs, r.length ≤ n := fun r hr => by
      obtain ⟨i, hi, rfl⟩ := List.getElem_of_mem hr
      exact hok.grple hi
    have hus := uses_ok (n := n) (m := gs.length) (L := useL M) (inn := inn) (gs := gs) rfl hok.is
    have hbe := between_any n (.slice Au ml cu) gv M gs ib inn w2 ((H.out.on ((below_new w _).trans (hB12.mono (by simp)))).mono (fun b hb => by have := hB12.size; simp at this; omega)) (hgm.mono (fun b hb => hb.2)) hin hn HM.out hxlt hok.lenle hrl (fun i hi => hgr.lt i hi)
    obtain ⟨d0, d1⟩ := HBX.out w2 hB12
    obtain ⟨Ag, cg, rfl, _, _⟩ := hgm.form
    have HBE := Lib.hid hbe
    have HGM := Lib.hid hgm
    have HGR := Lib.hid hgr
    have HUS := Lib.hid hus
    have HIS := Lib.hid hok.is
    have HB12 := Lib.hid hB12
    have HLE := Lib.hid hok.lenle
    have hlti : (toI gs).length = gs.length := toI_length gs
    have hm0 : 0 < gs.length := by have := hgr.lt 0 (by omega); omega
    rw [hlti] at HBE HGM
    clear hok hom hin hib hb2 hgr hB12 hxlt hzs hgm hrl hus hbe
    rw [hlti]
    clear hlti
    go_wp2_with fail
    refine HBE.out.mono ?_
    rintro e w3 ⟨v3, vs3, rfl, hom3, hb3⟩
    have hml3 : (toI ((List.range gs.length).map (fun g => usedOf n (useL M) inn g (gs.getD g [])))).length = gs.length := by simp [toI]
    have hown3 := hom3.own
    rw [hml3] at hown3
    obtain ⟨uo, c3, rfl, huo1, huo2, _, _⟩ := own_some hown3 hm0
    have hszX := HB12.out.size
    have how0 : w3.ownsRow 0 30 1 (.slice (some ⟨uo, 0, none⟩) gs.length c3) gs.length vs3 := by
      refine ⟨hown3.1, ?_⟩
      rcases hown3.2 with h9 | ⟨g, c, cur, a1, a2, r⟩
      · exact .inl h9
      · exact .inr ⟨g, c, cur, a1, by omega, r⟩
    have hUlt : ∀ g, g < gs.length → ∀ x ∈ usedOf n (useL M) inn g (gs.getD g []), x < gs.length := fun g hg x hx => by
      obtain ⟨i, k, h1, h2, h3, h4, h5⟩ := (HUS.out g hg x).1 hx
      rw [← h4]; exact HGR.out.lt k h3.2.1
    have hur : ∀ j (h : j < vs3.length), IntsAt (fun b => b < w3.heap.size ∧ b ≠ uo) w3 vs3[j] (natL (usedOf n (useL M) inn j (gs.getD j []))) := by
      intro j hj
      have hvl := hom3.len
      have hj2 : j < gs.length := by rw [hml3] at hvl; omega
      have hr := hom3.rows j hj (by rw [hml3]; exact hj2)
      have e9 : (toI ((List.range gs.length).map (fun g => usedOf n (useL M) inn g (gs.getD g []))))[j]'(by rw [hml3]; exact hj2) = natL (usedOf n (useL M) inn j (gs.getD j [])) := by simp [toI, natL]
      rw [e9] at hr
      refine (own_ints hr (fun z hz => ?_)).mono (fun b hb => ⟨(hr.lt b hb).2, fun e => ?_⟩)
      · obtain ⟨x, hx, rfl⟩ := List.mem_map.1 hz
        have := hUlt j hj2 x hx
        have := HLE.out
        omega
      · exact own_apart hr hown3 (by decide) b hb (by rw [e]; rfl)
    have HIR := Lib.hid (inrow_any gs.length (.slice Ag gs.length cg) gs (fun g => usedOf n (useL M) inn g (gs.getD g [])) w.heap.size uo c3 vs3 w3 ((HGM.out.on hb3).mono (fun b hb => by have := hb3.size; have := HB1.out.size; simp at this hszX; omega)) rfl how0 hur (by simp at hszX; omega) (by have := HLE.out; omega) hUlt)
    have HB13 := Lib.hid (HB12.out.trans (hb3.mono HB12.out.size))
    have hsz12 := HB12.out.size
    have huow : w.heap.size ≤ uo := by simp at hsz12; omega
    clear hom3 hb3 hml3 hown3 how0 hUlt hur d0 d1 hszX
    go_wp2_with fail
    refine HIR.out.mono ?_
    rintro e w4 ⟨ord, t, v4, rfl, htg, hnx, hm4, hf4⟩
    obtain ⟨A4, c4, rfl, _, _⟩ := hm4.form
    have HFIN : Hid (GroupsRes n ld w (.returned (.slice A4 (toI (ord.map (fun g => gs.getD g []))).length c4)) w4) := by
      refine Lib.hid ⟨_, _, rfl, hm4, ?_, ?_⟩
      · have e9 : ord.map (fun g => gs.getD g []) = ord.map (grp n inn) := by
          apply List.map_congr_left
          intro g hg
          have := htg.lt g hg
          rw [List.getD_eq_getElem?_getD, List.getElem?_eq_getElem this]
          exact HIS.out g this
        rw [e9]
        exact htg.row HLD.out HGR.out HUS.out hnx
      · have hb03 : Below w.heap.size w w3 := (below_new w _).trans (HB13.out.mono (by simp))
        exact hb03.trans (hf4.below hb03.size (fun k hk => by rw [hk]; exact huow))
    clear htg hnx hm4 hf4
    go_wp2
    go_ret
    exact HFIN.out
end Go.Proofs.Ythmnghngcbkjpaa
