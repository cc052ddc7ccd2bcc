/- The contracts of the document's build and Made (chapter 4), whole. Condition: the slice reads as numbers. -/
import Derived.Test.YtbdfjboojokgdaaDoorJU26
namespace Go.Proofs.YtbdfjboojokgdaaDoor
open Go.RowKit

def BuildIs (f : Nat) : Prop := ∀ (d : Nat) (zs : List Int) (v : Value) (Q : Nat → Prop) (w : World), d + f = 5 → IntsAt Q w v zs → (∀ b, Q b → b < w.heap.size) →
    Calls Tryd.prog 52 #[v, .int .i64 d, .bool true] w (Built w (builtZ f zs) Q)
set_option maxRecDepth 100000 in
set_option maxHeartbeats 1000000 in
theorem build_nil (f d : Nat) (v : Value) (Q : Nat → Prop) (w : World) (h : IntsAt Q w v []) (hQ : ∀ b, Q b → b < w.heap.size) :
    Calls Tryd.prog 52 #[v, .int .i64 d, .bool true] w (Built w (builtZ f []) Q) := by
  have HI := Lib.hid h
  obtain ⟨A, c, rfl, hc, hcm, _, _⟩ := h
  have HE : Hid (builtZ f [] = (.con ⟨#[73, 110, 116]⟩, [])) := by show _ = _; cases f <;> rfl
  go_enter Tryd.func52, Tryd.ntmps52
  go_wp2
  have hbb := below_new w (.cells #[.int .i64 3, .int .i64 0, .string ⟨#[73, 110, 116]⟩, .slice none 0 0] 25)
  exact bodyPost_ret (v := .tuple #[.agg #[.int .i64 3, .int .i64 0, .string ⟨#[73, 110, 116]⟩, .slice none 0 0], .slice A 0 c]) (by simp [results, Tryd.results52, go_sem]) rfl
    (by rw [HE.out]; exact ⟨_, _, rfl, ty_leaf _ _ (.con ⟨#[73, 110, 116]⟩) rfl none 0 (Nat.zero_le _), HI.out.below' hQ hbb, hbb⟩)
set_option maxRecDepth 100000 in
set_option maxHeartbeats 1000000 in
theorem build_node (f d : Nat) (z : Int) (r : List Int) (v : Value) (Q : Nat → Prop) (w : World) (hd : d + (f + 1) = 5) (h : IntsAt Q w v (z :: r)) (hQ : ∀ b, Q b → b < w.heap.size) (h5 : ¬ aroundI z 40 % 10 < 5) (ih : BuildIs f) :
    Calls Tryd.prog 52 #[v, .int .i64 d, .bool true] w (Built w (builtZ (f + 1) (z :: r)) Q) := by
  obtain ⟨b, off, c, rfl, hrl, hcm, hlt, hz, ⟨hz1, hz2⟩, A9, hA9, hi⟩ := ints_tail h
  have HI := Lib.hid hi
  have hlen0 : (((r.length : Int) + 1) == 0) = false := by rw [beq_eq_false_iff_ne]; omega
  unfold maxLen at hcm
  have hbd := aroundI_bd z 40 (by omega)
  have HA := Lib.hid (fun W => around_is z 40 W hz1 hz2 (by omega) (by omega))
  have HZ : Hid (builtZ (f + 1) (z :: r) = if aroundI z 40 % 10 = 9 then (.all (nameS (aroundI z 40 / 10)) (builtZ f r).1, (builtZ f r).2)
      else (if aroundI z 40 % 10 < 8 then Ty.fn (builtZ f r).1 (builtZ f (builtZ f r).2).1 else .app (builtZ f r).1 (builtZ f (builtZ f r).2).1, (builtZ f (builtZ f r).2).2)) := by show _ = _; rw [builtZ, if_neg h5]
  have HIH1 := Lib.hid (ih (d + 1) r)
  have HIH2 := Lib.hid (ih (d + 1) (builtZ f r).2)
  generalize hR : builtZ (f + 1) (z :: r) = R at *
  clear hR
  generalize builtZ f r = R1 at *
  generalize builtZ f R1.2 = R2 at *
  generalize aroundI z 40 = n at *
  have hn10 : n / 10 ≤ 3 := by omega
  have hn10' : 0 ≤ n / 10 := by omega
  have HNM := Lib.hid (fun W => name_any (n / 10) W (by omega) (by omega))
  have h2 : ¬ n % 10 < 2 := by omega
  have h3 : ¬ n % 10 < 3 := by omega
  have hd4 : ¬ ((4 : Int) < (d : Int)) := by omega
  have hdd : ((d + 1 : Nat) : Int) = (d : Int) + 1 := by omega
  rw [hdd] at HIH1 HIH2
  clear h hi ih hdd
  obtain ⟨W, eW, q1, b1, zz1⟩ := one_box w (.int .i64 0) (.int .i64 0) (.string ⟨#[]⟩) (.slice none 0 0) 25
  have HEW := Lib.hid eW
  have HQ1 := Lib.hid q1
  have HB1 := Lib.hid b1
  have hQW : ∀ b, Q b → b < W.heap.size := fun b hb => by have := hQ b hb; omega
  have HIW := Lib.hid (HI.out.below' hQ b1)
  have HQ := Lib.hid hQ
  have HQW := Lib.hid hQW
  have hdf : d + 1 + f = 5 := by omega
  clear eW q1 b1 HI hQ hQW
  by_cases h9 : n % 10 = 9
  · have h9' : (n % 10 == 9) = true := by rw [h9]; rfl
    rw [if_pos h9] at HZ
    go_enter Tryd.func52, Tryd.ntmps52
    go_wp2_with (go_at_call 36; refine (HA.out _).mono ?_; rintro e w' ⟨rfl, rfl⟩)
    rw [HEW.out]
    refine (HIH1.out _ Q W hdf HIW.out HQW.out).mono ?_
    rintro e y1 ⟨ta, va, rfl, hta, hva, hb1⟩
    obtain ⟨f1, n1, s1, A1, l1, c1, rfl⟩ := hta.flat
    obtain ⟨A2, c2, rfl⟩ := hva.slice
    have HTA := Lib.hid hta
    have HVA := Lib.hid hva
    have HBY := Lib.hid hb1
    clear hta hva hb1
    go_wp2_with fail
    have n1' := below_new y1 (.cells #[.int .i64 f1, .int .i64 n1, .string s1, .slice A1 l1 c1] 25)
    have x10 := Box4.new y1 (.int .i64 f1) (.int .i64 n1) (.string s1) (.slice A1 l1 c1) 25
    have x6 := (HQ1.out.on HBY.out).on n1'
    have tV := (HTA.out.mono (Q := fun x => w.heap.size + 1 ≤ x) (fun x (hx : W.heap.size ≤ x) => (by omega : w.heap.size + 1 ≤ x))).on n1'
    have iV := HVA.out.on n1'
    have bV := (HB1.out.trans (HBY.out.mono HB1.out.size)).trans (n1'.mono (Nat.le_trans HB1.out.size HBY.out.size))
    have hzV : (y1.alloc (.cells #[.int .i64 f1, .int .i64 n1, .string s1, .slice A1 l1 c1] 25)).heap.size = y1.heap.size + 1 := by simp
    have hzy : w.heap.size + 1 ≤ y1.heap.size := by have := HBY.out.size; omega
    generalize y1.alloc (.cells #[.int .i64 f1, .int .i64 n1, .string s1, .slice A1 l1 c1] 25) = V at *
    have HX10 := Lib.hid x10
    have HX6 := Lib.hid x6
    have HTV := Lib.hid tV
    have HIV := Lib.hid iV
    have HBV := Lib.hid bV
    have hcs : ∀ u, Below V.heap.size V u → (Box4 u y1.heap.size (.int .i64 f1) (.int .i64 n1) (.string s1) (.slice A1 l1 c1) ∧ Box4 u w.heap.size (.int .i64 0) (.int .i64 0) (.string ⟨#[]⟩) (.slice none 0 0)) := fun u hu => ⟨HX10.out.on hu, HX6.out.on hu⟩
    have HC12a : Hid (Calls Tryd.prog 23 #[.int .i64 (n / 10)] V.drew fun e u => e = .returned (.string (nameS (n / 10))) ∧ Below V.heap.size V u ∧ (Box4 u y1.heap.size (.int .i64 f1) (.int .i64 n1) (.string s1) (.slice A1 l1 c1) ∧ Box4 u w.heap.size (.int .i64 0) (.int .i64 0) (.string ⟨#[]⟩) (.slice none 0 0))) := by
      refine (HNM.out _).mono ?_
      rintro e u ⟨rfl, hb⟩
      have hb' : Below V.heap.size V u := (Below.refl _ V).drew.trans hb
      exact ⟨rfl, hb', hcs u hb'⟩
    have HC12b : Hid (Calls Tryd.prog 23 #[.int .i64 (n / 10)] (V.alloc (.cells #[.int .i64 f1, .int .i64 n1, .string s1, .slice A1 l1 c1] 25)).drew fun e u => e = .returned (.string (nameS (n / 10))) ∧ Below (V.heap.size + 1) (V.alloc (.cells #[.int .i64 f1, .int .i64 n1, .string s1, .slice A1 l1 c1] 25)) u ∧ (Box4 u y1.heap.size (.int .i64 f1) (.int .i64 n1) (.string s1) (.slice A1 l1 c1) ∧ Box4 u w.heap.size (.int .i64 0) (.int .i64 0) (.string ⟨#[]⟩) (.slice none 0 0))) := by
      refine (HNM.out _).mono ?_
      rintro e u ⟨rfl, hb⟩
      have hz9 : ((V.alloc (.cells #[.int .i64 f1, .int .i64 n1, .string s1, .slice A1 l1 c1] 25)).drew).heap.size = V.heap.size + 1 := by simp
      rw [hz9] at hb
      have hb8 : Below (V.heap.size + 1) (V.alloc (.cells #[.int .i64 f1, .int .i64 n1, .string s1, .slice A1 l1 c1] 25)) u := (Below.refl _ _).drew.trans hb
      have hb' : Below V.heap.size V u := (below_new V _).trans (hb8.mono (Nat.le_succ _))
      exact ⟨rfl, hb8, hcs u hb'⟩
    obtain ⟨⟨x0, x1, x2, x3, x4, x5, x6', x7, x8⟩, ⟨z0, z1, z2, z3, z4, z5, z6, z7, z8⟩⟩ := hcs V (Below.refl _ _)
    clear hcs x10 x6 tV iV bV n1'
    have HFA : Hid (∀ u, Below V.heap.size V u → Built w R Q (.returned (.tuple #[.agg #[.int .i64 5, .int .i64 0, .string (nameS (n / 10)), .slice (some ⟨u.heap.size, 0, none⟩) 1 1], .slice A2 R1.2.length c2])) (((((u.setCell ⟨w.heap.size, 0, none⟩ (.int .i64 5)).setCell ⟨w.heap.size, 1, none⟩ (.int .i64 0)).setCell ⟨w.heap.size, 2, none⟩ (.string (nameS (n / 10)))).setCell ⟨w.heap.size, 3, none⟩ (.slice (some ⟨u.heap.size, 0, none⟩) 1 1)).alloc (.cells #[.int .i64 f1, .int .i64 n1, .string s1, .slice A1 l1 c1] 25))) := by
      intro u hu
      have hz := hu.size
      have hv := (HTV.out.on hu).keep (.box (b := w.heap.size) (fun hx => by omega) (.int .i64 5) (.int .i64 0) (.string (nameS (n / 10))) (.slice (some ⟨u.heap.size, 0, none⟩) 1 1))
      have hi := (HIV.out.on hu).keep (.box (b := w.heap.size) (fun hx => by have := HQ.out _ hx; omega) (.int .i64 5) (.int .i64 0) (.string (nameS (n / 10))) (.slice (some ⟨u.heap.size, 0, none⟩) 1 1))
      have hb := below_box (HBV.out.trans (hu.mono HBV.out.size)) (Nat.le_refl _) (.int .i64 5) (.int .i64 0) (.string (nameS (n / 10))) (.slice (some ⟨u.heap.size, 0, none⟩) 1 1)
      have hzz : ((((u.setCell ⟨w.heap.size, 0, none⟩ (.int .i64 5)).setCell ⟨w.heap.size, 1, none⟩ (.int .i64 0)).setCell ⟨w.heap.size, 2, none⟩ (.string (nameS (n / 10)))).setCell ⟨w.heap.size, 3, none⟩ (.slice (some ⟨u.heap.size, 0, none⟩) 1 1)).heap.size = u.heap.size := by simp
      generalize (((u.setCell ⟨w.heap.size, 0, none⟩ (.int .i64 5)).setCell ⟨w.heap.size, 1, none⟩ (.int .i64 0)).setCell ⟨w.heap.size, 2, none⟩ (.string (nameS (n / 10)))).setCell ⟨w.heap.size, 3, none⟩ (.slice (some ⟨u.heap.size, 0, none⟩) 1 1) = u2 at *
      have hn2 := below_new u2 (.cells #[.int .i64 f1, .int .i64 n1, .string s1, .slice A1 l1 c1] 25)
      have hv2 := all_new hv (nameS (n / 10)) 25
      rw [hzz] at hv2
      refine ⟨_, _, rfl, ?_, by rw [HZ.out]; exact hi.on hn2, hb.alloc hb.size _⟩
      rw [HZ.out]
      refine hv2.mono (fun x hx => ?_)
      rcases hx with hx | hx
      · exact (by omega : w.heap.size ≤ x)
      · exact (by omega : w.heap.size ≤ x)
    have HFB : Hid (∀ u, Below (V.heap.size + 1) (V.alloc (.cells #[.int .i64 f1, .int .i64 n1, .string s1, .slice A1 l1 c1] 25)) u → Built w R Q (.returned (.tuple #[.agg #[.int .i64 5, .int .i64 0, .string (nameS (n / 10)), .slice (some ⟨V.heap.size, 0, none⟩) 1 1], .slice A2 R1.2.length c2])) ((((u.setCell ⟨w.heap.size, 0, none⟩ (.int .i64 5)).setCell ⟨w.heap.size, 1, none⟩ (.int .i64 0)).setCell ⟨w.heap.size, 2, none⟩ (.string (nameS (n / 10)))).setCell ⟨w.heap.size, 3, none⟩ (.slice (some ⟨V.heap.size, 0, none⟩) 1 1))) := by
      intro u hu
      have hn2 := below_new V (.cells #[.int .i64 f1, .int .i64 n1, .string s1, .slice A1 l1 c1] 25)
      have hu' : Below V.heap.size V u := hn2.trans (hu.mono (Nat.le_succ _))
      have hz := hu'.size
      have hzV2 : (V.alloc (.cells #[.int .i64 f1, .int .i64 n1, .string s1, .slice A1 l1 c1] 25)).heap.size = V.heap.size + 1 := by simp
      have hv2 := (all_new HTV.out (nameS (n / 10)) 25)
      have hv3 := hv2.on (w' := u) (by rw [hzV2]; exact hu)
      have hv4 := hv3.keep (.box (b := w.heap.size) (fun hx => by rcases hx with hx | hx <;> omega) (.int .i64 5) (.int .i64 0) (.string (nameS (n / 10))) (.slice (some ⟨V.heap.size, 0, none⟩) 1 1))
      have hi := (HIV.out.on hu').keep (.box (b := w.heap.size) (fun hx => by have := HQ.out _ hx; omega) (.int .i64 5) (.int .i64 0) (.string (nameS (n / 10))) (.slice (some ⟨V.heap.size, 0, none⟩) 1 1))
      have hb := below_box (HBV.out.trans (hu'.mono HBV.out.size)) (Nat.le_refl _) (.int .i64 5) (.int .i64 0) (.string (nameS (n / 10))) (.slice (some ⟨V.heap.size, 0, none⟩) 1 1)
      refine ⟨_, _, rfl, ?_, by rw [HZ.out]; exact hi, hb⟩
      rw [HZ.out]
      refine hv4.mono (fun x hx => ?_)
      rcases hx with hx | hx
      · exact (by omega : w.heap.size ≤ x)
      · exact (by omega : w.heap.size ≤ x)
    have hwq : IntKind.i64.wrap (n.tdiv 10) = n / 10 := by rw [Int.tdiv_eq_ediv_of_nonneg hbd.1, IntKind.wrap_i64]; omega
    go_region_law (first | (go_simp; go_at_call 23; (with_reducible refine HC12a.out.mono ?_); rintro e u ⟨rfl, hbu, ⟨xa0, xa1, xa2, xa3, xa4, xa5, xa6, xa7, xa8⟩, ⟨za0, za1, za2, za3, za4, za5, za6, za7, za8⟩⟩) | (go_simp; go_at_call 23; (with_reducible refine HC12b.out.mono ?_); rintro e u ⟨rfl, hbu, ⟨xa0, xa1, xa2, xa3, xa4, xa5, xa6, xa7, xa8⟩, ⟨za0, za1, za2, za3, za4, za5, za6, za7, za8⟩⟩))
    all_goals go_wp2
    · exact bodyPost_ret (v := .tuple #[.agg #[.int .i64 5, .int .i64 0, .string (nameS (n / 10)), .slice (some ⟨u.heap.size, 0, none⟩) 1 1], .slice A2 R1.2.length c2]) (by simp [results, Tryd.results52, go_sem, za1, za2, za3, za4, za0]) rfl (HFA.out u hbu)
    · exact bodyPost_ret (v := .tuple #[.agg #[.int .i64 5, .int .i64 0, .string (nameS (n / 10)), .slice (some ⟨u.heap.size, 0, none⟩) 1 1], .slice A2 R1.2.length c2]) (by simp [results, Tryd.results52, go_sem, za1, za2, za3, za4, za0]) rfl (HFA.out u hbu)
    · exact bodyPost_ret (v := .tuple #[.agg #[.int .i64 5, .int .i64 0, .string (nameS (n / 10)), .slice (some ⟨y1.heap.size + 1, 0, none⟩) 1 1], .slice A2 R1.2.length c2]) (by simp [results, Tryd.results52, go_sem, za1, za2, za3, za4]) rfl (by have h9 := HFB.out u hbu; rw [hzV] at h9; exact h9)
  · have h9' : (n % 10 == 9) = false := by simpa using h9
    have h5' : ¬ n % 10 < 5 := h5
    rw [if_neg h9] at HZ
    clear HNM h9
    by_cases h8 : n % 10 < 8
    · rw [if_pos h8] at HZ
      go_enter Tryd.func52, Tryd.ntmps52
      go_wp2_with (go_at_call 36; refine (HA.out _).mono ?_; rintro e w' ⟨rfl, rfl⟩)
      rw [HEW.out]
      refine (HIH1.out _ Q W hdf HIW.out HQW.out).mono ?_
      rintro e y1 ⟨ta, va, rfl, hta, hva, hb1⟩
      obtain ⟨f1, n1, s1, A1, l1, c1, rfl⟩ := hta.flat
      obtain ⟨A2, c2, rfl⟩ := hva.slice
      have n1' := below_new y1 (.cells #[.int .i64 f1, .int .i64 n1, .string s1, .slice A1 l1 c1] 25)
      have x10 := Box4.new y1 (.int .i64 f1) (.int .i64 n1) (.string s1) (.slice A1 l1 c1) 25
      obtain ⟨V, eV⟩ : ∃ V, y1.alloc (.cells #[.int .i64 f1, .int .i64 n1, .string s1, .slice A1 l1 c1] 25) = V := ⟨_, rfl⟩
      rw [eV] at n1' x10
      have HEV := Lib.hid eV
      have HX10 := Lib.hid x10
      have HTA := Lib.hid (((hta.mono (Q := fun x => w.heap.size + 1 ≤ x) (fun x (hx : W.heap.size ≤ x) => (by omega : w.heap.size + 1 ≤ x))).on n1'))
      have HVA := Lib.hid (hva.on n1')
      have HBV := Lib.hid (hb1.trans (n1'.mono hb1.size))
      clear hta hva hb1 n1' x10 eV
      have hQV : ∀ b, Q b → b < V.heap.size := fun b hb => by have := HQW.out b hb; have := HBV.out.size; omega
      have HQV := Lib.hid hQV
      clear hQV
      go_wp2_with fail
      rw [HEV.out]
      refine (HIH2.out _ Q V hdf HVA.out HQV.out).mono ?_
      rintro e y2 ⟨tb, vb, rfl, htb, hvb, hb2⟩
      obtain ⟨f2, n2, s2, A3, l2, c3, rfl⟩ := htb.flat
      obtain ⟨A4, c4, rfl⟩ := hvb.slice
      have n2' := below_new y2 (.cells #[.int .i64 f2, .int .i64 n2, .string s2, .slice A3 l2 c3] 25)
      have x12 := Box4.new y2 (.int .i64 f2) (.int .i64 n2) (.string s2) (.slice A3 l2 c3) 25
      obtain ⟨U, eU⟩ : ∃ U, y2.alloc (.cells #[.int .i64 f2, .int .i64 n2, .string s2, .slice A3 l2 c3] 25) = U := ⟨_, rfl⟩
      rw [eU] at n2' x12
      have HEU := Lib.hid eU
      have HVU := Lib.hid (hb2.trans (n2'.mono hb2.size))
      have HTB := Lib.hid (((htb.mono (Q := fun x => w.heap.size + 1 ≤ x) (fun x (hx : V.heap.size ≤ x) => (by have := HBV.out.size; omega : w.heap.size + 1 ≤ x))).on n2'))
      have HTA2 := Lib.hid (HTA.out.on HVU.out)
      have HVB := Lib.hid (hvb.on n2')
      have HWU := Lib.hid (HBV.out.trans (HVU.out.mono HBV.out.size))
      obtain ⟨x0, x1, x2, x3, x4, _⟩ := HX10.out.on hb2
      clear htb hvb hb2 n2' x12 eU
      go_wp2_with fail
      rw [HEU.out]
      refine (reffun_any _ _ _ _ _ _ HTA2.out HTB.out).mono ?_
      rintro e y3 ⟨v3, rfl, hv3, hb3⟩
      obtain ⟨f5, n5, s5, A5, l5, c5, rfl⟩ := hv3.flat
      obtain ⟨z0, z1, z2, z3, z4, z5, z6, z7, z8⟩ := HQ1.out.on (HWU.out.trans (hb3.mono HWU.out.size))
      have HBF := Lib.hid ((HB1.out.trans (HWU.out.mono HB1.out.size)).trans (hb3.mono (Nat.le_trans HB1.out.size HWU.out.size)))
      have HIF := Lib.hid (HVB.out.on hb3)
      have HTF := Lib.hid (hv3.mono (Q := fun x => w.heap.size + 1 ≤ x) (fun x hx => by
        rcases hx with hx | hx
        · exact hx
        · have := HWU.out.size; exact (by omega : w.heap.size + 1 ≤ x)))
      clear hv3 hb3 x0 x1 x2 x3 x4
      go_wp2
      have hv := HTF.out.keep (.box (b := w.heap.size) (fun hx => by omega) (.int .i64 f5) (.int .i64 n5) (.string s5) (.slice A5 l5 c5))
      have hi := HIF.out.keep (.box (b := w.heap.size) (fun hx => by have := HQ.out _ hx; omega) (.int .i64 f5) (.int .i64 n5) (.string s5) (.slice A5 l5 c5))
      have hb := below_box HBF.out (Nat.le_refl _) (.int .i64 f5) (.int .i64 n5) (.string s5) (.slice A5 l5 c5)
      exact bodyPost_ret (v := .tuple #[.agg #[.int .i64 f5, .int .i64 n5, .string s5, .slice A5 l5 c5], .slice A4 R2.2.length c4]) (by simp [results, Tryd.results52, go_sem, z1, z2, z3, z4]) rfl
        (by rw [HZ.out]; exact ⟨_, _, rfl, hv.mono (fun x (hx : w.heap.size + 1 ≤ x) => (by omega : w.heap.size ≤ x)), hi, hb⟩)
    · rw [if_neg h8] at HZ
      go_enter Tryd.func52, Tryd.ntmps52
      go_wp2_with (go_at_call 36; refine (HA.out _).mono ?_; rintro e w' ⟨rfl, rfl⟩)
      rw [HEW.out]
      refine (HIH1.out _ Q W hdf HIW.out HQW.out).mono ?_
      rintro e y1 ⟨ta, va, rfl, hta, hva, hb1⟩
      obtain ⟨f1, n1, s1, A1, l1, c1, rfl⟩ := hta.flat
      obtain ⟨A2, c2, rfl⟩ := hva.slice
      have n1' := below_new y1 (.cells #[.int .i64 f1, .int .i64 n1, .string s1, .slice A1 l1 c1] 25)
      have x10 := Box4.new y1 (.int .i64 f1) (.int .i64 n1) (.string s1) (.slice A1 l1 c1) 25
      obtain ⟨V, eV⟩ : ∃ V, y1.alloc (.cells #[.int .i64 f1, .int .i64 n1, .string s1, .slice A1 l1 c1] 25) = V := ⟨_, rfl⟩
      rw [eV] at n1' x10
      have HEV := Lib.hid eV
      have HX10 := Lib.hid x10
      have HTA := Lib.hid (((hta.mono (Q := fun x => w.heap.size + 1 ≤ x) (fun x (hx : W.heap.size ≤ x) => (by omega : w.heap.size + 1 ≤ x))).on n1'))
      have HVA := Lib.hid (hva.on n1')
      have HBV := Lib.hid (hb1.trans (n1'.mono hb1.size))
      clear hta hva hb1 n1' x10 eV
      have hQV : ∀ b, Q b → b < V.heap.size := fun b hb => by have := HQW.out b hb; have := HBV.out.size; omega
      have HQV := Lib.hid hQV
      clear hQV
      go_wp2_with fail
      rw [HEV.out]
      refine (HIH2.out _ Q V hdf HVA.out HQV.out).mono ?_
      rintro e y2 ⟨tb, vb, rfl, htb, hvb, hb2⟩
      obtain ⟨f2, n2, s2, A3, l2, c3, rfl⟩ := htb.flat
      obtain ⟨A4, c4, rfl⟩ := hvb.slice
      have n2' := below_new y2 (.cells #[.int .i64 f2, .int .i64 n2, .string s2, .slice A3 l2 c3] 25)
      have x12 := Box4.new y2 (.int .i64 f2) (.int .i64 n2) (.string s2) (.slice A3 l2 c3) 25
      obtain ⟨U, eU⟩ : ∃ U, y2.alloc (.cells #[.int .i64 f2, .int .i64 n2, .string s2, .slice A3 l2 c3] 25) = U := ⟨_, rfl⟩
      rw [eU] at n2' x12
      have HEU := Lib.hid eU
      have HVU := Lib.hid (hb2.trans (n2'.mono hb2.size))
      have HTB := Lib.hid (((htb.mono (Q := fun x => w.heap.size + 1 ≤ x) (fun x (hx : V.heap.size ≤ x) => (by have := HBV.out.size; omega : w.heap.size + 1 ≤ x))).on n2'))
      have HTA2 := Lib.hid (HTA.out.on HVU.out)
      have HVB := Lib.hid (hvb.on n2')
      have HWU := Lib.hid (HBV.out.trans (HVU.out.mono HBV.out.size))
      obtain ⟨x0, x1, x2, x3, x4, _⟩ := HX10.out.on hb2
      clear htb hvb hb2 n2' x12 eU
      go_wp2_with fail
      rw [HEU.out]
      refine (refapp_any _ _ _ _ _ _ HTA2.out HTB.out).mono ?_
      rintro e y3 ⟨v3, rfl, hv3, hb3⟩
      obtain ⟨f5, n5, s5, A5, l5, c5, rfl⟩ := hv3.flat
      obtain ⟨z0, z1, z2, z3, z4, z5, z6, z7, z8⟩ := HQ1.out.on (HWU.out.trans (hb3.mono HWU.out.size))
      have HBF := Lib.hid ((HB1.out.trans (HWU.out.mono HB1.out.size)).trans (hb3.mono (Nat.le_trans HB1.out.size HWU.out.size)))
      have HIF := Lib.hid (HVB.out.on hb3)
      have HTF := Lib.hid (hv3.mono (Q := fun x => w.heap.size + 1 ≤ x) (fun x hx => by
        rcases hx with hx | hx
        · exact hx
        · have := HWU.out.size; exact (by omega : w.heap.size + 1 ≤ x)))
      clear hv3 hb3 x0 x1 x2 x3 x4
      go_wp2
      have hv := HTF.out.keep (.box (b := w.heap.size) (fun hx => by omega) (.int .i64 f5) (.int .i64 n5) (.string s5) (.slice A5 l5 c5))
      have hi := HIF.out.keep (.box (b := w.heap.size) (fun hx => by have := HQ.out _ hx; omega) (.int .i64 f5) (.int .i64 n5) (.string s5) (.slice A5 l5 c5))
      have hb := below_box HBF.out (Nat.le_refl _) (.int .i64 f5) (.int .i64 n5) (.string s5) (.slice A5 l5 c5)
      exact bodyPost_ret (v := .tuple #[.agg #[.int .i64 f5, .int .i64 n5, .string s5, .slice A5 l5 c5], .slice A4 R2.2.length c4]) (by simp [results, Tryd.results52, go_sem, z1, z2, z3, z4]) rfl
        (by rw [HZ.out]; exact ⟨_, _, rfl, hv.mono (fun x (hx : w.heap.size + 1 ≤ x) => (by omega : w.heap.size ≤ x)), hi, hb⟩)
theorem build_any : ∀ f, BuildIs f
  | f, d, [], v, Q, w, _, h, hQ => build_nil f d v Q w h hQ
  | 0, d, z :: r, v, Q, w, hd, h, hQ => build_leaf 0 d z r v Q w hd h hQ _ (if_pos rfl).symm (by have := aroundI_bd z 40 (by omega); omega)
  | f + 1, d, z :: r, v, Q, w, hd, h, hQ => by
    by_cases h5 : aroundI z 40 % 10 < 5
    · exact build_leaf (f + 1) d z r v Q w hd h hQ _ (if_neg (by omega)).symm h5
    · exact build_node f d z r v Q w hd h hQ h5 (build_any f)
/-- A type made of numbers. -/
def madeZ (zs : List Int) : Ty := (builtZ 5 (zs.take 24)).1
set_option maxRecDepth 100000 in
set_option maxHeartbeats 1000000 in
theorem made_any (P : Nat → Prop) (v : Value) (zs : List Int) (w : World) (h : IntsAt P w v zs) : Calls Tryd.prog 12 #[v] w (TyMade w (madeZ zs)) := by
  have HI := Lib.hid h
  obtain ⟨A, c, rfl⟩ := h.slice
  have HE : Hid (madeZ zs = (builtZ 5 (zs.take 24)).1) := rfl
  have HIN := Lib.hid (fun (w' : World) (hb : Below w.heap.size w w') => ints_any P _ zs 24 w' (HI.out.on hb) (by omega) (by omega))
  generalize zs.take 24 = ys at *
  obtain ⟨W, eW, q1, b1, z1⟩ := one_box w (.int .i64 0) (.int .i64 0) (.string ⟨#[]⟩) (.slice none 0 0) 25
  have HEW := Lib.hid eW
  have HQ1 := Lib.hid q1
  have HB1 := Lib.hid b1
  clear eW q1 b1 h
  go_enter Tryd.func12, Tryd.ntmps12
  go_wp2_with fail
  rw [HEW.out]
  refine (HIN.out W HB1.out).mono ?_
  rintro e y1 ⟨v1, rfl, hv1, hb1⟩
  obtain ⟨A1, c1, rfl⟩ := hv1.slice
  have hb9 : IntsAt (fun b => b < y1.heap.size) y1 (.slice A1 ys.length c1) ys := by
    obtain ⟨A2, c2, e, h1, h2, h3, hr⟩ := hv1
    refine ⟨A2, c2, e, h1, h2, h3, ?_⟩
    rcases hr with hr | ⟨b, off, e', hp, hlt, r⟩
    · exact .inl hr
    · exact .inr ⟨b, off, e', hlt, hlt, r⟩
  have HV := Lib.hid hb9
  have HBY := Lib.hid hb1
  clear hv1 hb1 hb9
  go_wp2_with fail
  refine (build_any 5 0 ys _ _ y1 rfl HV.out (fun b hb => hb)).mono ?_
  rintro e y2 ⟨tv, v2, rfl, htv, hv2, hb2⟩
  obtain ⟨f1, n1, s1, A3, l1, c3, rfl⟩ := htv.flat
  obtain ⟨A4, c4, rfl⟩ := hv2.slice
  have HWY := Lib.hid (HBY.out.trans (hb2.mono HBY.out.size))
  have HQY := Lib.hid (HQ1.out.on HWY.out)
  have HT := Lib.hid (htv.mono (Q := fun x => w.heap.size + 1 ≤ x) (fun x (hx : y1.heap.size ≤ x) => (by have := HBY.out.size; omega : w.heap.size + 1 ≤ x)))
  have HBF := Lib.hid (HB1.out.trans (HWY.out.mono HB1.out.size))
  obtain ⟨x0, x1, x2, x3, x4, x5, x6, x7, x8⟩ := HQY.out
  clear htv hv2 hb2
  generalize (builtZ 5 ys).2.length = L at *
  go_wp2
  have hv := HT.out.keep (.box (b := w.heap.size) (fun hx => by omega) (.int .i64 f1) (.int .i64 n1) (.string s1) (.slice A3 l1 c3))
  have hb := below_box HBF.out (Nat.le_refl _) (.int .i64 f1) (.int .i64 n1) (.string s1) (.slice A3 l1 c3)
  have hq := HQY.out.put (.int .i64 f1) (.int .i64 n1) (.string s1) (.slice A3 l1 c3)
  generalize (((y2.setCell ⟨w.heap.size, 0, none⟩ (.int .i64 f1)).setCell ⟨w.heap.size, 1, none⟩ (.int .i64 n1)).setCell ⟨w.heap.size, 2, none⟩ (.string s1)).setCell ⟨w.heap.size, 3, none⟩ (.slice A3 l1 c3) = U at *
  have hn := below_new U (.cells #[.int .i64 f1, .int .i64 n1, .string s1, .slice A3 l1 c3] 25)
  have hv' := hv.on hn
  have hb' := hb.alloc hb.size (.cells #[.int .i64 f1, .int .i64 n1, .string s1, .slice A3 l1 c3] 25)
  obtain ⟨_, u1, u2, u3, u4, _⟩ := hq.on hn
  generalize U.alloc (.cells #[.int .i64 f1, .int .i64 n1, .string s1, .slice A3 l1 c3] 25) = U2 at *
  exact bodyPost_ret (v := .agg #[.int .i64 f1, .int .i64 n1, .string s1, .slice A3 l1 c3]) (by simp [results, Tryd.results12, go_sem, u1, u2, u3, u4]) rfl ⟨_, rfl, by rw [HE.out]; exact hv'.mono (fun x (hx : w.heap.size + 1 ≤ x) => (by omega : w.heap.size ≤ x)), hb'⟩
end Go.Proofs.YtbdfjboojokgdaaDoor
