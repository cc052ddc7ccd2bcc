/- The contract of types.Split. No conditions but those that each theorem names. -/
import Derived.Test.YtlloicehhjlekaaDoorApps
namespace Go.Proofs.YtlloicehhjlekaaDoor
open Go.RowKit

set_option maxRecDepth 100000 in
set_option maxHeartbeats 2000000 in
theorem split_any (P : Nat → Prop) (t : Ty) (v : Value) (w : World) (h : TyAt P w t v) : Calls Tryd.prog 14 #[v] w (SplitRes w t) := by
  obtain ⟨f0, n0, s0, A0, l0, c0, rfl⟩ := h.flat
  have HC := Lib.hid (fun (w' : World) (hb : Below w.heap.size w w') => sides_any P t _ w' (h.on hb))
  obtain ⟨W, eW, q1, q2, q3, b3, z3⟩ := three_boxes w (.int .i64 f0) (.int .i64 n0) (.string s0) (.slice A0 l0 c0) (.int .i64 0) (.int .i64 0) (.string ⟨#[]⟩) (.slice none 0 0) (.int .i64 0) (.int .i64 0) (.string ⟨#[]⟩) (.slice none 0 0) 25 25 25
  have HEW := Lib.hid eW
  have HQ2 := Lib.hid q2
  have HQ3 := Lib.hid q3
  have HB3 := Lib.hid b3
  clear eW q1 q2 q3 b3 h
  go_enter Tryd.func14, Tryd.ntmps14
  go_wp2_with fail
  rw [HEW.out]
  refine (HC.out W HB3.out).mono ?_
  rintro e y ⟨hb, hr⟩
  obtain ⟨f1, n1, s1, A1, l1, c1, f2, n2, s2, A2, l2, c2, is, rfl, hown⟩ : ∃ (f1 n1 : Int) (s1 : ByteArray) (A1 : Option Addr) (l1 c1 : Nat) (f2 n2 : Int) (s2 : ByteArray) (A2 : Option Addr) (l2 c2 : Nat) (is : Bool), e = .returned (.tuple #[.agg #[.int .i64 f1, .int .i64 n1, .string s1, .slice A1 l1 c1], .agg #[.int .i64 f2, .int .i64 n2, .string s2, .slice A2 l2 c2], .bool is]) ∧
      ∃ (R1 R2 : Value → World → Prop),
        (∀ u, Below y.heap.size y u → Calls Tryd.prog 43 #[.agg #[.int .i64 f1, .int .i64 n1, .string s1, .slice A1 l1 c1]] u fun e u' => ∃ f n s A l c, e = .returned (.agg #[.int .i64 f, .int .i64 n, .string s, .slice A l c]) ∧ R1 (.agg #[.int .i64 f, .int .i64 n, .string s, .slice A l c]) u' ∧ Below u.heap.size u u') ∧
        (∀ u, Below y.heap.size y u → Calls Tryd.prog 43 #[.agg #[.int .i64 f2, .int .i64 n2, .string s2, .slice A2 l2 c2]] u fun e u' => ∃ f n s A l c, e = .returned (.agg #[.int .i64 f, .int .i64 n, .string s, .slice A l c]) ∧ R2 (.agg #[.int .i64 f, .int .i64 n, .string s, .slice A l c]) u' ∧ Below u.heap.size u u') ∧
        (∀ v w w', R1 v w → Keeps (fun x => y.heap.size ≤ x) w w' → R1 v w') ∧ (∀ v w w', R2 v w → Keeps (fun x => y.heap.size ≤ x) w w' → R2 v w') ∧
        (∀ f3 n3 s3 A3 l3 c3 f4 n4 s4 A4 l4 c4 w', R1 (.agg #[.int .i64 f3, .int .i64 n3, .string s3, .slice A3 l3 c3]) w' → R2 (.agg #[.int .i64 f4, .int .i64 n4, .string s4, .slice A4 l4 c4]) w' → Below w.heap.size w w' →
          SplitRes w t (.returned (.tuple #[.agg #[.int .i64 f3, .int .i64 n3, .string s3, .slice A3 l3 c3], .agg #[.int .i64 f4, .int .i64 n4, .string s4, .slice A4 l4 c4], .bool is])) w') := by
    rcases hr with ⟨hn, rfl⟩ | ⟨a, b, f1, n1, s1, A1, l1, c1, f2, n2, s2, A2, l2, c2, hs, rfl, ha, hb'⟩
    · refine ⟨0, 0, ⟨#[]⟩, none, 0, 0, 0, 0, ⟨#[]⟩, none, 0, 0, false, rfl, fun v _ => ZeroAt v, fun v _ => ZeroAt v, ?_, ?_, fun _ _ _ h _ => h, fun _ _ _ h _ => h, ?_⟩
      · intro u _
        refine (own_zero u).mono ?_
        rintro e u' ⟨⟨A, c, rfl⟩, hb⟩
        exact ⟨0, 0, ⟨#[]⟩, A, 0, c, rfl, ⟨A, c, rfl⟩, hb⟩
      · intro u _
        refine (own_zero u).mono ?_
        rintro e u' ⟨⟨A, c, rfl⟩, hb⟩
        exact ⟨0, 0, ⟨#[]⟩, A, 0, c, rfl, ⟨A, c, rfl⟩, hb⟩
      · rintro f3 n3 s3 A3 l3 c3 f4 n4 s4 A4 l4 c4 w' ⟨A, c, e1⟩ ⟨A', c', e2⟩ hb
        refine ⟨hb, .inl ⟨hn, A, c, A', c', ?_⟩⟩
        rw [e1, e2]
    · refine ⟨f1, n1, s1, A1, l1, c1, f2, n2, s2, A2, l2, c2, true, rfl, fun v w' => TyAt (fun x => y.heap.size ≤ x) w' a v, fun v w' => TyAt (fun x => y.heap.size ≤ x) w' b v, ?_, ?_, fun _ _ _ h hk => h.keep hk, fun _ _ _ h hk => h.keep hk, ?_⟩
      · intro u hu
        refine (own_any a P _ u (ha.on hu)).mono ?_
        rintro e u' ⟨v, rfl, hv, hb⟩
        obtain ⟨f, n, s, A, l, c, rfl⟩ := hv.flat
        exact ⟨f, n, s, A, l, c, rfl, hv.mono (fun x (hx : u.heap.size ≤ x) => Nat.le_trans hu.size hx), hb⟩
      · intro u hu
        refine (own_any b P _ u (hb'.on hu)).mono ?_
        rintro e u' ⟨v, rfl, hv, hb⟩
        obtain ⟨f, n, s, A, l, c, rfl⟩ := hv.flat
        exact ⟨f, n, s, A, l, c, rfl, hv.mono (fun x (hx : u.heap.size ≤ x) => Nat.le_trans hu.size hx), hb⟩
      · intro f3 n3 s3 A3 l3 c3 f4 n4 s4 A4 l4 c4 w' h1 h2 hb
        exact ⟨hb, .inr ⟨a, b, _, _, _, _, _, _, _, _, _, _, _, _, hs, rfl, h1.all, h2.all⟩⟩
  obtain ⟨R1, R2, ho1, ho2, hk1, hk2, hfin⟩ := hown
  have hzy : w.heap.size + 3 ≤ y.heap.size := by have := hb.size; omega
  obtain ⟨V, eV, k1, k2, bV, zV⟩ := two_boxes y (.int .i64 f1) (.int .i64 n1) (.string s1) (.slice A1 l1 c1) (.int .i64 f2) (.int .i64 n2) (.string s2) (.slice A2 l2 c2) 25 25
  have HEV := Lib.hid eV
  have HK1 := Lib.hid k1
  have HK2 := Lib.hid k2
  have r2 := (HQ2.out.on hb).on bV
  have r3 := (HQ3.out.on hb).on bV
  have HR2 := Lib.hid r2
  have HR3 := Lib.hid r3
  have HBV := Lib.hid ((HB3.out.trans (hb.mono HB3.out.size)).trans (bV.mono (by omega)))
  have HYV := Lib.hid bV
  have HO1 := Lib.hid ho1
  have HO2 := Lib.hid ho2
  have HKE1 := Lib.hid hk1
  have HKE2 := Lib.hid hk2
  have HFIN := Lib.hid hfin
  clear hb hr eV k1 k2 bV r2 r3 ho1 ho2 hk1 hk2 hfin
  go_wp2_with fail
  rw [HEV.out]
  have keep : Hid (∀ q, Below V.heap.size V q → ((q.cell? ⟨y.heap.size, 0, none⟩ = some (.int .i64 f1) ∧ q.cell? ⟨y.heap.size, 1, none⟩ = some (.int .i64 n1) ∧ q.cell? ⟨y.heap.size, 2, none⟩ = some (.string s1) ∧ q.cell? ⟨y.heap.size, 3, none⟩ = some (.slice A1 l1 c1)) ∧ (q.cell? ⟨y.heap.size + 1, 0, none⟩ = some (.int .i64 f2) ∧ q.cell? ⟨y.heap.size + 1, 1, none⟩ = some (.int .i64 n2) ∧ q.cell? ⟨y.heap.size + 1, 2, none⟩ = some (.string s2) ∧ q.cell? ⟨y.heap.size + 1, 3, none⟩ = some (.slice A2 l2 c2)))) := fun q hb => by
    obtain ⟨_, h0, h1, h2, h3, _⟩ := HK2.out.on hb
    obtain ⟨_, k0, k1, k2, k3, _⟩ := HK1.out.on hb
    exact ⟨⟨k0, k1, k2, k3⟩, h0, h1, h2, h3⟩
  have HC1 : Hid (Calls Tryd.prog 43 #[.agg #[.int .i64 f1, .int .i64 n1, .string s1, .slice A1 l1 c1]] V.drew fun e u' => ∃ f n s A l c, e = .returned (.agg #[.int .i64 f, .int .i64 n, .string s, .slice A l c]) ∧ R1 (.agg #[.int .i64 f, .int .i64 n, .string s, .slice A l c]) u' ∧ Below V.heap.size V u') := by
    refine (HO1.out _ HYV.out.drew).mono ?_
    rintro e u' ⟨f, n, s, A, l, c, rfl, h1, h2⟩
    exact ⟨f, n, s, A, l, c, rfl, h1, (Below.refl _ V).drew.trans h2⟩
  have HC2 : Hid (∀ u f n s A l c, R1 (.agg #[.int .i64 f, .int .i64 n, .string s, .slice A l c]) u → Below V.heap.size V u → Calls Tryd.prog 43 #[.agg #[.int .i64 f2, .int .i64 n2, .string s2, .slice A2 l2 c2]] u fun e u' => ∃ f' n' s' A' l' c', e = .returned (.agg #[.int .i64 f', .int .i64 n', .string s', .slice A' l' c']) ∧ R1 (.agg #[.int .i64 f, .int .i64 n, .string s, .slice A l c]) u' ∧ R2 (.agg #[.int .i64 f', .int .i64 n', .string s', .slice A' l' c']) u' ∧ Below V.heap.size V u' ∧ Box4 u' (w.heap.size + 1) (.int .i64 0) (.int .i64 0) (.string ⟨#[]⟩) (.slice none 0 0) ∧ Box4 u' (w.heap.size + 1 + 1) (.int .i64 0) (.int .i64 0) (.string ⟨#[]⟩) (.slice none 0 0)) := by
    intro u f n s A l c h1 hu
    refine (HO2.out _ (HYV.out.trans (hu.mono (by omega)))).mono ?_
    rintro e u' ⟨f', n', s', A', l', c', rfl, h2, h3⟩
    have hu' := hu.trans (h3.mono hu.size)
    exact ⟨f', n', s', A', l', c', rfl, HKE1.out _ _ _ h1 (.of_below h3), h2, hu', HR2.out.on hu', HR3.out.on hu'⟩
  obtain ⟨⟨a0, a1, a2, a3⟩, ⟨d0, d1, d2, d3⟩⟩ := keep.out V (Below.refl _ V)
  obtain ⟨o0, _⟩ := HK1.out
  obtain ⟨o1, _⟩ := HK2.out
  have HZ9 : Hid (∀ q, Below V.heap.size V q → y.heap.size < q.heap.size ∧ y.heap.size + 1 < q.heap.size) := fun q hq => ⟨Nat.lt_of_lt_of_le o0 hq.size, Nat.lt_of_lt_of_le o1 hq.size⟩
  go_region_law (first | (go_simp; go_at_call 43; (with_reducible refine HC1.out.mono ?_); rintro e y1 ⟨g1, m1, r1, B1, j1, i1, rfl, ht1, hb1⟩; obtain ⟨⟨a0', a1', a2', a3'⟩, ⟨d0', d1', d2', d3'⟩⟩ := keep.out y1 hb1; obtain ⟨o0', o1'⟩ := HZ9.out y1 hb1) | (go_simp; go_at_call 43; (with_reducible refine (HC2.out _ _ _ _ _ _ _ ht1 hb1).mono ?_); rintro e y2 ⟨g2, m2, r2, B2, j2, i2, rfl, ht1', ht2, hb2, hx2, hx3⟩; obtain ⟨z0, z1, z2, z3', z4, z5, z6, z7, z8⟩ := hx2; obtain ⟨u0, u1, u2, u3, u4, u5, u6, u7, u8⟩ := hx3))
  all_goals
    have HT1 := Lib.hid ht1'
    have HT2 := Lib.hid ht2
    have HBF := Lib.hid hb2
    clear ht1 hb1 ht1' ht2 hb2
    go_wp2
    exact bodyPost_ret (v := .tuple #[.agg #[.int .i64 g1, .int .i64 m1, .string r1, .slice B1 j1 i1], .agg #[.int .i64 g2, .int .i64 m2, .string r2, .slice B2 j2 i2], .bool is]) (by simp [results, Tryd.results14, go_sem, z1, z2, z3', z4, u1, u2, u3, u4]) rfl
      (HFIN.out _ _ _ _ _ _ _ _ _ _ _ _ _ (HKE1.out _ _ _ HT1.out ((Keeps.box (fun hx => by omega) _ _ _ _).trans (.box (fun hx => by omega) _ _ _ _))) (HKE2.out _ _ _ HT2.out ((Keeps.box (fun hx => by omega) _ _ _ _).trans (.box (fun hx => by omega) _ _ _ _))) (below_box (below_box (HBV.out.trans (HBF.out.mono HBV.out.size)) (by omega) _ _ _ _) (by omega) _ _ _ _))
end Go.Proofs.YtlloicehhjlekaaDoor
