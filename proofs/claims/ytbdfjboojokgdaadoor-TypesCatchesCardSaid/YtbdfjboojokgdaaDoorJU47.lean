/- The law's own example (chapter 4): it holds. No conditions. The contract of the document's Equal (chapter 4): the same, names and all. No conditions but those that each theorem names. -/
import Derived.Test.YtbdfjboojokgdaaDoorJU07
import Derived.Test.YtbdfjboojokgdaaDoorJU14
import Derived.Test.YtbdfjboojokgdaaDoorJU04
namespace Go.Proofs.YtbdfjboojokgdaaDoor
open Go.RowKit

/-- True, and nothing that was there has changed. -/
def TrueB (w : World) (e : Ending) (w' : World) : Prop := e = .returned (.bool true) ∧ Below w.heap.size w w'
def exT : Ty := .fn (.fn (.var ⟨#[97]⟩) (.var ⟨#[98]⟩)) (.fn (.app (.con ⟨#[70]⟩) (.var ⟨#[97]⟩)) (.var ⟨#[98]⟩))
theorem exT_pr : exT.pr = [40, 97, 32, 45, 62, 32, 98, 41, 32, 45, 62, 32, 70, 32, 97, 32, 45, 62, 32, 98] := by decide
theorem exT_small : exT.small := by simp [exT, Ty.fn, Ty.small]
set_option maxRecDepth 100000 in
set_option maxHeartbeats 1000000 in
theorem lives_any (w : World) : Calls Tryd.prog 21 #[] w (TrueB w) := by
  have HP := Lib.hid (fun (P : Nat → Prop) (v : Value) (w : World) (h : TyAt P w exT v) => print_any P exT v w h exT_small (by rw [exT_pr]; decide))
  rw [exT_pr] at HP
  go_enter Tryd.func21, Tryd.ntmps21
  go_wp2_with fail
  refine (var_any _ _).mono ?_
  rintro e y1 ⟨v1, rfl, hv1, hb1⟩
  obtain ⟨f1, n1, s1, A1, l1, c1, rfl⟩ := hv1.flat
  have HV1 := Lib.hid hv1.all
  have HB1 := Lib.hid hb1
  clear hv1 hb1
  go_wp2_with fail
  refine (var_any _ _).mono ?_
  rintro e y2 ⟨v2, rfl, hv2, hb2⟩
  obtain ⟨f2, n2, s2, A2, l2, c2, rfl⟩ := hv2.flat
  have HV1 := Lib.hid (HV1.out.on hb2)
  have HV2 := Lib.hid hv2.all
  have HB2 := Lib.hid (HB1.out.trans (hb2.mono HB1.out.size))
  clear hv2 hb2
  go_wp2_with fail
  refine (var_any _ _).mono ?_
  rintro e y3 ⟨v3, rfl, hv3, hb3⟩
  obtain ⟨f3, n3, s3, A3, l3, c3, rfl⟩ := hv3.flat
  have HV1 := Lib.hid (HV1.out.on hb3)
  have HV2 := Lib.hid (HV2.out.on hb3)
  have HV3 := Lib.hid hv3.all
  have HB3 := Lib.hid (HB2.out.trans (hb3.mono HB2.out.size))
  clear hv3 hb3
  have hn := below_new y3 (.cells #[.int .i64 f3, .int .i64 n3, .string s3, .slice A3 l3 c3] 25)
  have hrow := (one_new HV3.out 25 1 (Nat.le_refl _) (by unfold maxLen; omega)).all
  have HR := Lib.hid hrow
  have HN := Lib.hid hn
  clear hrow hn
  go_wp2_with fail
  refine (fun_any _ _ _ _ _ _ (HV2.out.on HN.out) HR.out (by simp)).mono ?_
  rintro e y5 ⟨v5, rfl, hv5, hb5⟩
  obtain ⟨f5, n5, s5, A5, l5, c5, rfl⟩ := hv5.flat
  have HN5 := Lib.hid (HN.out.trans (hb5.mono HN.out.size))
  have HV1 := Lib.hid (HV1.out.on HN5.out)
  have HV5 := Lib.hid hv5.all
  have HB5 := Lib.hid (HB3.out.trans (HN5.out.mono HB3.out.size))
  clear hv5 hb5
  go_wp2_with fail
  refine (con_any _ _).mono ?_
  rintro e y6 ⟨v6, rfl, hv6, hb6⟩
  obtain ⟨f6, n6, s6, A6, l6, c6, rfl⟩ := hv6.flat
  have HV1 := Lib.hid (HV1.out.on hb6)
  have HV5 := Lib.hid (HV5.out.on hb6)
  have HV6 := Lib.hid hv6.all
  have HB6 := Lib.hid (HB5.out.trans (hb6.mono HB5.out.size))
  clear hv6 hb6
  go_wp2_with fail
  refine (var_any _ _).mono ?_
  rintro e y7 ⟨v7, rfl, hv7, hb7⟩
  obtain ⟨f7, n7, s7, A7, l7, c7, rfl⟩ := hv7.flat
  have HV1 := Lib.hid (HV1.out.on hb7)
  have HV5 := Lib.hid (HV5.out.on hb7)
  have HV6 := Lib.hid (HV6.out.on hb7)
  have HV7 := Lib.hid hv7.all
  have HB7 := Lib.hid (HB6.out.trans (hb7.mono HB6.out.size))
  clear hv7 hb7
  have HN7 := Lib.hid (below_new y7 (.cells #[.int .i64 f7, .int .i64 n7, .string s7, .slice A7 l7 c7] 25))
  have HR7 := Lib.hid (one_new HV7.out 25 1 (Nat.le_refl _) (by unfold maxLen; omega)).all
  go_wp2_with fail
  refine (app_any _ _ _ _ _ _ (HV6.out.on HN7.out) HR7.out (by simp)).mono ?_
  rintro e y9 ⟨v9, rfl, hv9, hb9⟩
  obtain ⟨f9, n9, s9, A9, l9, c9, rfl⟩ := hv9.flat
  have HN9 := Lib.hid (HN7.out.trans (hb9.mono HN7.out.size))
  have HV1 := Lib.hid (HV1.out.on HN9.out)
  have HV5 := Lib.hid (HV5.out.on HN9.out)
  have HV9 := Lib.hid hv9.all
  have HB9 := Lib.hid (HB7.out.trans (HN9.out.mono HB7.out.size))
  clear hv9 hb9
  have HN10 := Lib.hid (below_new y9 (.cells #[.int .i64 f5, .int .i64 n5, .string s5, .slice A5 l5 c5, .int .i64 f9, .int .i64 n9, .string s9, .slice A9 l9 c9] 25))
  have HR10 := Lib.hid (two_new HV5.out HV9.out 25 2 (Nat.le_refl _) (by unfold maxLen; omega)).all
  go_wp2_with fail
  refine (fun_any _ _ _ _ _ _ (HV1.out.on HN10.out) HR10.out (by simp)).mono ?_
  rintro e y11 ⟨v11, rfl, hv11, hb11⟩
  obtain ⟨f11, n11, s11, A11, l11, c11, rfl⟩ := hv11.flat
  have HV11 : Hid (TyAt (fun _ => True) y11 exT (.agg #[.int .i64 f11, .int .i64 n11, .string s11, .slice A11 l11 c11])) := hv11.all
  have HN11 := Lib.hid (HN10.out.trans (hb11.mono HN10.out.size))
  have HB11 := Lib.hid (HB9.out.trans (HN11.out.mono HB9.out.size))
  clear hv11 hb11
  go_wp2_with fail
  refine (HP.out _ _ _ HV11.out).mono ?_
  rintro e y12 ⟨rfl, hb12⟩
  have HB12 := Lib.hid (HB11.out.trans (hb12.mono HB11.out.size))
  clear hb12
  go_wp2
  go_ret
  exact ⟨rfl, HB12.out⟩
end Go.Proofs.YtbdfjboojokgdaaDoor
namespace Go.Proofs.YtbdfjboojokgdaaDoor
open Go.RowKit

noncomputable def eqT (a b : Ty) : Bool := @decide (a = b) (Classical.propDecidable _)
theorem eqT_true {a b : Ty} (h : a = b) : eqT a b = true := by unfold eqT; exact @decide_eq_true _ (Classical.propDecidable _) h
theorem eqT_false {a b : Ty} (h : a ≠ b) : eqT a b = false := by unfold eqT; exact @decide_eq_false _ (Classical.propDecidable _) h
theorem bne_lists {a b : ByteArray} : (!(a.toList == b.toList)) = (a != b) := by rw [beq_lists (a := a) (b := b) rfl]; rfl
theorem bytes_beq {a b : ByteArray} : (a == b) = true ↔ a = b := by
  constructor
  · intro h
    have h' : (a.data == b.data) = true := h
    rw [beq_iff_eq] at h'
    cases a; cases b; simp at h'; rw [h']
  · intro h; subst h; show (a.data == a.data) = true; simp
set_option maxRecDepth 100000 in
set_option maxHeartbeats 1000000 in
theorem equal_any (P Q : Nat → Prop) : ∀ (n : Nat) (a b : Ty) (v1 v2 : Value) (w : World), a.sz ≤ n → TyAt P w a v1 → TyAt Q w b v2 →
    Calls Tryd.prog 28 #[v1, v2] w fun e w' => e = .returned (.bool (eqT a b)) ∧ Below w.heap.size w w'
  | 0, a, _, _, _, _, hn, _, _ => by cases a <;> simp [Ty.sz] at hn
  | n + 1, a, b, v1, v2, w, hn, h1, h2 => by
    obtain ⟨sv1, rfl, hs1⟩ := h1.tys
    obtain ⟨sv2, rfl, hs2⟩ := h2.tys
    obtain ⟨A1, c1, rfl, hc1, hm1⟩ := hs1.form
    obtain ⟨A2, c2, rfl, hc2, hm2⟩ := hs2.form
    have IH := Lib.hid (equal_any P Q n)
    have HN := Lib.hid (fun i (h : i < a.args.length) => (show a.args[i].sz ≤ n from by have := Ty.arg_sz (List.getElem_mem h); omega))
    have HS1 := Lib.hid hs1
    have HS2 := Lib.hid hs2
    have hl1 := a.args_le
    have hl2 := b.args_le
    obtain ⟨W, eW, q1, q2, b2, z2⟩ := two_boxes w (.int .i64 a.form) (.int .i64 a.num) (.string a.name) (.slice A1 a.args.length c1) (.int .i64 b.form) (.int .i64 b.num) (.string b.name) (.slice A2 b.args.length c2) 25 25
    have HEW := Lib.hid eW
    have HQ1 := Lib.hid q1
    have HQ2 := Lib.hid q2
    have HB2 := Lib.hid b2
    clear h1 h2 hn hs1 hs2 eW q1 q2 b2
    by_cases hsame : a.form = b.form ∧ a.num = b.num ∧ a.name = b.name ∧ a.args.length = b.args.length
    · obtain ⟨hf, hnu, hna, hal⟩ := hsame
      have HEQ : Hid (a.args = b.args → eqT a b = true) := fun h => eqT_true (Ty.eq_of a b hf hnu hna h)
      have HNE : Hid (a.args ≠ b.args → eqT a b = false) := fun h => eqT_false (fun e => h (by rw [e]))
      have HLEN := Lib.hid hal
      rw [← hf, ← hnu, ← hna, ← hal] at HQ2 HEW ⊢
      rw [← hal] at HS2
      clear hf hnu hna hal
      generalize a.form = af, a.num = an, a.name = az at *
      generalize a.args = la at *
      generalize b.args = lb at *
      go_enter Tryd.func28, Tryd.ntmps28
      go_wp2_with fail
      rw [HEW.out]
      obtain ⟨_, _, _, _, x4, _⟩ := HQ1.out
      obtain ⟨_, _, _, _, y4, _⟩ := HQ2.out
      have X4 := Lib.hid x4
      have Y4 := Lib.hid y4
      clear x4 y4
      go_loopw [5, 6] (fun i _ wr => ∃ k : Nat, k ≤ la.length ∧ i = .int .i64 k ∧ Hid (∀ j (h : j < la.length) (h' : j < lb.length), j < k → la[j] = lb[j]) ∧ Below W.heap.size W wr) (fun i _ _ => la.length - (intOf i).toNat)
      case atStart => exact ⟨0, Nat.zero_le _, rfl, fun j _ _ h => absurd h (Nat.not_lt_zero _), Below.refl _ _⟩
      case round =>
        obtain ⟨k, hk, rfl, heq, hb⟩ := hrel
        have hzr := hb.size
        have z0 : w.heap.size < W.heap.size := by omega
        have z1 : w.heap.size + 1 < W.heap.size := by omega
        have x4 := (hb.cell (p := ⟨w.heap.size, 3, none⟩) z0).trans X4.out
        have y4 := (hb.cell (p := ⟨w.heap.size + 1, 3, none⟩) z1).trans Y4.out
        have HB := Lib.hid hb
        have HBW := Lib.hid (HB2.out.trans (hb.mono HB2.out.size))
        clear hb
        by_cases hlt : k < la.length
        · have hlr : k < lb.length := by rw [← HLEN.out]; exact hlt
          obtain ⟨b1, o1, A3, c3, e1, _, hb1, d0, d1, d2, d3, ht1⟩ := (HS1.out.on HBW.out).at k hlt
          obtain ⟨b2, o2, A4, c4, e2, _, hb2, g0, g1, g2, g3, ht2⟩ := (HS2.out.on HBW.out).at k hlr
          subst e1 e2
          have HT1 := Lib.hid ht1
          have HT2 := Lib.hid ht2
          have hki : (k : Int) < (la.length : Int) := by omega
          have hk0 : (0 : Int) ≤ (k : Int) := by omega
          have HSZ := Lib.hid (HN.out k hlt)
          have HEK : Hid (la[k] = lb[k] ∨ la[k] ≠ lb[k]) := Classical.em _
          clear ht1 ht2
          generalize hla : la[k] = ea at *
          generalize hlb : lb[k] = eb at *
          have HLA := Lib.hid hla
          have HLB := Lib.hid hlb
          clear hla hlb
          generalize ea.form = e1, ea.num = e2, ea.name = e3, ea.args.length = e4 at *
          generalize eb.form = j1, eb.num = j2, eb.name = j3, eb.args.length = j4 at *
          go_wp2_with fail
          go_still_tail 10, (by kernel_rfl)
          go_wp2_with fail
          refine (IH.out _ _ _ _ _ HSZ.out (HT1.out.on (Below.refl _ _).drew) (HT2.out.on (Below.refl _ _).drew)).mono ?_
          rintro e w1 ⟨rfl, b1'⟩
          have HB1 : Hid (Below W.heap.size W w1) := HB.out.drew.trans (b1'.mono hzr)
          clear b1'
          rcases HEK.out with he | he
          · rw [eqT_true he]
            have HR : Hid (∀ j (h : j < la.length) (h' : j < lb.length), j < k + 1 → la[j] = lb[j]) := fun j h h' hj => by
              by_cases hjk : j = k
              · subst hjk; exact (HLA.out.trans he).trans HLB.out.symm
              · exact heq.out j h h' (by omega)
            clear he
            go_wp2
            go_roundw
            case rel => exact ⟨k + 1, by omega, by go_num, HR, HB1.out⟩
            case measure => simp [intOf]; omega
          · rw [eqT_false he]
            have HE : Hid (eqT a b = false) := HNE.out (fun h9 => he (by rw [← HLA.out, ← HLB.out]; subst h9; rfl))
            clear he
            go_wp2
            go_ret
            exact ⟨ret_bool HE.out.symm, HB2.out.trans (HB1.out.mono HB2.out.size)⟩
        · have hd : decide (k < la.length) = false := by simpa using hlt
          have HE : Hid (eqT a b = true) := HEQ.out (List.ext_getElem HLEN.out (fun j h h' => heq.out j h h' (by omega)))
          go_wp2
          go_ret
          exact ⟨ret_bool HE.out.symm, HBW.out⟩
    · have HE : Hid (eqT a b = false) := eqT_false (fun e => hsame (by subst e; exact ⟨rfl, rfl, rfl, rfl⟩))
      have hcase : (a.form != b.form) = true ∨ ((a.form != b.form) = false ∧ (a.num != b.num) = true) ∨ ((a.form != b.form) = false ∧ (a.num != b.num) = false ∧ (!(a.name.toList == b.name.toList)) = true) ∨ ((a.form != b.form) = false ∧ (a.num != b.num) = false ∧ (!(a.name.toList == b.name.toList)) = false ∧ ((a.args.length : Int) != (b.args.length : Int)) = true) := by
        by_cases h1 : a.form = b.form
        · have h1' : (a.form != b.form) = false := by simp [h1]
          by_cases h2 : a.num = b.num
          · have h2' : (a.num != b.num) = false := by simp [h2]
            by_cases h3 : a.name = b.name
            · have h3' : (!(a.name.toList == b.name.toList)) = false := by rw [h3]; simp
              refine .inr (.inr (.inr ⟨h1', h2', h3', ?_⟩))
              rw [bne_iff_ne]
              exact fun h4 => hsame ⟨h1, h2, h3, by omega⟩
            · refine .inr (.inr (.inl ⟨h1', h2', ?_⟩))
              rw [bne_lists]
              show (!(a.name == b.name)) = true
              cases hq : (a.name == b.name) with
              | false => rfl
              | true => exact absurd (bytes_beq.1 hq) h3
          · exact .inr (.inl ⟨h1', by rw [bne_iff_ne]; exact h2⟩)
        · exact .inl (by rw [bne_iff_ne]; exact h1)

      clear hsame HN HS1 HS2 IH HQ1 HQ2 HEW
      generalize a.form = af, a.num = an, a.name = az, a.args.length = al at *
      generalize b.form = bf, b.num = bn, b.name = bz, b.args.length = bl at *
      rcases hcase with t1 | ⟨t1, t2⟩ | ⟨t1, t2, t3⟩ | ⟨t1, t2, t3, t4⟩
      all_goals
        go_enter Tryd.func28, Tryd.ntmps28
        go_wp2
        go_ret
        exact ⟨ret_bool HE.out.symm, below2 w _ _⟩
end Go.Proofs.YtbdfjboojokgdaaDoor
