/- KindsRow (chapter 3), the law's walk. Condition: the argument reads as slices of numbers. -/
import Derived.Test.YtomhojpoaicioaaAsk
import Derived.Deep.DeepCutAuto
import Derived.Deep.RegionLaw
import Derived.Test.YtomhojpoaicioaaOf
import Derived.Test.YtomhojpoaicioaaFresh
import Derived.Test.YtomhojpoaicioaaLives
namespace Go.Proofs.Ytomhojpoaicioaa
open Go.RowKit Tm

def X2 (a b : Nat) (x : Nat) : Prop := x = a ∨ x = b
/-- What the law's first loop knows. -/
structure RowSt (w wr : World) (Z : List (List Int)) (sb1 mb1 sb2 mb2 k : Nat) (b1 b2 : Bool) (s1 s2 : KS) (σ1 σ2 : Sb) : Prop where
  t1 : Top (X2 sb2 mb2) 5 wr sb1 mb1 0 s1 σ1
  t2 : Top (X2 sb1 mb1) 5 wr sb2 mb2 0 s2 σ2
  c1 : SB (eqA (Z.take k)) b1 σ1
  c2 : SB (eqB (Z.reverse.take k)) b2 σ2
  r1 : s1.sz + leftN 5 σ1 ≤ 6 + 14 * k
  r2 : s2.sz + leftN 5 σ2 ≤ 6 + 14 * k
  d1 : DepB k σ1
  d2 : DepB k σ2
  bw : Below w.heap.size w wr
set_option maxRecDepth 100000 in
set_option maxHeartbeats 4000000 in
theorem kindsRow_law (w : World) (v : Value) (hm : SomeMat w v) : Calls Try.prog 7 #[v] w fun e w' => e = .returned (.bool true) ∧ Below w.heap.size w w' := by
  obtain ⟨M, hM⟩ := hm
  obtain ⟨A, c, rfl, hc, hcm⟩ := hM.form
  have HM := Lib.hid hM
  have HN := Lib.hid (new_any w)
  clear hM
  unfold maxLen at hcm
  go_enter Try.func7, Try.ntmps7
  go_wp2_with fail
  refine HN.out.mono ?_
  rintro e w1 ⟨sb1, mb1, rfl, g1, g2, g3, hS1, hb1⟩
  have HS1 := Lib.hid hS1
  have HB1 := Lib.hid hb1
  have HN2 := Lib.hid (new_any w1)
  clear hS1 hb1 HN
  go_wp2_with fail
  refine HN2.out.mono ?_
  rintro e w2 ⟨sb2, mb2, rfl, g4, g5, g6, hS2, hb2⟩
  have hlt1 := (HS1.out (fun _ => True)).lt
  have hlt2 := (HS1.out (fun _ => True)).known.lt
  have HT1 := Lib.hid ((top_new (X := X2 sb2 mb2) HS1.out (by omega)).on hb2)
  have HT2 := Lib.hid (top_new (X := X2 sb1 mb1) hS2 (by omega))
  have HB2 := Lib.hid (HB1.out.trans (hb2.mono HB1.out.size))
  clear hS2 hb2 HN2
  have hn : ∃ n : Nat, n ≤ M.length ∧ n ≤ 4 ∧ (min (M.length : Int) 4) = n := ⟨min M.length 4, by omega, by omega, by omega⟩
  obtain ⟨n, hn1, hn2, hn3⟩ := hn
  have HN3 := Lib.hid hn3
  go_wp2_with fail
  clear hn3
  have hq1 := Nat.le_trans HB1.out.size g4
  have hq2 := Nat.le_trans HB1.out.size g5
  have hst : RowSt w w2 (M.take n) sb1 mb1 sb2 mb2 0 false false ⟨fun _ => none, 0, []⟩ ⟨fun _ => none, 0, []⟩ var var :=
    ⟨HT1.out, HT2.out, sb_nil, sb_nil, by rw [left_var]; exact Nat.le_refl _, by rw [left_var]; exact Nat.le_refl _, dep_var, dep_var, HB2.out⟩
  have HST := Lib.hid hst
  clear hst
  go_loopw [6, 7, 8] (fun bad worse i wr => ∃ (k : Nat) (b1 b2 : Bool) (s1 s2 : KS) (σ1 σ2 : Sb), k ≤ n ∧ bad = .bool b1 ∧ worse = .bool b2 ∧ i = .int .i64 k ∧ RowSt w wr (M.take n) sb1 mb1 sb2 mb2 k b1 b2 s1 s2 σ1 σ2) (fun _ _ i _ => n - (intOf i).toNat)
  case atStart => exact ⟨0, false, false, _, _, _, _, Nat.zero_le _, rfl, rfl, rfl, HST.out⟩
  case round =>
    obtain ⟨k, b1, b2, s1, s2, σ1, σ2, hk, rfl, rfl, rfl, hR⟩ := hrel
    have HR := Lib.hid hR
    have hlx1 := hR.t1.sol.lt
    have hlx2 := hR.t1.sol.known.lt
    have hly1 := hR.t2.sol.lt
    have hly2 := hR.t2.sol.known.lt
    clear hR
    by_cases hkn : k < n
    · have hki : (k : Int) < (n : Int) := by omega
      obtain ⟨j, hj⟩ : ∃ j : Nat, j = n - 1 - k := ⟨_, rfl⟩
      have hjn : (n : Int) - 1 - (k : Int) = (j : Int) := by omega
      have hjM : j < M.length := by omega
      have hkM : k < M.length := by omega
      have hkL : (k : Int) < (M.length : Int) := by omega
      have hjL : (j : Int) < (M.length : Int) := by omega
      obtain ⟨bb, off, A', c', rfl, hbl, hcell, hints⟩ := (HM.out.on HR.out.bw).at k hkM
      have HCT := Lib.hid (terms_any _ _ M[k] wr hints)
      have HJ := Lib.hid hj
      have HJN := Lib.hid hjn
      clear hj hjn hints
      go_wp2_with fail
      (with_reducible refine HCT.out.mono ?_)
      rintro e w3 ⟨u1, v1, rfl, ht1, ht2, hb3⟩
      obtain ⟨B1, d1, rfl⟩ := ht1.form
      obtain ⟨B2, d2, rfl⟩ := ht2.form
      obtain ⟨W1, eW1, bW1, zW1, kk9, kk10⟩ := two_boxes w3 (.int .i64 (formT (oneZ M[k]))) (.int .i64 (numT (oneZ M[k]))) (.slice B1 (argsT (oneZ M[k])) d1) (.int .i64 (formT (twoZ M[k]))) (.int .i64 (numT (twoZ M[k]))) (.slice B2 (argsT (twoZ M[k])) d2) 54
      have hbw1 : Below wr.heap.size wr W1 := hb3.trans (bW1.mono hb3.size)
      have T9 := Lib.hid (TT.of kk9 (ht1.on bW1))
      have T10 := Lib.hid (TT.of kk10 (ht2.on bW1))
      have HBW1 := Lib.hid hbw1
      have HEW1 := Lib.hid eW1
      have hz3 := hb3.size
      obtain ⟨bb2, off2, A2', c2', eb, hbl2, hcell2, hints2⟩ := (HM.out.on (HR.out.bw.trans (hbw1.mono HR.out.bw.size))).at j hjM
      injection eb with eb
      injection eb with eb1 eb2
      subst eb1 eb2
      have HCT2 := Lib.hid (terms_any _ _ M[j] W1 hints2)
      clear ht1 ht2 hb3 eW1 bW1 zW1 kk9 kk10 hbw1 hints2 hcell HCT
      have hjn := HJN.out
      go_upto_region 12 with (fail)
      rw [← HEW1.out]
      go_wp2_with fail
      (with_reducible refine HCT2.out.mono ?_)
      rintro e w4 ⟨u3, v3, rfl, ht3, ht4, hb4⟩
      obtain ⟨B3, d3, rfl⟩ := ht3.form
      obtain ⟨B4, d4, rfl⟩ := ht4.form
      obtain ⟨W2, eW2, bW2, zW2, kk11, kk12⟩ := two_boxes w4 (.int .i64 (formT (oneZ M[j]))) (.int .i64 (numT (oneZ M[j]))) (.slice B3 (argsT (oneZ M[j])) d3) (.int .i64 (formT (twoZ M[j]))) (.int .i64 (numT (twoZ M[j]))) (.slice B4 (argsT (twoZ M[j])) d4) 54
      have hbw2 : Below W1.heap.size W1 W2 := hb4.trans (bW2.mono hb4.size)
      have T11 := Lib.hid (TT.of kk11 (ht3.on bW2))
      have T12 := Lib.hid (TT.of kk12 (ht4.on bW2))
      have T9' := Lib.hid (T9.out.on hbw2)
      have T10' := Lib.hid (T10.out.on hbw2)
      have HBW2 := Lib.hid (HBW1.out.trans (hbw2.mono HBW1.out.size))
      have HEW2 := Lib.hid eW2
      have hz4 := hb4.size
      have hz5 := HBW1.out.size
      clear ht3 ht4 hb4 eW2 bW2 zW2 kk11 kk12 hbw2 hcell2 HCT2 T9 T10 hjn
      go_upto_region 13 with (fail)
      rw [← HEW2.out]
      have tt1 := Lib.hid (HR.out.t1.on HBW2.out)
      have tt2 := Lib.hid (HR.out.t2.on HBW2.out)
      have hX1 : ∀ b, X2 sb2 mb2 b → b < W2.heap.size := fun b h => by have := HBW2.out.size; rcases h with rfl | rfl <;> omega
      have HX1 := Lib.hid hX1
      clear hX1
      go_cut [6] (fun v wx => ∃ b' s' σ', v = .bool b' ∧ AskSt (X2 sb2 mb2) W2 wx sb1 mb1 k (eqA ((M.take n).take k) ++ [(oneZ M[k], twoZ M[k])]) b' s' σ')
      case first =>
        cases b1 with
        | true =>
          go_region
          all_goals
            go_wp2_with fail
            go_meet
            exact ⟨true, s1, σ1, rfl, ask_skip (tt1.out.on (Below.refl _ _).drew) HR.out.c1 HR.out.r1 HR.out.d1 (one_little M[k]) (two_little M[k]) (Below.refl _ _).drew⟩
        | false =>
          have hdr : Below W2.heap.size W2 W2.drew := (Below.refl _ _).drew
          have HCa : Hid (∀ y, Below W2.heap.size W2 y → Calls Try.prog 28 #[.agg #[.int .i64 (formT (oneZ M[k])), .int .i64 (numT (oneZ M[k])), .slice _ (argsT (oneZ M[k])) _]] y (OfRes y (oneZ M[k]))) := fun y hy => of_any _ 5 (by omega) _ _ y (T9'.out.on hy).tt.bound (one_little M[k]).vars (fun b h => h.2)
          have HCb : Hid (∀ y, Below W2.heap.size W2 y → Calls Try.prog 28 #[.agg #[.int .i64 (formT (twoZ M[k])), .int .i64 (numT (twoZ M[k])), .slice _ (argsT (twoZ M[k])) _]] y (OfRes y (twoZ M[k]))) := fun y hy => of_any _ 5 (by omega) _ _ y (T10'.out.on hy).tt.bound (two_little M[k]).vars (fun b h => h.2)
          have HEQ : Hid (∀ y u v, Below W2.heap.size W2 y → ZAt (fun b => W2.heap.size ≤ b) y (emb (oneZ M[k])) u → ZAt (fun b => W2.heap.size ≤ b) y (emb (twoZ M[k])) v → Calls Try.prog 27 #[.pointer (some ⟨sb1, 0, none⟩), u, v] y (AskRes (X2 sb2 mb2) W2 sb1 mb1 k (eqA ((M.take n).take k) ++ [(oneZ M[k], twoZ M[k])]))) := fun y u v hy h1 h2 =>
            ask_any (X2 sb2 mb2) W2 y sb1 mb1 k _ s1 σ1 _ _ u v (tt1.out.on hy) HR.out.c1 HR.out.r1 HR.out.d1 (one_little M[k]) (two_little M[k]) (by omega) (h1.mono (pt_new (by have := tt1.out.sol.lt; omega) (by have := tt1.out.sol.known.lt; omega) HX1.out)) (h2.mono (pt_new (by have := tt1.out.sol.lt; omega) (by have := tt1.out.sol.known.lt; omega) HX1.out)) (fun b h => Nat.lt_of_lt_of_le (HX1.out b h) hy.size) hy
          have a0 := T9'.out.c0
          have a1 := T9'.out.c1
          have a2 := T9'.out.c2
          have e0 := T10'.out.c0
          have e1 := T10'.out.c1
          have e2 := T10'.out.c2
          go_region_law (first
            | (go_simp; go_at_call 28; (with_reducible refine (HCa.out _ hdr).mono ?_); rintro e y1 ⟨u9, rfl, hu9, hy1⟩; obtain ⟨A9, c9, rfl⟩ := hu9.form; have hy1' := hdr.trans (hy1.mono hdr.size); have i0 := (T10'.out.on hy1').c0; have i1 := (T10'.out.on hy1').c1; have i2 := (T10'.out.on hy1').c2)
            | (go_simp; go_at_call 28; (with_reducible refine (HCb.out _ hy1').mono ?_); rintro e y2 ⟨u8, rfl, hu8, hy2⟩; obtain ⟨A8, c8, rfl⟩ := hu8.form; have hy2' := hy1'.trans (hy2.mono hy1'.size); have hv9 : ZAt (fun b => W2.heap.size ≤ b) y2 _ _ := (hu9.on hy2).mono (fun b (hb : W2.drew.heap.size ≤ b) => (hb : W2.heap.size ≤ b)); have hv8 : ZAt (fun b => W2.heap.size ≤ b) y2 _ _ := hu8.mono (fun b (hb : y1.heap.size ≤ b) => Nat.le_trans hy1'.size hb))
            | (go_simp; go_at_call 27; (with_reducible refine (HEQ.out _ _ _ hy2' hv9 hv8).mono ?_); rintro e y3 ⟨q3, b3', s3', σ3', rfl, hq3, hask⟩))
          all_goals
            have HASK := Lib.hid hask
            clear hask
            go_wp2_with fail
            go_meet
            exact ⟨_, _, _, rfl, HASK.out⟩
      case rest =>
        obtain ⟨b1', s1', σ1', rfl, hA1⟩ := hcut
        obtain ⟨W5, rfl⟩ : ∃ x, x = wc := ⟨_, rfl⟩
        have HA1 := Lib.hid hA1
        have hzw := HBW2.out.size
        have hg11 : w4.heap.size ≠ sb1 ∧ w4.heap.size ≠ mb1 := by constructor <;> omega
        have hg12 : w4.heap.size + 1 ≠ sb1 ∧ w4.heap.size + 1 ≠ mb1 := by constructor <;> omega
        have hgP : ∀ b, W1.heap.size ≤ b → b ≠ sb1 ∧ b ≠ mb1 := fun b h => by constructor <;> omega
        have T11' := Lib.hid (T11.out.kept hA1.kp hg11 hgP)
        have T12' := Lib.hid (T12.out.kept hA1.kp hg12 hgP)
        have tt2' := Lib.hid (tt2.out.beside hA1.kp (by omega) (by omega) (by omega) (by omega) (.inl rfl) (.inr rfl))
        have hX2 : ∀ b, X2 sb1 mb1 b → b < W5.heap.size := fun b h => by have := hA1.kp.size; rcases h with rfl | rfl <;> omega
        have HX2 := Lib.hid hX2
        clear hX2 hA1
        go_upto_region 14 with (fail)
        cases b2 with
        | true =>
          go_region
          all_goals
            have hA2 : AskSt (X2 sb1 mb1) W5 W5.drew sb2 mb2 k (eqB ((M.take n).reverse.take k) ++ [(twoZ M[j], oneZ M[j])]) true s2 σ2 := ask_skip (tt2'.out.on (Below.refl _ _).drew) HR.out.c2 HR.out.r2 HR.out.d2 (two_little M[j]) (one_little M[j]) (Below.refl _ _).drew
            have hkp1 := HA1.out.kp
            have hkp2 := hA2.kp
            have tt1' := HA1.out.t.beside hkp2 (by omega) (by omega) (by omega) (by omega) (.inl rfl) (.inr rfl)
            have hbb : Below w.heap.size w W5.drew := by
              have h1 := HR.out.bw.trans (HBW2.out.mono HR.out.bw.size)
              have h2 := hkp1.below (B := w.heap.size) (by omega) (by omega) h1.size
              have h3 := hkp2.below (B := w.heap.size) (by omega) (by omega) (h1.trans h2).size
              exact (h1.trans h2).trans h3
            have hk1 : (M.take n).take (k + 1) = (M.take n).take k ++ [M[k]] := by
              have : k < (M.take n).length := by rw [List.length_take]; omega
              rw [List.take_succ_eq_append_getElem this, List.getElem_take]
            have hk2 : (M.take n).reverse.take (k + 1) = (M.take n).reverse.take k ++ [M[j]] := by
              have hjj := HJ.out
              have hl : k < (M.take n).reverse.length := by rw [List.length_reverse, List.length_take]; omega
              rw [List.take_succ_eq_append_getElem hl, List.getElem_reverse, List.getElem_take]
              congr 2
              have e : (M.take n).length - 1 - k = j := by rw [List.length_take]; omega
              simp only [e]
            have HNEW := Lib.hid (show RowSt w W5.drew (M.take n) sb1 mb1 sb2 mb2 (k + 1) b1' true s1' s2 σ1' σ2 from ⟨tt1', hA2.t, by rw [hk1, eqA_snoc]; exact HA1.out.c, by rw [hk2, eqB_snoc]; exact hA2.c, HA1.out.r, hA2.r, HA1.out.d, hA2.d, hbb⟩)
            clear hkp1 hkp2 tt1' hbb hk1 hk2 hA2
            go_wp2_with fail
            go_roundw
            case rel => exact ⟨k + 1, b1', true, s1', s2, σ1', σ2, by omega, rfl, rfl, by go_num, HNEW.out⟩
            case measure => simp [intOf]; omega
        | false =>
          have hdr : Below W5.heap.size W5 W5.drew := (Below.refl _ _).drew
          have HCa : Hid (∀ y, Below W5.heap.size W5 y → Calls Try.prog 28 #[.agg #[.int .i64 (formT (twoZ M[j])), .int .i64 (numT (twoZ M[j])), .slice _ (argsT (twoZ M[j])) _]] y (OfRes y (twoZ M[j]))) := fun y hy => of_any _ 5 (by omega) _ _ y (T12'.out.on hy).tt.bound (two_little M[j]).vars (fun b h => h.2)
          have HCb : Hid (∀ y, Below W5.heap.size W5 y → Calls Try.prog 28 #[.agg #[.int .i64 (formT (oneZ M[j])), .int .i64 (numT (oneZ M[j])), .slice _ (argsT (oneZ M[j])) _]] y (OfRes y (oneZ M[j]))) := fun y hy => of_any _ 5 (by omega) _ _ y (T11'.out.on hy).tt.bound (one_little M[j]).vars (fun b h => h.2)
          have HEQ : Hid (∀ y u v, Below W5.heap.size W5 y → ZAt (fun b => W5.heap.size ≤ b) y (emb (twoZ M[j])) u → ZAt (fun b => W5.heap.size ≤ b) y (emb (oneZ M[j])) v → Calls Try.prog 27 #[.pointer (some ⟨sb2, 0, none⟩), u, v] y (AskRes (X2 sb1 mb1) W5 sb2 mb2 k (eqB ((M.take n).reverse.take k) ++ [(twoZ M[j], oneZ M[j])]))) := fun y u v hy h1 h2 =>
            ask_any (X2 sb1 mb1) W5 y sb2 mb2 k _ s2 σ2 _ _ u v (tt2'.out.on hy) HR.out.c2 HR.out.r2 HR.out.d2 (two_little M[j]) (one_little M[j]) (by omega) (h1.mono (pt_new (by have := tt2'.out.sol.lt; omega) (by have := tt2'.out.sol.known.lt; omega) HX2.out)) (h2.mono (pt_new (by have := tt2'.out.sol.lt; omega) (by have := tt2'.out.sol.known.lt; omega) HX2.out)) (fun b h => Nat.lt_of_lt_of_le (HX2.out b h) hy.size) hy
          have a0 := T12'.out.c0
          have a1 := T12'.out.c1
          have a2 := T12'.out.c2
          have e0 := T11'.out.c0
          have e1 := T11'.out.c1
          have e2 := T11'.out.c2
          go_region_law (first
            | (go_simp; go_at_call 28; (with_reducible refine (HCa.out _ hdr).mono ?_); rintro e y1 ⟨u9, rfl, hu9, hy1⟩; obtain ⟨A9, c9, rfl⟩ := hu9.form; have hy1' := hdr.trans (hy1.mono hdr.size); have i0 := (T11'.out.on hy1').c0; have i1 := (T11'.out.on hy1').c1; have i2 := (T11'.out.on hy1').c2)
            | (go_simp; go_at_call 28; (with_reducible refine (HCb.out _ hy1').mono ?_); rintro e y2 ⟨u8, rfl, hu8, hy2⟩; obtain ⟨A8, c8, rfl⟩ := hu8.form; have hy2' := hy1'.trans (hy2.mono hy1'.size); have hv9 : ZAt (fun b => W5.heap.size ≤ b) y2 _ _ := (hu9.on hy2).mono (fun b (hb : W5.drew.heap.size ≤ b) => (hb : W5.heap.size ≤ b)); have hv8 : ZAt (fun b => W5.heap.size ≤ b) y2 _ _ := hu8.mono (fun b (hb : y1.heap.size ≤ b) => Nat.le_trans hy1'.size hb))
            | (go_simp; go_at_call 27; (with_reducible refine (HEQ.out _ _ _ hy2' hv9 hv8).mono ?_); rintro e y3 ⟨q3, b3', s3', σ3', rfl, hq3, hask⟩))
          all_goals
            have hA2 := hask
            clear hask
            have hkp1 := HA1.out.kp
            have hkp2 := hA2.kp
            have tt1' := HA1.out.t.beside hkp2 (by omega) (by omega) (by omega) (by omega) (.inl rfl) (.inr rfl)
            have hbb : Below w.heap.size w y3 := by
              have h1 := HR.out.bw.trans (HBW2.out.mono HR.out.bw.size)
              have h2 := hkp1.below (B := w.heap.size) (by omega) (by omega) h1.size
              have h3 := hkp2.below (B := w.heap.size) (by omega) (by omega) (h1.trans h2).size
              exact (h1.trans h2).trans h3
            have hk1 : (M.take n).take (k + 1) = (M.take n).take k ++ [M[k]] := by
              have : k < (M.take n).length := by rw [List.length_take]; omega
              rw [List.take_succ_eq_append_getElem this, List.getElem_take]
            have hk2 : (M.take n).reverse.take (k + 1) = (M.take n).reverse.take k ++ [M[j]] := by
              have hjj := HJ.out
              have hl : k < (M.take n).reverse.length := by rw [List.length_reverse, List.length_take]; omega
              rw [List.take_succ_eq_append_getElem hl, List.getElem_reverse, List.getElem_take]
              congr 2
              have e : (M.take n).length - 1 - k = j := by rw [List.length_take]; omega
              simp only [e]
            have HNEW := Lib.hid (show RowSt w y3 (M.take n) sb1 mb1 sb2 mb2 (k + 1) b1' b3' s1' s3' σ1' σ3' from ⟨tt1', hA2.t, by rw [hk1, eqA_snoc]; exact HA1.out.c, by rw [hk2, eqB_snoc]; exact hA2.c, HA1.out.r, hA2.r, HA1.out.d, hA2.d, hbb⟩)
            clear hkp1 hkp2 tt1' hbb hk1 hk2 hA2
            go_wp2_with fail
            go_roundw
            case rel => exact ⟨k + 1, b1', b3', s1', s3', σ1', σ3', by omega, rfl, rfl, by go_num, HNEW.out⟩
            case measure => simp [intOf]; omega
    · obtain rfl : k = n := by omega
      have hZ1 : (M.take k).take k = M.take k := List.take_of_length_le (by rw [List.length_take]; omega)
      have hZ2 : (M.take k).reverse.take k = (M.take k).reverse := List.take_of_length_le (by rw [List.length_reverse, List.length_take]; omega)
      have hc1 := HR.out.c1
      have hc2 := HR.out.c2
      rw [hZ1] at hc1
      rw [hZ2] at hc2
      obtain ⟨hbb, hkd⟩ := sb_row hc1 hc2
      subst hbb
      clear hZ1 hZ2 hc1 hc2
      cases b1 with
      | true =>
        go_wp2_with fail
        refine (lives_any _).mono ?_
        rintro e w9 ⟨rfl, hb9⟩
        have HB9 := Lib.hid (HR.out.bw.trans (hb9.mono HR.out.bw.size))
        clear hb9
        go_wp2
        go_ret
        exact ⟨rfl, HB9.out⟩
      | false =>
        have HKD := Lib.hid (hkd rfl)
        clear hkd
        obtain ⟨W8, rfl⟩ : ∃ x, x = wr := ⟨_, rfl⟩
        go_wp2_with fail
        go_loopw [13] (fun i wr => ∃ m : Nat, 1 ≤ m ∧ m ≤ 6 ∧ i = .int .i64 m ∧ Below W8.heap.size W8 wr) (fun i _ => 6 - (intOf i).toNat)
        case atStart => exact ⟨1, Nat.le_refl _, by omega, rfl, Below.refl _ _⟩
        case round =>
          obtain ⟨m, hm1, hm6, rfl, hbr⟩ := hrel
          have HBR := Lib.hid hbr
          clear hbr
          by_cases hm5 : m ≤ 5
          · have hmi : (m : Int) ≤ 5 := by omega
            have HK1 : Hid (∀ y, Below W8.heap.size W8 y → Calls Try.prog 29 #[.pointer (some ⟨sb1, 0, none⟩), .agg #[.int .i64 1, .int .i64 m, .slice none 0 0]] y (KindMade y (kd (σ1 m)))) := fun y hy =>
              kindP_any (fun b => PT (X2 sb2 mb2) sb1 mb1 b ∧ b < W8.heap.size) sb1 mb1 s1.sz 0 s1.kn (σ1 m).size (σ1 m) (.var m) _ y (Nat.le_refl _) (HR.out.t1.sol.bound.on hy) (HR.out.t1.inv.st.den m hm1) (.var m none 0 (by omega) (by omega)) (fun b h => Nat.lt_of_lt_of_le h.2 hy.size) (by have := dep_le HR.out.d1 m; omega)
            have HK2 : Hid (∀ y, Below W8.heap.size W8 y → Calls Try.prog 29 #[.pointer (some ⟨sb2, 0, none⟩), .agg #[.int .i64 1, .int .i64 m, .slice none 0 0]] y (KindMade y (kd (σ2 m)))) := fun y hy =>
              kindP_any (fun b => PT (X2 sb1 mb1) sb2 mb2 b ∧ b < W8.heap.size) sb2 mb2 s2.sz 0 s2.kn (σ2 m).size (σ2 m) (.var m) _ y (Nat.le_refl _) (HR.out.t2.sol.bound.on hy) (HR.out.t2.inv.st.den m hm1) (.var m none 0 (by omega) (by omega)) (fun b h => Nat.lt_of_lt_of_le h.2 hy.size) (by have := dep_le HR.out.d2 m; omega)
            have hW := below_new wr (.cells #[.int .i64 1, .int .i64 m, .slice none 0 0] 49)
            have x0 : (wr.alloc (.cells #[.int .i64 1, .int .i64 m, .slice none 0 0] 49)).cell? ⟨wr.heap.size, 0, none⟩ = some (.int .i64 1) := by simp [go_sem]
            have x1 : (wr.alloc (.cells #[.int .i64 1, .int .i64 m, .slice none 0 0] 49)).cell? ⟨wr.heap.size, 1, none⟩ = some (.int .i64 m) := by simp [go_sem]
            have x2 : (wr.alloc (.cells #[.int .i64 1, .int .i64 m, .slice none 0 0] 49)).cell? ⟨wr.heap.size, 2, none⟩ = some (.slice none 0 0) := by simp [go_sem]
            have hlt9 : wr.heap.size < (wr.alloc (.cells #[.int .i64 1, .int .i64 m, .slice none 0 0] 49)).heap.size := by simp
            have HBW9 := Lib.hid (HBR.out.trans (hW.mono HBR.out.size))
            clear hW
            go_upto_region 21 with (fail)
            generalize wr.alloc (.cells #[.int .i64 1, .int .i64 m, .slice none 0 0] 49) = W9 at *
            have hdr : Below W9.heap.size W9 W9.drew := (Below.refl _ _).drew
            have hy0 := HBW9.out.trans (hdr.mono HBW9.out.size)
            go_region_law (first
              | (go_simp; go_at_call 29; (with_reducible refine (HK1.out _ hy0).mono ?_); rintro e y1 ⟨kv1, rfl, hk1, hb1⟩; have hy1 := hy0.trans (hb1.mono hy0.size); have hd1 := hdr.trans (hb1.mono hdr.size); have i0 := (hd1.cell (p := ⟨wr.heap.size, 0, none⟩) hlt9).trans x0; have i1 := (hd1.cell (p := ⟨wr.heap.size, 1, none⟩) hlt9).trans x1; have i2 := (hd1.cell (p := ⟨wr.heap.size, 2, none⟩) hlt9).trans x2)
              | (go_simp; go_at_call 29; (with_reducible refine (HK2.out _ hy1).mono ?_); rintro e y2 ⟨kv2, rfl, hk2, hb2⟩; have hy2 := hy1.trans (hb2.mono hy1.size); have HSM := refsame_any _ _ _ _ _ _ _ y2 (Nat.le_refl _) (hk1.on hb2) hk2)
              | (go_simp; go_at_call 14; (with_reducible refine HSM.mono ?_); rintro e y3 ⟨rfl, hb3⟩))
            all_goals
              rw [eqK_true (HKD.out m)]
              have HB9 := Lib.hid (hy2.trans (hb3.mono hy2.size))
              clear HSM hk1 hk2 hb1 hb2 hb3 hy1 hy2 hd1 i0 i1 i2
              go_wp2_with fail
              go_roundw
              case rel => exact ⟨m + 1, by omega, by omega, by go_num, HB9.out⟩
              case measure => simp only [intOf]; omega
          · have hmi : ¬ (m : Int) ≤ 5 := by omega
            go_wp2_with fail
            refine (lives_any _).mono ?_
            rintro e w9 ⟨rfl, hb9⟩
            have HB9 := Lib.hid ((HR.out.bw.trans (HBR.out.mono HR.out.bw.size)).trans (hb9.mono (HR.out.bw.trans (HBR.out.mono HR.out.bw.size)).size))
            clear hb9
            go_wp2
            go_ret
            exact ⟨rfl, HB9.out⟩
theorem kindsRow_walk (A : Option Addr) (l c : Nat) (w : World) (h : SomeMat w (.slice A l c)) : Calls Try.prog 7 #[.slice A l c] w (TrueB w) := kindsRow_law w _ h
end Go.Proofs.Ytomhojpoaicioaa
