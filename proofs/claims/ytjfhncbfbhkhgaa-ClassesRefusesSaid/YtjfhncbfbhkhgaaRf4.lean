/- The document's Above: the walk. Conditions: those that each theorem names. -/
import Derived.Test.YtjfhncbfbhkhgaaRf3
namespace Go.Proofs.Ytjfhncbfbhkhgaa
open Go.RowKit
def RAb (B : Nat) (L : List ByteArray) (w : World) (e : Ending) (w' : World) : Prop := (∃ v, e = .returned v ∧ Told B w' v L) ∧ Below w.heap.size w w'
theorem Told.form {B : Nat} {w : World} {v : Value} {T : List ByteArray} (h : Told B w v T) : ∃ A c, v = .slice A T.length c ∧ T.length ≤ c ∧ c ≤ maxLen := h.1.form
set_option maxRecDepth 100000 in
set_option maxHeartbeats 4000000 in
theorem rabove_any {Q : Nat → Prop} {C : List Cls} (hC : OkC C) {B : Nat} {Ac Ai : Option Addr} {nc cc ni ci : Nat} : ∀ (n : Nat) (T : List ByteArray) (x : ByteArray) (w : World) (v : Value), n ≤ 1048577 → ClassesAt Q w (.slice Ac nc cc) C → (∀ b, Q b → b < w.heap.size) → B ≤ w.heap.size → Told B w v T → T.Nodup → (∀ y ∈ T, hasF C y = true) →
    Calls Try.prog 52 #[.agg #[.slice none 0 0, .slice Ac nc cc, .slice Ai ni ci, .slice none 0 0], .string x, v, .int .i64 n] w (RAb B (aboveF (supF C) (hasF C) n T x) w) := by
  intro n
  induction n using Nat.strongRecOn with
  | ind n ih =>
    intro T x w v hn9 hcl hQ hB hT hnd hm
    obtain ⟨R, hR⟩ : ∃ R, aboveF (supF C) (hasF C) n T x = R := ⟨_, rfl⟩
    rw [hR]
    have HR := Lib.hid hR
    clear hR
    obtain ⟨V, eV⟩ : ∃ V, V = w.alloc (.cells #[.slice none 0 0, .slice Ac nc cc, .slice Ai ni ci, .slice none 0 0] 28) := ⟨_, rfl⟩
    have hBV : Below w.heap.size w V := by rw [eV]; exact below_new _ _
    have v0 : V.heap[w.heap.size]? = some (.cells #[.slice none 0 0, .slice Ac nc cc, .slice Ai ni ci, .slice none 0 0] 28) := by rw [eV, alloc_get, if_pos rfl]
    have c0 : V.cell? ⟨w.heap.size, 0, none⟩ = some (.slice none 0 0) ∧ V.cell? ⟨w.heap.size, 1, none⟩ = some (.slice Ac nc cc) ∧ V.cell? ⟨w.heap.size, 2, none⟩ = some (.slice Ai ni ci) ∧ V.cell? ⟨w.heap.size, 3, none⟩ = some (.slice none 0 0) := by simp [World.cell?, v0]
    obtain ⟨d0, d1, d2, d3⟩ := c0
    have hcV := hcl.keep hBV.size (fun b _ hl => hBV.block b hl)
    have hQV : ∀ b, Q b → b < V.heap.size := fun b hb => Nat.lt_of_lt_of_le (hQ b hb) hBV.size
    have HRC := Lib.hid (rclass_any hcV ⟨Ai, ni, ci, rfl⟩ hQV x)
    have HV0 := Lib.hid v0
    have HT := Lib.hid (hT.on hBV)
    have HCV := Lib.hid hcV
    have HQV := Lib.hid hQV
    have HQ0 := Lib.hid hQ
    have HB0 := Lib.hid hB
    have HBV := Lib.hid hBV
    have HND := Lib.hid hnd
    have HM := Lib.hid hm
    have HIH := Lib.hid ih
    have HEV := Lib.hid eV
    have HCC := Lib.hid hC
    obtain ⟨At, ct, rfl, hct1, hct2⟩ := hT.form
    generalize htl : T.length = tl at *
    have HTL := Lib.hid htl
    have hlT : tl ≤ 1048576 := by rw [← htl]; exact told_len hC hnd hm
    have hlv := lt_of_block v0
    clear hcl hQ hB hT hnd hm ih eV hBV v0 hcV hQV htl hC
    generalize hub : w.heap.size = ub at *
    have HUB := Lib.hid hub
    clear hub
    go_enter Try.func52, Try.ntmps52
    go_upto_region 1 with (fail)
    rw [← HEV.out, HUB.out]
    go_wp2_with fail
    with_reducible refine HRC.out.mono ?_
    rintro e w2 ⟨hr, hb2⟩
    have hv2 := (hb2.block ub hlv).trans HV0.out
    have HV2 := Lib.hid hv2
    have HT2 := Lib.hid (HT.out.on hb2)
    have hlv2 := lt_of_block hv2
    have e0 : w2.cell? ⟨ub, 0, none⟩ = some (.slice none 0 0) ∧ w2.cell? ⟨ub, 1, none⟩ = some (.slice Ac nc cc) ∧ w2.cell? ⟨ub, 2, none⟩ = some (.slice Ai ni ci) ∧ w2.cell? ⟨ub, 3, none⟩ = some (.slice none 0 0) := by simp [World.cell?, hv2]
    obtain ⟨f0, f1, f2, f3⟩ := e0
    have HC2 := Lib.hid (HCV.out.keep hb2.size (fun b _ hl => hb2.block b hl))
    have HB2 := Lib.hid (HBV.out.trans (hb2.mono (Nat.le_of_lt hlv)))
    rcases hr with ⟨c, sv, A9, n9, m9, hc, rfl, hsv⟩ | ⟨hc, rfl⟩
    · obtain ⟨As, cs, rfl, hcs1, hcs2⟩ := hsv.form
      unfold maxLen at hcs2
      have HSV := Lib.hid hsv
      have HCO := Lib.hid hc
      clear hsv hc hv2 hb2
      generalize hsl : c.supers.length = sl at *
      have HSL := Lib.hid hsl
      clear hsl
      have hcx : hasF C x = true := by unfold hasF; rw [HCO.out]; rfl
      obtain ⟨X, eX⟩ : ∃ X, X = w2.alloc (.cells #[.string c.name, .int .i64 c.atp, .string c.var, .slice none 0 0, .slice As sl cs, .slice A9 n9 m9] 59) := ⟨_, rfl⟩
      have hBX : Below w2.heap.size w2 X := by rw [eX]; exact below_new _ _
      have x0 : X.heap[w2.heap.size]? = some (.cells #[.string c.name, .int .i64 c.atp, .string c.var, .slice none 0 0, .slice As sl cs, .slice A9 n9 m9] 59) := by rw [eX, alloc_get, if_pos rfl]
      have HX0 := Lib.hid x0
      have HTX := Lib.hid (HT2.out.on hBX)
      have HIN := Lib.hid (in29_any HTX.out.1 x)
      have HBX := Lib.hid (HB2.out.trans (hBX.mono (Nat.le_of_lt hlv2)))
      have HVX := Lib.hid ((hBX.block ub hlv2).trans HV2.out)
      have HSX := Lib.hid (HSV.out.keepB (w' := X) hBX.size (fun b _ hl => hBX.block b hl))
      have HCX := Lib.hid (HC2.out.keep hBX.size (fun b _ hl => hBX.block b hl))
      have HEX := Lib.hid eX
      clear hBX x0 eX HV2 HT2 HSV HC2 f0 f1 f2 f3
      generalize hxb : w2.heap.size = xb at *
      have HXB := Lib.hid hxb
      clear hxb
      obtain ⟨q, hq⟩ : ∃ q, decide (x ∈ T) = q := ⟨_, rfl⟩
      rw [hq] at HIN
      have HQ9 := Lib.hid hq
      clear hq
      unfold clsV
      go_upto_region 2 with (fail)
      rw [← HEX.out, HXB.out]
      go_wp2_with fail
      with_reducible refine HIN.out.mono ?_
      rintro e w3 ⟨rfl, hb3⟩
      have hubX : ub < X.heap.size := lt_of_block HVX.out
      have hxbX : xb < X.heap.size := lt_of_block HX0.out
      have HT3 := Lib.hid (HTX.out.on hb3)
      have HB3 := Lib.hid (HBX.out.trans (hb3.mono (Nat.le_of_lt hubX)))
      have HV3 := Lib.hid ((hb3.block ub hubX).trans HVX.out)
      have HX3 := Lib.hid ((hb3.block xb hxbX).trans HX0.out)
      have HS3 := Lib.hid (HSX.out.keepB (w' := w3) hb3.size (fun b _ hl => hb3.block b hl))
      have HC3 := Lib.hid (HCX.out.keep hb3.size (fun b _ hl => hb3.block b hl))
      clear hb3 HTX HBX HVX HX0 HSX HCX HIN
      cases q with
      | true =>
        have HRT : Hid (R = T) := Lib.hid (HR.out.symm.trans (aboveF_skip (fun h => h.2 (of_decide_eq_true HQ9.out)) n))
        go_wp2_with fail
        go_ret
        exact ⟨⟨_, rfl, by rw [HRT.out]; exact HT3.out⟩, by rw [HUB.out]; exact HB3.out⟩
      | false =>
        cases n with
        | zero =>
          have HRT : Hid (R = T) := Lib.hid HR.out.symm
          go_wp2_with fail
          go_ret
          exact ⟨⟨_, rfl, by rw [HRT.out]; exact HT3.out⟩, by rw [HUB.out]; exact HB3.out⟩
        | succ n =>
          have hxT : x ∉ T := of_decide_eq_false HQ9.out
          have HRT : Hid (R = (supF C x).foldl (fun t y => aboveF (supF C) (hasF C) n t y) (T ++ [x])) := Lib.hid (HR.out.symm.trans (by conv => lhs; unfold aboveF; rw [if_pos ⟨hcx, hxT⟩]))
          obtain ⟨v1, w4, r1, ⟨A1, n1, c1, rfl⟩, v2, w5, r2, ⟨A2, c2, rfl⟩, ht5, hb5⟩   := app_two HT3.out (by have h9 : ub < w3.heap.size := lt_of_block HV3.out; have h8 := HB0.out; omega) (by rw [HTL.out]; exact hlT) x
          have hwr : IntKind.i64.wrap (n : Int) = (n : Int) := IntWalk.i64_in _ ⟨by omega, by omega⟩
          have hn1 : ((n : Int) + 1 == 0) = false := by rw [beq_eq_false_iff_ne]; omega
          go_wp2_with (first | (at_builtin; refine Lib.wpList_append_run _ rfl (.const (.slice none 0 0)) (.tmp 32) 40 40 rfl _ _ rfl rfl _ _ r1 ?_) | (at_builtin; refine Lib.wpList_append_run _ rfl (.tmp 33) (.tmp 35) 40 40 rfl _ _ rfl rfl _ _ r2 ?_))
          have hsup : supF C x = c.supers := by unfold supF; rw [HCO.out]
          have hub3 : ub < w3.heap.size := lt_of_block HV3.out
          have hxb3 : xb < w3.heap.size := lt_of_block HX3.out
          have HB5 := Lib.hid (HB3.out.trans (hb5.mono (Nat.le_of_lt hub3)))
          have HV5 := Lib.hid ((hb5.block ub hub3).trans HV3.out)
          have HX5 := Lib.hid ((hb5.block xb hxb3).trans HX3.out)
          have HS5 := Lib.hid (HS3.out.keepB (w' := w5) hb5.size (fun b _ hl => hb5.block b hl))
          have HC5 := Lib.hid (HC3.out.keep hb5.size (fun b _ hl => hb5.block b hl))
          have HT5 := Lib.hid ht5
          have hub5 : ub < w5.heap.size := lt_of_block HV5.out
          have hxb5 : xb < w5.heap.size := lt_of_block HX5.out
          have HINV : Hid (∀ j, (((supF C x).take j).foldl (fun t y => aboveF (supF C) (hasF C) n t y) (T ++ [x])).Nodup ∧ ∀ y ∈ ((supF C x).take j).foldl (fun t y => aboveF (supF C) (hasF C) n t y) (T ++ [x]), hasF C y = true) := Lib.hid fun j => fold_inv n _ _ (by
            rw [List.nodup_append]
            exact ⟨HND.out, by simp, fun a ha b hb e => by simp at hb; subst hb; subst e; exact hxT ha⟩) (fun y hy => by
            rcases List.mem_append.1 hy with h | h
            · exact HM.out y h
            · simp at h; subst h; exact hcx)
          clear hb5 ht5 r1 r2 HV3 HX3 HS3 HC3 HT3 HB3
          go_loopw [2, 12] (fun tv i wr => ∃ j : Nat, j ≤ sl ∧ i = .int .i64 j ∧ Told B wr tv (((supF C x).take j).foldl (fun t y => aboveF (supF C) (hasF C) n t y) (T ++ [x])) ∧ Below w5.heap.size w5 wr) (fun _ i _ => sl - (intOf i).toNat)
          case atStart => exact ⟨0, Nat.zero_le _, rfl, HT5.out, Below.refl _ _⟩
          case round =>
            obtain ⟨j, hj, rfl, htd, hbl⟩ := hrel
            obtain ⟨Al, cl, rfl, _⟩ := htd.form
            have u0 := (hbl.block ub hub5).trans HV5.out
            have u1 := (hbl.block xb hxb5).trans HX5.out
            have y4 : wr.cell? ⟨xb, 4, none⟩ = some (.slice As sl cs) := by simp [World.cell?, u1]
            have y0 : wr.cell? ⟨ub, 0, none⟩ = some (.slice none 0 0) ∧ wr.cell? ⟨ub, 1, none⟩ = some (.slice Ac nc cc) ∧ wr.cell? ⟨ub, 2, none⟩ = some (.slice Ai ni ci) ∧ wr.cell? ⟨ub, 3, none⟩ = some (.slice none 0 0) := by simp [World.cell?, u0]
            obtain ⟨g0, g1, g2, g3⟩ := y0
            have HBR := Lib.hid (HB5.out.trans (hbl.mono (Nat.le_of_lt hub5)))
            by_cases hlt : j < sl
            · obtain ⟨y, hy⟩ : ∃ y, c.supers[j]? = some y := ⟨_, List.getElem?_eq_getElem (by rw [HSL.out]; exact hlt)⟩
              obtain ⟨b1, o1, e1, l1, q1⟩ := (HS5.out.keepB (w' := wr) hbl.size (fun b _ hl => hbl.block b hl)).at j (by rw [HSL.out]; exact hlt)
              subst e1
              have q2 : wr.cell? ⟨b1, o1 + j, none⟩ = some (.string y) := by
                have := List.getElem?_eq_getElem (l := c.supers) (i := j) (by rw [HSL.out]; exact hlt)
                rw [hy] at this; injection this with this; rw [this]; exact q1
              have hji : (j : Int) < (sl : Int) := by omega
              have hj0 : (0 : Int) ≤ (j : Int) := by omega
              have hbd : Below wr.heap.size wr wr.drew := (Below.refl _ _).drew
              obtain ⟨i1, i2⟩ := HINV.out j
              have HFT : Hid (((supF C x).take (j + 1)).foldl (fun t y => aboveF (supF C) (hasF C) n t y) (T ++ [x]) = aboveF (supF C) (hasF C) n (((supF C x).take j).foldl (fun t y => aboveF (supF C) (hasF C) n t y) (T ++ [x])) y) := Lib.hid (by
                rw [List.take_add_one, hsup, hy, Option.toList_some, List.foldl_append]; rfl)
              have HCALL := Lib.hid (HIH.out n (Nat.lt_succ_self n) _ y wr.drew _ (by omega) ((HC5.out.keep hbl.size (fun b _ hl => hbl.block b hl)).keep hbd.size (fun b _ hl => hbd.block b hl)) (fun b hb => by have h8 := HQ0.out b hb; have h9 : w5.heap.size ≤ wr.heap.size := hbl.size; show b < wr.heap.size; omega) (by have h8 := HB0.out; have h9 : w5.heap.size ≤ wr.heap.size := hbl.size; show B ≤ wr.heap.size; omega) (htd.on hbd) i1 i2)
              have HBL := Lib.hid hbl
              clear hbl htd i1 i2 u0 u1 q1 hy hbd
              generalize (((supF C x).take j).foldl (fun t y => aboveF (supF C) (hasF C) n t y) (T ++ [x])).length = fl at *
              go_wp2_with fail
              go_region_law (first | (go_simp; (with_reducible refine HCALL.out.mono ?_); rintro e w6 ⟨⟨v6, rfl, ht6⟩, hb6⟩; have HT6 := Lib.hid ht6; have HB6 := Lib.hid hb6; clear ht6 hb6))
              all_goals
                have T2 : Hid (Below w5.heap.size w5 w6) := Lib.hid (HBL.out.drew.trans (HB6.out.mono HBL.out.size))
                go_wp2
                go_roundw
                case rel => exact ⟨j + 1, by omega, by go_num, by rw [HFT.out]; exact HT6.out, T2.out⟩
                case measure => simp [intOf]; omega
            · have hje : j = sl := by omega
              subst hje
              have HRES : Hid (RAb B R w (.returned (.slice Al (((supF C x).take j).foldl (fun t y => aboveF (supF C) (hasF C) n t y) (T ++ [x])).length cl)) wr) := Lib.hid ⟨⟨_, rfl, by
                rw [HRT.out]
                rw [List.take_of_length_le (l := supF C x) (by rw [hsup, HSL.out]; exact Nat.le_refl _)] at htd ⊢
                exact htd⟩, by rw [HUB.out]; exact HBR.out⟩
              generalize (((supF C x).take j).foldl (fun t y => aboveF (supF C) (hasF C) n t y) (T ++ [x])).length = fl at *
              have hd : decide (j < j) = false := by simp
              clear hbl htd u0 u1
              go_wp2
              go_ret
              exact HRES.out
    · clear hv2 hb2
      have HRT : Hid (R = T) := Lib.hid (HR.out.symm.trans (aboveF_skip (fun h => by have h9 := h.1; unfold hasF at h9; rw [hc] at h9; cases h9) n))
      obtain ⟨X, eX⟩ : ∃ X, X = w2.alloc (.cells #[.string ⟨#[]⟩, .int .i64 0, .string ⟨#[]⟩, .slice none 0 0, .slice none 0 0, .slice none 0 0] 59) := ⟨_, rfl⟩
      have hBX : Below w2.heap.size w2 X := by rw [eX]; exact below_new _ _
      have HTX := Lib.hid (HT2.out.on hBX)
      have HIN := Lib.hid (in29_any HTX.out.1 x)
      have HBX := Lib.hid (HB2.out.trans (hBX.mono (Nat.le_of_lt hlv2)))
      have HLX : Hid (ub ≤ X.heap.size) := Lib.hid (Nat.le_trans (Nat.le_of_lt hlv2) hBX.size)
      have HEX := Lib.hid eX
      clear hBX eX hc
      generalize decide (x ∈ T) = q at HIN
      unfold zCls
      go_upto_region 2 with (fail)
      rw [← HEX.out]
      go_wp2_with fail
      with_reducible refine HIN.out.mono ?_
      rintro e w3 ⟨rfl, hb3⟩
      have HT3 := Lib.hid (HTX.out.on hb3)
      have HB3 := Lib.hid (HBX.out.trans (hb3.mono HLX.out))
      clear hb3
      go_wp2_with fail
      go_ret
      exact ⟨⟨_, rfl, by rw [HRT.out]; exact HT3.out⟩, by rw [HUB.out]; exact HB3.out⟩
set_option maxRecDepth 100000 in
set_option maxHeartbeats 1000000 in
/-- The document's Above of a program. -/
theorem rabove20_any {Q : Nat → Prop} {C : List Cls} (hC : OkC C) {Ac Ai : Option Addr} {cc ni ci : Nat} {w : World} (hcl : ClassesAt Q w (.slice Ac C.length cc) C) (hQ : ∀ b, Q b → b < w.heap.size) (x : ByteArray) :
    Calls Try.prog 20 #[.agg #[.slice none 0 0, .slice Ac C.length cc, .slice Ai ni ci, .slice none 0 0], .string x] w (RAb w.heap.size (aboveF (supF C) (hasF C) (C.length + 1) [] x) w) := by
  obtain ⟨V, eV⟩ : ∃ V, V = w.alloc (.cells #[.slice none 0 0, .slice Ac C.length cc, .slice Ai ni ci, .slice none 0 0] 28) := ⟨_, rfl⟩
  have hBV : Below w.heap.size w V := by rw [eV]; exact below_new _ _
  have v0 : V.heap[w.heap.size]? = some (.cells #[.slice none 0 0, .slice Ac C.length cc, .slice Ai ni ci, .slice none 0 0] 28) := by rw [eV, alloc_get, if_pos rfl]
  have c0 : V.cell? ⟨w.heap.size, 0, none⟩ = some (.slice none 0 0) ∧ V.cell? ⟨w.heap.size, 1, none⟩ = some (.slice Ac C.length cc) ∧ V.cell? ⟨w.heap.size, 2, none⟩ = some (.slice Ai ni ci) ∧ V.cell? ⟨w.heap.size, 3, none⟩ = some (.slice none 0 0) := by simp [World.cell?, v0]
  obtain ⟨d0, d1, d2, d3⟩ := c0
  have hCl : C.length ≤ 1048576 := by have := hC.len; unfold univ at this; simp at this; omega
  have hcall := (rabove_any hC (B := w.heap.size) (Ac := Ac) (Ai := Ai) (nc := C.length) (cc := cc) (ni := ni) (ci := ci) (C.length + 1) [] x V (.slice none 0 0) (by omega) (hcl.keep hBV.size (fun b _ hl => hBV.block b hl)) (fun b hb => Nat.lt_of_lt_of_le (hQ b hb) hBV.size) hBV.size ⟨strs_nil _ _, fun _ => rfl⟩ List.nodup_nil (fun y h => (by cases h)))
  rw [show ((C.length + 1 : Nat) : Int) = (C.length : Int) + 1 from rfl] at hcall
  have HCALL := Lib.hid hcall
  clear hcall
  have HEV := Lib.hid eV
  have HBV := Lib.hid hBV
  generalize hR : aboveF (supF C) (hasF C) (C.length + 1) [] x = R at *
  clear hcl hQ hC hBV v0 eV hR
  generalize C.length = nc at *
  go_enter Try.func20, Try.ntmps20
  go_upto_region 1 with (fail)
  rw [← HEV.out]
  go_wp2_with fail
  with_reducible refine HCALL.out.mono ?_
  rintro e w2 ⟨⟨v, rfl, ht⟩, hb⟩
  have HT := Lib.hid ht
  have HB := Lib.hid (HBV.out.trans (hb.mono HBV.out.size))
  clear ht hb
  go_wp2
  go_ret
  exact ⟨⟨_, rfl, HT.out⟩, HB.out⟩
end Go.Proofs.Ytjfhncbfbhkhgaa
