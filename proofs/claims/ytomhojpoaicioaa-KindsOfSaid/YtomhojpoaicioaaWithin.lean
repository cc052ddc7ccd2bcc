/- The contract of the solver's within. Conditions: those that the theorem names. -/
import Derived.Test.YtomhojpoaicioaaRoot
import Derived.Test.YtomhojpoaicioaaBuild
namespace Go.Proofs.Ytomhojpoaicioaa
open Go.RowKit

theorem SolAt.below {P : Nat → Prop} {w w' : World} {sb mb sz B : Nat} {made : Int} {kn : Kn} (h : SolAt P w sb mb sz made kn) (hP : ∀ b, P b → b < B) (hs : sb < B) (hm : mb < B) (hb : Below B w w') : SolAt P w' sb mb sz made kn := by
  refine ⟨(hb.cell (p := ⟨sb, 0, none⟩) hs).trans h.c0, (hb.cell (p := ⟨sb, 1, none⟩) hs).trans h.c1, (hb.frozen (p := ⟨sb, 0, none⟩) hs).trans h.f0, Nat.lt_of_lt_of_le h.lt hb.size, ?_⟩
  obtain ⟨f, h1, h2⟩ := h.known
  refine ⟨f, h1.block (hb.block mb hm), fun x => ?_⟩
  have h9 := h2 x
  cases e : kn x with
  | none => rw [e] at h9; exact h9
  | some t => rw [e] at h9; obtain ⟨v, e1, e2⟩ := h9; exact ⟨v, e1, e2.keep (.of_belowB hP hb)⟩
theorem KnAt.keys {P : Nat → Prop} {w : World} {mb sz : Nat} {kn : Kn} (h : KnAt P w mb sz kn) : ∃ f, Keys f sz ∧ ∀ x, kn x ≠ none → f x ≠ none := by
  obtain ⟨f, h1, h2⟩ := h
  refine ⟨f, h1.keys, fun x hx => ?_⟩
  have h9 := h2 x
  cases e : kn x with
  | none => exact absurd e hx
  | some t => rw [e] at h9; obtain ⟨v, e1, _⟩ := h9; rw [e1]; simp
/-- What has been gone through, as a map's entries. -/
def seenF (S : Int → Bool) : Int → Option Value := fun x => if S x then some (.bool true) else none
theorem zero4 (y : World) : (zeroValue 4).run Try.prog y = .ok (.bool false) y := by kernel_rfl
theorem seen_look {w : World} {xb sz : Nat} {S : Int → Bool} (h : MapI Try.prog 3 w xb sz (seenF S)) {x : Int} (h1 : -9223372036854775808 ≤ x) (h2 : x ≤ 9223372036854775807) : (Instr.lookup 103 (.map (some xb)) (.int .i64 x) false).run Try.prog w = .ok (.bool (S x)) w := by
  have h9 := h.look Try.underlying3 Try.underlying103 zero4 h1 h2
  rw [h9]
  unfold seenF
  cases S x <;> rfl
theorem seen_set (S : Int → Bool) (m : Int) : setF (seenF S) m (some (.bool true)) = seenF (fun x => x == m || S x) := by
  funext y
  unfold setF seenF
  by_cases e : y = m
  · simp [e]
  · simp [e]
/-- What within answered. -/
def WithRes (w : World) (kn : Kn) (xb : Nat) (n : Nat) (S : Int → Bool) (T : Tm) (e : Ending) (w' : World) : Prop :=
  e = .returned (.bool (T.occ n)) ∧ Below xb w w' ∧ (T.occ n = false → ∃ S' sz', MapI Try.prog 3 w' xb sz' (seenF S') ∧ (∀ m, S' m = true → kn m ≠ none) ∧ ∀ m, S' m = true → S m = true ∨ ∀ U, Den kn (.var m) U → U.occ n = false)
/-- What within's loop over an arrow's two knows. -/
def AInv (w : World) (kn : Kn) (xb n : Nat) (S : Int → Bool) (A B : Tm) (j : Nat) (wr : World) : Prop :=
  Below xb w wr ∧ (1 ≤ j → A.occ n = false) ∧ (2 ≤ j → B.occ n = false) ∧ ∃ S' sx', MapI Try.prog 3 wr xb sx' (seenF S') ∧ (∀ m, S' m = true → kn m ≠ none) ∧ ∀ m, S' m = true → S m = true ∨ ∀ U, Den kn (.var m) U → U.occ n = false
set_option maxRecDepth 100000 in
set_option maxHeartbeats 1000000 in
theorem within_any (P : Nat → Prop) (sb mb sz : Nat) (made : Int) (kn : Kn) (xb : Nat) (n : Nat) (hP : ∀ b, P b → b < xb) (hsb : sb < xb) (hmb : mb < xb) (hkn : kn n = none) (hsz : sz < 9223372036854775807) (h : Nat) (t : Tz) (T : Tm) (hd : DenH kn h t T) :
    ∀ (v : Value) (w : World) (S : Int → Bool) (sx : Nat), SolAt P w sb mb sz made kn → ZAt P w t v → MapI Try.prog 3 w xb sx (seenF S) → (∀ m, S m = true → kn m ≠ none) → (∀ m, S m = true → ∀ hm U, DenH kn hm (.var m) U → U.occ n = false ∨ h < hm) →
    Calls Try.prog 53 #[.pointer (some ⟨sb, 0, none⟩), .int .i64 n, v, .map (some xb)] w (WithRes w kn xb n S T) := by
  induction hd with
  | free m hm hk =>
    intro v w S sx hS hv hM hdom hpre
    obtain ⟨A, c, rfl⟩ := hv.form
    have hnum := hv.num
    have hb0 := below_new w (.cells #[.int .i64 1, .int .i64 m, .slice A 0 c] 49)
    have hxb := hM.lt
    have l1 := ((hS.on hb0.drew).known.look_none hk hnum.1 hnum.2).1
    have l2 := ((hS.on (hb0.alloc hb0.size (.cells #[.int .i64 0, .int .i64 0, .slice none 0 0] 49)).drew).known.look_none hk hnum.1 hnum.2).1
    have s1 := hS.c1
    have slt := hS.lt
    have HM := Lib.hid hM
    have HD := Lib.hid hdom
    clear hS hv hM hdom hpre hb0
    change Calls Try.prog 53 #[.pointer (some ⟨sb, 0, none⟩), .int .i64 n, .agg #[.int .i64 1, .int .i64 m, .slice A 0 c], .map (some xb)] w _
    go_enter Try.func53, Try.ntmps53
    go_wp2_with fail
    go_region
    all_goals go_wp2
    all_goals
      have hBB := (((below_new w (.cells #[.int .i64 1, .int .i64 m, .slice A 0 c] 49)).alloc (by simp) (.cells #[.int .i64 0, .int .i64 0, .slice none 0 0] 49)).drew)
      go_ret
      exact ⟨ret_bool (by show _ = (m == n); rw [Bool.eq_iff_iff]; simp; omega), hBB.mono (Nat.le_of_lt hxb), fun _ => ⟨S, sx, HM.out.on hBB, HD.out, fun _ h => .inl h⟩⟩
  | bound k m u U hk hu ih =>
    intro v w S sx hS hv hM hdom hpre
    obtain ⟨A, c, rfl⟩ := hv.form
    have hnum := hv.num
    have hm1 : -9223372036854775808 ≤ m := hnum.1
    have hm2 : m ≤ 9223372036854775807 := hnum.2
    have hb0 := below_new w (.cells #[.int .i64 1, .int .i64 m, .slice A 0 c] 49)
    have hxb := hM.lt
    obtain ⟨v', hzv, hl⟩ := hS.known.look_all hk hm1 hm2
    obtain ⟨A', c', rfl⟩ := hzv.form
    generalize hF : formZ u = F at *
    generalize hG : numZ u = G at *
    generalize hAr : argsZ u = M at *
    have l1 := (hl _ hb0.drew).1
    have l2 := (hl _ (hb0.alloc hb0.size (.cells #[.int .i64 0, .int .i64 0, .slice none 0 0] 49)).drew).1
    have hb2 : Below w.heap.size w ((w.alloc (.cells #[.int .i64 1, .int .i64 m, .slice A 0 c] 49)).alloc (.cells #[.int .i64 F, .int .i64 G, .slice A' M c'] 49)).drew := (hb0.alloc hb0.size _).drew
    have hM2 := hM.on hb2
    have l3 := seen_look hM2 hm1 hm2
    have s1 := hS.c1
    have slt := hS.lt
    have hmn : ((m : Int) == (n : Int)) = false := by rw [beq_eq_false_iff_ne]; intro e; rw [e, hkn] at hk; cases hk
    have HS := Lib.hid hS
    have HZV := Lib.hid hzv
    have HM2 := Lib.hid hM2
    have HB2 := Lib.hid hb2
    have HD := Lib.hid hdom
    have HPRE := Lib.hid hpre
    have HK := Lib.hid hk
    have HU := Lib.hid hu
    have IH := Lib.hid ih
    have HPP := Lib.hid hP
    clear hS hv hM hM2 hb2 hdom hpre hb0 hl hzv hk hu ih hP hF hG hAr hnum
    change Calls Try.prog 53 #[.pointer (some ⟨sb, 0, none⟩), .int .i64 n, .agg #[.int .i64 1, .int .i64 m, .slice A 0 c], .map (some xb)] w _
    cases hs : S m with
    | true =>
      rw [hs] at l3
      have ho : U.occ n = false := by
        rcases HPRE.out m hs (k + 1) U (.bound k m u U HK.out HU.out) with h9 | h9
        · exact h9
        · omega
      have HO := Lib.hid ho
      clear ho hs
      go_enter Try.func53, Try.ntmps53
      go_wp2_with fail
      go_region
      all_goals go_wp2
      all_goals
        go_ret
        exact ⟨ret_bool HO.out.symm, HB2.out.mono (Nat.le_of_lt hxb), fun _ => ⟨S, sx, HM2.out, HD.out, fun _ h => .inl h⟩⟩
    | false =>
      rw [hs] at l3
      have hsx : sx ≤ sz := by
        obtain ⟨f9, hk9, hf9⟩ := HS.out.known.keys
        refine HM2.out.keys.le hk9 (fun x hx => hf9 x (HD.out x ?_))
        unfold seenF at hx
        cases e9 : S x with
        | true => rfl
        | false => rw [e9] at hx; exact absurd rfl hx
      have hsx' : sx < maxLen := by unfold maxLen; omega
      have HSM := Lib.hid hs
      clear hs hsx
      go_enter Try.func53, Try.ntmps53
      go_wp2_with fail
      go_region
      all_goals
        go_wp2_with (at_mapUpdate; refine wpList_storeI rfl _ _ _ rfl Try.underlying3 Try.underlying103 rfl HM2.out hsx' m rfl (.bool true) rfl hm1 hm2 ?_; intro w3 hM3 hg3; have y0 : w3.cell? ⟨w.heap.size + 1, 0, none⟩ = some (.int .i64 F) := hg3.cell (by simp [go_sem]) (by simp; omega); have y1 : w3.cell? ⟨w.heap.size + 1, 1, none⟩ = some (.int .i64 G) := hg3.cell (by simp [go_sem]) (by simp; omega); have y2 : w3.cell? ⟨w.heap.size + 1, 2, none⟩ = some (.slice A' M c') := hg3.cell (by simp [go_sem]) (by simp; omega))
      all_goals
        have hb3 : Below xb w w3 := (HB2.out.mono (Nat.le_of_lt hxb)).grown hg3 (by simp; omega) (fun q hq => by injection hq with hq; omega)
        rw [seen_set] at hM3
        have hcal := IH.out _ w3 _ _ (HS.out.below HPP.out hsb hmb hb3) (HZV.out.keep (.of_belowB HPP.out hb3)) hM3 (fun x hx => by
          by_cases e : x = m
          · rw [e, HK.out]; simp
          · have hx' : S x = true := by simpa [e] using hx
            exact HD.out x hx') (fun x hx hh UU hd9 => by
          by_cases e : x = m
          · subst e
            have := hd9.det (.bound k x u U HK.out HU.out)
            right; omega
          · have hx' : S x = true := by simpa [e] using hx
            rcases HPRE.out x hx' hh UU hd9 with h9 | h9
            · exact .inl h9
            · right; omega)
        have HCAL := Lib.hid hcal
        have HB3 := Lib.hid hb3
        clear hcal hb3 hg3 hM3
        refine HCAL.out.mono ?_
        rintro e w4 ⟨rfl, hb4, hno⟩
        have HB4 := Lib.hid (HB3.out.trans hb4)
        have HNO := Lib.hid hno
        clear hb4 hno
        generalize hoo : U.occ n = oo at *
        have HOO := Lib.hid hoo
        clear hoo
        go_wp2
        go_ret
        refine ⟨ret_bool HOO.out.symm, HB4.out, fun h9 => ?_⟩
        obtain ⟨S', sz', q1, q2, q3⟩ := HNO.out (by rw [← HOO.out]; exact h9)
        refine ⟨S', sz', q1, q2, fun x hx => ?_⟩
        rcases q3 x hx with h8 | h8
        · by_cases e : x = m
          · right
            intro UU hd9
            subst e
            rw [← (Den.bound x u U HK.out HU.out.den).det hd9]; exact h9
          · left; simpa [e] using h8
        · exact .inr h8
  | star =>
    intro v w S sx hS hv hM hdom hpre
    obtain ⟨A, c, rfl⟩ := hv.form
    have hxb := hM.lt
    have hb0 := below_new w (.cells #[.int .i64 2, .int .i64 0, .slice A 0 c] 49)
    have HM := Lib.hid (hM.on hb0)
    have HD := Lib.hid hdom
    have HB0 := Lib.hid hb0
    clear hS hv hM hdom hpre hb0
    change Calls Try.prog 53 #[.pointer (some ⟨sb, 0, none⟩), .int .i64 n, .agg #[.int .i64 2, .int .i64 0, .slice A 0 c], .map (some xb)] w _
    go_enter Try.func53, Try.ntmps53
    go_wp2_with fail
    generalize w.alloc (.cells #[.int .i64 2, .int .i64 0, .slice A 0 c] 49) = w1 at *
    go_loopw [49, 50] (fun i _ wr => i = .int .i64 0 ∧ wr = w1) (fun _ _ _ => 0)
    case atStart => exact ⟨rfl, rfl⟩
    case round =>
      obtain ⟨rfl, rfl⟩ := hrel
      go_wp2
      go_ret
      exact ⟨rfl, HB0.out.mono (Nat.le_of_lt hxb), fun _ => ⟨S, sx, HM.out, HD.out, fun _ h => .inl h⟩⟩
  | arr k l a b A B ha hb iha ihb =>
    intro v w S sx hS hv hM hdom hpre
    have hxb := hM.lt
    have hv9 := hv
    cases hv9 with
    | arr _ _ g off c a0 a1 a2 b0 b1 b2 hp hg c0 c1 c2 c3 c4 c5 hza hzb =>
    have hgx := hP g hp
    obtain ⟨Aa, ca, ea⟩ := hza.form
    obtain ⟨Ab, cb, eb⟩ := hzb.form
    injection ea with ea
    injection eb with eb
    simp only [Array.mk.injEq, List.cons.injEq, and_true] at ea eb
    obtain ⟨rfl, rfl, rfl⟩ := ea
    obtain ⟨rfl, rfl, rfl⟩ := eb
    generalize hFa : formZ a = Fa at *
    generalize hGa : numZ a = Ga at *
    generalize hMa : argsZ a = Ma at *
    generalize hFb : formZ b = Fb at *
    generalize hGb : numZ b = Gb at *
    generalize hMb : argsZ b = Mb at *
    have hb0 := below_new w (.cells #[.int .i64 3, .int .i64 0, .slice (some ⟨g, off, none⟩) 2 c] 49)
    have hst : AInv w kn xb n S A B 0 (w.alloc (.cells #[.int .i64 3, .int .i64 0, .slice (some ⟨g, off, none⟩) 2 c] 49)) := ⟨hb0.mono (Nat.le_of_lt hxb), fun h => absurd h (by omega), fun h => absurd h (by omega), S, sx, hM.on hb0, hdom, fun _ h => .inl h⟩
    have HST := Lib.hid hst
    have HS := Lib.hid hS
    have HZA := Lib.hid hza
    have HZB := Lib.hid hzb
    have HPRE := Lib.hid hpre
    have HPP := Lib.hid hP
    have IHA := Lib.hid iha
    have IHB := Lib.hid ihb
    have HDA := Lib.hid ha
    have HDB := Lib.hid hb
    have C0 := Lib.hid c0
    have C1 := Lib.hid c1
    have C2 := Lib.hid c2
    have C3 := Lib.hid c3
    have C4 := Lib.hid c4
    have C5 := Lib.hid c5
    clear hS hv hM hdom hpre hb0 hst hza hzb hP iha ihb ha hb c0 c1 c2 c3 c4 c5 hFa hGa hMa hFb hGb hMb
    go_enter Try.func53, Try.ntmps53
    go_wp2_with fail
    generalize w.alloc (.cells #[.int .i64 3, .int .i64 0, .slice (some ⟨g, off, none⟩) 2 c] 49) = w1 at *
    go_loopw [49, 50] (fun i _ wr => ∃ j : Nat, j ≤ 2 ∧ i = .int .i64 j ∧ AInv w kn xb n S A B j wr) (fun i _ _ => 2 - (intOf i).toNat)
    case atStart => exact ⟨0, by omega, rfl, HST.out⟩
    case round =>
      obtain ⟨j, hj, rfl, hbw, hA, hB, S', sx', hM', hdom', hS'⟩ := hrel
      have HBW := Lib.hid hbw
      have HM := Lib.hid hM'
      have HD := Lib.hid hdom'
      have HS' := Lib.hid hS'
      have hzx := hM'.lt
      have hpre' : ∀ (hh : Nat), hh < max k l + 1 → ∀ m, S' m = true → ∀ hm U, DenH kn hm (.var m) U → U.occ n = false ∨ hh < hm := fun hh hlt m hm9 hm U hd9 => by
        rcases HS'.out m hm9 with h9 | h9
        · rcases HPRE.out m h9 hm U hd9 with h8 | h8
          · exact .inl h8
          · right; omega
        · exact .inl (h9 U hd9.den)
      have HP' := Lib.hid hpre'
      clear hbw hM' hdom' hS' hpre'
      have d0 := (HBW.out.cell (p := ⟨g, off, none⟩) hgx).trans C0.out
      have d1 := (HBW.out.cell (p := ⟨g, off + 1, none⟩) hgx).trans C1.out
      have d2 := (HBW.out.cell (p := ⟨g, off + 2, none⟩) hgx).trans C2.out
      have d3 := (HBW.out.cell (p := ⟨g, off + 3, none⟩) hgx).trans C3.out
      have d4 := (HBW.out.cell (p := ⟨g, off + 4, none⟩) hgx).trans C4.out
      have d5 := (HBW.out.cell (p := ⟨g, off + 5, none⟩) hgx).trans C5.out
      obtain rfl | rfl | rfl : j = 0 ∨ j = 1 ∨ j = 2 := by omega
      · go_wp2_with fail
        have hbn := below_new wr (.cells #[.int .i64 Fa, .int .i64 Ga, .slice Aa Ma ca] 49)
        have hbx : Below xb w (wr.alloc (.cells #[.int .i64 Fa, .int .i64 Ga, .slice Aa Ma ca] 49)) := HBW.out.trans (hbn.mono (Nat.le_of_lt hzx))
        have hM2 := HM.out.on hbn
        generalize wr.alloc (.cells #[.int .i64 Fa, .int .i64 Ga, .slice Aa Ma ca] 49) = w2 at *
        refine (IHA.out _ w2 S' sx' (HS.out.below HPP.out hsb hmb hbx) (HZA.out.keep (.of_belowB HPP.out hbx)) hM2 HD.out (HP'.out k (by omega))).mono ?_
        rintro e w4 ⟨rfl, hb4, hno⟩
        have HB4 := Lib.hid (hbx.trans hb4)
        have HNO := Lib.hid hno
        clear hbn hbx hM2 hb4 hno
        cases hoo : A.occ n with
        | true =>
          have HOO := Lib.hid hoo
          clear hoo
          go_wp2
          go_ret
          exact ⟨ret_bool (by show _ = (A.occ n || B.occ n); rw [HOO.out]; rfl), HB4.out, fun h9 => by have h8 : (A.occ n || B.occ n) = false := h9; rw [HOO.out] at h8; simp at h8⟩
        | false =>
          have HOO := Lib.hid hoo
          clear hoo
          go_wp2
          go_roundw
          case rel =>
            obtain ⟨S2, sx2, q1, q2, q3⟩ := HNO.out HOO.out
            refine ⟨1, by omega, by rfl, HB4.out, fun _ => HOO.out, fun h => absurd h (by omega), S2, sx2, q1, q2, fun m hm => ?_⟩
            rcases q3 m hm with h9 | h9
            · exact HS'.out m h9
            · exact .inr h9
          case measure => simp [intOf]
      · go_wp2_with fail
        have hbn := below_new wr (.cells #[.int .i64 Fb, .int .i64 Gb, .slice Ab Mb cb] 49)
        have hbx : Below xb w (wr.alloc (.cells #[.int .i64 Fb, .int .i64 Gb, .slice Ab Mb cb] 49)) := HBW.out.trans (hbn.mono (Nat.le_of_lt hzx))
        have hM2 := HM.out.on hbn
        generalize wr.alloc (.cells #[.int .i64 Fb, .int .i64 Gb, .slice Ab Mb cb] 49) = w2 at *
        refine (IHB.out _ w2 S' sx' (HS.out.below HPP.out hsb hmb hbx) (HZB.out.keep (.of_belowB HPP.out hbx)) hM2 HD.out (HP'.out l (by omega))).mono ?_
        rintro e w4 ⟨rfl, hb4, hno⟩
        have HB4 := Lib.hid (hbx.trans hb4)
        have HNO := Lib.hid hno
        clear hbn hbx hM2 hb4 hno
        cases hoo : B.occ n with
        | true =>
          have HOO := Lib.hid hoo
          clear hoo
          go_wp2
          go_ret
          exact ⟨ret_bool (by show _ = (A.occ n || B.occ n); rw [HOO.out]; simp), HB4.out, fun h9 => by have h8 : (A.occ n || B.occ n) = false := h9; rw [HOO.out] at h8; simp at h8⟩
        | false =>
          have HOO := Lib.hid hoo
          clear hoo
          go_wp2
          go_roundw
          case rel =>
            obtain ⟨S2, sx2, q1, q2, q3⟩ := HNO.out HOO.out
            refine ⟨2, by omega, by rfl, HB4.out, fun _ => hA (by omega), fun _ => HOO.out, S2, sx2, q1, q2, fun m hm => ?_⟩
            rcases q3 m hm with h9 | h9
            · exact HS'.out m h9
            · exact .inr h9
          case measure => simp [intOf]
      · go_wp2
        go_ret
        have h1 := hA (by omega)
        have h2 := hB (by omega)
        exact ⟨ret_bool (by show _ = (A.occ n || B.occ n); rw [h1, h2]; rfl), HBW.out, fun _ => ⟨S', sx', HM.out, HD.out, HS'.out⟩⟩
end Go.Proofs.Ytomhojpoaicioaa
