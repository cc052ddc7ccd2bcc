/- from: all things to which one leads are come to. No conditions but those that each theorem names. -/
import Derived.Test.YthmnghngcbkjpaaFrm
namespace Go.Proofs.Ythmnghngcbkjpaa
open Go.RowKit
def FromRes (n B sb cb lb rb : Nat) (uv : Value) (M : List (List Int)) (cm : Nat → Nat) (x : Nat) (w : World) (e : Ending) (w' : World) : Prop :=
  e = .returned (.tuple #[]) ∧ ∃ s ov pv, SAt n B sb cb lb rb uv M s ov pv w' ∧ Inv n (useL M) s ∧ s.path = [] ∧ (∀ y, cm y ≠ 0 → s.come y ≠ 0) ∧ s.come x ≠ 0 ∧ Below B w w'
def FromRel (n B sb cb lb rb : Nat) (uv : Value) (M : List (List Int)) (cm : Nat → Nat) (x : Nat) (w : World) (k : Nat) (wr : World) : Prop :=
  ∃ s ov pv, SAt n B sb cb lb rb uv M s ov pv wr ∧ Inv n (useL M) s ∧ todo n (useL M) s = k ∧ (∀ y, cm y ≠ 0 → s.come y ≠ 0) ∧ s.come x ≠ 0 ∧ Below B w wr
set_option maxRecDepth 100000 in
set_option maxHeartbeats 4000000 in
theorem from_any {n B sb cb lb rb : Nat} {uv : Value} {M : List (List Int)} {s : S} {ov pv : Value} {w : World} (h : SAt n B sb cb lb rb uv M s ov pv w) (hI : Inv n (useL M) s) (hn : n ≤ 1099511627776) (hp : s.path = []) (x : Nat) (hx : x < n) (h0 : s.come x = 0) :
    Calls Try.prog 24 #[.pointer (some ⟨sb, 0, none⟩), .int .i64 x] w (FromRes n B sb cb lb rb uv M s.come x w) := by
  obtain ⟨Au, cu, rfl, _, _⟩ := h.mat.form
  generalize hml : M.length = ml at *
  have hI1 := hI.enter hx h0 (.inl hp)
  have hen := enter_any h hn x hx hI.countle hI.openle.1 hI.openle.2
  have hmono : ∀ y, s.come y ≠ 0 → (s.enter (useL M) x).come y ≠ 0 := fun y hy => by
    show upd s.come x (s.count + 1) y ≠ 0
    by_cases e : y = x
    · rw [e, upd_same]; omega
    · rw [upd_other _ e]; exact hy
  have hcx : (s.enter (useL M) x).come x ≠ 0 := by
    show upd s.come x (s.count + 1) x ≠ 0
    rw [upd_same]; omega
  generalize s.enter (useL M) x = s1 at *
  generalize s.come = cm at *
  have HEN := Lib.hid hen
  have HI1 := Lib.hid hI1
  have HMO := Lib.hid hmono
  have HCX := Lib.hid hcx
  have HN := Lib.hid hn
  have HML := Lib.hid hml
  clear h hI hn hp h0 hI1 hen hmono hcx hml
  go_enter Try.func24, Try.ntmps24
  go_wp2_with fail
  with_reducible refine HEN.out.mono ?_
  rintro e w1 ⟨rfl, ov1, pv1, hs1, hb1⟩
  have HR0 : Hid (FromRel n B sb cb lb rb (.slice Au ml cu) M cm x w (todo n (useL M) s1) w1) := Lib.hid ⟨s1, ov1, pv1, hs1, HI1.out, rfl, HMO.out, HCX.out, hb1⟩
  clear hs1 hb1
  go_wp2_with fail
  go_loopg [] (todo n (useL M) s1) (fun k wr => FromRel n B sb cb lb rb (.slice Au ml cu) M cm x w k wr)
  case atStart => exact HR0.out
  case round =>
    obtain ⟨s2, ov2, pv2, hs, hI, hk, hmo, hcx, hb⟩ := hrel
    have hn := HN.out
    have HMO2 := Lib.hid hmo
    have HCX2 := Lib.hid hcx
    have HB := Lib.hid hb
    clear hmo hcx hb
    obtain ⟨d0, d1, _, _, _, _, d6, _, cf⟩ := hs.cells
    rcases List.eq_nil_or_concat s2.path with e | ⟨r, ⟨t, l⟩, e⟩
    · obtain ⟨vs, _, hpo, _⟩ := hs.path
      obtain ⟨Ap, cp, epv, _⟩ := own_form hpo
      rw [e] at epv
      subst epv
      have HFIN : Hid (FromRes n B sb cb lb rb (.slice Au ml cu) M cm x w (.returned (.tuple #[])) wr) := Lib.hid ⟨rfl, s2, ov2, _, hs, hI, e, HMO2.out, HCX2.out, HB.out⟩
      simp only [List.length_nil] at d6
      clear hs hI hk cf hpo e
      go_wp2
      go_end0
      exact HFIN.out
    · have hp : s2.path = r ++ [(t, l)] := by rw [e]; simp
      clear e
      obtain ⟨pb, c, vs, u, rfl, hBp, hpb, hc1, hc2, hvl, hpo, hvi, hu, q0, q1, qf⟩ := hs.last hp
      have qf1 := qf (r.length * 2 + 1)
      have htl : t < n := (hI.openlt t (hI.pathopen t l (by rw [hp]; simp))).1
      have hr0 : (0 : Int) < (r.length : Int) + 1 := by omega
      unfold natV at q0
      unfold maxLen at hc2
      have hpd : pb < wr.heap.size := hpb
      have HQF := Lib.hid qf
      clear qf hvi hpo hvl
      cases l with
      | nil =>
        obtain ⟨A0, c0, rfl, _⟩ := hu.form
        simp only [List.length_nil] at q1 hu
        have HC : Hid (∀ m : Nat, Calls Try.prog 30 #[.pointer (some ⟨sb, 0, none⟩)] (wr.drewN m) (LeaveRes n B sb cb lb rb (.slice Au ml cu) M s2.come r (wr.drewN m))) :=
          Lib.hid fun m => leave_any (hs.on (below_drewN (Below.refl _ _) m)) hI hn hp
        have HTD : Hid (todo n (useL M) s2 = unv n (useL M) s2.come + (pm r + 1)) := by
          show _ = _
          unfold todo
          rw [hp, pm_snoc]; rfl
        clear hs hI hu cf hp hBp
        go_wp2_with fail
        go_quiet (fail)
        go_wp2_with fail
        with_reducible refine (HC.out _).mono ?_
        rintro e w2 ⟨rfl, s3, ov3, pv3, hs3, hI3, hp3, hc3, hb3⟩
        have HREL : Hid (FromRel n B sb cb lb rb (.slice Au ml cu) M cm x w (todo n (useL M) s3) w2) := Lib.hid ⟨s3, ov3, pv3, hs3, hI3, rfl, by rw [hc3]; exact HMO2.out, by rw [hc3]; exact HCX2.out, (below_drewN HB.out _).trans hb3⟩
        have hlt : todo n (useL M) s3 < gk := by
          rw [← hk, HTD.out]
          unfold todo
          rw [hp3, hc3]; omega
        generalize todo n (useL M) s3 = k3 at *
        clear hs3 hI3 hp3 hc3 hb3 hk HTD
        go_wp2
        go_roundg k3
        case rel => exact HREL.out
        case measure => exact hlt
      | cons z l =>
        obtain ⟨ub, uo, uc, rfl, huc1, huc2, hub, hcz, hzb, A9, hA9, hu9⟩ := ints_tail hu
        unfold maxLen at huc2
        have HS5 : Hid (∀ m : Nat, SAt n B sb cb lb rb (.slice Au ml cu) M ({ s2 with path := r ++ [(t, l)] } : S) ov2 (.slice (some ⟨pb, 0, none⟩) (r.length + 1) c) ((wr.drewN m).setCell ⟨pb, r.length * 2 + 1, none⟩ (.slice (some A9) l.length (uc - 1)))) :=
          Lib.hid fun m => (hs.on (below_drewN (Below.refl _ _) m)).setLeft hp (hu9.on (below_drewN (Below.refl _ _) m))
        have HB5 : Hid (∀ m : Nat, Below B w ((wr.drewN m).setCell ⟨pb, r.length * 2 + 1, none⟩ (.slice (some A9) l.length (uc - 1)))) :=
          Lib.hid fun m => (below_drewN HB.out m).setCell hBp _
        have hl0 : ((l.length : Int) + 1 == 0) = false := by rw [beq_eq_false_iff_ne]; omega
        have hl1 : (0 : Int) < (l.length : Int) + 1 := by omega
        have hl2 : (l.length : Int) + 1 ≤ (uc : Int) := by omega
        have HTD : Hid (todo n (useL M) s2 = unv n (useL M) s2.come + (pm (r ++ [(t, l)]) + 1)) := by
          show _ = _
          unfold todo
          rw [hp, pm_snoc, pm_snoc]; simp; omega
        have hpsb : pb ≠ sb := fun e => hs.nes.2.2.2.2.1 (by rw [← e]; rfl)
        have hspb : sb ≠ pb := fun e => hpsb e.symm
        have hz1 := hzb.1
        have hz2 := hzb.2
        have HP := Lib.hid hp
        have HI := Lib.hid hI
        have HCM := Lib.hid (hI.small)
        have HBS := Lib.hid (show B ≤ wr.heap.size from hs.le.2.2.2.2)
        clear hs hu hu9 cf hzb hI hp hBp
        by_cases hz : 0 ≤ z ∧ z < n
        · have HHB := Lib.hid (hasB_true hz.1 hz.2)
          obtain ⟨hz3, hz4⟩ := hz
          obtain ⟨zn, rfl⟩ := Int.eq_ofNat_of_zero_le hz3
          have hzn : zn < n := by omega
          by_cases hc0 : s2.come zn = 0
          · have hI6 := HI.out.edgeNew HP.out hz3 hz4 (by simpa using hc0)
            simp only [Int.toNat_natCast] at hI6
            have hle := HI.out.openle
            have hpl : ({ s2 with path := r ++ [(t, l)] } : S).path.length ≤ n := by
              have := hle.2
              rw [HP.out] at this
              simpa using this
            have HEN : Hid (∀ w3, SAt n B sb cb lb rb (.slice Au ml cu) M ({ s2 with path := r ++ [(t, l)] } : S) ov2 (.slice (some ⟨pb, 0, none⟩) (r.length + 1) c) w3 → Calls Try.prog 29 #[.pointer (some ⟨sb, 0, none⟩), .int .i64 zn] w3 (EnterRes n B sb cb lb rb (.slice Au ml cu) M (({ s2 with path := r ++ [(t, l)] } : S).enter (useL M) zn) w3)) :=
              Lib.hid fun w3 h1 => enter_any h1 hn zn hzn HI.out.countle hle.1 hpl
            have hlt : todo n (useL M) (({ s2 with path := r ++ [(t, l)] } : S).enter (useL M) zn) < gk := by
              rw [← hk, HTD.out]
              have h8 := unv_upd n (useL M) s2.come zn (s2.count + 1) hzn hc0 (by omega)
              have h9 := pm_snoc (r ++ [(t, l)]) (zn, useL M zn)
              show unv n (useL M) (upd s2.come zn (s2.count + 1)) + pm ((r ++ [(t, l)]) ++ [(zn, useL M zn)]) < _
              simp only at h9
              omega
            have hmo6 : ∀ y, s2.come y ≠ 0 → (({ s2 with path := r ++ [(t, l)] } : S).enter (useL M) zn).come y ≠ 0 := fun y hy => by
              show upd s2.come zn (s2.count + 1) y ≠ 0
              by_cases e : y = zn
              · rw [e, upd_same]; omega
              · rw [upd_other _ e]; exact hy
            have HREL : Hid (∀ w0 w3, Below B w w0 → EnterRes n B sb cb lb rb (.slice Au ml cu) M (({ s2 with path := r ++ [(t, l)] } : S).enter (useL M) zn) w0 (.returned (.tuple #[])) w3 → FromRel n B sb cb lb rb (.slice Au ml cu) M cm x w (todo n (useL M) (({ s2 with path := r ++ [(t, l)] } : S).enter (useL M) zn)) w3) :=
              Lib.hid fun w0 w3 h0 h1 => by
                obtain ⟨_, ov6, pv6, h2, h3⟩ := h1
                exact ⟨_, _, _, h2, hI6, rfl, fun y hy => hmo6 y (HMO2.out y hy), hmo6 x HCX2.out, h0.trans h3⟩
            clear hI6 hk hle hpl hmo6
            generalize todo n (useL M) (({ s2 with path := r ++ [(t, l)] } : S).enter (useL M) zn) = k6 at *
            go_wp2_with fail
            go_quiet (fail)
            go_wp2_with fail
            refine (has_any n zn _ _ _ _).mono ?_
            rintro e w3 ⟨rfl, hb3⟩
            rw [HHB.out]
            have hs6 := (HS5.out _).on hb3
            have hb6 := (HB5.out _).trans (hb3.mono (by simp; exact HBS.out))
            have HB6 := Lib.hid hb6
            obtain ⟨e0, e1, e2, e3, e4, e5, e6, e7, ef⟩ := hs6.cells
            have hcc := hs6.come.cell hzn
            have hen := HEN.out w3 hs6
            have HEN2 := Lib.hid hen
            have e9 : natV (({ s2 with path := r ++ [(t, l)] } : S).come zn) = .int .i64 0 := by
              show natV (s2.come zn) = _
              rw [hc0]; rfl
            rw [e9] at hcc
            have hzi : (zn : Int) < (n : Int) := hz4
            clear hs6 hb6 hen hb3 ef e9
            go_wp2_with fail
            refine HEN2.out.mono ?_
            rintro e w4 ⟨rfl, h4⟩
            have HREL2 := Lib.hid (HREL.out w3 w4 HB6.out ⟨rfl, h4⟩)
            clear h4
            go_wp2
            go_roundg k6
            case rel => exact HREL2.out
            case measure => exact hlt
          · have hI6 := HI.out.edgeOld (by unfold top; omega) HP.out hz3 hz4 (by simpa using hc0)
            simp only [Int.toNat_natCast] at hI6
            have hlt : todo n (useL M) (({ s2 with path := r ++ [(t, l)] } : S).leads t zn) < gk := by
              rw [← hk, HTD.out]
              show unv n (useL M) s2.come + pm (r ++ [(t, l)]) < _
              omega
            have HREL : Hid (∀ w0 w3, Below B w w0 → LeadsRes n B sb cb lb rb (.slice Au ml cu) M (({ s2 with path := r ++ [(t, l)] } : S).leads t zn) ov2 (.slice (some ⟨pb, 0, none⟩) (r.length + 1) c) w0 (.returned (.tuple #[])) w3 → FromRel n B sb cb lb rb (.slice Au ml cu) M cm x w (todo n (useL M) (({ s2 with path := r ++ [(t, l)] } : S).leads t zn)) w3) :=
              Lib.hid fun w0 w3 h0 h1 => ⟨_, _, _, h1.2.1, hI6, rfl, HMO2.out, HCX2.out, h0.trans h1.2.2⟩
            have hci : ((s2.come zn : Int) == 0) = false := by rw [beq_eq_false_iff_ne]; omega
            clear hI6 hk
            generalize todo n (useL M) (({ s2 with path := r ++ [(t, l)] } : S).leads t zn) = k6 at *
            go_wp2_with fail
            go_quiet (fail)
            go_wp2_with fail
            refine (has_any n zn _ _ _ _).mono ?_
            rintro e w3 ⟨rfl, hb3⟩
            rw [HHB.out]
            have hs6 := (HS5.out _).on hb3
            have hb6 := (HB5.out _).trans (hb3.mono (by simp; exact HBS.out))
            have HB6 := Lib.hid hb6
            obtain ⟨e0, e1, e2, e3, e4, e5, e6, e7, ef⟩ := hs6.cells
            have hcc := hs6.come.cell hzn
            obtain ⟨pb', c', vs', uu', ep, _, _, hd1, hd2, _, _, _, _, f1, _, _⟩ := hs6.last (r := r) (t := t) (l := l) rfl
            injection ep with ep1 ep2 ep3
            injection ep1 with ep1
            injection ep1 with ep1
            subst ep1 ep3
            have HLD := Lib.hid (leads_any hs6 t zn htl hzn)
            have e9 : natV (({ s2 with path := r ++ [(t, l)] } : S).come zn) = .int .i64 (s2.come zn) := rfl
            rw [e9] at hcc
            have hzi : (zn : Int) < (n : Int) := hz4
            unfold natV at f1
            clear hs6 hb6 hb3 ef e9 hd1 hd2 ep2
            go_wp2_with fail
            refine HLD.out.mono ?_
            intro e w4 h4
            obtain rfl := h4.1
            have HREL2 := Lib.hid (HREL.out w3 w4 HB6.out h4)
            clear h4
            go_wp2
            go_roundg k6
            case rel => exact HREL2.out
            case measure => exact hlt
        · have HHB := Lib.hid (hasB_false hz)
          have hI6 := HI.out.edgeNone HP.out hz
          have HREL : Hid (∀ w3, SAt n B sb cb lb rb (.slice Au ml cu) M ({ s2 with path := r ++ [(t, l)] } : S) ov2 (.slice (some ⟨pb, 0, none⟩) (r.length + 1) c) w3 → Below B w w3 → FromRel n B sb cb lb rb (.slice Au ml cu) M cm x w (todo n (useL M) ({ s2 with path := r ++ [(t, l)] } : S)) w3) :=
            Lib.hid fun w3 h1 h2 => ⟨_, _, _, h1, hI6, rfl, HMO2.out, HCX2.out, h2⟩
          have hlt : todo n (useL M) ({ s2 with path := r ++ [(t, l)] } : S) < gk := by
            rw [← hk, HTD.out]
            unfold todo
            simp only
            omega
          clear hI6 hz hk
          generalize todo n (useL M) ({ s2 with path := r ++ [(t, l)] } : S) = k6 at *
          go_wp2_with fail
          go_quiet (fail)
          go_wp2_with fail
          refine (has_any n z _ _ _ _).mono ?_
          rintro e w3 ⟨rfl, hb3⟩
          rw [HHB.out]
          have hs6 := (HS5.out _).on hb3
          have hb6 := (HB5.out _).trans (hb3.mono (by simp; exact HBS.out))
          have HS6 := Lib.hid hs6
          have HB6 := Lib.hid hb6
          obtain ⟨e0, e1, e2, e3, e4, e5, e6, e7, ef⟩ := hs6.cells
          have hrel := HREL.out w3 hs6 hb6
          have HREL2 := Lib.hid hrel
          clear hs6 hb6 hrel hb3 ef e0 e1 e2 e3 e4 e5 e6 e7
          go_wp2
          go_roundg k6
          case rel => exact HREL2.out
          case measure => exact hlt
end Go.Proofs.Ythmnghngcbkjpaa
