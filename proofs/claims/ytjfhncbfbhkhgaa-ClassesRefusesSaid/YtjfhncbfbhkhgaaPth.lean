/- Path: the least of the shortest ways up. Conditions: those that each theorem names. -/
import Derived.Test.YtjfhncbfbhkhgaaTo
namespace Go.Proofs.Ytjfhncbfbhkhgaa
open Go.RowKit
theorem OwnZ.lower {B B' : Nat} {w : World} {v : Value} {l : List Nat} (h : OwnZ B w v l) (hb : B' ≤ B) : OwnZ B' w v l :=
  ⟨h.1, h.2.imp id (fun ⟨g, cap, cur, e, hg, r⟩ => ⟨g, cap, cur, e, Nat.le_trans hb hg, r⟩)⟩
def PathRes (C : List Cls) (a x : ByteArray) (w : World) (e : Ending) (w' : World) : Prop :=
  Below w.heap.size w w' ∧ (((hasF C x = false ∨ ∀ u, goW (supF C) a u ≠ some x) ∧ e = .returned (.tuple #[.slice none 0 0, .bool false])) ∨
    (hasF C x = true ∧ ∃ u rv, Least (supF C) a x u ∧ e = .returned (.tuple #[rv, .bool true]) ∧ OwnZ w.heap.size w' rv u))
/-- What holds while ways are gone: the one that is gone on from now, or all were. -/
def PathI (C : List Cls) (a : ByteArray) (B ob lb : Nat) (w1 : World) (m : Nat) (nv hv : Value) (wr : World) : Prop :=
  Below B w1 wr ∧ ((∃ D k y v, hv = .bool true ∧ nv = .string y ∧ D[k]? = some (y, v) ∧ BfsI (supF C) a D v 0 ∧ BfsU C a D ∧ WaysAt B a D (k + 1) ob lb wr ∧ m + k = (univ C).length + 2) ∨
    (∃ D k v j, hv = .bool false ∧ nv = .string ⟨#[]⟩ ∧ BfsI (supF C) a D v j ∧ (∀ (w : List Nat) z, goW (supF C) a w = some z → ∃ w', (z, w') ∈ D ∧ sle w' w) ∧ BfsU C a D ∧ WaysAt B a D k ob lb wr))
set_option maxRecDepth 100000 in
set_option maxHeartbeats 4000000 in
theorem path_any {Q : Nat → Prop} {C : List Cls} {M : ByteArray → Option (ByteArray × Nat)} {I : List Ins} {H : HKey → Option Nat} {eb cb mb pb : Nat} {iv : Value} {w : World} (h : EnvAt Q C M I H eb cb mb pb iv w) (hQ : ∀ b, Q b → b < w.heap.size) (hC : OkC C) {a x : ByteArray} (ha : a.size ≤ maxLen) (hx : x.size ≤ maxLen) :
    Calls Try.prog 15 #[.pointer (some ⟨eb, 0, none⟩), .string a, .string x] w (PathRes C a x w) := by
  have HHAS := Lib.hid (has_any h x hx)
  have HE := Lib.hid h
  have HC := Lib.hid hC
  have HLO : Hid (EnvLo Q eb cb mb pb w.heap.size) := Lib.hid (by obtain ⟨l1, l2, l3, l4⟩ := h.lts; exact ⟨l1, l2, l3, l4, hQ⟩)
  obtain ⟨q, hq⟩ : ∃ q, hasF C x = q := ⟨_, rfl⟩
  rw [hq] at HHAS
  have HQQ := Lib.hid hq
  clear h hQ hC hq
  go_enter Try.func15, Try.ntmps15
  go_wp2_with fail
  with_reducible refine HHAS.out.mono ?_
  rintro e w1 ⟨rfl, hb1⟩
  have HB1 := Lib.hid hb1
  clear hb1 HHAS
  cases q with
  | false =>
    go_wp2
    go_ret2
    exact ⟨HB1.out, .inl ⟨.inl HQQ.out, rfl⟩⟩
  | true =>
    have HWF := Lib.hid (waysFrom_any ha w1)
    go_wp2_with fail
    with_reducible refine HWF.out.mono ?_
    rintro e w2 ⟨ob, lb, rfl, hW2, hb2⟩
    have hB : w.heap.size ≤ w1.heap.size := HB1.out.size
    have HLO1 : Hid (EnvLo Q eb cb mb pb w1.heap.size) := Lib.hid (by
      obtain ⟨l1, l2, l3, l4, l5⟩ := HLO.out
      exact ⟨by omega, by omega, by omega, by omega, fun b hb => Nat.lt_of_lt_of_le (l5 b hb) hB⟩)
    have HE1 := Lib.hid (HE.out.on HB1.out)
    obtain ⟨qv, p1, p2⟩ := hW2.obj
    have HTK := Lib.hid (take43_any p1 p2)
    have HREL0 : Hid (∀ e w', TakeQ w1.heap.size ob (.string a) (.map (some lb)) (([(a, ([] : List Nat))].drop 0).map Prod.fst) w2 e w' → e = .returned (.tuple #[.string a, .bool true]) ∧ PathI C a w1.heap.size ob lb w1 ((univ C).length + 2) (.string a) (.bool true) w') := Lib.hid fun e w' ht => by
      rcases ht with ⟨e1, _⟩ | ⟨y, r, qv', e1, e2, e3, e4, e5⟩
      · cases e1
      · have e1' : [a] = y :: r := e1
        injection e1' with e6 e7
        subst e6 e7
        have hlo := hW2.lo
        refine ⟨e2, hb2.trans (e5.below hlo.2.2.2 (fun k hk => by rw [hk]; exact hlo.1)), .inl ⟨_, 0, a, [], rfl, rfl, rfl, BfsI.begin _ a, fun z hz => by simp at hz; subst hz; exact List.mem_cons_self .., ⟨⟨qv', e3, e4⟩, hW2.last.block (e5.block lb hW2.last.lt (fun e => hlo.2.2.1 e.symm)), hlo.1, hlo.2.1, hlo.2.2.1, Nat.le_trans hlo.2.2.2 e5.size⟩, rfl⟩⟩
    clear hW2 hb2 p1 p2 HWF HE
    go_wp2_with fail
    with_reducible refine HTK.out.mono ?_
    rintro e w3 ht
    obtain ⟨rfl, hI⟩ := HREL0.out e w3 ht
    have HI0 := Lib.hid hI
    clear ht hI HTK HREL0
    go_wp2_with fail
    go_loopg [9, 10] ((univ C).length + 2) (fun m nv hv wr => PathI C a w1.heap.size ob lb w1 m nv hv wr)
    case atStart => exact HI0.out
    case round =>
      obtain ⟨hbl, hcase⟩ := hrel
      have hsz : ∀ D, BfsU C a D → ∀ y ∈ D.map Prod.fst, y.size ≤ maxLen := fun D hu y hy => by
        rcases List.mem_cons.1 (hu y hy) with rfl | h9
        · exact ha
        · exact HC.out.size y h9
      have hCl := HC.out.len
      have hww : Below w.heap.size w wr := HB1.out.trans (hbl.mono hB)
      rcases hcase with ⟨D, k, y, v, rfl, rfl, hk, hbf, hu, hW, hm⟩ | ⟨D, k, v, j, rfl, rfl, hbf, hov, hu, hW⟩
      · have hlen := bfs_len hbf hu
        have hkD := (List.getElem?_eq_some_iff.1 hk).1
        have hym := List.mem_of_getElem? hk
        by_cases hyx : y = x
        · subst hyx
          have HTO := Lib.hid (to_any hW hbf (by omega) (hsz D hu) hx)
          have HRES : Hid (∀ e w', ToRes D y wr e w' → ∃ rv, e = .returned (.tuple #[rv, .bool true]) ∧ PathRes C a y w (.returned (.tuple #[rv, .bool true])) w') := Lib.hid fun e w' ⟨hb9, hr⟩ => by
            rcases hr with ⟨h9, _⟩ | ⟨u, rv, h9, rfl, h8⟩
            · exact absurd (List.mem_map.2 ⟨_, hym, rfl⟩) h9
            · have := hbf.one h9 hym
              subst this
              exact ⟨rv, rfl, hww.trans (hb9.mono hww.size), .inr ⟨HQQ.out, u, rv, hbf.least hym, rfl, h8.lower hww.size⟩⟩
          clear hbl hbf hu hW hk hlen hkD hym hsz hww
          go_wp2_with fail
          with_reducible refine HTO.out.mono ?_
          rintro e w' ht
          obtain ⟨rv, rfl, hp⟩ := HRES.out e w' ht
          have HP := Lib.hid hp
          clear hp ht
          go_wp2
          go_ret2
          exact HP.out
        · have hne : (y.toList == x.toList) = false := by rw [← beq_toListBytes, beq_eq_false_iff_ne]; exact hyx
          have hlo := hW.lo
          have HST := Lib.hid (steps_any (HE1.out.lo HLO1.out hbl) HLO1.out HC.out hW (by omega) hbf hu hym (hsz D hu y (List.mem_map.2 ⟨_, hym, rfl⟩)))
          have HBL := Lib.hid hbl
          have HK := Lib.hid hk
          clear hbl hbf hu hW hk hym hsz hww hyx
          go_wp2_with fail
          with_reducible refine HST.out.mono ?_
          rintro e w4 ⟨rfl, t, hbf2, hu2, hW2, hb2⟩
          obtain ⟨q4, p1, p2⟩ := hW2.obj
          have HTK2 := Lib.hid (take43_any p1 p2)
          have hk2 : (D ++ t)[k]? = some (y, v) := by rw [List.getElem?_append_left hkD]; exact HK.out
          have hlen2 := bfs_len hbf2 hu2
          have HREL : Hid (∀ e w', TakeQ w1.heap.size ob (.string a) (.map (some lb)) (((D ++ t).drop (k + 1)).map Prod.fst) w4 e w' → ∃ (nv : ByteArray) (hv : Value) (m' : Nat), e = .returned (.tuple #[.string nv, hv]) ∧ PathI C a w1.heap.size ob lb w1 m' (.string nv) hv w' ∧ m' < gk) := Lib.hid fun e w' ht => by
            have hb3 := HBL.out.trans hb2
            rcases ht with ⟨e1, e2, e3⟩ | ⟨z, r, qv', e1, e2, e3, e4, e5⟩
            · have hdl : (D ++ t).length ≤ k + 1 := by
                have := congrArg List.length e1
                rw [List.length_map, List.length_drop] at this
                simp only [List.length_nil] at this; omega
              exact ⟨⟨#[]⟩, .bool false, 0, e2, ⟨hb3.trans (e3.mono hW2.lo.2.2.2), .inr ⟨D ++ t, k + 1, v, _, rfl, rfl, hbf2, hbf2.over hk2 (Nat.le_refl _) hdl, hu2, hW2.on e3⟩⟩, by omega⟩
            · obtain ⟨p, tl, e6⟩ : ∃ p tl, (D ++ t).drop (k + 1) = p :: tl := by
                cases hd : (D ++ t).drop (k + 1) with
                | nil => rw [hd] at e1; cases e1
                | cons p tl => exact ⟨p, tl, rfl⟩
              rw [e6] at e1
              injection e1 with e7 e8
              have hk3 : (D ++ t)[k + 1]? = some p := by
                have := congrArg (fun l => l[0]?) e6
                simpa [List.getElem?_drop] using this
              have e9 : (D ++ t).drop (k + 1 + 1) = tl := by
                rw [← List.drop_drop, e6]; rfl
              obtain ⟨z', v'⟩ := p
              have e7' : z' = z := e7
              subst e7'
              refine ⟨z', .bool true, gk - 1, e2, ⟨hb3.trans (e5.below hW2.lo.2.2.2 (fun k hk => by rw [hk]; exact hlo.1)), .inl ⟨D ++ t, k + 1, z', v', rfl, rfl, hk3, hbf2.turn hk2 (Nat.le_refl _) hk3, hu2, ⟨⟨qv', e3, by rw [e9, show tl.map Prod.fst = r from e8]; exact e4⟩, hW2.last.block (e5.block lb hW2.last.lt (fun e => hlo.2.2.1 e.symm)), hlo.1, hlo.2.1, hlo.2.2.1, Nat.le_trans hW2.lo.2.2.2 e5.size⟩, by omega⟩⟩, by omega⟩
          clear hbf2 hu2 hW2 hb2 p1 p2 hk2 hlen2 HST
          go_wp2_with fail
          with_reducible refine HTK2.out.mono ?_
          rintro e w5 ht
          obtain ⟨nv, hv, m', rfl, hI, hlt⟩ := HREL.out e w5 ht
          have HI5 := Lib.hid hI
          clear hI ht
          go_wp2
          go_roundg m'
          case rel => exact HI5.out
          case measure => exact hlt
      · have hlen := bfs_len hbf hu
        have HTO := Lib.hid (to_any hW hbf (by omega) (hsz D hu) hx)
        have HRES : Hid (∀ e w', ToRes D x wr e w' → ∃ rv b, e = .returned (.tuple #[rv, b]) ∧ PathRes C a x w (.returned (.tuple #[rv, b])) w') := Lib.hid fun e w' ⟨hb9, hr⟩ => by
          rcases hr with ⟨h9, rfl⟩ | ⟨u, rv, h9, rfl, h8⟩
          · refine ⟨_, _, rfl, hww.trans (hb9.mono hww.size), .inl ⟨.inr (fun u hu9 => ?_), rfl⟩⟩
            obtain ⟨w', hw', _⟩ := hov u x hu9
            exact h9 (List.mem_map.2 ⟨_, hw', rfl⟩)
          · refine ⟨rv, _, rfl, hww.trans (hb9.mono hww.size), .inr ⟨HQQ.out, u, rv, ⟨hbf.way x u h9, fun u' hu' => ?_⟩, rfl, h8.lower hww.size⟩⟩
            obtain ⟨w', hw', hs⟩ := hov u' x hu'
            rw [hbf.one h9 hw']; exact hs
        clear hbl hbf hu hW hov hlen hsz hww
        go_wp2_with fail
        with_reducible refine HTO.out.mono ?_
        rintro e w' ht
        obtain ⟨rv, b, rfl, hp⟩ := HRES.out e w' ht
        have HP := Lib.hid hp
        clear hp ht
        go_wp2
        go_ret2
        exact HP.out
end Go.Proofs.Ytjfhncbfbhkhgaa
