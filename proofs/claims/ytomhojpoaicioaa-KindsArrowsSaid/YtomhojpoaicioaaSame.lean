/- The contract of kinds.Same, and of the library's EqualFunc as it is called there. No conditions but those that each theorem names. -/
import Derived.Test.YtomhojpoaicioaaKAt
namespace Go.Proofs.Ytomhojpoaicioaa
open Go.RowKit

/-- What Same answered. -/
def SameRes (w : World) (a b : K) (e : Ending) (w' : World) : Prop := e = .returned (.bool (eqK a b)) ∧ Below w.heap.size w w'
set_option maxRecDepth 100000 in
set_option maxHeartbeats 1000000 in
theorem equalFunc_any (P Q : Nat → Prop) (n : Nat) (IH0 : ∀ (a b : K) (v1 v2 : Value) (w : World), K.sz a ≤ n → KAt P w a v1 → KAt Q w b v2 → Calls Try.prog 21 #[.agg #[v1], .agg #[v2]] w (SameRes w a b))
    (l r : List K) (v1 v2 : Value) (w : World) (hn : K.sz (.mk l) ≤ n + 1) (h1 : KAt P w (.mk l) v1) (h2 : KAt Q w (.mk r) v2) : Calls Try.prog 40 #[v1, v2, .func (.func 21) #[] #[]] w (SameRes w (.mk l) (.mk r)) := by
  obtain ⟨A1, c1, rfl, hm1⟩ := h1.form
  obtain ⟨A2, c2, rfl, hm2⟩ := h2.form
  unfold maxLen at hm1 hm2
  have H1 := Lib.hid h1
  have H2 := Lib.hid h2
  have IH := Lib.hid IH0
  have HN := Lib.hid (fun i (h : i < l.length) => sz_get hn h)
  clear h1 h2 hn IH0
  by_cases hlen : l.length = r.length
  · have hne : ((l.length : Int) != (r.length : Int)) = false := by simp; omega
    have HLEN := Lib.hid hlen
    clear hlen
    go_enter Try.func40, Try.ntmps40
    go_wp2_with fail
    clear hne
    go_loopw [17, 18] (fun i _ wr => ∃ k : Nat, k ≤ l.length ∧ i = .int .i64 k ∧ Hid (∀ j (h : j < l.length) (h' : j < r.length), j < k → l[j] = r[j]) ∧ Below w.heap.size w wr) (fun i _ _ => l.length - (intOf i).toNat)
    case atStart => exact ⟨0, Nat.zero_le _, rfl, fun j _ _ h => absurd h (Nat.not_lt_zero _), Below.refl _ _⟩
    case round =>
      obtain ⟨k, hk, rfl, heq, hb⟩ := hrel
      have hzr := hb.size
      have HB := Lib.hid hb
      clear hb
      by_cases hlt : k < l.length
      · have hlr : k < r.length := by rw [← HLEN.out]; exact hlt
        obtain ⟨b1, o1, u1, e1, hb1, cu1, ku1⟩ := (H1.out.on HB.out).at k hlt
        obtain ⟨b2, o2, u2, e2, hb2, cu2, ku2⟩ := (H2.out.on HB.out).at k hlr
        subst e1 e2
        obtain ⟨Aa, na, ca, rfl⟩ : ∃ A n c, u1 = .slice A n c := by
          generalize l[k] = q at ku1
          cases q with
          | mk q => obtain ⟨A9, c9, e9, _⟩ := ku1.form; exact ⟨A9, _, c9, e9⟩
        obtain ⟨Ab, nb, cb, rfl⟩ : ∃ A n c, u2 = .slice A n c := by
          generalize r[k] = q at ku2
          cases q with
          | mk q => obtain ⟨A9, c9, e9, _⟩ := ku2.form; exact ⟨A9, _, c9, e9⟩
        have KU1 := Lib.hid ku1
        have KU2 := Lib.hid ku2
        have hki : (k : Int) < (l.length : Int) := by omega
        have hkj : (k : Int) < (r.length : Int) := by omega
        have hk0 : (0 : Int) ≤ (k : Int) := by omega
        have HSZ := Lib.hid (HN.out k hlt)
        clear ku1 ku2
        go_wp2_with fail
        have hbn : Below wr.heap.size wr ((wr.alloc (.cells #[.slice Aa na ca] 25)).alloc (.cells #[.slice Ab nb cb] 25)) := (below_new wr _).trans ((below_new _ _).mono (by simp))
        generalize (wr.alloc (.cells #[.slice Aa na ca] 25)).alloc (.cells #[.slice Ab nb cb] 25) = wn at *
        refine (IH.out _ _ _ _ _ HSZ.out (KU1.out.on hbn) (KU2.out.on hbn)).mono ?_
        rintro e w1 ⟨rfl, b1'⟩
        have HB1 : Hid (Below w.heap.size w w1) := (HB.out.trans (hbn.mono hzr)).trans (b1'.mono (by have := hbn.size; omega))
        clear b1' hbn
        by_cases he : l[k] = r[k]
        · rw [eqK_true he]
          have HR : Hid (∀ j (h : j < l.length) (h' : j < r.length), j < k + 1 → l[j] = r[j]) := fun j h h' hj => by
            by_cases hjk : j = k
            · subst hjk; exact he
            · exact heq.out j h h' (by omega)
          clear he
          go_wp2
          go_roundw
          case rel => exact ⟨k + 1, by omega, by go_num, HR, HB1.out⟩
          case measure => simp [intOf]; omega
        · rw [eqK_false he]
          have HE : Hid (eqK (.mk l) (.mk r) = false) := eqK_false (fun h9 => by injection h9 with h9; subst h9; exact he rfl)
          clear he
          go_wp2
          go_ret
          exact ⟨ret_bool HE.out.symm, HB1.out⟩
      · have hd : decide (k < l.length) = false := by simpa using hlt
        have HE : Hid (eqK (.mk l) (.mk r) = true) := eqK_true (congrArg K.mk (List.ext_getElem HLEN.out (fun j h h' => heq.out j h h' (by omega))))
        go_wp2
        go_ret
        exact ⟨ret_bool HE.out.symm, HB.out⟩
  · have hne : ((l.length : Int) != (r.length : Int)) = true := by rw [bne_iff_ne]; omega
    have HE : Hid (eqK (.mk l) (.mk r) = false) := eqK_false (fun h9 => by injection h9 with h9; exact hlen (congrArg List.length h9))
    clear hlen
    go_enter Try.func40, Try.ntmps40
    go_wp2
    go_ret
    exact ⟨ret_bool HE.out.symm, Below.refl _ _⟩
set_option maxRecDepth 100000 in
set_option maxHeartbeats 1000000 in
theorem same_any (P Q : Nat → Prop) : ∀ (n : Nat) (a b : K) (v1 v2 : Value) (w : World), K.sz a ≤ n → KAt P w a v1 → KAt Q w b v2 → Calls Try.prog 21 #[.agg #[v1], .agg #[v2]] w (SameRes w a b)
  | 0, .mk l, _, _, _, _, hn, _, _ => by rw [K.sz_mk] at hn; omega
  | n + 1, .mk l, .mk r, v1, v2, w, hn, h1, h2 => by
    obtain ⟨A1, c1, rfl, hm1⟩ := h1.form
    obtain ⟨A2, c2, rfl, hm2⟩ := h2.form
    have H1 := Lib.hid h1
    have H2 := Lib.hid h2
    have IH := Lib.hid (equalFunc_any P Q n (same_any P Q n) l r)
    have HN := Lib.hid hn
    clear h1 h2 hn hm1 hm2
    go_enter Try.func21, Try.ntmps21
    go_wp2_with fail
    have hb0 : Below w.heap.size w ((w.alloc (.cells #[.slice A1 l.length c1] 25)).alloc (.cells #[.slice A2 r.length c2] 25)) := (below_new w _).trans ((below_new _ _).mono (by simp))
    generalize (w.alloc (.cells #[.slice A1 l.length c1] 25)).alloc (.cells #[.slice A2 r.length c2] 25) = w0 at *
    refine (IH.out _ _ w0 HN.out (H1.out.on hb0) (H2.out.on hb0)).mono ?_
    rintro e w1 ⟨rfl, hb1⟩
    have HB := Lib.hid (hb0.trans (hb1.mono hb0.size))
    clear hb0 hb1
    generalize hq : eqK (.mk l) (.mk r) = q at *
    have HQ := Lib.hid hq
    clear hq
    go_wp2
    go_ret
    exact ⟨ret_bool HQ.out.symm, HB.out⟩
end Go.Proofs.Ytomhojpoaicioaa
