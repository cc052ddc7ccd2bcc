/- Kinds in memory, and the contracts of the document's functions of chapter 3 that read them. No conditions but those that each theorem names. -/
import Derived.Test.YtomhojpoaicioaaProg
import Derived.Test.YtomhojpoaicioaaKindsV
import Derived.WalkKit
import Derived.WalkSpells
import Derived.WalkLawsBesides
import Derived.Lib.Strings
import Derived.Lib.Hide
import Derived.Deep.QuietTactic
import Derived.BigQuiet
import Derived.Deep.RegionWith
import Derived.StillTailTactics
namespace Go.Proofs.Ytomhojpoaicioaa
open Go.RowKit

/-- Cells of old blocks of this kind stay as they were. -/
structure Keeps (P : Nat → Prop) (w w' : World) : Prop where
  size : w.heap.size ≤ w'.heap.size
  cell : ∀ b off, P b → b < w.heap.size → w'.cell? ⟨b, off, none⟩ = w.cell? ⟨b, off, none⟩
theorem Keeps.of_below {P : Nat → Prop} {w w' : World} (hb : Below w.heap.size w w') : Keeps P w w' := ⟨hb.size, fun _ _ _ h => hb.cell (p := ⟨_, _, none⟩) h⟩
theorem Keeps.setCell {P : Nat → Prop} {w : World} {b o : Nat} (h : ¬ P b) (v : Value) : Keeps P w (w.setCell ⟨b, o, none⟩ v) := by
  refine ⟨by simp, fun b' o' hp _ => ?_⟩
  have hne : b' ≠ b := fun e => h (e ▸ hp)
  simp [go_sem]
theorem Keeps.trans {P : Nat → Prop} {a b c : World} (h1 : Keeps P a b) (h2 : Keeps P b c) : Keeps P a c :=
  ⟨Nat.le_trans h1.size h2.size, fun x o hp hx => (h2.cell x o hp (Nat.lt_of_lt_of_le hx h1.size)).trans (h1.cell x o hp hx)⟩
/-- A value that reads as a kind: a slice of kinds, in blocks of which P holds. -/
inductive KAt (P : Nat → Prop) (w : World) : K → Value → Prop
  | intro (l : List K) (A : Option Addr) (c : Nat) (us : List Value) (hc : l.length ≤ c) (hm : c ≤ maxLen) (hu : us.length = l.length)
      (hrow : l = [] ∨ ∃ b off, A = some ⟨b, off, none⟩ ∧ P b ∧ b < w.heap.size ∧ ∀ i (h : i < us.length), w.cell? ⟨b, off + i, none⟩ = some us[i])
      (hk : ∀ i (h : i < l.length), KAt P w l[i] (us[i]'(by omega))) : KAt P w (.mk l) (.slice A l.length c)
theorem KAt.keep {P : Nat → Prop} {w w' : World} {k : K} {v : Value} (h : KAt P w k v) (hb : Keeps P w w') : KAt P w' k v := by
  induction h with
  | intro l A c us hc hm hu hrow _ ih =>
    refine .intro l A c us hc hm hu ?_ ih
    rcases hrow with h | ⟨b, off, e, hp, hlt, hcell⟩
    · exact .inl h
    · exact .inr ⟨b, off, e, hp, Nat.lt_of_lt_of_le hlt hb.size, fun i hi => (hb.cell b (off + i) hp hlt).trans (hcell i hi)⟩
theorem KAt.mono {P Q : Nat → Prop} {w : World} {k : K} {v : Value} (h : KAt P w k v) (hpq : ∀ b, P b → Q b) : KAt Q w k v := by
  induction h with
  | intro l A c us hc hm hu hrow _ ih =>
    refine .intro l A c us hc hm hu ?_ ih
    rcases hrow with h | ⟨b, off, e, hp, r⟩
    · exact .inl h
    · exact .inr ⟨b, off, e, hpq b hp, r⟩
theorem KAt.on {P : Nat → Prop} {w w' : World} {k : K} {v : Value} (h : KAt P w k v) (hb : Below w.heap.size w w') : KAt P w' k v := h.keep (.of_below hb)
theorem KAt.drewN {P : Nat → Prop} {w : World} {k : K} {v : Value} (h : KAt P w k v) (m : Nat) : KAt P (w.drewN m) k v := h.on (below_drewN (Below.refl _ _) m)
theorem KAt.form {P : Nat → Prop} {w : World} {l : List K} {v : Value} (h : KAt P w (.mk l) v) : ∃ A c, v = .slice A l.length c ∧ l.length ≤ maxLen := by
  cases h with
  | intro _ A c us hc hm hu hrow hk => exact ⟨A, c, rfl, Nat.le_trans hc hm⟩
/-- One of a kind's own. -/
theorem KAt.at {P : Nat → Prop} {w : World} {l : List K} {A : Option Addr} {n c : Nat} (h : KAt P w (.mk l) (.slice A n c)) (i : Nat) (hi : i < l.length) : ∃ b off u, A = some ⟨b, off, none⟩ ∧ b < w.heap.size ∧ w.cell? ⟨b, off + i, none⟩ = some u ∧ KAt P w l[i] u := by
  cases h with
  | intro _ _ _ us hc hm hu hrow hk =>
    rcases hrow with h0 | ⟨b, off, e, _, hlt, hcell⟩
    · rw [h0] at hi; simp at hi
    · exact ⟨b, off, _, e, hlt, hcell i (by omega), hk i hi⟩
theorem kat_nil (P : Nat → Prop) (w : World) (A : Option Addr) (c : Nat) (hm : c ≤ maxLen) : KAt P w (.mk []) (.slice A 0 c) :=
  .intro [] A c [] (Nat.zero_le _) hm rfl (.inl rfl) (fun _ h => absurd h (Nat.not_lt_zero _))
noncomputable def eqK (a b : K) : Bool := @decide (a = b) (Classical.propDecidable _)
theorem eqK_true {a b : K} (h : a = b) : eqK a b = true := by unfold eqK; exact @decide_eq_true _ (Classical.propDecidable _) h
theorem eqK_false {a b : K} (h : a ≠ b) : eqK a b = false := by unfold eqK; exact @decide_eq_false _ (Classical.propDecidable _) h
theorem ret_bool {a b : Bool} (h : a = b) : Ending.returned (.bool a) = .returned (.bool b) := by rw [h]
theorem below_new (w : World) (o : Obj) : Below w.heap.size w (w.alloc o) := (Below.refl _ _).alloc (Nat.le_refl _) _
theorem sz_get {l : List K} {n i : Nat} (h : K.sz (.mk l) ≤ n + 1) (hi : i < l.length) : K.sz l[i] ≤ n := by
  rw [K.sz_mk] at h
  have : K.sz l[i] ≤ (l.map K.sz).sum := by
    have h9 : ∀ (l : List K) (i : Nat) (hi : i < l.length), K.sz l[i] ≤ (l.map K.sz).sum := by
      intro l
      induction l with
      | nil => intro i hi; simp at hi
      | cons x r ih =>
        intro i hi
        cases i with
        | zero => simp
        | succ i => have := ih i (by simpa using hi); simp at *; omega
    exact h9 l i hi
  omega

set_option maxRecDepth 100000 in
set_option maxHeartbeats 1000000 in
theorem refsame_any (P Q : Nat → Prop) : ∀ (n : Nat) (a b : K) (v1 v2 : Value) (w : World), K.sz a ≤ n → KAt P w a v1 → KAt Q w b v2 →
    Calls Try.prog 14 #[.agg #[v1], .agg #[v2]] w fun e w' => e = .returned (.bool (eqK a b)) ∧ Below w.heap.size w w'
  | 0, .mk l, _, _, _, _, hn, _, _ => by rw [K.sz_mk] at hn; omega
  | n + 1, .mk l, .mk r, v1, v2, w, hn, h1, h2 => by
    obtain ⟨A1, c1, rfl, hm1⟩ := h1.form
    obtain ⟨A2, c2, rfl, hm2⟩ := h2.form
    unfold maxLen at hm1 hm2
    have H1 := Lib.hid h1
    have H2 := Lib.hid h2
    have IH := Lib.hid (refsame_any P Q n)
    have HN := Lib.hid (fun i (h : i < l.length) => sz_get hn h)
    clear h1 h2 hn
    by_cases hlen : l.length = r.length
    · have hne : ((l.length : Int) != (r.length : Int)) = false := by simp; omega
      have HLEN := Lib.hid hlen
      clear hlen
      go_enter Try.func14, Try.ntmps14
      go_wp2_with fail
      clear hne
      have hb0 : Below w.heap.size w ((w.alloc (.cells #[.slice A1 l.length c1] 25)).alloc (.cells #[.slice A2 r.length c2] 25)) := (below_new w _).trans ((below_new _ _).mono (by simp))
      have hz0 : ((w.alloc (.cells #[.slice A1 l.length c1] 25)).alloc (.cells #[.slice A2 r.length c2] 25)).heap.size = w.heap.size + 2 := by simp
      have hx0 : ((w.alloc (.cells #[.slice A1 l.length c1] 25)).alloc (.cells #[.slice A2 r.length c2] 25)).cell? ⟨w.heap.size, 0, none⟩ = some (.slice A1 l.length c1) := by simp [go_sem]
      have hx1 : ((w.alloc (.cells #[.slice A1 l.length c1] 25)).alloc (.cells #[.slice A2 r.length c2] 25)).cell? ⟨w.heap.size + 1, 0, none⟩ = some (.slice A2 r.length c2) := by simp [go_sem]
      generalize (w.alloc (.cells #[.slice A1 l.length c1] 25)).alloc (.cells #[.slice A2 r.length c2] 25) = w0 at *
      have HB0 := Lib.hid hb0
      have HZ0 := Lib.hid hz0
      have HX0 := Lib.hid hx0
      have HX1 := Lib.hid hx1
      clear hb0 hz0 hx0 hx1
      go_loopw [5, 6] (fun i _ wr => ∃ k : Nat, k ≤ l.length ∧ i = .int .i64 k ∧ Hid (∀ j (h : j < l.length) (h' : j < r.length), j < k → l[j] = r[j]) ∧ Below w0.heap.size w0 wr) (fun i _ _ => l.length - (intOf i).toNat)
      case atStart => exact ⟨0, Nat.zero_le _, rfl, fun j _ _ h => absurd h (Nat.not_lt_zero _), Below.refl _ _⟩
      case round =>
        obtain ⟨k, hk, rfl, heq, hb⟩ := hrel
        have hzr := hb.size
        have z0 : w.heap.size < w0.heap.size := by have := HZ0.out; omega
        have z1 : w.heap.size + 1 < w0.heap.size := by have := HZ0.out; omega
        have y0 := (hb.cell (p := ⟨w.heap.size, 0, none⟩) z0).trans HX0.out
        have y1 := (hb.cell (p := ⟨w.heap.size + 1, 0, none⟩) z1).trans HX1.out
        have HB := Lib.hid hb
        clear hb
        by_cases hlt : k < l.length
        · have hlr : k < r.length := by rw [← HLEN.out]; exact hlt
          obtain ⟨b1, o1, u1, e1, hb1, cu1, ku1⟩ := ((H1.out.on HB0.out).on HB.out).at k hlt
          obtain ⟨b2, o2, u2, e2, hb2, cu2, ku2⟩ := ((H2.out.on HB0.out).on HB.out).at k hlr
          subst e1 e2
          have KU1 := Lib.hid ku1
          have KU2 := Lib.hid ku2
          have hki : (k : Int) < (l.length : Int) := by omega
          have hkj : (k : Int) < (r.length : Int) := by omega
          have hk0 : (0 : Int) ≤ (k : Int) := by omega
          have HSZ := Lib.hid (HN.out k hlt)
          clear ku1 ku2
          go_wp2_with fail
          go_still_tail 10, (by kernel_rfl)
          go_wp2_with fail
          refine (IH.out _ _ _ _ _ HSZ.out (KU1.out.on (Below.refl _ _).drew) (KU2.out.on (Below.refl _ _).drew)).mono ?_
          rintro e w1 ⟨rfl, b1'⟩
          have HB1 : Hid (Below w0.heap.size w0 w1) := HB.out.drew.trans (b1'.mono hzr)
          clear b1'
          by_cases he : l[k] = r[k]
          · rw [eqK_true he]
            have HR : Hid (∀ j (h : j < l.length) (h' : j < r.length), j < k + 1 → l[j] = r[j]) := fun j h h' hj => by
              by_cases hjk : j = k
              · subst hjk; exact he
              · exact heq.out j h h' (by omega)
            clear he
            go_wp2
            go_roundw
            case rel => exact ⟨k + 1, by omega, by go_num, HR, HB1.out⟩
            case measure => simp [intOf]; omega
          · rw [eqK_false he]
            have HE : Hid (eqK (.mk l) (.mk r) = false) := eqK_false (fun h9 => by injection h9 with h9; subst h9; exact he rfl)
            clear he
            go_wp2
            go_ret
            exact ⟨ret_bool HE.out.symm, HB0.out.trans (HB1.out.mono (by have := HZ0.out; omega))⟩
        · have hd : decide (k < l.length) = false := by simpa using hlt
          have HE : Hid (eqK (.mk l) (.mk r) = true) := eqK_true (congrArg K.mk (List.ext_getElem HLEN.out (fun j h h' => heq.out j h h' (by omega))))
          go_wp2
          go_ret
          exact ⟨ret_bool HE.out.symm, HB0.out.trans (HB.out.mono (by have := HZ0.out; omega))⟩
    · have hne : ((l.length : Int) != (r.length : Int)) = true := by rw [bne_iff_ne]; omega
      have HE : Hid (eqK (.mk l) (.mk r) = false) := eqK_false (fun h9 => by injection h9 with h9; exact hlen (congrArg List.length h9))
      clear hlen
      go_enter Try.func14, Try.ntmps14
      go_wp2
      go_ret
      exact ⟨ret_bool HE.out.symm, (below_new w _).trans ((below_new _ _).mono (by simp))⟩
end Go.Proofs.Ytomhojpoaicioaa
