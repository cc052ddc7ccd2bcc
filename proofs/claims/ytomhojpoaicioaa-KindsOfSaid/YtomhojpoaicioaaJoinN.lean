/- Plain mathematics of chapter 3: what join makes known of two roots. No program, no world. -/
import Derived.Test.YtomhojpoaicioaaJoinM
namespace Go.Proofs.Ytomhojpoaicioaa
open Tm

/-- Is one greater than another one, as numbers without a sign? -/
def gtU (a b : Int) : Bool := if a < 0 then (if b < 0 then decide (b < a) else true) else (if b < 0 then false else decide (b < a))
def jv (s : KS) (a b : Int) : KS :=
  match s.kn a with
  | none => match s.kn b with
    | some y => (s.learn a y).learn b (.var a)
    | none => s.learn b (.var a)
  | some _ => s.learn b (.var a)
def joinVarsF (s : KS) (a b : Int) : KS := if gtU a b then jv s b a else jv s a b
def joinT (s : KS) (m : Int) (t : Tz) : KS :=
  match s.kn m with
  | none => (flatF t s).2.learn m (flatF t s).1
  | some _ => s
def joinF (s : KS) : Tz → Tz → KS
  | .var m, .var n => joinVarsF s m n
  | .var m, .star => joinT s m .star
  | .var m, .arr x y => joinT s m (.arr x y)
  | .star, .var n => joinT s n .star
  | .arr x y, .var n => joinT s n (.arr x y)
  | .star, .star => s
  | .star, .arr _ _ => s
  | .arr _ _, .star => s
  | .arr _ _, .arr _ _ => s
def joinS (σ : Sb) : Tm → Tm → Sb
  | .var m, .var n => if m < n then bindS σ n (.var m) else bindS σ m (.var n)
  | .var m, .star => bindS σ m .star
  | .var m, .arr x y => bindS σ m (.arr x y)
  | .star, .var n => bindS σ n .star
  | .arr x y, .var n => bindS σ n (.arr x y)
  | .star, .star => σ
  | .star, .arr _ _ => σ
  | .arr _ _, .star => σ
  | .arr _ _, .arr _ _ => σ
def OkJ : Tm → Tm → Prop
  | .var _, .var _ => True
  | .var _, .star => True
  | .var m, .arr x y => (Tm.arr x y).occ m = false
  | .star, .var _ => True
  | .arr x y, .var n => (Tm.arr x y).occ n = false
  | .star, .star => True
  | .star, .arr _ _ => False
  | .arr _ _, .star => False
  | .arr x y, .arr z u => Tm.arr x y = .arr z u
def RootT (kn : Kn) (t : Tz) : Prop := ∀ n m, t = .var n → kn n ≠ some (.var m)
theorem den_free {kn : Kn} {t : Tz} {T : Tm} (h : Den kn t T) : ∀ j, T = .var j → kn j = none := by
  induction h with
  | free n _ h => intro j e; injection e with e; subst e; exact h
  | bound _ _ _ _ _ ih => exact ih
  | star => intro j e; cases e
  | arr _ _ _ _ _ _ => intro j e; cases e
theorem den_var {kn : Kn} {n : Int} {T : Tm} (h : Den kn (.var n) T) : (kn n = none ∧ ∃ m : Nat, 1 ≤ m ∧ n = m ∧ T = .var m) ∨ ∃ t, kn n = some t ∧ Den kn t T := by
  generalize hx : Tz.var n = x at h
  cases h with
  | free m h1 h2 => injection hx with hx; subst hx; exact .inl ⟨h2, m, h1, rfl, rfl⟩
  | bound m t _ h1 h2 => injection hx with hx; subst hx; exact .inr ⟨t, h1, h2⟩
  | star => cases hx
  | arr => cases hx
theorem den_nonvar {kn : Kn} {t : Tz} {T : Tm} (h : Den kn t T) (hv : ∀ n, t ≠ .var n) : ∀ n, T ≠ .var n := by
  cases h with
  | free n _ _ => exact absurd rfl (hv n)
  | bound n _ _ _ _ => exact absurd rfl (hv n)
  | star => intro n e; cases e
  | arr => intro n e; cases e
/-- A root: unknown, known to be no variable, or no variable. -/
theorem root_cases {kn : Kn} {a : Tz} {A : Tm} (hr : RootT kn a) (hd : Den kn a A) :
    (∃ m : Nat, 1 ≤ m ∧ a = .var m ∧ kn m = none ∧ A = .var m) ∨ (∃ i t, a = .var i ∧ kn i = some t ∧ (∀ n, t ≠ .var n) ∧ Den kn t A ∧ ∀ n, A ≠ .var n) ∨ ((∀ n, a ≠ .var n) ∧ ∀ n, A ≠ .var n) := by
  cases a with
  | var n =>
    rcases den_var hd with ⟨h1, m, hm, rfl, rfl⟩ | ⟨t, h1, h2⟩
    · exact .inl ⟨m, hm, rfl, h1, rfl⟩
    · have hv : ∀ m, t ≠ .var m := fun m e => hr n m rfl (by rw [h1, e])
      exact .inr (.inl ⟨n, t, rfl, h1, hv, h2, den_nonvar h2 hv⟩)
  | star => exact .inr (.inr ⟨(fun n e => by cases e), den_nonvar hd (fun n e => by cases e)⟩)
  | arr x y => exact .inr (.inr ⟨(fun n e => by cases e), den_nonvar hd (fun n e => by cases e)⟩)
theorem rng {N M : Nat} {s : KS} {σ : Sb} (hi : Inv N s σ) (hM : s.sz ≤ M) {i : Int} (hk : s.kn i ≠ none) : -(M : Int) ≤ i ∧ i ≤ N := by
  by_cases h : i < 0
  · have := hi.inn i h hk; omega
  · refine ⟨by omega, ?_⟩
    by_cases h2 : i ≤ N
    · exact h2
    · exfalso
      obtain ⟨n, rfl⟩ : ∃ n : Nat, i = n := ⟨i.toNat, by omega⟩
      have h9 := hi.st.den n (by omega)
      rw [hi.inv.1 n (by omega)] at h9
      exact hk (den_free h9 n rfl)

/-- One of nothing known with one that is known. -/
theorem jv_ub {N M : Nat} {s : KS} {σ : Sb} (hi : Inv N s σ) (hM : s.sz ≤ M) {m : Nat} (hm1 : 1 ≤ m) (hmN : m ≤ N) (hm : s.kn m = none) {i : Int} {t : Tz} {B : Tm} (ht : s.kn i = some t) (hv : ∀ n, t ≠ .var n) (hd : Den s.kn t B) (ho : B.occ m = false) (hB : VarsTo N B) :
    Move N M 0 s (jv s m i) σ (bindS σ m B) := by
  have e : jv s m i = (s.learn m t).learn i (.var m) := by unfold jv; rw [hm, ht]
  rw [e]
  have hne : (m : Int) ≠ i := fun e => by rw [e, ht] at hm; cases hm
  have m1 := move_bind (M := M) hi hm1 hmN hm hd ho hB (fun a b e => hi.flat i a b (by rw [ht, e]))
  have hsn : σ m = var m := (hi.st.den m hm1).det (.free m hm1 hm)
  have hfix := (bind_makes (hi.st.fix hd) hsn ho).2
  have hki : (s.learn m t).kn i = some t := by rw [learn_kn, setK_ne _ _ (fun e => hne e.symm)]; exact ht
  have hdi := m1.den (.bound i t B ht hd)
  rw [hfix] at hdi
  have hr := rng hi hM (i := i) (by rw [ht]; simp)
  have hdm : Den (s.learn m t).kn (.var m) B := .bound m t B (setK_self _ _ _) (hd.avoid hm _ ho)
  have m2 := move_join (M := M) m1.inv hne (show (s.learn m t).kn m = some t from setK_self _ _ _) hv hdm hdi (by rw [hki]; simp) (by unfold rootB; rw [hki]; cases t with | var n => exact absurd rfl (hv n) | star => rfl | arr => rfl) hr.1 hr.2
  exact m1.trans m2
theorem jv_bu {N M : Nat} {s : KS} {σ : Sb} (hi : Inv N s σ) {m : Nat} (hm1 : 1 ≤ m) (hmN : m ≤ N) (hm : s.kn m = none) {i : Int} {t : Tz} {B : Tm} (ht : s.kn i = some t) (hd : Den s.kn t B) (ho : B.occ m = false) (hB : VarsTo N B) :
    Move N M 0 s (jv s i m) σ (bindS σ m B) := by
  have e : jv s i m = s.learn m (.var i) := by unfold jv; rw [ht]
  rw [e]
  exact move_bind hi hm1 hmN hm (.bound i t B ht hd) ho hB (fun a b e => by cases e)
theorem jv_bb {N M : Nat} {s : KS} {σ : Sb} (hi : Inv N s σ) (hM : s.sz ≤ M) {i j : Int} {t u : Tz} {B : Tm} (ht : s.kn i = some t) (hv : ∀ n, t ≠ .var n) (hd : Den s.kn t B) (hu : s.kn j = some u) (hw : ∀ n, u ≠ .var n) (he : Den s.kn u B) (hne : i ≠ j) :
    Move N M 0 s (jv s i j) σ σ := by
  have e : jv s i j = s.learn j (.var i) := by unfold jv; rw [ht]
  rw [e]
  have hr := rng hi hM (i := j) (by rw [hu]; simp)
  exact move_join hi hne ht hv (.bound i t B ht hd) (.bound j u B hu he) (by rw [hu]; simp) (by unfold rootB; rw [hu]; cases u with | var n => exact absurd rfl (hw n) | star => rfl | arr => rfl) hr.1 hr.2
theorem joinT_u {N M : Nat} {s : KS} {σ : Sb} (hi : Inv N s σ) {m : Nat} (hm1 : 1 ≤ m) (hmN : m ≤ N) (hm : s.kn m = none) {t : Tz} {B : Tm} (hd : Den s.kn t B) (ho : B.occ m = false) (hB : VarsTo N B) :
    Move N M (arrows t) s (joinT s m t) σ (bindS σ m B) := by
  have e : joinT s m t = (flatF t s).2.learn m (flatF t s).1 := by unfold joinT; rw [hm]
  rw [e]
  have m1 := move_flat (M := M) hi hd
  obtain ⟨g, d⟩ := flatF_ok t s hi.inn
  exact m1.trans (move_bind m1.inv hm1 hmN (by rw [g.old m (by omega)]; exact hm) (d B hd) ho hB (flatF_flat t s))
theorem joinT_b {N M : Nat} {s : KS} {σ : Sb} (hi : Inv N s σ) {i : Int} {u t : Tz} (hu : s.kn i = some u) : Move N M (arrows t) s (joinT s i t) σ σ := by
  have e : joinT s i t = s := by unfold joinT; rw [hu]
  rw [e]
  exact (Move.refl hi).more (Nat.zero_le _)
theorem joinF_var {s : KS} {m : Int} {t : Tz} (h : ∀ n, t ≠ .var n) : joinF s (.var m) t = joinT s m t := by
  cases t with
  | var n => exact absurd rfl (h n)
  | star => rfl
  | arr => rfl
theorem joinF_to {s : KS} {m : Int} {t : Tz} (h : ∀ n, t ≠ .var n) : joinF s t (.var m) = joinT s m t := by
  cases t with
  | var n => exact absurd rfl (h n)
  | star => rfl
  | arr => rfl
theorem joinF_no {s : KS} {t u : Tz} (h : ∀ n, t ≠ .var n) (h' : ∀ n, u ≠ .var n) : joinF s t u = s := by
  cases t with
  | var n => exact absurd rfl (h n)
  | star => cases u with
    | var n => exact absurd rfl (h' n)
    | star => rfl
    | arr => rfl
  | arr => cases u with
    | var n => exact absurd rfl (h' n)
    | star => rfl
    | arr => rfl
theorem joinS_var {σ : Sb} {m : Nat} {t : Tm} (h : ∀ n, t ≠ .var n) : joinS σ (.var m) t = bindS σ m t := by
  cases t with
  | var n => exact absurd rfl (h n)
  | star => rfl
  | arr => rfl
theorem joinS_to {σ : Sb} {m : Nat} {t : Tm} (h : ∀ n, t ≠ .var n) : joinS σ t (.var m) = bindS σ m t := by
  cases t with
  | var n => exact absurd rfl (h n)
  | star => rfl
  | arr => rfl
theorem okJ_var {m : Nat} {t : Tm} (h : ∀ n, t ≠ .var n) (hk : OkJ (.var m) t) : t.occ m = false := by
  cases t with
  | var n => exact absurd rfl (h n)
  | star => rfl
  | arr => exact hk
theorem okJ_to {m : Nat} {t : Tm} (h : ∀ n, t ≠ .var n) (hk : OkJ t (.var m)) : t.occ m = false := by
  cases t with
  | var n => exact absurd rfl (h n)
  | star => rfl
  | arr => exact hk
theorem okJ_no {t u : Tm} (h : ∀ n, t ≠ .var n) (h' : ∀ n, u ≠ .var n) (hk : OkJ t u) (σ : Sb) : t = u ∧ joinS σ t u = σ := by
  cases t with
  | var n => exact absurd rfl (h n)
  | star => cases u with
    | var n => exact absurd rfl (h' n)
    | star => exact ⟨rfl, rfl⟩
    | arr => exact absurd hk id
  | arr => cases u with
    | var n => exact absurd rfl (h' n)
    | star => exact absurd hk id
    | arr => exact ⟨hk, rfl⟩
theorem gtU_nat (m n : Nat) : gtU m n = decide (n < m) := by
  unfold gtU
  rw [if_neg (by omega), if_neg (by omega)]
  exact decide_eq_decide.2 (by omega)
theorem joinF_move {N M : Nat} {s : KS} {σ : Sb} {a b : Tz} {A B : Tm} (hi : Inv N s σ) (hM : s.sz ≤ M) (hra : RootT s.kn a) (hrb : RootT s.kn b) (hda : Den s.kn a A) (hdb : Den s.kn b B) (hne : ∀ n, a = .var n → b ≠ .var n) (hA : VarsTo N A) (hB : VarsTo N B) (hk : OkJ A B) :
    Move N M (arrows a + arrows b) s (joinF s a b) σ (joinS σ A B) := by
  rcases root_cases hra hda with ⟨m, hm1, rfl, hm, rfl⟩ | ⟨i, t, rfl, ht, hv, hdt, hAv⟩ | ⟨hav, hAv⟩
  · have hmN : m ≤ N := hA m (by simp [occ])
    rcases root_cases hrb hdb with ⟨n, hn1, rfl, hn, rfl⟩ | ⟨j, u, rfl, hu, hw, hdu, hBv⟩ | ⟨hbv, hBv⟩
    · have hnN : n ≤ N := hB n (by simp [occ])
      have hmn : m ≠ n := fun e => hne m rfl (by rw [e])
      show Move N M 0 s (joinVarsF s m n) σ (if m < n then bindS σ n (.var m) else bindS σ m (.var n))
      unfold joinVarsF
      rw [gtU_nat]
      by_cases h : m < n
      · rw [if_pos h, if_neg (by simp; omega)]
        have e : jv s m n = s.learn n (.var m) := by unfold jv; rw [hm, hn]
        rw [e]
        exact move_bind hi hn1 hnN hn (.free m hm1 hm) (by simp only [occ]; rw [beq_eq_false_iff_ne]; omega) hA (fun a b e => by cases e)
      · rw [if_neg h, if_pos (by simp; omega)]
        have e : jv s n m = s.learn m (.var n) := by unfold jv; rw [hm, hn]
        rw [e]
        exact move_bind hi hm1 hmN hm (.free n hn1 hn) (by simp only [occ]; rw [beq_eq_false_iff_ne]; omega) hB (fun a b e => by cases e)
    · rw [joinS_var hBv]
      have ho := okJ_var hBv hk
      show Move N M 0 s (joinVarsF s m j) σ _
      unfold joinVarsF
      split
      · exact jv_bu hi hm1 hmN hm hu hdu ho hB
      · exact jv_ub hi hM hm1 hmN hm hu hw hdu ho hB
    · rw [joinS_var hBv, joinF_var hbv]
      exact (joinT_u hi hm1 hmN hm hdb (okJ_var hBv hk) hB).more (Nat.le_add_left _ _)
  · rcases root_cases hrb hdb with ⟨n, hn1, rfl, hn, rfl⟩ | ⟨j, u, rfl, hu, hw, hdu, hBv⟩ | ⟨hbv, hBv⟩
    · have hnN : n ≤ N := hB n (by simp [occ])
      rw [joinS_to hAv]
      have ho := okJ_to hAv hk
      show Move N M 0 s (joinVarsF s i n) σ _
      unfold joinVarsF
      split
      · exact jv_ub hi hM hn1 hnN hn ht hv hdt ho hA
      · exact jv_bu hi hn1 hnN hn ht hdt ho hA
    · obtain ⟨rfl, e⟩ := okJ_no hAv hBv hk σ
      rw [e]
      have hij : i ≠ j := fun e => hne i rfl (by rw [e])
      show Move N M 0 s (joinVarsF s i j) σ _
      unfold joinVarsF
      split
      · exact jv_bb hi hM hu hw hdu ht hv hdt (fun e => hij e.symm)
      · exact jv_bb hi hM ht hv hdt hu hw hdu hij
    · obtain ⟨rfl, e⟩ := okJ_no hAv hBv hk σ
      rw [e, joinF_var hbv]
      exact (joinT_b hi ht).more (Nat.le_add_left _ _)
  · rcases root_cases hrb hdb with ⟨n, hn1, rfl, hn, rfl⟩ | ⟨j, u, rfl, hu, hw, hdu, hBv⟩ | ⟨hbv, hBv⟩
    · have hnN : n ≤ N := hB n (by simp [occ])
      rw [joinS_to hAv, joinF_to hav]
      exact (joinT_u hi hn1 hnN hn hda (okJ_to hAv hk) hA).more (Nat.le_add_right _ _)
    · obtain ⟨rfl, e⟩ := okJ_no hAv hBv hk σ
      rw [e, joinF_to hav]
      exact (joinT_b hi hu).more (Nat.le_add_right _ _)
    · obtain ⟨rfl, e⟩ := okJ_no hAv hBv hk σ
      rw [e, joinF_no hav hbv]
      exact (Move.refl hi).more (Nat.zero_le _)
end Go.Proofs.Ytomhojpoaicioaa
