/- Plain mathematics of chapter 3: one step of making terms one, and which of what is known stays. No program, no world. -/
import Derived.Test.YtomhojpoaicioaaJoinN
namespace Go.Proofs.Ytomhojpoaicioaa
open Tm

theorem unif_same : ∀ (f : Nat) (σ : Sb) (A B : Tm), Idem σ → A.sub σ = B.sub σ → unif f σ A B ≠ .error 99 → unif f σ A B = .ok σ
  | 0, _, _, _, _, _, h => absurd rfl h
  | f + 1, σ, A, B, hi, e, h => by
    have hf := fix_of_sub hi (rfl : A.sub σ = A.sub σ)
    unfold unif at h ⊢
    rw [← e] at h ⊢
    cases ha : A.sub σ with
    | var m => rw [ha] at h; simp
    | star => rfl
    | arr a1 a2 =>
      rw [ha] at h hf
      have h1 : a1.sub σ = a1 := by simp only [Tm.sub] at hf; injection hf
      have h2 : a2.sub σ = a2 := by simp only [Tm.sub] at hf; injection hf
      simp only at h ⊢
      by_cases e1 : unif f σ a1 a1 = .error 99
      · rw [e1] at h; exact absurd rfl h
      · have r1 := unif_same f σ a1 a1 hi rfl e1
        rw [r1] at h ⊢
        simp only at h ⊢
        exact unif_same f σ a2 a2 hi rfl h
theorem unif_vars {f : Nat} {σ : Sb} {A B : Tm} {m n : Nat} (ea : A.sub σ = .var m) (eb : B.sub σ = .var n) (hne : m ≠ n) : unif (f + 1) σ A B = .ok (joinS σ (.var m) (.var n)) := by
  unfold unif
  rw [ea, eb]
  simp only [joinS]
  rw [if_neg hne]
  by_cases h : m < n
  · rw [if_pos h, if_pos h]; unfold bindT; rw [if_neg (by simp [occ]; omega)]
  · rw [if_neg h, if_neg h]; unfold bindT; rw [if_neg (by simp [occ]; omega)]
theorem unif_var {f : Nat} {σ : Sb} {A B : Tm} {m : Nat} (ea : A.sub σ = .var m) (hB : ∀ n, B.sub σ ≠ .var n) : unif (f + 1) σ A B = if (B.sub σ).occ m then .error 32 else .ok (joinS σ (.var m) (B.sub σ)) := by
  rw [joinS_var hB]
  unfold unif
  rw [ea]
  cases eb : B.sub σ with
  | var n => exact absurd eb (hB n)
  | star => rfl
  | arr x y => rfl
theorem unif_to {f : Nat} {σ : Sb} {A B : Tm} {n : Nat} (eb : B.sub σ = .var n) (hA : ∀ m, A.sub σ ≠ .var m) : unif (f + 1) σ A B = if (A.sub σ).occ n then .error 32 else .ok (joinS σ (A.sub σ) (.var n)) := by
  rw [joinS_to hA]
  unfold unif
  rw [eb]
  cases ea : A.sub σ with
  | var m => exact absurd ea (hA m)
  | star => rfl
  | arr x y => rfl
theorem okJ_of_var {m : Nat} {B : Tm} (h : B.occ m = false) : OkJ (.var m) B := by
  cases B with
  | var n => trivial
  | star => trivial
  | arr x y => exact h
theorem okJ_of_to {m : Nat} {B : Tm} (h : B.occ m = false) : OkJ B (.var m) := by
  cases B with
  | var n => trivial
  | star => trivial
  | arr x y => exact h
theorem okJ_refl (B : Tm) : OkJ B B := by
  cases B with
  | var n => trivial
  | star => trivial
  | arr x y => exact rfl
/-- What a root is known to be. -/
def lookV (kn : Kn) (i : Int) : Tz := match kn i with | none => .var i | some t => t
def lookZ (kn : Kn) : Tz → Tz
  | .var i => lookV kn i
  | .star => .star
  | .arr x y => .arr x y
theorem lookZ_none {kn : Kn} {i : Int} (h : kn i = none) : lookZ kn (.var i) = .var i := by show lookV kn i = _; unfold lookV; rw [h]
theorem lookZ_some {kn : Kn} {i : Int} {t : Tz} (h : kn i = some t) : lookZ kn (.var i) = t := by show lookV kn i = _; unfold lookV; rw [h]
theorem lookZ_chain {kn : Kn} {t : Tz} (h : RootT kn t) : ∃ k, Chain kn k t (lookZ kn t) := by
  cases t with
  | var a =>
    cases e : kn a with
    | none => rw [lookZ_none e]; exact ⟨0, rfl, fun n h => by injection h with h; rw [← h]; exact e⟩
    | some t => rw [lookZ_some e]; exact ⟨1, a, t, rfl, e, rfl, fun n h9 => absurd (by rw [e, h9]) (h a n rfl)⟩
  | star => exact ⟨0, rfl, fun n h => by cases h⟩
  | arr x y => exact ⟨0, rfl, fun n h => by cases h⟩
theorem lookZ_den {kn : Kn} {t : Tz} {T : Tm} (hd : Den kn t T) : Den kn (lookZ kn t) T := by
  cases t with
  | var a =>
    rcases den_var hd with ⟨h1, _⟩ | ⟨t, h1, h2⟩
    · rw [lookZ_none h1]; exact hd
    · rw [lookZ_some h1]; exact h2
  | star => exact hd
  | arr x y => exact hd
theorem lookZ_arrows {N : Nat} {s : KS} {σ : Sb} (hi : Inv N s σ) {t x y : Tz} (h : lookZ s.kn t = .arr x y) : arrows x + arrows y ≤ arrows t := by
  cases t with
  | var a =>
    cases e : s.kn a with
    | none => rw [lookZ_none e] at h; cases h
    | some t =>
      rw [lookZ_some e] at h
      have := hi.flat a x y (by rw [e, h])
      omega
  | star => cases h
  | arr p q =>
    have h' : Tz.arr p q = .arr x y := h
    injection h' with h1 h2
    subst h1 h2
    show _ ≤ arrows _ + arrows _ + 1
    omega
theorem rchain_arrows {kn : Kn} : ∀ {k : Nat} {t r : Tz}, RChain kn k t r → arrows r ≤ arrows t
  | 0, _, _, h => by obtain ⟨rfl, _⟩ := h; exact Nat.le_refl _
  | k + 1, _, _, h => by
    obtain ⟨n, m, rfl, _, h⟩ := h
    have := rchain_arrows h
    exact this
theorem RChain.root {kn : Kn} {k : Nat} {t r : Tz} (h : RChain kn k t r) : RootT kn r := fun n m e => h.end n m e
/-- flat leaves alone what is known. -/
theorem name_entry {r : Tz × KS} {y : Int} (hi : Inn r.2) (hy : r.2.kn y ≠ none) : (nameF r).2.kn y = r.2.kn y := by
  obtain ⟨t, s⟩ := r
  cases t with
  | var n => rfl
  | star => rfl
  | arr a b =>
    have hn := inn_new hi
    have hne : y ≠ -1 - (s.sz : Int) := fun e => hy (by rw [e]; exact hn)
    show setK s.kn _ _ y = _
    exact setK_ne _ _ hne
theorem flat_entry : ∀ (x : Tz) (s : KS), Inn s → ∀ y, s.kn y ≠ none → (flatF x s).2.kn y = s.kn y
  | .var n, s, _, y, _ => rfl
  | .star, s, _, y, _ => rfl
  | .arr a b, s, h, y, hy => by
    obtain ⟨ga, _⟩ := flatF_ok a s h
    have ea := flat_entry a s h y hy
    have ea' := name_entry ga.inn (r := flatF a s) (y := y) (by rw [ea]; exact hy)
    have gn := (nameF_ok ga).1
    have eb := flat_entry b (nameF (flatF a s)).2 gn.inn y (by rw [ea', ea]; exact hy)
    obtain ⟨gb, _⟩ := flatF_ok b (nameF (flatF a s)).2 gn.inn
    have eb' := name_entry gb.inn (r := flatF b (nameF (flatF a s)).2) (y := y) (by rw [eb, ea', ea]; exact hy)
    show (nameF (flatF b (nameF (flatF a s)).2)).2.kn y = _
    rw [eb', eb, ea', ea]
theorem learn_entry (s : KS) (n : Int) (t : Tz) (y : Int) : (s.learn n t).kn y = s.kn y ∨ y = n := by
  by_cases e : y = n
  · exact .inr e
  · exact .inl (setK_ne _ _ e)
theorem jv_entry (s : KS) (a b y : Int) : (jv s a b).kn y = s.kn y ∨ y = a ∨ y = b := by
  unfold jv
  split
  · split
    · rename_i t _
      rcases learn_entry (s.learn a t) b (.var a) y with h | h
      · rcases learn_entry s a t y with h2 | h2
        · exact .inl (h.trans h2)
        · exact .inr (.inl h2)
      · exact .inr (.inr h)
    · rcases learn_entry s b (.var a) y with h | h
      · exact .inl h
      · exact .inr (.inr h)
  · rcases learn_entry s b (.var a) y with h | h
    · exact .inl h
    · exact .inr (.inr h)
theorem joinVars_entry (s : KS) (a b y : Int) : (joinVarsF s a b).kn y = s.kn y ∨ y = a ∨ y = b := by
  unfold joinVarsF
  split
  · rcases jv_entry s b a y with h | h | h
    · exact .inl h
    · exact .inr (.inr h)
    · exact .inr (.inl h)
  · exact jv_entry s a b y
theorem joinT_entry {s : KS} (hi : Inn s) (m : Int) (t : Tz) (y : Int) (hy : s.kn y ≠ none) : (joinT s m t).kn y = s.kn y ∨ y = m := by
  unfold joinT
  split
  · rcases learn_entry (flatF t s).2 m (flatF t s).1 y with h | h
    · exact .inl (h.trans (flat_entry t s hi y hy))
    · exact .inr h
  · exact .inl rfl
theorem joinT_old {s : KS} (hi : Inn s) (m : Int) (t : Tz) (y : Int) (hy : 0 ≤ y) : (joinT s m t).kn y = s.kn y ∨ y = m := by
  unfold joinT
  split
  · rcases learn_entry (flatF t s).2 m (flatF t s).1 y with h | h
    · exact .inl (h.trans ((flatF_ok t s hi).1.old y hy))
    · exact .inr h
  · exact .inl rfl
theorem joinT_den {s : KS} (hi : Inn s) (m : Int) (t : Tz) (y : Int) {U : Tm} (hd : Den s.kn (.var y) U) : (joinT s m t).kn y = s.kn y ∨ y = m := by
  rcases den_var hd with ⟨_, n, _, rfl, _⟩ | ⟨u, h, _⟩
  · exact joinT_old hi m t _ (by omega)
  · exact joinT_entry hi m t y (by rw [h]; simp)
theorem joinF_entry {s : KS} (hi : Inn s) (a b : Tz) (y : Int) {U : Tm} (hd : Den s.kn (.var y) U) : (joinF s a b).kn y = s.kn y ∨ a = .var y ∨ b = .var y := by
  cases a with
  | var m =>
    cases b with
    | var n =>
      rcases joinVars_entry s m n y with h | h | h
      · exact .inl h
      · exact .inr (.inl (by rw [h]))
      · exact .inr (.inr (by rw [h]))
    | star =>
      rcases joinT_den hi m .star y hd with h | h
      · exact .inl h
      · exact .inr (.inl (by rw [h]))
    | arr p q =>
      rcases joinT_den hi m (.arr p q) y hd with h | h
      · exact .inl h
      · exact .inr (.inl (by rw [h]))
  | star =>
    cases b with
    | var n =>
      rcases joinT_den hi n .star y hd with h | h
      · exact .inl h
      · exact .inr (.inr (by rw [h]))
    | star => exact .inl rfl
    | arr p q => exact .inl rfl
  | arr x z =>
    cases b with
    | var n =>
      rcases joinT_den hi n (.arr x z) y hd with h | h
      · exact .inl h
      · exact .inr (.inr (by rw [h]))
    | star => exact .inl rfl
    | arr p q => exact .inl rfl
/-- What is known of variables that stand for greater terms stays. -/
def Stays (s s' : KS) (σ' : Sb) (A : Tm) : Prop := ∀ θ, Ext θ σ' → ∀ (i : Int) (U : Tm), Den s.kn (.var i) U → (A.sub θ).size < (U.sub θ).size → s'.kn i = s.kn i
theorem stays_refl (s : KS) (σ : Sb) (A : Tm) : Stays s s σ A := fun _ _ _ _ _ _ => rfl
theorem stays_join {s : KS} {σ' : Sb} {a b : Tz} {A B : Tm} (hi : Inn s) (hda : Den s.kn a A) (hdb : Den s.kn b B) (hu : A.sub σ' = B.sub σ') : Stays s (joinF s a b) σ' A := fun θ he i U hd hs => by
  rcases joinF_entry hi a b i hd with h | rfl | rfl
  · exact h
  · rw [hd.det hda] at hs; omega
  · rw [hd.det hdb] at hs
    have : A.sub θ = B.sub θ := by rw [← ext_sub he A, ← ext_sub he B, hu]
    rw [this] at hs; omega
theorem stays_trans {s s1 s2 : KS} {σ1 σ2 : Sb} {A1 A2 A : Tm} {N M g : Nat} {σ : Sb} (hm : Move N M g s s1 σ σ1) (h1 : Stays s s1 σ1 A1) (h2 : Stays s1 s2 σ2 A2) (he : Ext σ2 σ1) (hA1 : ∀ θ, (A1.sub θ).size ≤ (A.sub θ).size) (hA2 : ∀ θ, (A2.sub θ).size ≤ (A.sub θ).size) : Stays s s2 σ2 A := fun θ hθ i U hd hs => by
  have e1 := h1 θ (ext_trans hθ he) i U hd (by have := hA1 θ; omega)
  have hd1 := hm.den hd
  have e2 := h2 θ hθ i (U.sub σ1) hd1 (by
    rw [ext_sub (ext_trans hθ he)]
    have := hA2 θ; omega)
  rw [e2, e1]
theorem stays_le {s s1 : KS} {σ1 : Sb} {A1 A : Tm} (h1 : Stays s s1 σ1 A1) (hA1 : ∀ θ, (A1.sub θ).size ≤ (A.sub θ).size) : Stays s s1 σ1 A := fun θ hθ i U hd hs => h1 θ hθ i U hd (by have := hA1 θ; omega)
end Go.Proofs.Ytomhojpoaicioaa
