/- Plain mathematics of chapter 3: two arrows that are made one. No program, no world. -/
import Derived.Test.YtomhojpoaicioaaUniM
namespace Go.Proofs.Ytomhojpoaicioaa
open Tm

/-- Two roots that are the same, and no variables nobody knows. -/
theorem joinF_same {N M : Nat} {s : KS} {σ : Sb} {a b : Tz} {A : Tm} (hi : Inv N s σ) (hM : s.sz ≤ M) (hra : RootT s.kn a) (hrb : RootT s.kn b) (hda : Den s.kn a A) (hdb : Den s.kn b A) (hne : ∀ n, a = .var n → b ≠ .var n) (hv : ∀ n, A ≠ .var n) : Move N M 0 s (joinF s a b) σ σ := by
  rcases root_cases hra hda with ⟨m, hm1, rfl, hm, rfl⟩ | ⟨i, t, rfl, ht, hv1, hdt, _⟩ | ⟨hav, _⟩
  · exact absurd rfl (hv m)
  · rcases root_cases hrb hdb with ⟨n, hn1, rfl, hn, rfl⟩ | ⟨j, u, rfl, hu, hw, hdu, _⟩ | ⟨hbv, _⟩
    · exact absurd rfl (hv n)
    · have hij : i ≠ j := fun e => hne i rfl (by rw [e])
      show Move N M 0 s (joinVarsF s i j) σ _
      unfold joinVarsF
      split
      · exact jv_bb hi hM hu hw hdu ht hv1 hdt (fun e => hij e.symm)
      · exact jv_bb hi hM ht hv1 hdt hu hw hdu hij
    · rw [joinF_var hbv]
      have e : joinT s i b = s := by unfold joinT; rw [ht]
      rw [e]; exact Move.refl hi
  · rcases root_cases hrb hdb with ⟨n, hn1, rfl, hn, rfl⟩ | ⟨j, u, rfl, hu, hw, hdu, _⟩ | ⟨hbv, _⟩
    · exact absurd rfl (hv n)
    · rw [joinF_to hav]
      have e : joinT s j a = s := by unfold joinT; rw [hu]
      rw [e]; exact Move.refl hi
    · rw [joinF_no hav hbv]; exact Move.refl hi
/-- What is known of variables that stand for terms as great stays. -/
def StaysLe (s s' : KS) (σ' : Sb) (A : Tm) : Prop := ∀ θ, Ext θ σ' → ∀ (i : Int) (U : Tm), Den s.kn (.var i) U → (A.sub θ).size ≤ (U.sub θ).size → s'.kn i = s.kn i
theorem stays_two {N M g : Nat} {s s1 s2 : KS} {σ σ1 σ2 : Sb} {a1 a2 : Tm} (hm : Move N M g s s1 σ σ1) (h1 : Stays s s1 σ1 a1) (h2 : Stays s1 s2 σ2 a2) (he : Ext σ2 σ1) : StaysLe s s2 σ2 (.arr a1 a2) := fun θ hθ i U hd hs => by
  have hsz : ((Tm.arr a1 a2).sub θ).size = (a1.sub θ).size + (a2.sub θ).size + 1 := by simp only [Tm.sub, Tm.size]
  rw [hsz] at hs
  have e1 := h1 θ (ext_trans hθ he) i U hd (by omega)
  have hd1 := hm.den hd
  have e2 := h2 θ hθ i (U.sub σ1) hd1 (by rw [ext_sub (ext_trans hθ he)]; omega)
  rw [e2, e1]
theorem root_stay {s s2 : KS} {σ2 : Sb} {A U : Tm} {ra : Tz} (h : StaysLe s s2 σ2 A) (hi : Idem σ2) (hr : RootT s.kn ra) (hd : Den s.kn ra U) (hs : (A.sub σ2).size ≤ (U.sub σ2).size) : RootT s2.kn ra := fun n m e => by
  subst e
  rw [h σ2 hi n U hd hs]
  exact hr n m rfl
/-- All of an arrow's making one: both parts, and then the roots. -/
theorem arr_done {N M g1 g2 g : Nat} {s s1 s2 : KS} {σ σ1 σ2 : Sb} {a1 a2 b1 b2 : Tm} {ra rb : Tz} {A : Tm} (m1 : Move N M g1 s s1 σ σ1) (m2 : Move N M g2 s1 s2 σ1 σ2) (hM : s2.sz ≤ M) (st1 : Stays s s1 σ1 a1) (st2 : Stays s1 s2 σ2 a2)
    (u1 : a1.sub σ1 = b1.sub σ1) (u2 : a2.sub σ2 = b2.sub σ2) (hra : RootT s.kn ra) (hrb : RootT s.kn rb) (hda : Den s.kn ra (.arr a1 a2)) (hdb : Den s.kn rb (.arr b1 b2)) (hne : ¬ ∃ i, ra = .var i ∧ rb = .var i) (eA : A.sub σ = .arr a1 a2) (hg : g1 + g2 ≤ g) :
    RootT s2.kn ra ∧ RootT s2.kn rb ∧ Move N M g s (joinF s2 ra rb) σ σ2 ∧ Stays s (joinF s2 ra rb) σ2 A := by
  have he := m2.ext
  have hA2 : (Tm.arr a1 a2).sub σ2 = (Tm.arr b1 b2).sub σ2 := by
    show Tm.arr _ _ = Tm.arr _ _
    rw [← ext_sub he a1, ← ext_sub he b1, u1, u2]
  have hle := stays_two m1 st1 st2 he
  have m12 := m1.trans m2
  have r1 := root_stay hle m2.inv.st.idem hra hda (Nat.le_refl _)
  have r2 := root_stay hle m2.inv.st.idem hrb hdb (by rw [hA2]; exact Nat.le_refl _)
  have d1 := m12.den hda
  have d2 := m12.den hdb
  rw [← hA2] at d2
  have mj := joinF_same m2.inv hM r1 r2 d1 d2 (fun n e1 e2 => hne ⟨n, e1, e2⟩) (fun n e => by cases e)
  refine ⟨r1, r2, (m12.trans mj).more hg, fun θ hθ i U hd hs => ?_⟩
  have hs' : ((Tm.arr a1 a2).sub θ).size < (U.sub θ).size := by
    rw [← eA, ext_sub (ext_trans hθ m12.ext)]; exact hs
  have e1 := hle θ hθ i U hd (Nat.le_of_lt hs')
  have hd2 := m12.den hd
  have e2 := stays_join (σ' := σ2) m2.inv.inn d1 d2 rfl θ hθ i (U.sub σ2) hd2 (by rw [ext_sub hθ, ext_sub hθ]; exact hs')
  rw [e2, e1]
theorem unif_arrs {f : Nat} {σ : Sb} {A B a1 a2 b1 b2 : Tm} (eA : A.sub σ = .arr a1 a2) (eB : B.sub σ = .arr b1 b2) : unif (f + 1) σ A B = match unif f σ a1 b1 with
    | .error e => .error e
    | .ok σ' => unif f σ' a2 b2 := by
  conv => lhs; unfold unif
  rw [eA, eB]
  simp only
  cases unif f σ a1 b1 <;> rfl
theorem unif_stars {f : Nat} {σ : Sb} {A B : Tm} (eA : A.sub σ = .star) (eB : B.sub σ = .star) : unif (f + 1) σ A B = .ok (joinS σ (A.sub σ) (B.sub σ)) := by
  conv => lhs; unfold unif
  rw [eA, eB]
  rfl
theorem unif_sa {f : Nat} {σ : Sb} {A B b1 b2 : Tm} (eA : A.sub σ = .star) (eB : B.sub σ = .arr b1 b2) : unif (f + 1) σ A B = .error 30 := by
  conv => lhs; unfold unif
  rw [eA, eB]
theorem unif_as {f : Nat} {σ : Sb} {A B a1 a2 : Tm} (eA : A.sub σ = .arr a1 a2) (eB : B.sub σ = .star) : unif (f + 1) σ A B = .error 30 := by
  conv => lhs; unfold unif
  rw [eA, eB]
theorem nonvar_cases {kn : Kn} {t : Tz} {T : Tm} (hv : ∀ n, t ≠ .var n) (hd : Den kn t T) : (t = .star ∧ T = .star) ∨ ∃ x1 x2 a1 a2, t = .arr x1 x2 ∧ T = .arr a1 a2 ∧ Den kn x1 a1 ∧ Den kn x2 a2 := by
  cases hd with
  | free n _ _ => exact absurd rfl (hv n)
  | bound n _ _ _ _ => exact absurd rfl (hv n)
  | star => exact .inl ⟨rfl, rfl⟩
  | arr a b A B ha hb => exact .inr ⟨a, b, A, B, rfl, rfl, ha, hb⟩
theorem unif_code {f : Nat} {σ : Sb} {A B : Tm} {c : Nat} (hi : Idem σ) (h : unif f σ A B = .error c) (hc : c ≠ 99) : c = 30 ∨ c = 32 := by
  have := unif_good f σ A B hi
  rw [h] at this
  rcases this with h | ⟨h, _⟩
  · exact absurd h hc
  · exact h
end Go.Proofs.Ytomhojpoaicioaa
