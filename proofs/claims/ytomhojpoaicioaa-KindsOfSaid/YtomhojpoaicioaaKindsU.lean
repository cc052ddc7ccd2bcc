/- Plain mathematics of chapter 3: terms, what makes two of them one, and that it is the least that does. No program, no world. -/
import Derived.KernelRfl
namespace Go.Proofs.Ytomhojpoaicioaa

/-- A term: a variable, the kind of types, an arrow. -/
inductive Tm where
  | var (n : Nat)
  | star
  | arr (a b : Tm)
/-- A kind: of as many as it has in its list, to a type. -/
inductive K where
  | mk (l : List K)
namespace Tm
def sub (σ : Nat → Tm) : Tm → Tm
  | var n => σ n
  | star => star
  | arr a b => arr (a.sub σ) (b.sub σ)
def occ (n : Nat) : Tm → Bool
  | var m => m == n
  | star => false
  | arr a b => a.occ n || b.occ n
def size : Tm → Nat
  | var _ => 1
  | star => 1
  | arr a b => a.size + b.size + 1
def depth : Tm → Nat
  | var _ => 0
  | star => 0
  | arr a b => max a.depth b.depth + 1

theorem size_pos : ∀ t : Tm, 1 ≤ t.size
  | var _ => Nat.le_refl _
  | star => Nat.le_refl _
  | arr a b => by simp only [size]; omega
theorem sub_sub (σ τ : Nat → Tm) : ∀ t : Tm, (t.sub σ).sub τ = t.sub (fun n => (σ n).sub τ)
  | var _ => rfl
  | star => rfl
  | arr a b => by simp only [sub, sub_sub σ τ a, sub_sub σ τ b]
theorem sub_var : ∀ t : Tm, t.sub var = t
  | var _ => rfl
  | star => rfl
  | arr a b => by simp only [sub, sub_var a, sub_var b]
theorem sub_ext {σ τ : Nat → Tm} : ∀ {t : Tm}, (∀ n, t.occ n = true → σ n = τ n) → t.sub σ = t.sub τ
  | var m, h => h m (by simp [occ])
  | star, _ => rfl
  | arr a b, h => by
    simp only [sub]
    rw [sub_ext (t := a) (fun n hn => h n (by simp [occ, hn])), sub_ext (t := b) (fun n hn => h n (by simp [occ, hn]))]
theorem occ_sub {σ : Nat → Tm} {n : Nat} : ∀ {t : Tm}, (t.sub σ).occ n = true → ∃ m, t.occ m = true ∧ (σ m).occ n = true
  | var m, h => ⟨m, by simp [occ], h⟩
  | star, h => by simp [sub, occ] at h
  | arr a b, h => by
    simp only [sub, occ, Bool.or_eq_true] at h
    rcases h with h | h
    · obtain ⟨m, h1, h2⟩ := occ_sub h; exact ⟨m, by simp [occ, h1], h2⟩
    · obtain ⟨m, h1, h2⟩ := occ_sub h; exact ⟨m, by simp [occ, h1], h2⟩
theorem size_sub_ge {σ : Nat → Tm} {n : Nat} : ∀ {t : Tm}, t.occ n = true → (σ n).size ≤ (t.sub σ).size
  | var m, h => by simp only [occ, beq_iff_eq] at h; subst h; exact Nat.le_refl _
  | star, h => by simp [occ] at h
  | arr a b, h => by
    simp only [occ, Bool.or_eq_true] at h
    simp only [sub, size]
    rcases h with h | h
    · have := size_sub_ge (σ := σ) h; omega
    · have := size_sub_ge (σ := σ) h; omega
theorem depth_sub_le {σ : Nat → Tm} {d : Nat} : ∀ {t : Tm}, (∀ n, t.occ n = true → (σ n).depth ≤ d) → (t.sub σ).depth ≤ t.depth + d
  | var m, h => by have := h m (by simp [occ]); simp only [sub, depth]; omega
  | star, _ => by simp [sub, depth]
  | arr a b, h => by
    have h1 := depth_sub_le (t := a) (fun n hn => h n (by simp [occ, hn]))
    have h2 := depth_sub_le (t := b) (fun n hn => h n (by simp [occ, hn]))
    simp only [sub, depth]; omega
end Tm
open Tm

abbrev Sb := Nat → Tm
def single (n : Nat) (B : Tm) : Sb := fun m => if m = n then B else var m
def bindS (σ : Sb) (n : Nat) (B : Tm) : Sb := fun m => (σ m).sub (single n B)
/-- With all that is known nothing more is to be put in. -/
def Idem (σ : Sb) : Prop := ∀ n, (σ n).sub σ = σ n
/-- θ knows all that σ knows. -/
def Ext (θ σ : Sb) : Prop := ∀ n, (σ n).sub θ = θ n

theorem idem_sub {σ : Sb} (h : Idem σ) (t : Tm) : (t.sub σ).sub σ = t.sub σ := by
  rw [sub_sub]; exact congrArg (fun f => t.sub f) (funext h)
theorem ext_sub {θ σ : Sb} (h : Ext θ σ) (t : Tm) : (t.sub σ).sub θ = t.sub θ := by
  rw [sub_sub]; exact congrArg (fun f => t.sub f) (funext h)
theorem ext_refl {σ : Sb} (h : Idem σ) : Ext σ σ := h
theorem ext_trans {a b c : Sb} (h1 : Ext a b) (h2 : Ext b c) : Ext a c := fun n => by
  have e : (c n).sub b = b n := h2 n
  calc (c n).sub a = ((c n).sub b).sub a := by rw [ext_sub h1]
    _ = (b n).sub a := by rw [e]
    _ = a n := h1 n
theorem single_no {n : Nat} {B t : Tm} (h : t.occ n = false) : t.sub (single n B) = t := by
  have e : t.sub (single n B) = t.sub var := sub_ext (fun m hm => by
    unfold single
    rw [if_neg]
    rintro rfl
    rw [h] at hm; cases hm)
  rw [e, sub_var]

theorem bind_idem {σ : Sb} {n : Nat} {B : Tm} (h : Idem σ) (hB : B.sub σ = B) (hn : σ n = var n) (ho : B.occ n = false) : Idem (bindS σ n B) := by
  intro m
  unfold bindS
  have key : ∀ k, (single n B k).sub (fun j => (σ j).sub (single n B)) = (σ k).sub (single n B) := by
    intro k
    by_cases hk : k = n
    · subst hk
      have e1 : single k B k = B := by unfold single; rw [if_pos rfl]
      rw [e1, ← sub_sub, hB, hn]
      show B.sub (single k B) = single k B k
      rw [single_no ho, e1]
    · have e1 : single n B k = var k := by unfold single; rw [if_neg hk]
      rw [e1]; rfl
  calc ((σ m).sub (single n B)).sub (fun j => (σ j).sub (single n B)) = (σ m).sub (fun k => (single n B k).sub (fun j => (σ j).sub (single n B))) := sub_sub _ _ _
    _ = (σ m).sub (fun k => (σ k).sub (single n B)) := by rw [funext key]
    _ = ((σ m).sub σ).sub (single n B) := (sub_sub _ _ _).symm
    _ = (σ m).sub (single n B) := by rw [h m]
theorem bind_ext {σ : Sb} (n : Nat) (B : Tm) (h : Idem σ) : Ext (bindS σ n B) σ := by
  intro m
  show (σ m).sub (fun j => (σ j).sub (single n B)) = (σ m).sub (single n B)
  rw [← sub_sub, h m]
/-- What knows σ and makes n and B one knows the bind. -/
theorem bind_least {σ θ : Sb} {n : Nat} {B : Tm} (he : Ext θ σ) (hu : θ n = B.sub θ) : Ext θ (bindS σ n B) := by
  intro m
  show ((σ m).sub (single n B)).sub θ = θ m
  rw [sub_sub]
  have e : (fun k => (single n B k).sub θ) = θ := funext (fun k => by
    unfold single
    by_cases hk : k = n
    · rw [if_pos hk, hk]; exact hu.symm
    · rw [if_neg hk]; rfl)
  rw [e]; exact he m
theorem bind_makes {σ : Sb} {n : Nat} {B : Tm} (hB : B.sub σ = B) (hn : σ n = var n) (ho : B.occ n = false) : (bindS σ n B) n = B ∧ B.sub (bindS σ n B) = B := by
  constructor
  · show (σ n).sub (single n B) = B
    rw [hn]; show single n B n = B; unfold single; rw [if_pos rfl]
  · show B.sub (fun j => (σ j).sub (single n B)) = B
    rw [← sub_sub, hB, single_no ho]

/-- Makes two terms one: what is known then; or the error (30: of two kinds, 32: within itself; 99: no fuel). -/
def bindT (σ : Sb) (n : Nat) (B : Tm) : Except Nat Sb := if B.occ n then .error 32 else .ok (bindS σ n B)
def unif : Nat → Sb → Tm → Tm → Except Nat Sb
  | 0, _, _, _ => .error 99
  | f + 1, σ, a, b =>
    match a.sub σ, b.sub σ with
    | .var m, .var n => if m = n then .ok σ else if m < n then bindT σ n (.var m) else bindT σ m (.var n)
    | .var m, .star => bindT σ m .star
    | .var m, .arr b1 b2 => bindT σ m (.arr b1 b2)
    | .star, .var n => bindT σ n .star
    | .arr a1 a2, .var n => bindT σ n (.arr a1 a2)
    | .star, .star => .ok σ
    | .arr a1 a2, .arr b1 b2 =>
      match unif f σ a1 b1 with
      | .error e => .error e
      | .ok σ' => unif f σ' a2 b2
    | .star, .arr _ _ => .error 30
    | .arr _ _, .star => .error 30

/-- What an answer must be. -/
def Good (σ : Sb) (a b : Tm) : Except Nat Sb → Prop
  | .ok σ' => Idem σ' ∧ Ext σ' σ ∧ a.sub σ' = b.sub σ' ∧ ∀ θ, Ext θ σ → a.sub θ = b.sub θ → Ext θ σ'
  | .error e => e = 99 ∨ ((e = 30 ∨ e = 32) ∧ ∀ θ, Ext θ σ → a.sub θ ≠ b.sub θ)

theorem fix_of_sub {σ : Sb} (h : Idem σ) {t u : Tm} (e : t.sub σ = u) : u.sub σ = u := by rw [← e]; exact idem_sub h t
theorem good_bind_left {σ : Sb} {a b : Tm} {n : Nat} {B : Tm} (h : Idem σ) (ea : a.sub σ = var n) (eb : b.sub σ = B) (hne : B ≠ var n) : Good σ a b (bindT σ n B) := by
  have hB := fix_of_sub h eb
  have hn : σ n = var n := fix_of_sub h ea
  have unify : ∀ θ, Ext θ σ → (a.sub θ = b.sub θ ↔ θ n = B.sub θ) := fun θ he => by
    rw [← ext_sub he a, ← ext_sub he b, ea, eb]; exact Iff.rfl
  unfold bindT
  by_cases ho : B.occ n = true
  · rw [if_pos ho]
    refine .inr ⟨.inr rfl, fun θ he hu => ?_⟩
    have e := (unify θ he).1 hu
    have hs : (θ n).size < (B.sub θ).size := by
      match B, ho, hne with
      | .var m, ho, hne => simp only [occ, beq_iff_eq] at ho; exact absurd (congrArg var ho) hne
      | .arr x y, ho, _ =>
        simp only [occ, Bool.or_eq_true] at ho
        simp only [Tm.sub, Tm.size]
        rcases ho with ho | ho
        · have := size_sub_ge (σ := θ) ho; omega
        · have := size_sub_ge (σ := θ) ho; omega
    rw [e] at hs
    exact Nat.lt_irrefl _ hs
  · have ho' : B.occ n = false := by simpa using ho
    rw [if_neg ho]
    have hE := bind_ext n B h
    refine ⟨bind_idem h hB hn ho', hE, ?_, fun θ he hu => bind_least he ((unify θ he).1 hu)⟩
    have := bind_makes hB hn ho'
    exact (unify _ hE).2 (by rw [this.1, this.2])
theorem Good.symm {σ : Sb} {a b : Tm} {r : Except Nat Sb} (h : Good σ a b r) : Good σ b a r := by
  cases r with
  | error e => exact h.elim .inl (fun ⟨h1, h2⟩ => .inr ⟨h1, fun θ he hu => h2 θ he hu.symm⟩)
  | ok σ' => exact ⟨h.1, h.2.1, h.2.2.1.symm, fun θ he hu => h.2.2.2 θ he hu.symm⟩

theorem unif_good : ∀ (f : Nat) (σ : Sb) (a b : Tm), Idem σ → Good σ a b (unif f σ a b)
  | 0, _, _, _, _ => .inl rfl
  | f + 1, σ, a, b, h => by
    have unify : ∀ θ, Ext θ σ → (a.sub θ = b.sub θ ↔ (a.sub σ).sub θ = (b.sub σ).sub θ) := fun θ he => by rw [ext_sub he, ext_sub he]
    unfold unif
    cases ea : a.sub σ with
    | var m =>
      cases eb : b.sub σ with
      | var n =>
        simp only
        by_cases hmn : m = n
        · rw [if_pos hmn]
          exact ⟨h, h, by rw [ea, eb, hmn], fun θ he _ => he⟩
        · rw [if_neg hmn]
          by_cases hlt : m < n
          · rw [if_pos hlt]
            exact (good_bind_left h eb ea (fun e => by injection e; contradiction)).symm
          · rw [if_neg hlt]
            exact good_bind_left h ea eb (fun e => by injection e with e; exact hmn e.symm)
      | star => exact good_bind_left h ea eb (fun e => by cases e)
      | arr b1 b2 => exact good_bind_left h ea eb (fun e => by cases e)
    | star =>
      cases eb : b.sub σ with
      | var n => exact (good_bind_left h eb ea (fun e => by cases e)).symm
      | star => exact ⟨h, h, by rw [ea, eb], fun θ he _ => he⟩
      | arr b1 b2 => exact .inr ⟨.inl rfl, fun θ he hu => by have := (unify θ he).1 hu; rw [ea, eb] at this; cases this⟩
    | arr a1 a2 =>
      cases eb : b.sub σ with
      | var n => exact (good_bind_left h eb ea (fun e => by cases e)).symm
      | star => exact .inr ⟨.inl rfl, fun θ he hu => by have := (unify θ he).1 hu; rw [ea, eb] at this; cases this⟩
      | arr b1 b2 =>
        have parts : ∀ θ, Ext θ σ → a.sub θ = b.sub θ → a1.sub θ = b1.sub θ ∧ a2.sub θ = b2.sub θ := fun θ he hu => by
          have := (unify θ he).1 hu
          rw [ea, eb] at this
          simp only [Tm.sub] at this
          injection this with h1 h2
          exact ⟨h1, h2⟩
        have g1 := unif_good f σ a1 b1 h
        simp only
        cases e1 : unif f σ a1 b1 with
        | error e =>
          rw [e1] at g1
          rcases g1 with g1 | ⟨g1, g2⟩
          · exact .inl g1
          · exact .inr ⟨g1, fun θ he hu => g2 θ he (parts θ he hu).1⟩
        | ok σ1 =>
          rw [e1] at g1
          obtain ⟨i1, x1, u1, m1⟩ := g1
          have g2 := unif_good f σ1 a2 b2 i1
          simp only
          cases e2 : unif f σ1 a2 b2 with
          | error e =>
            rw [e2] at g2
            rcases g2 with g2 | ⟨g2, g3⟩
            · exact .inl g2
            · exact .inr ⟨g2, fun θ he hu => g3 θ (m1 θ he (parts θ he hu).1) (parts θ he hu).2⟩
          | ok σ2 =>
            rw [e2] at g2
            obtain ⟨i2, x2, u2, m2⟩ := g2
            have xe := ext_trans x2 x1
            refine ⟨i2, xe, (unify σ2 xe).2 ?_, fun θ he hu => m2 θ (m1 θ he (parts θ he hu).1) (parts θ he hu).2⟩
            rw [ea, eb]
            show arr (a1.sub σ2) (a2.sub σ2) = arr (b1.sub σ2) (b2.sub σ2)
            rw [u2]
            have : a1.sub σ2 = b1.sub σ2 := by rw [← ext_sub x2 a1, ← ext_sub x2 b1, u1]
            rw [this]

/-! ### There is always an answer -/
/-- Nothing is known of n. -/
def free (σ : Sb) (n : Nat) : Bool := match σ n with
  | .var m => m == n
  | _ => false
/-- All that σ speaks of are variables up to N. -/
def InV (N : Nat) (σ : Sb) : Prop := (∀ n, N < n → σ n = var n) ∧ ∀ n m, n ≤ N → (σ n).occ m = true → m ≤ N
def VarsTo (N : Nat) (t : Tm) : Prop := ∀ m, t.occ m = true → m ≤ N
def leftN (N : Nat) (σ : Sb) : Nat := ((List.range (N + 1)).filter (free σ)).length
theorem varsTo_sub {N : Nat} {σ : Sb} {t : Tm} (hσ : InV N σ) (ht : VarsTo N t) : VarsTo N (t.sub σ) := by
  intro m hm
  obtain ⟨k, hk, hkm⟩ := occ_sub hm
  exact hσ.2 k m (ht k hk) hkm
theorem filter_less {p q : Nat → Bool} : ∀ {l : List Nat}, (∀ m ∈ l, q m = true → p m = true) → (∃ n ∈ l, p n = true ∧ q n = false) → (l.filter q).length < (l.filter p).length
  | [], _, h => by obtain ⟨n, hn, _⟩ := h; cases hn
  | x :: l, h, he => by
    have hl : ∀ (l : List Nat), (∀ m ∈ l, q m = true → p m = true) → (l.filter q).length ≤ (l.filter p).length := by
      intro l
      induction l with
      | nil => intro _; exact Nat.le_refl _
      | cons y l ih =>
        intro h
        have ih' := ih (fun m hm => h m (List.mem_cons_of_mem _ hm))
        have hy := h y (List.mem_cons_self ..)
        simp only [List.filter_cons]
        cases e1 : q y with
        | false => cases p y <;> simp <;> omega
        | true => rw [hy e1]; simp; omega
    obtain ⟨n, hn, hp, hq⟩ := he
    have ht := fun m hm => h m (List.mem_cons_of_mem _ hm)
    simp only [List.filter_cons]
    rcases List.mem_cons.1 hn with rfl | hn'
    · rw [hp, hq]
      have := hl l ht
      simp; omega
    · have ih := filter_less ht ⟨n, hn', hp, hq⟩
      have hx := h x (List.mem_cons_self ..)
      cases e1 : q x with
      | false => cases p x <;> simp <;> omega
      | true => rw [hx e1]; simp; omega
theorem free_iff {σ : Sb} {n : Nat} : free σ n = true ↔ σ n = var n := by
  unfold free
  constructor
  · intro h
    cases e : σ n with
    | var m => rw [e] at h; simp only [beq_iff_eq] at h; rw [h]
    | star => rw [e] at h; cases h
    | arr a b => rw [e] at h; cases h
  · intro h; rw [h]; simp
theorem bind_less {N : Nat} {σ : Sb} {n : Nat} {B : Tm} (hN : n ≤ N) (hB : B.sub σ = B) (hn : σ n = var n) (ho : B.occ n = false) : leftN N (bindS σ n B) < leftN N σ := by
  refine filter_less (fun m _ hm => ?_) ⟨n, by simp; omega, free_iff.2 hn, ?_⟩
  · rw [free_iff] at hm ⊢
    have hm' : (σ m).sub (single n B) = var m := hm
    cases e : σ m with
    | star => rw [e] at hm'; cases hm'
    | arr a b => rw [e] at hm'; cases hm'
    | var k =>
      rw [e] at hm'
      have hk : single n B k = var m := hm'
      unfold single at hk
      by_cases hkn : k = n
      · rw [if_pos hkn] at hk
        rw [hk] at hB
        have : σ m = var m := hB
        rw [e] at this; exact this
      · rw [if_neg hkn] at hk; exact hk
  · cases e : free (bindS σ n B) n with
    | false => rfl
    | true =>
      rw [free_iff] at e
      have h9 := (bind_makes hB hn ho).1
      rw [e] at h9
      rw [← h9] at ho
      simp [occ] at ho
theorem bind_inV {N : Nat} {σ : Sb} {n : Nat} {B : Tm} (h : InV N σ) (hN : n ≤ N) (hB : VarsTo N B) : InV N (bindS σ n B) := by
  constructor
  · intro m hm
    show (σ m).sub (single n B) = var m
    rw [h.1 m hm]
    show single n B m = var m
    unfold single; rw [if_neg (by omega)]
  · intro m k hm hk
    obtain ⟨j, hj, hjk⟩ := occ_sub (show ((σ m).sub (single n B)).occ k = true from hk)
    unfold single at hjk
    by_cases hjn : j = n
    · rw [if_pos hjn] at hjk; exact hB k hjk
    · rw [if_neg hjn] at hjk
      simp only [occ, beq_iff_eq] at hjk
      rw [← hjk]; exact h.2 m j hm hj
/-- What a good answer leaves: nothing new, or less left to be known. -/
def Less (N : Nat) (σ : Sb) : Except Nat Sb → Prop
  | .ok σ' => InV N σ' ∧ (σ' = σ ∨ leftN N σ' < leftN N σ)
  | .error _ => True
theorem less_bind {N : Nat} {σ : Sb} {n : Nat} {B : Tm} {a b : Tm} (h : Idem σ) (hv : InV N σ) (ea : a.sub σ = var n) (eb : b.sub σ = B) (ha : VarsTo N a) (hb : VarsTo N b) : Less N σ (bindT σ n B) := by
  have hB := fix_of_sub h eb
  have hn : σ n = var n := fix_of_sub h ea
  have hnN : n ≤ N := varsTo_sub hv ha n (by rw [ea]; simp [occ])
  have hBN : VarsTo N B := by rw [← eb]; exact varsTo_sub hv hb
  unfold bindT
  by_cases ho : B.occ n = true
  · rw [if_pos ho]; trivial
  · have ho' : B.occ n = false := by simpa using ho
    rw [if_neg ho]
    exact ⟨bind_inV hv hnN hBN, .inr (bind_less hnN hB hn ho')⟩
theorem unif_less (N : Nat) : ∀ (f : Nat) (σ : Sb) (a b : Tm), Idem σ → InV N σ → VarsTo N a → VarsTo N b → Less N σ (unif f σ a b)
  | 0, _, _, _, _, _, _, _ => trivial
  | f + 1, σ, a, b, h, hv, ha, hb => by
    unfold unif
    cases ea : a.sub σ with
    | var m =>
      cases eb : b.sub σ with
      | var n =>
        simp only
        by_cases hmn : m = n
        · rw [if_pos hmn]; exact ⟨hv, .inl rfl⟩
        · rw [if_neg hmn]
          by_cases hlt : m < n
          · rw [if_pos hlt]; exact less_bind h hv eb ea hb ha
          · rw [if_neg hlt]; exact less_bind h hv ea eb ha hb
      | star => exact less_bind h hv ea eb ha hb
      | arr b1 b2 => exact less_bind h hv ea eb ha hb
    | star =>
      cases eb : b.sub σ with
      | var n => exact less_bind h hv eb ea hb ha
      | star => exact ⟨hv, .inl rfl⟩
      | arr b1 b2 => trivial
    | arr a1 a2 =>
      cases eb : b.sub σ with
      | var n => exact less_bind h hv eb ea hb ha
      | star => trivial
      | arr b1 b2 =>
        have va := varsTo_sub hv ha
        have vb := varsTo_sub hv hb
        rw [ea] at va
        rw [eb] at vb
        have g1 := unif_less N f σ a1 b1 h hv (fun m hm => va m (by simp [occ, hm])) (fun m hm => vb m (by simp [occ, hm]))
        have q1 := unif_good f σ a1 b1 h
        simp only
        cases e1 : unif f σ a1 b1 with
        | error e => trivial
        | ok σ1 =>
          rw [e1] at g1 q1
          have g2 := unif_less N f σ1 a2 b2 q1.1 g1.1 (fun m hm => va m (by simp [occ, hm])) (fun m hm => vb m (by simp [occ, hm]))
          simp only
          cases e2 : unif f σ1 a2 b2 with
          | error e => trivial
          | ok σ2 =>
            rw [e2] at g2
            refine ⟨g2.1, ?_⟩
            rcases g1.2 with rfl | l1
            · exact g2.2
            · rcases g2.2 with rfl | l2
              · exact .inr l1
              · exact .inr (Nat.lt_trans l2 l1)
/-- More fuel changes no answer. -/
theorem unif_more : ∀ (f g : Nat) (σ : Sb) (a b : Tm), f ≤ g → unif f σ a b ≠ .error 99 → unif g σ a b = unif f σ a b
  | 0, _, _, _, _, _, h => absurd rfl h
  | f + 1, 0, _, _, _, hf, _ => by omega
  | f + 1, g + 1, σ, a, b, hf, h => by
    unfold unif at h ⊢
    cases ea : a.sub σ with
    | var m => cases eb : b.sub σ <;> rfl
    | star => cases eb : b.sub σ <;> rfl
    | arr a1 a2 =>
      cases eb : b.sub σ with
      | var n => rfl
      | star => rfl
      | arr b1 b2 =>
        rw [ea, eb] at h
        simp only at h ⊢
        cases e1 : unif f σ a1 b1 with
        | error e =>
          rw [e1] at h
          have : unif g σ a1 b1 = unif f σ a1 b1 := unif_more f g σ a1 b1 (by omega) (by rw [e1]; exact h)
          rw [this, e1]
        | ok σ1 =>
          rw [e1] at h
          have : unif g σ a1 b1 = unif f σ a1 b1 := unif_more f g σ a1 b1 (by omega) (by rw [e1]; intro h9; cases h9)
          rw [this, e1]
          exact unif_more f g σ1 a2 b2 (by omega) h
/-- There is an answer. -/
theorem unif_ends (N : Nat) : ∀ (u z : Nat) (σ : Sb) (a b : Tm), Idem σ → InV N σ → VarsTo N a → VarsTo N b → leftN N σ ≤ u → (a.sub σ).size + (b.sub σ).size ≤ z → ∃ f, unif f σ a b ≠ .error 99 := by
  intro u
  induction u using Nat.strongRecOn with
  | ind u ihu =>
    intro z
    induction z using Nat.strongRecOn with
    | ind z ihz =>
      intro σ a b h hv ha hb hu hz
      cases ea : a.sub σ with
      | var m =>
        refine ⟨1, ?_⟩
        unfold unif
        rw [ea]
        cases eb : b.sub σ with
        | var n =>
          simp only
          split
          · intro h9; cases h9
          · split <;> (unfold bindT; split <;> (intro h9; cases h9))
        | star => simp only; unfold bindT; split <;> (intro h9; cases h9)
        | arr b1 b2 => simp only; unfold bindT; split <;> (intro h9; cases h9)
      | star =>
        refine ⟨1, ?_⟩
        unfold unif
        rw [ea]
        cases eb : b.sub σ with
        | var n => simp only; unfold bindT; split <;> (intro h9; cases h9)
        | star => intro h9; cases h9
        | arr b1 b2 => intro h9; cases h9
      | arr a1 a2 =>
        cases eb : b.sub σ with
        | var n =>
          refine ⟨1, ?_⟩
          unfold unif
          rw [ea, eb]
          simp only; unfold bindT; split <;> (intro h9; cases h9)
        | star => refine ⟨1, ?_⟩; unfold unif; rw [ea, eb]; intro h9; cases h9
        | arr b1 b2 =>
          have fa := fix_of_sub h ea
          have fb := fix_of_sub h eb
          have fa1 : a1.sub σ = a1 := by simp only [Tm.sub] at fa; injection fa
          have fa2 : a2.sub σ = a2 := by simp only [Tm.sub] at fa; injection fa
          have fb1 : b1.sub σ = b1 := by simp only [Tm.sub] at fb; injection fb
          have fb2 : b2.sub σ = b2 := by simp only [Tm.sub] at fb; injection fb
          have va := varsTo_sub hv ha
          have vb := varsTo_sub hv hb
          rw [ea] at va
          rw [eb] at vb
          rw [ea, eb] at hz
          simp only [Tm.size] at hz
          have va1 : VarsTo N a1 := fun m hm => va m (by simp [occ, hm])
          have va2 : VarsTo N a2 := fun m hm => va m (by simp [occ, hm])
          have vb1 : VarsTo N b1 := fun m hm => vb m (by simp [occ, hm])
          have vb2 : VarsTo N b2 := fun m hm => vb m (by simp [occ, hm])
          obtain ⟨f1, h1⟩ := ihz (a1.size + b1.size) (by have := size_pos a2; omega) σ a1 b1 h hv va1 vb1 hu (by rw [fa1, fb1]; exact Nat.le_refl _)
          cases e1 : unif f1 σ a1 b1 with
          | error e =>
            refine ⟨f1 + 1, ?_⟩
            unfold unif
            rw [ea, eb]
            simp only [e1]
            rw [e1] at h1
            exact h1
          | ok σ1 =>
            have g1 := unif_less N f1 σ a1 b1 h hv va1 vb1
            have q1 := unif_good f1 σ a1 b1 h
            rw [e1] at g1 q1
            obtain ⟨f2, h2⟩ : ∃ f2, unif f2 σ1 a2 b2 ≠ .error 99 := by
              rcases g1.2 with rfl | l1
              · exact ihz (a2.size + b2.size) (by have := size_pos a1; omega) σ1 a2 b2 h hv va2 vb2 hu (by rw [fa2, fb2]; exact Nat.le_refl _)
              · exact ihu (leftN N σ1) (by omega) _ σ1 a2 b2 q1.1 g1.1 va2 vb2 (Nat.le_refl _) (Nat.le_refl _)
            refine ⟨max f1 f2 + 1, ?_⟩
            unfold unif
            rw [ea, eb]
            have m1 := unif_more f1 (max f1 f2) σ a1 b1 (by omega) (by rw [e1]; intro h9; cases h9)
            have m2 := unif_more f2 (max f1 f2) σ1 a2 b2 (by omega) h2
            simp only [m1, e1, m2]
            exact h2
end Go.Proofs.Ytomhojpoaicioaa
