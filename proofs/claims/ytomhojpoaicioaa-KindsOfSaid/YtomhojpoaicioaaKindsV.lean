/- Plain mathematics of chapter 3: the kinds of terms; rows of equations; how deep terms become. No program, no world. -/
import Derived.Test.YtomhojpoaicioaaKindsU
namespace Go.Proofs.Ytomhojpoaicioaa
open Tm

/-! ### Kinds -/
def K.from : K → List K
  | .mk l => l
/-- The kind of a term: what is not known is the kind of types. -/
def kd : Tm → K
  | .var _ => .mk []
  | .star => .mk []
  | .arr a b => .mk (kd a :: (kd b).from)
/-- A kind as a term: arrows to the right. -/
def ofK : K → Tm
  | .mk l => l.attach.foldr (fun ⟨k, _⟩ t => .arr (ofK k) t) .star
theorem ofK_mk (l : List K) : ofK (.mk l) = l.foldr (fun k t => .arr (ofK k) t) .star := by
  rw [ofK]
  rw [List.foldr_attach (l := l) (f := fun k t => Tm.arr (ofK k) t) (b := .star)]
theorem ofK_nil : ofK (.mk []) = .star := by rw [ofK_mk]; rfl
theorem ofK_cons (k : K) (l : List K) : ofK (.mk (k :: l)) = .arr (ofK k) (ofK (.mk l)) := by rw [ofK_mk, ofK_mk]; rfl
def K.sz : K → Nat
  | .mk l => 1 + (l.attach.map (fun ⟨k, _⟩ => K.sz k)).sum
theorem K.sz_mk (l : List K) : K.sz (.mk l) = 1 + (l.map K.sz).sum := by
  rw [K.sz]; simp
/-- By induction over a kind: none, or one more ahead. -/
theorem K.ind {P : K → Prop} (h0 : P (.mk [])) (h1 : ∀ k l, P k → P (.mk l) → P (.mk (k :: l))) : ∀ (n : Nat) (k : K), K.sz k ≤ n → P k
  | 0, .mk l, h => by rw [K.sz_mk] at h; omega
  | n + 1, .mk [], _ => h0
  | n + 1, .mk (k :: l), h => by
    rw [K.sz_mk] at h
    simp only [List.map_cons, List.sum_cons] at h
    have hk : 1 ≤ K.sz k := by cases k with | mk l2 => rw [K.sz_mk]; omega
    exact h1 k l (K.ind h0 h1 n k (by omega)) (K.ind h0 h1 n (.mk l) (by rw [K.sz_mk]; omega))
theorem K.induct {P : K → Prop} (h0 : P (.mk [])) (h1 : ∀ k l, P k → P (.mk l) → P (.mk (k :: l))) (k : K) : P k := K.ind h0 h1 _ k (Nat.le_refl _)
theorem kd_ofK (k : K) : kd (ofK k) = k := by
  refine K.induct (P := fun k => kd (ofK k) = k) ?_ ?_ k
  · rw [ofK_nil]; rfl
  · intro k l hk hl
    rw [ofK_cons]
    show K.mk (kd (ofK k) :: (kd (ofK (.mk l))).from) = _
    rw [hk, hl]; rfl
theorem ofK_inj {a b : K} (h : ofK a = ofK b) : a = b := by rw [← kd_ofK a, ← kd_ofK b, h]
/-- No variable stands in it. -/
def Ground (t : Tm) : Prop := ∀ n, t.occ n = false
theorem ground_sub {t : Tm} (h : Ground t) (σ : Sb) : t.sub σ = t := by
  have e : t.sub σ = t.sub var := sub_ext (fun n hn => by rw [h n] at hn; cases hn)
  rw [e, sub_var]
theorem ofK_ground (k : K) : Ground (ofK k) := by
  refine K.induct (P := fun k => Ground (ofK k)) ?_ ?_ k
  · rw [ofK_nil]; exact fun _ => rfl
  · intro k l hk hl n
    rw [ofK_cons]
    show ((ofK k).occ n || (ofK (.mk l)).occ n) = false
    rw [hk n, hl n]; rfl
theorem kd_len : ∀ t : Tm, (kd t).from.length ≤ t.depth
  | .var _ => Nat.le_refl _
  | .star => Nat.le_refl _
  | .arr a b => by
    have := kd_len b
    show (kd a :: (kd b).from).length ≤ max a.depth b.depth + 1
    simp only [List.length_cons]; omega

/-! ### Answers, and rows of them -/
/-- The answer to a question, fuel or not. -/
def Ans (σ : Sb) (a b : Tm) (r : Except Nat Sb) : Prop := ∃ f, unif f σ a b = r ∧ r ≠ .error 99
theorem ans_one {σ : Sb} {a b : Tm} {r q : Except Nat Sb} (h1 : Ans σ a b r) (h2 : Ans σ a b q) : r = q := by
  obtain ⟨f, e1, n1⟩ := h1
  obtain ⟨g, e2, n2⟩ := h2
  have m1 := unif_more f (max f g) σ a b (by omega) (by rw [e1]; exact n1)
  have m2 := unif_more g (max f g) σ a b (by omega) (by rw [e2]; exact n2)
  rw [← e1, ← e2, ← m1, ← m2]
theorem ans_is {N : Nat} {σ : Sb} {a b : Tm} (h : Idem σ) (hv : InV N σ) (ha : VarsTo N a) (hb : VarsTo N b) : ∃ r, Ans σ a b r := by
  obtain ⟨f, hf⟩ := unif_ends N _ _ σ a b h hv ha hb (Nat.le_refl _) (Nat.le_refl _)
  exact ⟨_, f, rfl, hf⟩
theorem ans_good {σ : Sb} {a b : Tm} {r : Except Nat Sb} (h : Idem σ) (ha : Ans σ a b r) : Good σ a b r := by
  obtain ⟨f, e, _⟩ := ha
  rw [← e]; exact unif_good f σ a b h
theorem ans_less {N : Nat} {σ : Sb} {a b : Tm} {r : Except Nat Sb} (h : Idem σ) (hv : InV N σ) (ha : VarsTo N a) (hb : VarsTo N b) (hr : Ans σ a b r) : Less N σ r := by
  obtain ⟨f, e, _⟩ := hr
  rw [← e]; exact unif_less N f σ a b h hv ha hb
/-- If anything that knows σ makes the two one, so does the answer; and that knows no more. -/
theorem ans_ok {σ θ : Sb} {a b : Tm} {r : Except Nat Sb} (h : Idem σ) (hr : Ans σ a b r) (he : Ext θ σ) (hu : a.sub θ = b.sub θ) : ∃ σ', r = .ok σ' ∧ Idem σ' ∧ Ext σ' σ ∧ a.sub σ' = b.sub σ' ∧ Ext θ σ' := by
  have g := ans_good h hr
  obtain ⟨f, e, ne⟩ := hr
  cases r with
  | error c =>
    rcases g with g | ⟨_, g⟩
    · rw [g] at ne; exact absurd rfl ne
    · exact absurd hu (g θ he)
  | ok σ' => exact ⟨σ', rfl, g.1, g.2.1, g.2.2.1, g.2.2.2 θ he hu⟩
theorem ans_err {σ : Sb} {a b : Tm} {c : Nat} (h : Idem σ) (hr : Ans σ a b (.error c)) : c = 30 ∨ c = 32 := by
  have g := ans_good h hr
  obtain ⟨f, e, ne⟩ := hr
  rcases g with g | ⟨g, _⟩
  · rw [g] at ne; exact absurd rfl ne
  · exact g
/-- Two that know each other have the same kinds. -/
theorem kd_each {σ τ : Sb} : ∀ (t : Tm), (t.sub σ).sub τ = t → kd (t.sub σ) = kd t
  | .var n, h => by
    have h' : (σ n).sub τ = .var n := h
    show kd (σ n) = .mk []
    cases e : σ n with
    | var m => rfl
    | star => rfl
    | arr a b => rw [e] at h'; cases h'
  | .star, _ => rfl
  | .arr a b, h => by
    have h' : Tm.arr ((a.sub σ).sub τ) ((b.sub σ).sub τ) = .arr a b := h
    injection h' with h1 h2
    show K.mk (kd (a.sub σ) :: (kd (b.sub σ)).from) = K.mk (kd a :: (kd b).from)
    rw [kd_each a h1, kd_each b h2]
theorem kd_variant {σ τ : Sb} (h1 : Ext σ τ) (h2 : Ext τ σ) (n : Nat) : kd (σ n) = kd (τ n) := by
  have e : (τ n).sub σ = σ n := h1 n
  rw [← e]
  refine kd_each (τ := τ) (τ n) ?_
  rw [e]; exact h2 n
/-- A row of equations, asked one behind the other; an error changes nothing, and is kept in mind. -/
def Steps : Sb → List (Tm × Tm) → Sb → Bool → Prop
  | σ, [], σ', bad => σ' = σ ∧ bad = false
  | σ, (a, b) :: r, σ', bad => (∃ σ1, Ans σ a b (.ok σ1) ∧ Steps σ1 r σ' bad) ∨ (∃ c bad', Ans σ a b (.error c) ∧ Steps σ r σ' bad' ∧ bad = true)
theorem steps_ok : ∀ (eqs : List (Tm × Tm)) (σ σ' θ : Sb) (bad : Bool), Idem σ → Steps σ eqs σ' bad → Ext θ σ → (∀ p ∈ eqs, p.1.sub θ = p.2.sub θ) → bad = false ∧ Ext θ σ'
  | [], σ, σ', θ, bad, _, hs, he, _ => by obtain ⟨rfl, rfl⟩ := hs; exact ⟨rfl, he⟩
  | (a, b) :: r, σ, σ', θ, bad, hi, hs, he, hu => by
    have hab := hu (a, b) (List.mem_cons_self ..)
    rcases hs with ⟨σ1, ha, hs⟩ | ⟨c, bad', ha, _, _⟩
    · obtain ⟨σ2, e, i2, _, _, x2⟩ := ans_ok hi ha he hab
      injection e with e
      subst e
      exact steps_ok r σ1 σ' θ bad i2 hs x2 (fun p hp => hu p (List.mem_cons_of_mem _ hp))
    · obtain ⟨σ2, e, _⟩ := ans_ok hi ha he hab
      cases e
theorem steps_sound : ∀ (eqs : List (Tm × Tm)) (σ σ' : Sb), Idem σ → Steps σ eqs σ' false → Idem σ' ∧ Ext σ' σ ∧ ∀ p ∈ eqs, p.1.sub σ' = p.2.sub σ'
  | [], σ, σ', hi, hs => by obtain ⟨rfl, _⟩ := hs; exact ⟨hi, hi, fun p hp => by cases hp⟩
  | (a, b) :: r, σ, σ', hi, hs => by
    rcases hs with ⟨σ1, ha, hs⟩ | ⟨c, bad', _, _, hb⟩
    · obtain ⟨i1, x1, u1, _⟩ := ans_good hi ha
      obtain ⟨i2, x2, u2⟩ := steps_sound r σ1 σ' i1 hs
      refine ⟨i2, ext_trans x2 x1, fun p hp => ?_⟩
      rcases List.mem_cons.1 hp with rfl | hp
      · show a.sub σ' = b.sub σ'
        rw [← ext_sub x2 a, ← ext_sub x2 b, u1]
      · exact u2 p hp
    · cases hb
theorem idem_var : Idem var := fun _ => rfl
theorem ext_var (θ : Sb) : Ext θ var := fun _ => rfl
/-- In whatever row equations are asked: whether there is an error is the same; and if there is none, so are the kinds. -/
theorem steps_row {e1 e2 : List (Tm × Tm)} {σ1 σ2 : Sb} {b1 b2 : Bool} (h1 : Steps var e1 σ1 b1) (h2 : Steps var e2 σ2 b2)
    (h12 : ∀ p ∈ e1, p ∈ e2 ∨ (p.2, p.1) ∈ e2) (h21 : ∀ p ∈ e2, p ∈ e1 ∨ (p.2, p.1) ∈ e1) : b1 = b2 ∧ (b1 = false → ∀ n, kd (σ1 n) = kd (σ2 n)) := by
  have aux : ∀ {e e' : List (Tm × Tm)} {σ σ' : Sb} {b' : Bool}, Steps var e σ false → Steps var e' σ' b' → (∀ p ∈ e', p ∈ e ∨ (p.2, p.1) ∈ e) → b' = false ∧ Ext σ σ' := by
    intro e e' σ σ' b' hs hs' hsub
    obtain ⟨_, _, u⟩ := steps_sound e var σ idem_var hs
    refine steps_ok e' var σ' σ b' idem_var hs' (ext_var _) (fun p hp => ?_)
    rcases hsub p hp with h | h
    · exact u p h
    · exact (u _ h).symm
  cases b1 with
  | false =>
    obtain ⟨rfl, x⟩ := aux h1 h2 h21
    obtain ⟨_, y⟩ := aux h2 h1 h12
    exact ⟨rfl, fun _ n => kd_variant x y n⟩
  | true =>
    cases b2 with
    | true => exact ⟨rfl, fun h => by cases h⟩
    | false =>
      obtain ⟨h, _⟩ := aux h2 h1 h12
      cases h

/-! ### How deep -/
/-- Behind k binds terms are at most 2^k times as deep. -/
theorem unif_deep (N : Nat) : ∀ (f : Nat) (σ σ' : Sb) (a b : Tm) (M : Nat), Idem σ → InV N σ → VarsTo N a → VarsTo N b → unif f σ a b = .ok σ' → (a.sub σ).depth ≤ M → (b.sub σ).depth ≤ M →
    leftN N σ' ≤ leftN N σ ∧ ∀ t : Tm, (t.sub σ).depth ≤ M → (t.sub σ').depth ≤ 2 ^ (leftN N σ - leftN N σ') * M
  | 0, _, _, _, _, _, _, _, _, _, h, _, _ => by cases h
  | f + 1, σ, σ', a, b, M, hi, hv, ha, hb, h, da, db => by
    have one : ∀ (n : Nat) (B : Tm) (x y : Tm), x.sub σ = var n → y.sub σ = B → VarsTo N x → VarsTo N y → B.depth ≤ M → bindT σ n B = .ok σ' →
        leftN N σ' ≤ leftN N σ ∧ ∀ t : Tm, (t.sub σ).depth ≤ M → (t.sub σ').depth ≤ 2 ^ (leftN N σ - leftN N σ') * M := by
      intro n B x y ex ey hx hy hBM hbd
      have hless := less_bind hi hv ex ey hx hy
      have hB := fix_of_sub hi ey
      have hn : σ n = var n := fix_of_sub hi ex
      have hnN : n ≤ N := varsTo_sub hv hx n (by rw [ex]; simp [occ])
      unfold bindT at hbd
      by_cases ho : B.occ n = true
      · rw [if_pos ho] at hbd; cases hbd
      · have ho' : B.occ n = false := by simpa using ho
        rw [if_neg ho] at hbd
        injection hbd with hbd
        subst hbd
        have hl := bind_less hnN hB hn ho'
        refine ⟨by omega, fun t ht => ?_⟩
        have e : t.sub (bindS σ n B) = (t.sub σ).sub (single n B) := by rw [sub_sub]; rfl
        rw [e]
        have hd := depth_sub_le (σ := single n B) (d := M) (t := t.sub σ) (fun m _ => by
          unfold single
          by_cases hmn : m = n
          · rw [if_pos hmn]; exact hBM
          · rw [if_neg hmn]; exact Nat.zero_le _)
        have hp : 2 ≤ 2 ^ (leftN N σ - leftN N (bindS σ n B)) := by
          obtain ⟨j, hj⟩ : ∃ j, leftN N σ - leftN N (bindS σ n B) = j + 1 := ⟨leftN N σ - leftN N (bindS σ n B) - 1, by omega⟩
          rw [hj, Nat.pow_succ]
          have := Nat.two_pow_pos j
          omega
        have := Nat.mul_le_mul_right M hp
        omega
    have same : ∀ (q : .ok σ = (.ok σ' : Except Nat Sb)), leftN N σ' ≤ leftN N σ ∧ ∀ t : Tm, (t.sub σ).depth ≤ M → (t.sub σ').depth ≤ 2 ^ (leftN N σ - leftN N σ') * M := by
      intro q
      injection q with q
      subst q
      exact ⟨Nat.le_refl _, fun t ht => by rw [Nat.sub_self]; simpa using ht⟩
    unfold unif at h
    cases ea : a.sub σ with
    | var m =>
      rw [ea] at da h
      cases eb : b.sub σ with
      | var n =>
        rw [eb] at db h
        simp only at h
        by_cases hmn : m = n
        · rw [if_pos hmn] at h; exact same h
        · rw [if_neg hmn] at h
          by_cases hlt : m < n
          · rw [if_pos hlt] at h; exact one n _ b a eb ea hb ha da h
          · rw [if_neg hlt] at h; exact one m _ a b ea eb ha hb db h
      | star => rw [eb] at db h; exact one m _ a b ea eb ha hb db h
      | arr b1 b2 => rw [eb] at db h; exact one m _ a b ea eb ha hb db h
    | star =>
      rw [ea] at da h
      cases eb : b.sub σ with
      | var n => rw [eb] at db h; exact one n _ b a eb ea hb ha da h
      | star => rw [eb] at db h; exact same h
      | arr b1 b2 => rw [eb] at db h; cases h
    | arr a1 a2 =>
      rw [ea] at da h
      cases eb : b.sub σ with
      | var n => rw [eb] at db h; exact one n _ b a eb ea hb ha da h
      | star => rw [eb] at db h; cases h
      | arr b1 b2 =>
        rw [eb] at db h
        simp only at h
        have fa := fix_of_sub hi ea
        have fb := fix_of_sub hi eb
        have fa1 : a1.sub σ = a1 := by simp only [Tm.sub] at fa; injection fa
        have fa2 : a2.sub σ = a2 := by simp only [Tm.sub] at fa; injection fa
        have fb1 : b1.sub σ = b1 := by simp only [Tm.sub] at fb; injection fb
        have fb2 : b2.sub σ = b2 := by simp only [Tm.sub] at fb; injection fb
        have va := varsTo_sub hv ha
        have vb := varsTo_sub hv hb
        rw [ea] at va
        rw [eb] at vb
        simp only [Tm.depth] at da db
        have va1 : VarsTo N a1 := fun m hm => va m (by simp [occ, hm])
        have va2 : VarsTo N a2 := fun m hm => va m (by simp [occ, hm])
        have vb1 : VarsTo N b1 := fun m hm => vb m (by simp [occ, hm])
        have vb2 : VarsTo N b2 := fun m hm => vb m (by simp [occ, hm])
        cases e1 : unif f σ a1 b1 with
        | error e => rw [e1] at h; cases h
        | ok σ1 =>
          rw [e1] at h
          simp only at h
          have g1 := unif_less N f σ a1 b1 hi hv va1 vb1
          have q1 := unif_good f σ a1 b1 hi
          rw [e1] at g1 q1
          obtain ⟨l1, d1⟩ := unif_deep N f σ σ1 a1 b1 M hi hv va1 vb1 e1 (by rw [fa1]; omega) (by rw [fb1]; omega)
          obtain ⟨l2, d2⟩ := unif_deep N f σ1 σ' a2 b2 _ q1.1 g1.1 va2 vb2 h (d1 a2 (by rw [fa2]; omega)) (d1 b2 (by rw [fb2]; omega))
          refine ⟨Nat.le_trans l2 l1, fun t ht => ?_⟩
          have := d2 t (d1 t ht)
          rw [← Nat.mul_assoc, ← Nat.pow_add] at this
          rw [show leftN N σ - leftN N σ' = leftN N σ1 - leftN N σ' + (leftN N σ - leftN N σ1) by omega]
          exact this
end Go.Proofs.Ytomhojpoaicioaa
