/- Plain mathematics of chapter 4 (P4.2, P4.3, P4.5): names of numbers; types without the names that TAlls give; what is put into a type, as the document says it; what is free there; and that it is, without names, what is put into the type without names. No program, no world. -/
import Derived.Test.YtbdfjboojokgdaaDoorJU10
namespace Go.Proofs.YtbdfjboojokgdaaDoor
open Go.RowKit

/-! ### Free variables -/
/-- A name is free in a type. -/
def Ty.fv (x : ByteArray) : Ty → Prop
  | .var s => x = s
  | .app a b => a.fv x ∨ b.fv x
  | .all s a => x ≠ s ∧ a.fv x
  | _ => False
theorem freeD_mem (x : ByteArray) (t : Ty) : ∀ (given out : List ByteArray), x ∈ freeD given out t ↔ x ∈ out ∨ (t.fv x ∧ x ∉ given) := by
  induction t with
  | hole n => intro given out; simp [freeD, Ty.fv]
  | con s => intro given out; simp [freeD, Ty.fv]
  | var s =>
    intro given out
    simp only [freeD, Ty.fv]
    split
    · rename_i h
      constructor
      · exact .inl
      · rintro (h1 | ⟨rfl, h2⟩)
        · exact h1
        · rcases h with h | h
          · exact absurd (hasB_mem.1 h) h2
          · exact hasB_mem.1 h
    · rename_i h
      rw [List.mem_append, List.mem_singleton]
      constructor
      · rintro (h1 | rfl)
        · exact .inl h1
        · exact .inr ⟨rfl, fun h9 => h (.inl (hasB_mem.2 h9))⟩
      · rintro (h1 | ⟨h1, _⟩)
        · exact .inl h1
        · exact .inr h1
  | app a b iha ihb =>
    intro given out
    simp only [freeD, Ty.fv]
    rw [ihb, iha]
    constructor
    · rintro ((h | ⟨h, h2⟩) | ⟨h, h2⟩)
      · exact .inl h
      · exact .inr ⟨.inl h, h2⟩
      · exact .inr ⟨.inr h, h2⟩
    · rintro (h | ⟨h | h, h2⟩)
      · exact .inl (.inl h)
      · exact .inl (.inr ⟨h, h2⟩)
      · exact .inr ⟨h, h2⟩
  | all s a ih =>
    intro given out
    simp only [freeD, Ty.fv]
    rw [ih]
    simp only [List.mem_append, List.mem_singleton, not_or]
    constructor
    · rintro (h | ⟨h, h1, h2⟩)
      · exact .inl h
      · exact .inr ⟨⟨h2, h⟩, h1⟩
    · rintro (h | ⟨⟨h2, h⟩, h1⟩)
      · exact .inl h
      · exact .inr ⟨h, h1, h2⟩
theorem free_mem {x : ByteArray} {t : Ty} : x ∈ t.free ↔ t.fv x := by
  rw [← free_is, freeD_mem]; simp
theorem fv_size {x : ByteArray} {t : Ty} {m : Nat} (h : t.fv x) (hs : ∀ s, t.fv s → s.size ≤ m) : x.size ≤ m := hs x h
/-! ### Puts -/
/-- What is put in a name's place. -/
def lookS : List (ByteArray × Ty) → ByteArray → Option Ty
  | [], _ => none
  | p :: r, s => if p.1 = s then some p.2 else lookS r s
theorem lookS_filter (q : ByteArray → Bool) (s : ByteArray) : ∀ (σ : List (ByteArray × Ty)), lookS (σ.filter (fun p => q p.1)) s = if q s = true then lookS σ s else none
  | [] => by simp [lookS]
  | p :: r => by
    have ih := lookS_filter q s r
    by_cases hq : q p.1 = true
    · rw [List.filter_cons_of_pos (by simpa using hq), lookS, lookS, ih]
      by_cases he : p.1 = s
      · subst he; simp [hq]
      · simp [he]
    · rw [List.filter_cons_of_neg (by simpa using hq), lookS, ih]
      by_cases he : p.1 = s
      · subst he; simp [hq]
      · simp [he]
theorem lookS_append (s : ByteArray) (τ : List (ByteArray × Ty)) : ∀ (σ : List (ByteArray × Ty)), lookS (σ ++ τ) s = match lookS σ s with | some u => some u | none => lookS τ s
  | [] => by simp [lookS]
  | p :: r => by
    rw [List.cons_append, lookS, lookS, lookS_append s τ r]
    by_cases he : p.1 = s <;> simp [he]
theorem lookS_mem {s : ByteArray} {u : Ty} : ∀ {σ : List (ByteArray × Ty)}, lookS σ s = some u → (s, u) ∈ σ
  | [], h => by simp [lookS] at h
  | p :: r, h => by
    rw [lookS] at h
    split at h
    · rename_i he
      injection h with h
      subst h; subst he
      exact List.mem_cons_self ..
    · exact List.mem_cons_of_mem _ (lookS_mem h)
theorem lookS_some {s : ByteArray} : ∀ {σ : List (ByteArray × Ty)}, (∃ u, lookS σ s = some u) ↔ s ∈ σ.map (·.1)
  | [] => by simp [lookS]
  | p :: r => by
    rw [lookS, List.map_cons, List.mem_cons, ← lookS_some (σ := r)]
    by_cases he : p.1 = s
    · rw [if_pos he]; simp [he]
    · rw [if_neg he]; simp [Ne.symm he]
theorem lookS_none {s : ByteArray} {σ : List (ByteArray × Ty)} : lookS σ s = none ↔ s ∉ σ.map (·.1) := by
  rw [← lookS_some]
  cases lookS σ s <;> simp
theorem lookS_one {σ : List (ByteArray × Ty)} (hn : (σ.map (·.1)).Nodup) {s : ByteArray} {u : Ty} (h : (s, u) ∈ σ) : lookS σ s = some u := by
  induction σ with
  | nil => cases h
  | cons p r ih =>
    rw [List.map_cons, List.nodup_cons] at hn
    rw [lookS]
    rcases List.mem_cons.1 h with h | h
    · rw [if_pos (by rw [← h]), ← h]
    · rw [if_neg (fun e => hn.1 (by rw [e]; exact List.mem_map.2 ⟨_, h, rfl⟩)), ih hn.2 h]
/-! ### Names of numbers -/
def lettersL (n : Nat) : List UInt8 := UInt8.ofNat (97 + n % 26) :: (if n < 26 then [] else Lib.decDigits (n / 26))
def letB (n : Nat) : ByteArray := ⟨(lettersL n).toArray⟩
def decVal (l : List UInt8) : Nat := l.foldl (fun a c => a * 10 + (c.toNat - 48)) 0
theorem ofNat_toN (n : Nat) (h : n < 256) : (UInt8.ofNat n).toNat = n := by simp [UInt8.toNat_ofNat']; omega
theorem decVal_dec : ∀ (f u : Nat), u < f → decVal (Lib.decDigits u) = u
  | 0, _, h => absurd h (Nat.not_lt_zero _)
  | f + 1, u, h => by
    rw [Lib.decDigits]
    by_cases h10 : u < 10
    · rw [dif_pos h10]; simp only [decVal, List.foldl_cons, List.foldl_nil]; rw [ofNat_toN _ (by omega)]; omega
    · rw [dif_neg h10]
      unfold decVal
      rw [List.foldl_append]
      have := decVal_dec f (u / 10) (by omega)
      unfold decVal at this
      rw [this]
      simp only [List.foldl_cons, List.foldl_nil]
      rw [ofNat_toN _ (by omega)]; omega
theorem decVal_eq (u : Nat) : decVal (Lib.decDigits u) = u := decVal_dec (u + 1) u (Nat.lt_succ_self _)
theorem dec_ne (u : Nat) : Lib.decDigits u ≠ [] := by
  intro h
  have := Lib.decDigits_length u
  have := Lib.nDigits_pos u
  rw [h] at *
  simp at *
  omega
theorem letters_inj (x y : Nat) (h : lettersL x = lettersL y) : x = y := by
  unfold lettersL at h
  rw [List.cons.injEq] at h
  obtain ⟨h1, h2⟩ := h
  have e := congrArg UInt8.toNat h1
  rw [ofNat_toN _ (by omega), ofNat_toN _ (by omega)] at e
  by_cases hx : x < 26 <;> by_cases hy : y < 26
  · omega
  · rw [if_pos hx, if_neg hy] at h2; exact absurd h2.symm (dec_ne _)
  · rw [if_neg hx, if_pos hy] at h2; exact absurd h2 (dec_ne _)
  · rw [if_neg hx, if_neg hy] at h2
    have := congrArg decVal h2
    rw [decVal_eq, decVal_eq] at this
    omega
theorem letB_inj {x y : Nat} (h : letB x = letB y) : x = y := by
  unfold letB at h
  injection h with h
  exact letters_inj x y (by have := congrArg Array.toList h; simpa using this)
theorem nodup_leB {l : List ByteArray} : ∀ {L : List ByteArray}, l.Nodup → (∀ x ∈ l, x ∈ L) → l.length ≤ L.length := by
  induction l with
  | nil => intro L _ _; exact Nat.zero_le _
  | cons a r ih =>
    intro L hn hs
    rw [List.nodup_cons] at hn
    have ha := hs a (List.mem_cons_self ..)
    have h1 := ih (L := L.erase a) hn.2 (fun x hx => (List.mem_erase_of_ne (fun e => hn.1 (by rw [← e]; exact hx))).2 (hs x (List.mem_cons_of_mem _ hx)))
    rw [List.length_erase_of_mem ha] at h1
    have h2 := List.length_pos_of_mem ha
    simp only [List.length_cons]
    omega
/-- The first letter that is none of these: some number below so many. -/
theorem letter_ex (q : ByteArray → Bool) (L : List ByteArray) (hL : ∀ s, q s = true → s ∈ L) : ∃ n, n ≤ L.length ∧ q (letB n) = false := by
  apply Classical.byContradiction
  intro h
  have hall : ∀ n, n ≤ L.length → letB n ∈ L := fun n hn => hL _ (by
    cases hq : q (letB n) with
    | true => rfl
    | false => exact absurd ⟨n, hn, hq⟩ h)
  have hnd : ((List.range (L.length + 1)).map letB).Nodup := by
    refine List.Pairwise.map _ ?_ List.nodup_range
    intro a b hab e
    exact hab (letB_inj e)
  have hsub : ∀ x ∈ (List.range (L.length + 1)).map letB, x ∈ L := fun x hx => by
    obtain ⟨n, hn, rfl⟩ := List.mem_map.1 hx
    exact hall n (by have := List.mem_range.1 hn; omega)
  have hlen := nodup_leB hnd hsub
  simp at hlen
  omega
/-- The first number from n on, of so many, whose letter is not taken. -/
def letN (q : ByteArray → Bool) : Nat → Nat → Nat
  | 0, n => n
  | f + 1, n => if q (letB n) = true then letN q f (n + 1) else n
theorem letN_is (q : ByteArray → Bool) : ∀ (f n m : Nat), n ≤ m → m ≤ n + f → q (letB m) = false → (∀ j, n ≤ j → j < m → q (letB j) = true) → letN q f n = m
  | 0, n, m, h1, h2, _, _ => by rw [letN]; omega
  | f + 1, n, m, h1, h2, h3, h4 => by
    rw [letN]
    by_cases he : n = m
    · subst he; rw [if_neg (by rw [h3]; simp)]
    · rw [if_pos (h4 n (Nat.le_refl _) (by omega))]
      exact letN_is q f (n + 1) m (by omega) (by omega) h3 (fun j h5 h6 => h4 j (by omega) h6)
theorem letN_first (q : ByteArray → Bool) (f : Nat) (h : ∃ n, n ≤ f ∧ q (letB n) = false) : q (letB (letN q f 0)) = false ∧ letN q f 0 ≤ f ∧ ∀ j, j < letN q f 0 → q (letB j) = true := by
  have key : ∀ (k : Nat), k ≤ f → (∀ j, j < k → q (letB j) = true) → (∃ n, n ≤ f ∧ k ≤ n ∧ q (letB n) = false) → ∃ m, m ≤ f ∧ q (letB m) = false ∧ ∀ j, j < m → q (letB j) = true := by
    intro k
    generalize hd : f - k = d
    induction d generalizing k with
    | zero =>
      intro hk hj ⟨n, hn, hkn, hq⟩
      obtain rfl : n = k := by omega
      exact ⟨n, hn, hq, hj⟩
    | succ d ih =>
      intro hk hj ⟨n, hn, hkn, hq⟩
      cases hqk : q (letB k) with
      | false => exact ⟨k, hk, hqk, hj⟩
      | true =>
        have hne : k ≠ n := fun e => by subst e; rw [hqk] at hq; cases hq
        exact ih (k + 1) (by omega) (by omega) (fun j hj2 => by
          by_cases e : j = k
          · subst e; exact hqk
          · exact hj j (by omega)) ⟨n, hn, by omega, hq⟩
  obtain ⟨n, hn, hq⟩ := h
  obtain ⟨m, hm, hqm, hjm⟩ := key 0 (Nat.zero_le _) (fun j hj => absurd hj (Nat.not_lt_zero _)) ⟨n, hn, Nat.zero_le _, hq⟩
  have e := letN_is q f 0 m (Nat.zero_le _) (by omega) hqm (fun j _ h => hjm j h)
  rw [e]
  exact ⟨hqm, hm, hjm⟩
/-! ### What is put into a type -/
/-- What is put into a body: what is free there, but the name that is given. -/
def intoB (s : ByteArray) (b : Ty) (σ : List (ByteArray × Ty)) : List (ByteArray × Ty) := σ.filter (fun p => decide (p.1 ≠ s) && hasB b.free p.1)
def takenB (τ : List (ByteArray × Ty)) : List ByteArray := τ.flatMap (fun p => p.2.free)
/-- The name that a TAll gives where its own would catch. -/
def freshB (b : Ty) (τ : List (ByteArray × Ty)) : ByteArray := letB (letN (fun x => hasB (takenB τ ++ b.free) x) (takenB τ ++ b.free).length 0)
/-- The document's Subst. -/
def Ty.sub : Ty → List (ByteArray × Ty) → Ty
  | .var s, σ => (lookS σ s).getD (.var s)
  | .app a b, σ => .app (a.sub σ) (b.sub σ)
  | .all s b, σ =>
    if hasB (takenB (intoB s b σ)) s = true then .all (freshB b (intoB s b σ)) (b.sub (intoB s b σ ++ [(s, .var (freshB b (intoB s b σ)))]))
    else .all s (b.sub (intoB s b σ))
  | t, _ => t
theorem fresh_not (b : Ty) (τ : List (ByteArray × Ty)) : freshB b τ ∉ takenB τ ∧ ¬ b.fv (freshB b τ) := by
  have h := (letN_first (fun x => hasB (takenB τ ++ b.free) x) (takenB τ ++ b.free).length (letter_ex _ _ (fun s hs => hasB_mem.1 hs))).1
  have h2 := hasB_not.1 h
  unfold freshB
  rw [List.mem_append, not_or] at h2
  exact ⟨h2.1, fun h9 => h2.2 (free_mem.2 h9)⟩
theorem lookS_into {s : ByteArray} {b : Ty} {σ : List (ByteArray × Ty)} {x : ByteArray} (h1 : x ≠ s) (h2 : b.fv x) : lookS (intoB s b σ) x = lookS σ x := by
  unfold intoB
  rw [lookS_filter (fun y => decide (y ≠ s) && hasB b.free y), if_pos (by simp [h1, hasB_mem.2 (free_mem.2 h2)])]
theorem lookS_into_own {s : ByteArray} {b : Ty} {σ : List (ByteArray × Ty)} : lookS (intoB s b σ) s = none := by
  unfold intoB
  rw [lookS_filter (fun y => decide (y ≠ s) && hasB b.free y), if_neg (by simp)]
theorem taken_mem {τ : List (ByteArray × Ty)} {x : ByteArray} : x ∈ takenB τ ↔ ∃ p ∈ τ, p.2.fv x := by
  unfold takenB
  rw [List.mem_flatMap]
  exact ⟨fun ⟨p, hp, h⟩ => ⟨p, hp, free_mem.1 h⟩, fun ⟨p, hp, h⟩ => ⟨p, hp, free_mem.2 h⟩⟩
/-! ### Types without names -/
inductive NT
  | hole (n : Int)
  | bv (i : Nat)
  | fv (s : ByteArray)
  | con (s : ByteArray)
  | app (a b : NT)
  | all (a : NT)
  deriving DecidableEq
def idxB : List ByteArray → ByteArray → Option Nat
  | [], _ => none
  | x :: r, s => if x = s then some 0 else (idxB r s).map (· + 1)
def Ty.nt : Ty → List ByteArray → NT
  | .hole n, _ => .hole n
  | .var s, G => match idxB G s with | some i => .bv i | none => .fv s
  | .con s, _ => .con s
  | .app a b, G => .app (a.nt G) (b.nt G)
  | .all s a, G => .all (a.nt (s :: G))
def NT.sub (θ : ByteArray → NT) : NT → NT
  | .fv s => θ s
  | .app a b => .app (a.sub θ) (b.sub θ)
  | .all a => .all (a.sub θ)
  | t => t
/-- A name stands free in a type without names. -/
def NT.has (x : ByteArray) : NT → Prop
  | .fv s => x = s
  | .app a b => a.has x ∨ b.has x
  | .all a => a.has x
  | _ => False
theorem idxB_none {s : ByteArray} : ∀ {G : List ByteArray}, idxB G s = none ↔ s ∉ G
  | [] => by simp [idxB]
  | x :: r => by
    rw [idxB, List.mem_cons, not_or]
    by_cases h : x = s
    · simp [h]
    · rw [if_neg h, Option.map_eq_none_iff, idxB_none]
      simp [Ne.symm h]
theorem nt_has (x : ByteArray) (t : Ty) : ∀ (G : List ByteArray), (t.nt G).has x ↔ t.fv x ∧ x ∉ G := by
  induction t with
  | hole n => intro G; simp [Ty.nt, NT.has, Ty.fv]
  | con s => intro G; simp [Ty.nt, NT.has, Ty.fv]
  | var s =>
    intro G
    rw [Ty.nt]
    cases h : idxB G s with
    | none =>
      simp only [NT.has, Ty.fv]
      have := idxB_none.1 h
      exact ⟨fun e => ⟨e, by rw [e]; exact this⟩, fun e => e.1⟩
    | some i =>
      simp only [NT.has, Ty.fv, false_iff, not_and]
      rintro rfl h2
      rw [idxB_none.2 h2] at h; cases h
  | app a b iha ihb =>
    intro G
    simp only [Ty.nt, NT.has, Ty.fv]
    rw [iha, ihb]
    constructor
    · rintro (⟨h, h2⟩ | ⟨h, h2⟩)
      · exact ⟨.inl h, h2⟩
      · exact ⟨.inr h, h2⟩
    · rintro ⟨h | h, h2⟩
      · exact .inl ⟨h, h2⟩
      · exact .inr ⟨h, h2⟩
  | all s a ih =>
    intro G
    simp only [Ty.nt, NT.has, Ty.fv]
    rw [ih, List.mem_cons, not_or]
    exact ⟨fun ⟨h, h1, h2⟩ => ⟨⟨h1, h⟩, h2⟩, fun ⟨⟨h1, h⟩, h2⟩ => ⟨h, h1, h2⟩⟩
/-- Two contexts that tell the same of what is free. -/
theorem nt_ctx (t : Ty) : ∀ (G H : List ByteArray), (∀ x, t.fv x → idxB G x = idxB H x) → t.nt G = t.nt H := by
  induction t with
  | hole n => intro G H _; rfl
  | con s => intro G H _; rfl
  | var s => intro G H h; rw [Ty.nt, Ty.nt, h s rfl]
  | app a b iha ihb => intro G H h; rw [Ty.nt, Ty.nt, iha G H (fun x hx => h x (.inl hx)), ihb G H (fun x hx => h x (.inr hx))]
  | all s a ih =>
    intro G H h
    rw [Ty.nt, Ty.nt, ih (s :: G) (s :: H) (fun x hx => by
      rw [idxB, idxB]
      by_cases he : s = x
      · rw [if_pos he, if_pos he]
      · rw [if_neg he, if_neg he, h x ⟨fun e => he e.symm, hx⟩])]
theorem nt_out {t : Ty} {G : List ByteArray} (h : ∀ x, t.fv x → x ∉ G) : t.nt G = t.nt [] := nt_ctx t G [] (fun x hx => by rw [idxB_none.2 (h x hx)]; rfl)
theorem NT.sub_ext {θ η : ByteArray → NT} : ∀ (a : NT), (∀ x, a.has x → θ x = η x) → a.sub θ = a.sub η
  | .hole _, _ => rfl
  | .bv _, _ => rfl
  | .con _, _ => rfl
  | .fv s, h => h s rfl
  | .app a b, h => by rw [NT.sub, NT.sub, NT.sub_ext a (fun x hx => h x (.inl hx)), NT.sub_ext b (fun x hx => h x (.inr hx))]
  | .all a, h => by rw [NT.sub, NT.sub, NT.sub_ext a (fun x hx => h x hx)]
theorem NT.sub_sub (θ η : ByteArray → NT) : ∀ (a : NT), (a.sub θ).sub η = a.sub (fun x => (θ x).sub η)
  | .hole _ => rfl
  | .bv _ => rfl
  | .con _ => rfl
  | .fv _ => rfl
  | .app a b => by simp only [NT.sub]; rw [NT.sub_sub θ η a, NT.sub_sub θ η b]
  | .all a => by simp only [NT.sub]; rw [NT.sub_sub θ η a]
theorem NT.sub_id : ∀ (a : NT) (θ : ByteArray → NT), (∀ x, a.has x → θ x = .fv x) → a.sub θ = a
  | .hole _, _, _ => rfl
  | .bv _, _, _ => rfl
  | .con _, _, _ => rfl
  | .fv s, θ, h => h s rfl
  | .app a b, θ, h => by rw [NT.sub, NT.sub_id a θ (fun x hx => h x (.inl hx)), NT.sub_id b θ (fun x hx => h x (.inr hx))]
  | .all a, θ, h => by rw [NT.sub, NT.sub_id a θ (fun x hx => h x hx)]
/-- What is put in, without names. -/
def thetaB (σ : List (ByteArray × Ty)) (x : ByteArray) : NT := ((lookS σ x).getD (.var x)).nt []
/-- What is put into a type is, without names, what is put into the type without names. -/
theorem sub_nt (t : Ty) : ∀ (σ : List (ByteArray × Ty)) (G H : List ByteArray) (θ : ByteArray → NT),
    (∀ x, t.fv x → (∃ i, idxB G x = some i ∧ ((lookS σ x).getD (.var x)).nt H = .bv i) ∨ (idxB G x = none ∧ (∀ y, ((lookS σ x).getD (.var x)).fv y → y ∉ H) ∧ ((lookS σ x).getD (.var x)).nt [] = θ x)) → (t.sub σ).nt H = (t.nt G).sub θ := by
  induction t with
  | hole n => intro σ G H θ _; rfl
  | con s => intro σ G H θ _; rfl
  | var s =>
    intro σ G H θ h
    rw [Ty.sub, Ty.nt]
    rcases h s rfl with ⟨i, h1, h2⟩ | ⟨h1, h2, h3⟩
    · rw [h1, h2]; rfl
    · rw [h1, nt_out h2, h3]; rfl
  | app a b iha ihb =>
    intro σ G H θ h
    rw [Ty.sub, Ty.nt, Ty.nt, NT.sub, iha σ G H θ (fun x hx => h x (.inl hx)), ihb σ G H θ (fun x hx => h x (.inr hx))]
  | all s b ih =>
    intro σ G H θ h
    have key : ∀ (s' : ByteArray) (τ : List (ByteArray × Ty)), (∀ x, b.fv x → x ≠ s → lookS τ x = lookS σ x) → ((lookS τ s).getD (.var s) = .var s') →
        (∀ x, b.fv x → x ≠ s → ¬ ((lookS σ x).getD (.var x)).fv s') → (b.sub τ).nt (s' :: H) = (b.nt (s :: G)).sub θ := by
      intro s' τ h3 h4 h5
      refine ih τ (s :: G) (s' :: H) θ (fun x hx => ?_)
      by_cases he : s = x
      · subst he
        refine .inl ⟨0, by rw [idxB, if_pos rfl], ?_⟩
        rw [h4, Ty.nt, idxB, if_pos rfl]
      · have hxs : x ≠ s := fun e => he e.symm
        rw [h3 x hx hxs, idxB, if_neg he]
        have hnf := h5 x hx hxs
        rcases h x ⟨hxs, hx⟩ with ⟨i, h7, h8⟩ | ⟨h7, h8, h9⟩
        · refine .inl ⟨i + 1, by rw [h7]; rfl, ?_⟩
          generalize (lookS σ x).getD (.var x) = u at *
          cases u with
          | var z =>
            rw [Ty.nt] at h8 ⊢
            rw [idxB, if_neg (fun e => hnf (by rw [e]; exact rfl))]
            cases hzz : idxB H z with
            | none => rw [hzz] at h8; cases h8
            | some j =>
              rw [hzz] at h8
              injection h8 with h8
              subst h8; rfl
          | hole n => cases h8
          | con n => cases h8
          | app a b => cases h8
          | all n a => cases h8
        · refine .inr ⟨by rw [h7]; rfl, fun y hy => ?_, h9⟩
          rw [List.mem_cons, not_or]
          exact ⟨fun e => hnf (by rw [← e]; exact hy), h8 y hy⟩
    have hin : ∀ x u, b.fv x → x ≠ s → lookS σ x = some u → (x, u) ∈ intoB s b σ := fun x u hx hxs hu => lookS_mem (by rw [lookS_into hxs hx]; exact hu)
    rw [Ty.sub, Ty.nt, NT.sub]
    split
    · rename_i hc
      have hf := fresh_not b (intoB s b σ)
      rw [Ty.nt]
      refine congrArg NT.all (key _ _ (fun x hx hxs => ?_) ?_ (fun x hx hxs => ?_))
      · rw [lookS_append, lookS_into hxs hx]
        cases lookS σ x with
        | some u => rfl
        | none => rw [lookS, if_neg (Ne.symm hxs)]; rfl
      · rw [lookS_append, lookS_into_own, lookS, if_pos rfl]; rfl
      · cases hl : lookS σ x with
        | some u => exact fun e => hf.1 (taken_mem.2 ⟨_, hin x u hx hxs hl, e⟩)
        | none => exact fun (e : _ = _) => hf.2 (by rw [e]; exact hx)
    · rename_i hc
      rw [Ty.nt]
      refine congrArg NT.all (key _ _ (fun x hx hxs => lookS_into hxs hx) ?_ (fun x hx hxs => ?_))
      · rw [lookS_into_own]; rfl
      · cases hl : lookS σ x with
        | some u => exact fun e => hc (hasB_mem.2 (taken_mem.2 ⟨_, hin x u hx hxs hl, e⟩))
        | none => exact fun (e : _ = _) => hxs e.symm
theorem sub_nt0 (t : Ty) (σ : List (ByteArray × Ty)) : (t.sub σ).nt [] = (t.nt []).sub (thetaB σ) :=
  sub_nt t σ [] [] _ (fun x _ => .inr ⟨rfl, fun _ _ => by simp, rfl⟩)
theorem NT.has_sub {θ : ByteArray → NT} {x : ByteArray} : ∀ (a : NT), (a.sub θ).has x ↔ ∃ y, a.has y ∧ (θ y).has x
  | .hole _ => by simp [NT.sub, NT.has]
  | .bv _ => by simp [NT.sub, NT.has]
  | .con _ => by simp [NT.sub, NT.has]
  | .fv s => by simp [NT.sub, NT.has]
  | .app a b => by
    simp only [NT.sub, NT.has]
    rw [NT.has_sub a, NT.has_sub b]
    constructor
    · rintro (⟨y, h1, h2⟩ | ⟨y, h1, h2⟩)
      · exact ⟨y, .inl h1, h2⟩
      · exact ⟨y, .inr h1, h2⟩
    · rintro ⟨y, h1 | h1, h2⟩
      · exact .inl ⟨y, h1, h2⟩
      · exact .inr ⟨y, h1, h2⟩
  | .all a => by simp only [NT.sub, NT.has]; rw [NT.has_sub a]
/-- What is free in a type into which others were put. -/
theorem sub_fv (t : Ty) (σ : List (ByteArray × Ty)) (x : ByteArray) : (t.sub σ).fv x ↔ ∃ y, t.fv y ∧ ((lookS σ y).getD (.var y)).fv x := by
  have h1 := nt_has x (t.sub σ) []
  rw [sub_nt0, NT.has_sub] at h1
  constructor
  · intro h
    obtain ⟨y, h2, h3⟩ := h1.2 ⟨h, by simp⟩
    exact ⟨y, ((nt_has y t []).1 h2).1, ((nt_has x _ []).1 h3).1⟩
  · rintro ⟨y, h2, h3⟩
    exact (h1.1 ⟨y, (nt_has y t []).2 ⟨h2, by simp⟩, (nt_has x _ []).2 ⟨h3, by simp⟩⟩).1
theorem theta_one (a : ByteArray) (x : Ty) : thetaB [(a, x)] a = x.nt [] := by
  unfold thetaB; rw [lookS, if_pos rfl]; rfl
theorem theta_other {a z : ByteArray} (x : Ty) (h : a ≠ z) : thetaB [(a, x)] z = .fv z := by
  unfold thetaB; rw [lookS, if_neg h]; rfl
/-- P4.5: what is put in one behind the other may be put in the other way round. -/
theorem sub_composes (t x y : Ty) (a b : ByteArray) (hab : a ≠ b) (hy : ¬ y.fv a) : ((t.sub [(a, x)]).sub [(b, y)]).nt [] = ((t.sub [(b, y)]).sub [(a, x.sub [(b, y)])]).nt [] := by
  rw [sub_nt0, sub_nt0, sub_nt0, sub_nt0, NT.sub_sub, NT.sub_sub]
  refine NT.sub_ext _ (fun z _ => ?_)
  by_cases h1 : a = z
  · subst h1
    rw [theta_one, theta_other y (Ne.symm hab), NT.sub, theta_one, sub_nt0]
  · by_cases h2 : b = z
    · subst h2
      rw [theta_one, theta_other x h1, NT.sub, theta_one]
      symm
      exact NT.sub_id _ _ (fun v hv => theta_other _ (fun e => hy (by rw [e]; exact ((nt_has v y []).1 hv).1)))
    · rw [theta_other x h1, theta_other y h2, NT.sub, NT.sub, theta_other y h2, theta_other _ h1]
/-! ### The same -/
def lvl (d : Int) (G : List ByteArray) (s : ByteArray) : Int := match idxB G s with | some i => d - i | none => 0
theorem idxB_lt {s : ByteArray} {i : Nat} : ∀ {G : List ByteArray}, idxB G s = some i → i < G.length
  | [], h => by simp [idxB] at h
  | x :: r, h => by
    rw [idxB] at h
    split at h
    · injection h with h; subst h; simp
    · cases hr : idxB r s with
      | none => rw [hr] at h; cases h
      | some j =>
        rw [hr] at h
        injection h with h
        subst h
        have := idxB_lt hr
        simp; omega
/-- Two types are the same just if they are one without names. -/
theorem same_nt (a : Ty) : ∀ (b : Ty) (fa fb : ByteArray → Int) (d : Int) (G H : List ByteArray), (G.length : Int) = d → (H.length : Int) = d → (∀ s, fa s = lvl d G s) → (∀ s, fb s = lvl d H s) → (sameT fa fb d a b = true ↔ a.nt G = b.nt H) := by
  induction a with
  | hole n =>
    intro b fa fb d G H _ _ _ _
    cases b with
    | hole m => simp [sameT, Ty.nt]
    | var s => simp only [sameT, Ty.nt]; cases idxB H s <;> simp
    | con s => simp [sameT, Ty.nt]
    | app x y => simp [sameT, Ty.nt]
    | all s x => simp [sameT, Ty.nt]
  | con c =>
    intro b fa fb d G H _ _ _ _
    cases b with
    | hole m => simp [sameT, Ty.nt]
    | var s => simp only [sameT, Ty.nt]; cases idxB H s <;> simp
    | con s => simp [sameT, Ty.nt]
    | app x y => simp [sameT, Ty.nt]
    | all s x => simp [sameT, Ty.nt]
  | var s =>
    intro b fa fb d G H hG hH h1 h2
    cases b with
    | var t =>
      simp only [sameT, Ty.nt]
      rw [h1 s, h2 t]
      unfold lvl
      cases hs : idxB G s with
      | none =>
        cases ht : idxB H t with
        | none => simp
        | some j =>
          have := idxB_lt ht
          simp; omega
      | some i =>
        have := idxB_lt hs
        cases ht : idxB H t with
        | none => simp; omega
        | some j =>
          have := idxB_lt ht
          simp; omega
    | hole m => simp only [sameT, Ty.nt]; cases idxB G s <;> simp
    | con t => simp only [sameT, Ty.nt]; cases idxB G s <;> simp
    | app x y => simp only [sameT, Ty.nt]; cases idxB G s <;> simp
    | all t x => simp only [sameT, Ty.nt]; cases idxB G s <;> simp
  | app a1 a2 ih1 ih2 =>
    intro b fa fb d G H hG hH h1 h2
    cases b with
    | app x y =>
      simp only [sameT, Ty.nt, Bool.and_eq_true]
      rw [ih1 x fa fb d G H hG hH h1 h2, ih2 y fa fb d G H hG hH h1 h2]
      simp
    | hole m => simp [sameT, Ty.nt]
    | var s => simp only [sameT, Ty.nt]; cases idxB H s <;> simp
    | con s => simp [sameT, Ty.nt]
    | all s x => simp [sameT, Ty.nt]
  | all s x ih =>
    intro b fa fb d G H hG hH h1 h2
    have hup : ∀ (f : ByteArray → Int) (K : List ByteArray) (z : ByteArray), (∀ y, f y = lvl d K y) → (K.length : Int) = d → ∀ y, updG f z (d + 1) y = lvl (d + 1) (z :: K) y := by
      intro f K z hf hK y
      unfold updG lvl
      rw [idxB]
      by_cases he : y = z
      · rw [if_pos he, if_pos he.symm]; simp
      · rw [if_neg he, if_neg (Ne.symm he), hf y]
        unfold lvl
        cases idxB K y with
        | none => rfl
        | some i => simp; omega
    cases b with
    | all t y =>
      simp only [sameT, Ty.nt]
      rw [ih y _ _ (d + 1) (s :: G) (t :: H) (by simp; omega) (by simp; omega) (hup fa G s h1 hG) (hup fb H t h2 hH)]
      simp
    | hole m => simp [sameT, Ty.nt]
    | var s => simp only [sameT, Ty.nt]; cases idxB H s <;> simp
    | con s => simp [sameT, Ty.nt]
    | app x y => simp [sameT, Ty.nt]
theorem same_nt0 (a b : Ty) : sameT (fun _ => 0) (fun _ => 0) 0 a b = true ↔ a.nt [] = b.nt [] :=
  same_nt a b _ _ 0 [] [] rfl rfl (fun _ => rfl) (fun _ => rfl)
end Go.Proofs.YtbdfjboojokgdaaDoor
