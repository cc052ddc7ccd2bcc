/- Plain mathematics of chapter 3: terms with inner variables, what a map of them says of a term, and what a change of the map does. No program, no world. -/
import Derived.Test.YtomhojpoaicioaaKindsV
namespace Go.Proofs.Ytomhojpoaicioaa
open Tm

/-- A term whose variables are any numbers: those below 0 are inner ones. -/
inductive Tz where
  | var (n : Int)
  | star
  | arr (a b : Tz)
def emb : Tm → Tz
  | .var n => .var n
  | .star => .star
  | .arr a b => .arr (emb a) (emb b)
/-- What is known of variables. -/
abbrev Kn := Int → Option Tz
def setK (kn : Kn) (n : Int) (v : Option Tz) : Kn := fun x => if x = n then v else kn x
theorem setK_self (kn : Kn) (n : Int) (v : Option Tz) : setK kn n v n = v := by unfold setK; rw [if_pos rfl]
theorem setK_ne (kn : Kn) {n x : Int} (v : Option Tz) (h : x ≠ n) : setK kn n v x = kn x := by unfold setK; rw [if_neg h]
/-- A term with all that is known is this one. -/
inductive Den (kn : Kn) : Tz → Tm → Prop
  | free (n : Nat) (hn : 1 ≤ n) (h : kn n = none) : Den kn (.var n) (.var n)
  | bound (n : Int) (t : Tz) (T : Tm) (h : kn n = some t) (ht : Den kn t T) : Den kn (.var n) T
  | star : Den kn .star .star
  | arr (a b : Tz) (A B : Tm) (ha : Den kn a A) (hb : Den kn b B) : Den kn (.arr a b) (.arr A B)
theorem Den.det {kn : Kn} {t : Tz} {T : Tm} (h : Den kn t T) : ∀ {T' : Tm}, Den kn t T' → T = T' := by
  induction h with
  | free n hn h =>
    intro T' h'
    cases h' with
    | free _ _ _ => rfl
    | bound _ t _ h2 _ => rw [h] at h2; cases h2
  | bound n t T h _ ih =>
    intro T' h'
    cases h' with
    | free m _ h2 => rw [h] at h2; cases h2
    | bound _ t' _ h2 ht' => rw [h] at h2; injection h2 with h2; subst h2; exact ih ht'
  | star => intro T' h'; cases h'; rfl
  | arr a b A B _ _ iha ihb => intro T' h'; cases h' with | arr _ _ A' B' ha' hb' => rw [iha ha', ihb hb']
/-- A new inner variable changes nothing. -/
theorem Den.inner {kn : Kn} {k : Int} (hk : k < 0) (hn : kn k = none) (v : Option Tz) {t : Tz} {T : Tm} (h : Den kn t T) : Den (setK kn k v) t T := by
  induction h with
  | free n hn' h => exact .free n hn' (by rw [setK_ne _ _ (by omega)]; exact h)
  | bound n t T h _ ih => exact .bound n t T (by rw [setK_ne _ _ (fun e => by rw [e, hn] at h; cases h)]; exact h) ih
  | star => exact .star
  | arr a b A B _ _ iha ihb => exact .arr a b A B iha ihb
/-- What does not hold a variable does not change with it. -/
theorem Den.avoid {kn : Kn} {n : Nat} (hn : kn n = none) (v : Option Tz) {t : Tz} {T : Tm} (h : Den kn t T) : T.occ n = false → Den (setK kn n v) t T := by
  induction h with
  | free m hm h =>
    intro ho
    have hne : m ≠ n := fun e => by subst e; simp [occ] at ho
    exact .free m hm (by rw [setK_ne _ _ (by omega)]; exact h)
  | bound m t T h _ ih => intro ho; exact .bound m t T (by rw [setK_ne _ _ (fun e => by rw [e, hn] at h; cases h)]; exact h) (ih ho)
  | star => intro _; exact .star
  | arr a b A B _ _ iha ihb =>
    intro ho
    have h' : (A.occ n || B.occ n) = false := ho
    rw [Bool.or_eq_false_iff] at h'
    exact .arr a b A B (iha h'.1) (ihb h'.2)
/-- A variable becomes known. -/
theorem Den.bind {kn : Kn} {n : Nat} (hn : kn n = none) {u : Tz} {B : Tm} (hu : Den kn u B) (ho : B.occ n = false) {t : Tz} {T : Tm} (h : Den kn t T) : Den (setK kn n (some u)) t (T.sub (single n B)) := by
  induction h with
  | free m hm h =>
    by_cases e : m = n
    · subst e
      have e2 : (Tm.var m).sub (single m B) = B := by show single m B m = B; unfold single; rw [if_pos rfl]
      rw [e2]
      exact .bound m u B (setK_self _ _ _) (hu.avoid hn _ ho)
    · have e2 : (Tm.var m).sub (single n B) = .var m := by show single n B m = _; unfold single; rw [if_neg e]
      rw [e2]
      exact .free m hm (by rw [setK_ne _ _ (by omega)]; exact h)
  | bound m t T h _ ih => exact .bound m t _ (by rw [setK_ne _ _ (fun e => by rw [e, hn] at h; cases h)]; exact h) ih
  | star => exact .star
  | arr a b A B' _ _ iha ihb => exact .arr a b _ _ iha ihb
/-- Smaller terms do not go through a variable of a greater one. -/
theorem Den.small {kn : Kn} {b : Int} {U : Tm} (hb : Den kn (.var b) U) (hk : kn b ≠ none) (v : Option Tz) {t : Tz} {T : Tm} (h : Den kn t T) : T.size < U.size → Den (setK kn b v) t T := by
  induction h with
  | free m hm h => intro _; exact .free m hm (by rw [setK_ne _ _ (fun e => hk (by rw [← e]; exact h))]; exact h)
  | bound m t T h ht ih =>
    intro hs
    have hne : m ≠ b := fun e => by
      subst e
      have := hb.det (.bound m t T h ht)
      rw [this] at hs; omega
    exact .bound m t T (by rw [setK_ne _ _ hne]; exact h) (ih hs)
  | star => intro _; exact .star
  | arr a c A C _ _ iha ihc =>
    intro hs
    have h1 : (Tm.arr A C).size = A.size + C.size + 1 := by simp only [Tm.size]
    rw [h1] at hs
    exact .arr a c A C (iha (by omega)) (ihc (by omega))
/-- A variable whose term is the same as another's is known to be that one: nothing changes. -/
theorem Den.join {kn : Kn} {a b : Int} {ta : Tz} {U : Tm} (hab : a ≠ b) (ha : kn a = some ta) (hv : ∀ n, ta ≠ .var n) (hda : Den kn (.var a) U) (hdb : Den kn (.var b) U) (hkb : kn b ≠ none) {t : Tz} {T : Tm} (h : Den kn t T) : Den (setK kn b (some (.var a))) t T := by
  have hA : Den (setK kn b (some (.var a))) (.var a) U := by
    have hta : Den kn ta U := by
      generalize hx : Tz.var a = x at hda
      cases hda with
      | free m _ h2 => injection hx with hx; rw [← hx, ha] at h2; cases h2
      | bound m t _ h2 h3 => injection hx with hx; rw [← hx, ha] at h2; injection h2 with h2; subst h2; exact h3
      | star => cases hx
      | arr _ _ _ _ _ _ => cases hx
    refine .bound a ta U (by rw [setK_ne _ _ hab]; exact ha) ?_
    cases hta with
    | free m _ _ => exact absurd rfl (hv m)
    | bound m _ _ _ _ => exact absurd rfl (hv m)
    | star => exact .star
    | arr x y X Y hx hy =>
      have h1 : (Tm.arr X Y).size = X.size + Y.size + 1 := by simp only [Tm.size]
      exact .arr x y X Y (Den.small hdb hkb _ hx (by omega)) (Den.small hdb hkb _ hy (by omega))
  induction h with
  | free m hm h => exact .free m hm (by rw [setK_ne _ _ (fun e => hkb (by rw [← e]; exact h))]; exact h)
  | bound m t T h ht ih =>
    by_cases e : m = b
    · subst e
      have := hdb.det (.bound m t T h ht)
      subst this
      exact .bound m _ _ (setK_self _ _ _) hA
    · exact .bound m t T (by rw [setK_ne _ _ e]; exact h) ih
  | star => exact .star
  | arr x y X Y _ _ ihx ihy => exact .arr x y X Y ihx ihy

/-! ### Where a variable leads -/
/-- From a term, in so many steps, to what it is known to be: no variable, unless nothing is known of it. -/
def Chain (kn : Kn) : Nat → Tz → Tz → Prop
  | 0, c, e => c = e ∧ ∀ n, c = .var n → kn n = none
  | k + 1, c, e => ∃ n t, c = .var n ∧ kn n = some t ∧ Chain kn k t e
theorem Den.chain {kn : Kn} {t : Tz} {T : Tm} (h : Den kn t T) : ∃ k e, Chain kn k t e ∧ Den kn e T := by
  induction h with
  | free n hn h => exact ⟨0, _, ⟨rfl, fun m e => by injection e with e; rw [← e]; exact h⟩, .free n hn h⟩
  | bound n t T h _ ih => obtain ⟨k, e, hc, hd⟩ := ih; exact ⟨k + 1, e, ⟨n, t, rfl, h, hc⟩, hd⟩
  | star => exact ⟨0, _, ⟨rfl, fun m e => by cases e⟩, .star⟩
  | arr a b A B ha hb _ _ => exact ⟨0, _, ⟨rfl, fun m e => by cases e⟩, .arr a b A B ha hb⟩
theorem Chain.end {kn : Kn} : ∀ {k : Nat} {t e : Tz}, Chain kn k t e → ∀ n, e = .var n → kn n = none
  | 0, _, _, h, n, hn => by obtain ⟨rfl, h⟩ := h; exact h n hn
  | _ + 1, _, _, h, n, hn => by obtain ⟨_, _, _, _, h⟩ := h; exact h.end n hn
theorem Chain.den {kn : Kn} : ∀ {k : Nat} {t e : Tz} {T : Tm}, Chain kn k t e → Den kn e T → Den kn t T
  | 0, _, _, _, h, hd => by obtain ⟨rfl, _⟩ := h; exact hd
  | _ + 1, _, _, _, h, hd => by obtain ⟨n, t, rfl, hn, h⟩ := h; exact .bound n t _ hn (h.den hd)
theorem Chain.det {kn : Kn} : ∀ {k k' : Nat} {t e e' : Tz}, Chain kn k t e → Chain kn k' t e' → e = e' ∧ k = k'
  | 0, 0, _, _, _, h, h' => by obtain ⟨rfl, _⟩ := h; obtain ⟨rfl, _⟩ := h'; exact ⟨rfl, rfl⟩
  | 0, _ + 1, _, _, _, h, h' => by obtain ⟨rfl, h⟩ := h; obtain ⟨n, t, rfl, hn, _⟩ := h'; rw [h n rfl] at hn; cases hn
  | _ + 1, 0, _, _, _, h, h' => by obtain ⟨n, t, rfl, hn, _⟩ := h; obtain ⟨rfl, h'⟩ := h'; rw [h' n rfl] at hn; cases hn
  | k + 1, k' + 1, _, _, _, h, h' => by
    obtain ⟨n, t, rfl, hn, h⟩ := h
    obtain ⟨n', t', e, hn', h'⟩ := h'
    injection e with e
    subst e
    rw [hn] at hn'
    injection hn' with hn'
    subst hn'
    obtain ⟨h1, h2⟩ := h.det h'
    exact ⟨h1, by rw [h2]⟩
/-- From a term, in so many steps, to the last variable that it is known to be. -/
def RChain (kn : Kn) : Nat → Tz → Tz → Prop
  | 0, c, r => c = r ∧ ∀ n m, c = .var n → kn n ≠ some (.var m)
  | k + 1, c, r => ∃ n m, c = .var n ∧ kn n = some (.var m) ∧ RChain kn k (.var m) r
theorem Den.rchain {kn : Kn} {t : Tz} {T : Tm} (h : Den kn t T) : ∃ k r, RChain kn k t r ∧ Den kn r T := by
  induction h with
  | free n hn h => exact ⟨0, _, ⟨rfl, fun a m e => by injection e with e; rw [← e, h]; simp⟩, .free n hn h⟩
  | bound n t T h ht ih =>
    obtain ⟨k, r, hc, hd⟩ := ih
    cases t with
    | var m => exact ⟨k + 1, r, ⟨n, m, rfl, h, hc⟩, hd⟩
    | star => exact ⟨0, _, ⟨rfl, fun a m e => by injection e with e; rw [← e, h]; simp⟩, .bound n _ T h ht⟩
    | arr a b => exact ⟨0, _, ⟨rfl, fun a m e => by injection e with e; rw [← e, h]; simp⟩, .bound n _ T h ht⟩
  | star => exact ⟨0, _, ⟨rfl, fun a m e => by cases e⟩, .star⟩
  | arr a b A B ha hb _ _ => exact ⟨0, _, ⟨rfl, fun x m e => by cases e⟩, .arr a b A B ha hb⟩
theorem RChain.end {kn : Kn} : ∀ {k : Nat} {t r : Tz}, RChain kn k t r → ∀ n m, r = .var n → kn n ≠ some (.var m)
  | 0, _, _, h, n, m, hn => by obtain ⟨rfl, h⟩ := h; exact h n m hn
  | _ + 1, _, _, h, n, m, hn => by obtain ⟨_, _, _, _, h⟩ := h; exact h.end n m hn

/-! ### What is known, as a substitution -/
structure St (kn : Kn) (σ : Sb) : Prop where
  den : ∀ n : Nat, 1 ≤ n → Den kn (.var n) (σ n)
  zero : σ 0 = .var 0
  tot : ∀ x : Int, kn x ≠ none → ∃ T, Den kn (.var x) T
theorem St.same {kn kn' : Kn} {σ : Sb} (h : St kn σ) (hd : ∀ {t T}, Den kn t T → Den kn' t T) (hx : ∀ x, kn' x ≠ none → kn x ≠ none ∨ ∃ T, Den kn' (.var x) T) : St kn' σ :=
  ⟨fun n hn => hd (h.den n hn), h.zero, fun x hk => by
    rcases hx x hk with h1 | h1
    · obtain ⟨T, hT⟩ := h.tot x h1; exact ⟨T, hd hT⟩
    · exact h1⟩
theorem St.bind {kn : Kn} {σ : Sb} (h : St kn σ) {n : Nat} (hn1 : 1 ≤ n) (hn : kn n = none) {u : Tz} {B : Tm} (hu : Den kn u B) (ho : B.occ n = false) : St (setK kn n (some u)) (bindS σ n B) := by
  refine ⟨fun m hm => Den.bind hn hu ho (h.den m hm), ?_, fun x hk => ?_⟩
  · show (σ 0).sub (single n B) = _
    rw [h.zero]
    show single n B 0 = _
    unfold single
    rw [if_neg (by omega)]
  · by_cases e : x = n
    · subst e; exact ⟨B, .bound _ u B (setK_self _ _ _) (hu.avoid hn _ ho)⟩
    · rw [setK_ne _ _ e] at hk
      obtain ⟨T, hT⟩ := h.tot x hk
      exact ⟨_, Den.bind hn hu ho hT⟩
/-- What a term is, is what the substitution leaves alone. -/
theorem St.fix {kn : Kn} {σ : Sb} (h : St kn σ) {t : Tz} {T : Tm} (hd : Den kn t T) : T.sub σ = T := by
  induction hd with
  | free n hn hk => exact (h.den n hn).det (.free n hn hk)
  | bound _ _ _ _ _ ih => exact ih
  | star => rfl
  | arr a b A B _ _ iha ihb => show Tm.arr (A.sub σ) (B.sub σ) = _; rw [iha, ihb]
theorem St.idem {kn : Kn} {σ : Sb} (h : St kn σ) : Idem σ := fun n => by
  cases n with
  | zero => rw [h.zero]; exact h.zero
  | succ n => exact h.fix (h.den (n + 1) (by omega))
theorem St.emb {kn : Kn} {σ : Sb} (h : St kn σ) : ∀ (t : Tm), t.occ 0 = false → Den kn (emb t) (t.sub σ)
  | .var n, ho => h.den n (by rcases Nat.eq_zero_or_pos n with e | e; (subst e; simp [occ] at ho); exact e)
  | .star, _ => .star
  | .arr a b, ho => by
    have h' : (a.occ 0 || b.occ 0) = false := ho
    rw [Bool.or_eq_false_iff] at h'
    exact .arr _ _ _ _ (h.emb a h'.1) (h.emb b h'.2)
/-! ### How high -/
/-- As Den, with the derivation's height. -/
inductive DenH (kn : Kn) : Nat → Tz → Tm → Prop
  | free (n : Nat) (hn : 1 ≤ n) (h : kn n = none) : DenH kn 0 (.var n) (.var n)
  | bound (k : Nat) (n : Int) (t : Tz) (T : Tm) (h : kn n = some t) (ht : DenH kn k t T) : DenH kn (k + 1) (.var n) T
  | star : DenH kn 0 .star .star
  | arr (k l : Nat) (a b : Tz) (A B : Tm) (ha : DenH kn k a A) (hb : DenH kn l b B) : DenH kn (max k l + 1) (.arr a b) (.arr A B)
theorem DenH.den {kn : Kn} {k : Nat} {t : Tz} {T : Tm} (h : DenH kn k t T) : Den kn t T := by
  induction h with
  | free n hn h => exact .free n hn h
  | bound k n t T h _ ih => exact .bound n t T h ih
  | star => exact .star
  | arr k l a b A B _ _ iha ihb => exact .arr a b A B iha ihb
theorem Den.high {kn : Kn} {t : Tz} {T : Tm} (h : Den kn t T) : ∃ k, DenH kn k t T := by
  induction h with
  | free n hn h => exact ⟨0, .free n hn h⟩
  | bound n t T h _ ih => obtain ⟨k, ih⟩ := ih; exact ⟨k + 1, .bound k n t T h ih⟩
  | star => exact ⟨0, .star⟩
  | arr a b A B _ _ iha ihb => obtain ⟨k, iha⟩ := iha; obtain ⟨l, ihb⟩ := ihb; exact ⟨_, .arr k l a b A B iha ihb⟩
theorem DenH.det {kn : Kn} {k : Nat} {t : Tz} {T : Tm} (h : DenH kn k t T) : ∀ {k' : Nat} {T' : Tm}, DenH kn k' t T' → k = k' := by
  induction h with
  | free n hn h =>
    intro k' T' h'
    cases h' with
    | free _ _ _ => rfl
    | bound _ _ t _ h2 _ => rw [h] at h2; cases h2
  | bound k n t T h _ ih =>
    intro k' T' h'
    cases h' with
    | free m _ h2 => rw [h] at h2; cases h2
    | bound _ _ t' _ h2 ht' => rw [h] at h2; injection h2 with h2; subst h2; rw [ih ht']
  | star => intro k' T' h'; cases h'; rfl
  | arr k l a b A B _ _ iha ihb => intro k' T' h'; cases h' with | arr _ _ _ _ A' B' ha' hb' => rw [iha ha', ihb hb']
theorem st_empty : St (fun _ => none) Tm.var := ⟨fun n hn => .free n hn rfl, rfl, fun _ h => absurd rfl h⟩
end Go.Proofs.Ytomhojpoaicioaa
