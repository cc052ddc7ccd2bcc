/- Plain mathematics of chapter 5: what stands among tokens: types, predicates, schemes. No program, no world. The contracts of the document's name, Lower and Upper (chapter 1). No conditions but those that each theorem names. -/
import Derived.Test.YtbdfjboojokgdaaDoorJ02
import Derived.Test.YtbdfjboojokgdaaDoorFreeM
import Derived.Test.YtbdfjboojokgdaaDoorQBase
import Derived.Lib.Hide
namespace Go.Proofs.YtbdfjboojokgdaaDoor
open Lx

/-- What is read: a type, and the tokens behind it; or a refusal. -/
inductive Got
  | ok (t : Ty) (r : List Tok)
  | no (e p : Nat)
def isSym (t : Tok) (x : List UInt8) : Bool := t.kind == 4 && t.text == x
def mkB (l : List UInt8) : ByteArray := ⟨l.toArray⟩
def begT (t : Tok) : Bool := t.kind == 1 || t.kind == 2 || isSym t [40]
mutual
def atomN : Nat → List Tok → Nat → Option Got
  | 0, _, _ => none
  | _ + 1, [], _ => none
  | n + 1, t :: r, o =>
    if t.kind = 2 then some (.ok (.con (mkB t.text)) r)
    else if t.kind = 1 then some (.ok (.var (mkB t.text)) r)
    else if isSym t [40] = false then some (.no 12 t.place)
    else if 40 ≤ o then some (.no 13 t.place)
    else match typeN n r (o + 1) with
      | some (.ok x (c :: q)) => if isSym c [41] = true then some (.ok x q) else some (.no 12 c.place)
      | some (.ok _ []) => none
      | some (.no e p) => some (.no e p)
      | none => none
def appsN : Nat → Ty → List Tok → Nat → Option Got
  | 0, _, _, _ => none
  | _ + 1, _, [], _ => none
  | n + 1, x, t :: r, o =>
    if begT t = true then match atomN n (t :: r) o with
      | some (.ok a q) => appsN n (.app x a) q o
      | some (.no e p) => some (.no e p)
      | none => none
    else some (.ok x (t :: r))
def typeN : Nat → List Tok → Nat → Option Got
  | 0, _, _ => none
  | n + 1, l, o => match atomN n l o with
    | some (.ok x q) => match appsN n x q o with
      | some (.ok y (c :: s)) => if isSym c [45, 62] = true then match typeN n s o with
          | some (.ok z u) => some (.ok (.fn y z) u)
          | some (.no e p) => some (.no e p)
          | none => none
        else some (.ok y (c :: s))
      | some (.ok _ []) => none
      | some (.no e p) => some (.no e p)
      | none => none
    | some (.no e p) => some (.no e p)
    | none => none
end
/-- The last token is an end, and no other one is. -/
def EndsT (l : List Tok) : Prop := ∃ r t, l = r ++ [t] ∧ t.kind = 6
theorem EndsT.ne {l : List Tok} (h : EndsT l) : l ≠ [] := by obtain ⟨r, t, e, _⟩ := h; rw [e]; simp
theorem EndsT.tail {t : Tok} {r : List Tok} (h : EndsT (t :: r)) (ht : t.kind ≠ 6) : EndsT r := by
  obtain ⟨q, u, e, hu⟩ := h
  cases q with
  | nil => simp at e; exact absurd (e.1 ▸ hu) ht
  | cons a q => simp at e; exact ⟨q, u, e.2, hu⟩
theorem sym_kind {t : Tok} {x : List UInt8} (h : isSym t x = true) : t.kind ≠ 6 := by
  unfold isSym at h; intro e; rw [e] at h; simp at h
/-- What is known of what is read. -/
def Fits (l : List Tok) (k : Nat) (g : Option Got) : Prop := ∃ r, g = some r ∧ ∀ t q, r = .ok t q → EndsT q ∧ q <:+ l ∧ q.length + k ≤ l.length ∧ t.sz + 1 ≤ 4 * (l.length - q.length)
theorem fn_sz (a b : Ty) : (Ty.fn a b).sz = a.sz + b.sz + 3 := by simp [Ty.fn, Ty.sz]; omega
theorem fits_all : ∀ n : Nat, (∀ l o, EndsT l → 3 * l.length ≤ n → Fits l 1 (atomN n l o)) ∧
    (∀ x l o, EndsT l → 3 * l.length + 1 ≤ n → ∃ r, appsN n x l o = some r ∧ ∀ t q, r = .ok t q → EndsT q ∧ q <:+ l ∧ t.sz ≤ x.sz + 4 * (l.length - q.length)) ∧
    (∀ l o, EndsT l → 3 * l.length + 2 ≤ n → Fits l 1 (typeN n l o))
  | 0 => by
    refine ⟨fun l o h hn => ?_, fun x l o h hn => absurd hn (by omega), fun l o h hn => absurd hn (by omega)⟩
    have := List.length_pos_iff.2 h.ne; omega
  | n + 1 => by
    obtain ⟨iha, ihp, iht⟩ := fits_all n
    refine ⟨fun l o h hn => ?_, fun x l o h hn => ?_, fun l o h hn => ?_⟩
    · match l, h, hn with
      | [], h, _ => exact absurd rfl h.ne
      | t :: r, h, hn =>
        simp only [List.length_cons] at hn
        simp only [atomN]
        by_cases h2 : t.kind = 2
        · rw [if_pos h2]
          exact ⟨_, rfl, fun _ _ e => by injection e with e1 e2; subst e1 e2; exact ⟨h.tail (by omega), List.suffix_cons _ _, by simp, by simp [Ty.sz]⟩⟩
        · rw [if_neg h2]
          by_cases h1 : t.kind = 1
          · rw [if_pos h1]
            exact ⟨_, rfl, fun _ _ e => by injection e with e1 e2; subst e1 e2; exact ⟨h.tail (by omega), List.suffix_cons _ _, by simp, by simp [Ty.sz]⟩⟩
          · rw [if_neg h1]
            cases hs : isSym t [40] with
            | false => exact ⟨_, if_pos rfl, fun _ _ e => by cases e⟩
            | true =>
              rw [if_neg (by simp)]
              by_cases ho : 40 ≤ o
              · rw [if_pos ho]; exact ⟨_, rfl, fun _ _ e => by cases e⟩
              · rw [if_neg ho]
                have hr := h.tail (sym_kind hs)
                obtain ⟨g, hg, hq⟩ := iht r (o + 1) hr (by omega)
                rw [hg]
                cases g with
                | no e p => exact ⟨_, rfl, fun _ _ e => by cases e⟩
                | ok x q =>
                  obtain ⟨q1, q2, q3, q4⟩ := hq x q rfl
                  match q, q1, q2, q3, q4 with
                  | [], q1, _, _, _ => exact absurd rfl q1.ne
                  | c :: q, q1, q2, q3, q4 =>
                    simp only [List.length_cons] at q3 q4
                    cases hc : isSym c [41] with
                    | false => exact ⟨.no 12 c.place, if_neg (by rw [hc]; simp), fun _ _ e => by cases e⟩
                    | true =>
                      exact ⟨.ok x q, if_pos hc, fun _ _ e => by
                        injection e with e1 e2; subst e1 e2
                        exact ⟨q1.tail (sym_kind hc), ((List.suffix_cons _ _).trans q2).trans (List.suffix_cons _ _), by simp; omega, by simp; omega⟩⟩
    · match l, h, hn with
      | [], h, _ => exact absurd rfl h.ne
      | t :: r, h, hn =>
        simp only [appsN]
        cases hb : begT t with
        | false => simp only [Bool.false_eq_true, if_false]; exact ⟨_, rfl, fun _ _ e => by injection e with e1 e2; subst e1 e2; exact ⟨h, List.suffix_refl _, by omega⟩⟩
        | true =>
          simp only [if_true]
          obtain ⟨g, hg, hq⟩ := iha (t :: r) o h (by omega)
          rw [hg]
          cases g with
          | no e p => exact ⟨_, rfl, fun _ _ e => by cases e⟩
          | ok a q =>
            obtain ⟨q1, q2, q3, q4⟩ := hq a q rfl
            obtain ⟨g2, hg2, hq2⟩ := ihp (.app x a) q o q1 (by omega)
            simp only
            rw [hg2]
            refine ⟨_, rfl, fun t' q' e => ?_⟩
            obtain ⟨s1, s2, s3⟩ := hq2 t' q' e
            have := s2.length_le
            exact ⟨s1, s2.trans q2, by simp only [Ty.sz] at s3; omega⟩
    · simp only [typeN]
      obtain ⟨g, hg, hq⟩ := iha l o h (by omega)
      rw [hg]
      cases g with
      | no e p => exact ⟨_, rfl, fun _ _ e => by cases e⟩
      | ok x q =>
        obtain ⟨q1, q2, q3, q4⟩ := hq x q rfl
        obtain ⟨g2, hg2, hq2⟩ := ihp x q o q1 (by omega)
        simp only
        rw [hg2]
        cases g2 with
        | no e p => exact ⟨_, rfl, fun _ _ e => by cases e⟩
        | ok y s =>
          obtain ⟨s1, s2, s3⟩ := hq2 y s rfl
          have hsl := s2.length_le
          match s, s1, s2, s3, hsl with
          | [], s1, _, _, _ => exact absurd rfl s1.ne
          | c :: s, s1, s2, s3, hsl =>
            simp only [List.length_cons] at s3 hsl
            simp only
            cases hc : isSym c [45, 62] with
            | false => simp only [Bool.false_eq_true, if_false]; exact ⟨_, rfl, fun _ _ e => by injection e with e1 e2; subst e1 e2; exact ⟨s1, s2.trans q2, by simp; omega, by simp; omega⟩⟩
            | true =>
              simp only [if_true]
              obtain ⟨g3, hg3, hq3⟩ := iht s o (s1.tail (sym_kind hc)) (by omega)
              rw [hg3]
              cases g3 with
              | no e p => exact ⟨_, rfl, fun _ _ e => by cases e⟩
              | ok z u =>
                obtain ⟨u1, u2, u3, u4⟩ := hq3 z u rfl
                simp only
                refine ⟨_, rfl, fun _ _ e => ?_⟩
                injection e with e1 e2; subst e1 e2
                refine ⟨u1, ((u2.trans (List.suffix_cons _ _)).trans s2).trans q2, by omega, ?_⟩
                rw [fn_sz]; omega
def atomL (l : List Tok) (o : Nat) : Got := (atomN (3 * l.length) l o).getD (.no 0 0)
def typeL (l : List Tok) (o : Nat) : Got := (typeN (3 * l.length + 2) l o).getD (.no 0 0)
theorem atomL_is {l : List Tok} (h : EndsT l) (o : Nat) : atomN (3 * l.length) l o = some (atomL l o) := by
  obtain ⟨r, hr, _⟩ := (fits_all _).1 l o h (Nat.le_refl _)
  unfold atomL; rw [hr]; rfl
theorem typeL_is {l : List Tok} (h : EndsT l) (o : Nat) : typeN (3 * l.length + 2) l o = some (typeL l o) := by
  obtain ⟨r, hr, _⟩ := (fits_all _).2.2 l o h (Nat.le_refl _)
  unfold typeL; rw [hr]; rfl
theorem atomL_ok {l q : List Tok} {o : Nat} {t : Ty} (h : EndsT l) (e : atomL l o = .ok t q) : EndsT q ∧ q <:+ l ∧ q.length + 1 ≤ l.length ∧ t.sz + 1 ≤ 4 * (l.length - q.length) := by
  obtain ⟨r, hr, hf⟩ := (fits_all _).1 l o h (Nat.le_refl _)
  have := atomL_is h o; rw [hr] at this; injection this with this
  exact hf t q (this.trans e)
theorem typeL_ok {l q : List Tok} {o : Nat} {t : Ty} (h : EndsT l) (e : typeL l o = .ok t q) : EndsT q ∧ q <:+ l ∧ q.length + 1 ≤ l.length ∧ t.sz + 1 ≤ 4 * (l.length - q.length) := by
  obtain ⟨r, hr, hf⟩ := (fits_all _).2.2 l o h (Nat.le_refl _)
  have := typeL_is h o; rw [hr] at this; injection this with this
  exact hf t q (this.trans e)
/-- Predicates, one behind the other; none, if they do not stand there. -/
def predL : Nat → List Tok → Nat → List (ByteArray × Ty) → Option (List (ByteArray × Ty) × List Tok)
  | 0, _, _, _ => none
  | _ + 1, [], _, _ => none
  | n + 1, t :: r, o, acc =>
    if t.kind = 2 then match atomL r o with
      | .ok x (c :: q) => if o = 0 ∨ isSym c [44] = false then some (acc ++ [(mkB t.text, x)], c :: q) else predL n q o (acc ++ [(mkB t.text, x)])
      | _ => none
    else none
/-- What is told of predicates: they do not stand there; they are too many; they are these, and what is behind. -/
inductive GotP
  | none
  | long (p : Nat)
  | ok (ps : List (ByteArray × Ty)) (r : List Tok)
def predsL (l : List Tok) : GotP :=
  match l with
  | [] => .none
  | t :: r =>
    if isSym t [40] = true then match predL r.length r 1 [] with
      | some (ps, c :: d :: q) => if isSym c [41] = true ∧ isSym d [61, 62] = true then (if 16 < ps.length then .long t.place else .ok ps q) else .none
      | _ => .none
    else match predL (r.length + 1) (t :: r) 0 [] with
      | some (ps, d :: q) => if isSym d [61, 62] = true then (if 16 < ps.length then .long t.place else .ok ps q) else .none
      | _ => .none
end Go.Proofs.YtbdfjboojokgdaaDoor
namespace Go.Proofs.YtbdfjboojokgdaaDoor.Lx
open Go.RowKit

theorem sign_of_range (lo hi : Int) (h : (lo = 97 ∧ hi = 122) ∨ (lo = 65 ∧ hi = 90)) (r : Int) (hr : rangeB lo hi r = true) : signB r = true := by
  unfold signB plainB rangeB at *
  rcases h with ⟨rfl, rfl⟩ | ⟨rfl, rfl⟩ <;> simp at * <;> omega

/-- All signs so far are signs of names. -/
def SignTo (s : ByteArray) (k : Nat) : Prop := ∀ i (h : i < s.size), i < k → signB (s[i].toNat : Int) = true

set_option maxHeartbeats 400000 in
theorem refname_any (lo hi : Int) (hlh : (lo = 97 ∧ hi = 122) ∨ (lo = 65 ∧ hi = 90)) (s : ByteArray) (w : World) (hs : s.size ≤ maxLen) :
    Calls Tryd.prog 152 #[.string s, .int .u8 lo, .int .u8 hi] w fun e w' => e = .returned (.bool (nameB lo hi s)) ∧ w = w' := by
  unfold maxLen at hs
  by_cases h0 : s.size = 0
  · have hn : nameB lo hi s = false := nameB_false (fun h => by unfold NameP at h; omega)
    rw [hn]; clear hn
    have h0' : ((s.size : Int) == 0) = true := by rw [h0]; rfl
    clear h0
    go_enter Tryd.func152, Tryd.ntmps152
    go_wp2
    go_ret
    exact ⟨rfl, rfl⟩
  have h0' : ((s.size : Int) == 0) = false := beq_eq_false_iff_ne.2 (by omega)
  by_cases h32 : 32 < s.size
  · have hn : nameB lo hi s = false := nameB_false (fun h => by unfold NameP at h; omega)
    rw [hn]; clear hn h0
    have h32' : (32 : Int) < (s.size : Int) := by omega
    go_enter Tryd.func152, Tryd.ntmps152
    go_wp2
    go_ret
    exact ⟨rfl, rfl⟩
  have h32' : decide ((32 : Int) < (s.size : Int)) = false := by simp; omega
  have HLH := Lib.hid hlh
  clear hlh
  go_enter Tryd.func152, Tryd.ntmps152
  go_wp2
  go_loop [7] (fun i => ∃ k : Nat, k ≤ s.size ∧ i = .int .i64 k ∧ SignTo s k) (fun i => s.size - (intOf i).toNat)
  case atStart => exact ⟨0, Nat.zero_le _, rfl, fun i _ h => absurd h (Nat.not_lt_zero _)⟩
  case round =>
    obtain ⟨k, hk, rfl, hok⟩ := hrel
    by_cases hlt : k < s.size
    · by_cases hsg : signB (s[k].toNat : Int) = true
      · have hok' : SignTo s (k + 1) := fun i h hi' => by
          by_cases e : i = k
          · subst e; exact hsg
          · exact hok i h (by omega)
        have HOK := Lib.hid hok'
        clear hok hok'
        have hcase : plainB (s[k].toNat : Int) = true ∨ (plainB (s[k].toNat : Int) = false ∧ (((s[k].toNat : Int) != 39) = false ∨ (((s[k].toNat : Int) != 39) = true ∧ ((s[k].toNat : Int) != 95) = false))) := by
          unfold signB at hsg
          simp only [Bool.or_eq_true, beq_iff_eq] at hsg
          by_cases hp : plainB (s[k].toNat : Int) = true
          · exact .inl hp
          · rcases hsg with (e | e) | e
            · exact absurd e hp
            · exact .inr ⟨by simpa using hp, .inl (by rw [e]; rfl)⟩
            · exact .inr ⟨by simpa using hp, .inr ⟨by rw [e]; rfl, by rw [e]; rfl⟩⟩
        clear hsg
        rcases hcase with hp | ⟨hp, hq | ⟨hq, hr⟩⟩
        all_goals
          go_wp2_with (go_at_call 164; refine (refplain_any _ _).mono ?_; rintro e w' ⟨rfl, rfl⟩)
          go_round
          case rel => exact ⟨k + 1, by omega, by go_num, HOK.out⟩
          case measure => simp [intOf]; omega
      · have hn : nameB lo hi s = false := nameB_false (fun h => by
          have h1 := h.2.2 k hlt
          unfold testB at h1
          split at h1
          · exact hsg (sign_of_range lo hi HLH.out _ h1)
          · exact hsg h1)
        have HN := Lib.hid hn
        have hp : plainB (s[k].toNat : Int) = false := by unfold signB at hsg; revert hsg; cases plainB (s[k].toNat : Int) <;> simp
        have hq : ((s[k].toNat : Int) != 39) = true := by unfold signB at hsg; rw [hp] at hsg; simp at hsg ⊢; omega
        have hr : ((s[k].toNat : Int) != 95) = true := by unfold signB at hsg; rw [hp] at hsg; simp at hsg ⊢; omega
        clear hn hsg hok
        go_wp2_with (go_at_call 164; refine (refplain_any _ _).mono ?_; rintro e w' ⟨rfl, rfl⟩)
        go_ret
        exact ⟨ret_bool HN.out.symm, rfl⟩
    · have hp0 : (0 : Int) < s.size := by omega
      have hp1 : 0 < s.size := by omega
      have HN : Hid (rangeB lo hi (s[0].toNat : Int) = nameB lo hi s) := by
        cases e : rangeB lo hi (s[0].toNat : Int)
        · exact (nameB_false (fun h => by have := h.2.2 0 hp1; unfold testB at this; rw [if_pos rfl, e] at this; cases this)).symm
        · refine (nameB_true ⟨hp1, by omega, fun i h => ?_⟩).symm
          unfold testB
          split
          · rename_i h9; subst h9; exact e
          · exact hok i h (by omega)
      have hd : decide (k < s.size) = false := by simpa using hlt
      clear hok
      go_wp2_with (go_at_call 165; refine (within_any _ _ _ _).mono ?_; rintro e w' ⟨rfl, rfl⟩)
      go_ret
      exact ⟨ret_bool HN.out, rfl⟩

set_option maxHeartbeats 400000 in
theorem reflower_any (s : ByteArray) (w : World) (hs : s.size ≤ maxLen) :
    Calls Tryd.prog 123 #[.string s] w fun e w' => e = .returned (.bool (nameB 97 122 s)) ∧ w = w' := by
  go_enter Tryd.func123, Tryd.ntmps123
  go_wp2_with (go_at_call 152; refine (refname_any 97 122 (.inl ⟨rfl, rfl⟩) _ _ hs).mono ?_; rintro e w' ⟨rfl, rfl⟩)
  go_ret
  exact ⟨rfl, rfl⟩
set_option maxHeartbeats 400000 in
theorem refupper_any (s : ByteArray) (w : World) (hs : s.size ≤ maxLen) :
    Calls Tryd.prog 124 #[.string s] w fun e w' => e = .returned (.bool (nameB 65 90 s)) ∧ w = w' := by
  go_enter Tryd.func124, Tryd.ntmps124
  go_wp2_with (go_at_call 152; refine (refname_any 65 90 (.inr ⟨rfl, rfl⟩) _ _ hs).mono ?_; rintro e w' ⟨rfl, rfl⟩)
  go_ret
  exact ⟨rfl, rfl⟩
end Go.Proofs.YtbdfjboojokgdaaDoor.Lx
