/- Plain mathematics of chapter 4 (P4.2): types without the names that TAlls give, as texts: texts tell them apart. No program, no world. The contract of the document's Nameless of types (chapter 4): the small cases. Conditions: names of at most 2^20 bytes, numbers from 0 to 2^20, at most 2^20 nodes. -/
import Derived.Test.YtbdfjboojokgdaaDoorJU29
import Derived.Test.YtbdfjboojokgdaaDoorJU28
import Derived.Test.YtbdfjboojokgdaaDoorJU18
namespace Go.Proofs.YtbdfjboojokgdaaDoor
open Go.RowKit

/-! ### A type without names as a text -/
def NT.pr : NT → List UInt8
  | .hole n => 63 :: Lib.decDigits n.toNat
  | .bv i => 35 :: Lib.decDigits i
  | .fv s => 39 :: s.data.toList
  | .con s => s.data.toList
  | .app a b => 40 :: (a.pr ++ 32 :: (b.pr ++ [41]))
  | .all a => 91 :: (a.pr ++ [93])
def TkN (l : List UInt8) : Prop := ∀ c ∈ l, c ≠ 32 ∧ c ≠ 41 ∧ c ≠ 93
def EndN (x : List UInt8) : Prop := x = [] ∨ ∃ c r, x = c :: r ∧ (c = 32 ∨ c = 41 ∨ c = 93)
def HdN (l : List UInt8) : Prop := ∃ c r, l = c :: r ∧ c ≠ 63 ∧ c ≠ 35 ∧ c ≠ 39 ∧ c ≠ 40 ∧ c ≠ 91
def NT.ok : NT → Prop
  | .hole n => 0 ≤ n
  | .bv _ => True
  | .fv s => TkN s.data.toList
  | .con s => TkN s.data.toList ∧ HdN s.data.toList
  | .app a b => a.ok ∧ b.ok
  | .all a => a.ok
theorem dec_tk : ∀ (f u : Nat), u < f → ∀ c ∈ Lib.decDigits u, 48 ≤ c.toNat ∧ c.toNat ≤ 57
  | 0, _, h => absurd h (Nat.not_lt_zero _)
  | f + 1, u, h => by
    intro c hc
    rw [Lib.decDigits] at hc
    by_cases h10 : u < 10
    · rw [dif_pos h10, List.mem_singleton] at hc
      rw [hc, ofNat_toN _ (by omega)]; omega
    · rw [dif_neg h10, List.mem_append, List.mem_singleton] at hc
      rcases hc with hc | hc
      · exact dec_tk f (u / 10) (by omega) c hc
      · rw [hc, ofNat_toN _ (by omega)]; omega
theorem tk_dec (u : Nat) : TkN (Lib.decDigits u) := fun c hc => by
  have := dec_tk (u + 1) u (Nat.lt_succ_self _) c hc
  refine ⟨?_, ?_, ?_⟩ <;> (intro e; rw [e] at this; revert this; decide)
theorem dec_injN {u v : Nat} (h : Lib.decDigits u = Lib.decDigits v) : u = v := by
  have := congrArg decVal h
  rwa [decVal_eq, decVal_eq] at this
theorem tk_cut : ∀ {l m x y : List UInt8}, TkN l → TkN m → EndN x → EndN y → l ++ x = m ++ y → l = m ∧ x = y
  | [], [], _, _, _, _, _, _, h => ⟨rfl, h⟩
  | c :: l, [], x, y, hl, _, _, hy, h => by
    exfalso
    have hc := hl c (List.mem_cons_self ..)
    rcases hy with rfl | ⟨d, r, rfl, hd⟩
    · simp at h
    · simp only [List.cons_append, List.nil_append, List.cons.injEq] at h
      rw [h.1] at hc
      rcases hd with e | e | e
      · exact hc.1 e
      · exact hc.2.1 e
      · exact hc.2.2 e
  | [], c :: m, x, y, _, hm, hx, _, h => by
    exfalso
    have hc := hm c (List.mem_cons_self ..)
    rcases hx with rfl | ⟨d, r, rfl, hd⟩
    · simp at h
    · simp only [List.cons_append, List.nil_append, List.cons.injEq] at h
      rw [← h.1] at hc
      rcases hd with e | e | e
      · exact hc.1 e
      · exact hc.2.1 e
      · exact hc.2.2 e
  | c :: l, d :: m, x, y, hl, hm, hx, hy, h => by
    simp only [List.cons_append, List.cons.injEq] at h
    obtain ⟨e1, e2⟩ := tk_cut (fun z hz => hl z (List.mem_cons_of_mem _ hz)) (fun z hz => hm z (List.mem_cons_of_mem _ hz)) hx hy h.2
    exact ⟨by rw [h.1, e1], e2⟩
theorem EndN.sp (r : List UInt8) : EndN (32 :: r) := .inr ⟨_, _, rfl, .inl rfl⟩
theorem EndN.cl (r : List UInt8) : EndN (41 :: r) := .inr ⟨_, _, rfl, .inr (.inl rfl)⟩
theorem EndN.br (r : List UInt8) : EndN (93 :: r) := .inr ⟨_, _, rfl, .inr (.inr rfl)⟩
/-- Texts tell types without names apart. -/
theorem ntpr_inj : ∀ (a b : NT) (x y : List UInt8), a.ok → b.ok → EndN x → EndN y → a.pr ++ x = b.pr ++ y → a = b ∧ x = y
  | .hole n, b, x, y, ha, hb, hx, hy, h => by
    cases b with
    | hole m =>
      simp only [NT.pr, List.cons_append, List.cons.injEq, true_and] at h
      obtain ⟨e1, e2⟩ := tk_cut (tk_dec _) (tk_dec _) hx hy h
      have := dec_injN e1
      simp only [NT.ok] at ha hb
      exact ⟨by rw [show n = m by omega], e2⟩
    | con s => obtain ⟨_, c, r, e, h1, h2, h3, h4, h5⟩ := hb; simp only [NT.pr, e, List.cons_append, List.cons.injEq] at h; exact absurd h.1.symm (by assumption)
    | bv _ => simp [NT.pr] at h
    | fv _ => simp [NT.pr] at h
    | app _ _ => simp [NT.pr] at h
    | all _ => simp [NT.pr] at h
  | .bv n, b, x, y, ha, hb, hx, hy, h => by
    cases b with
    | bv m =>
      simp only [NT.pr, List.cons_append, List.cons.injEq, true_and] at h
      obtain ⟨e1, e2⟩ := tk_cut (tk_dec _) (tk_dec _) hx hy h
      exact ⟨by rw [dec_injN e1], e2⟩
    | con s => obtain ⟨_, c, r, e, h1, h2, h3, h4, h5⟩ := hb; simp only [NT.pr, e, List.cons_append, List.cons.injEq] at h; exact absurd h.1.symm (by assumption)
    | hole _ => simp [NT.pr] at h
    | fv _ => simp [NT.pr] at h
    | app _ _ => simp [NT.pr] at h
    | all _ => simp [NT.pr] at h
  | .fv s, b, x, y, ha, hb, hx, hy, h => by
    cases b with
    | fv m =>
      simp only [NT.pr, List.cons_append, List.cons.injEq, true_and] at h
      obtain ⟨e1, e2⟩ := tk_cut ha hb hx hy h
      refine ⟨?_, e2⟩
      cases s with | mk s => cases m with | mk m => cases s; cases m; simp at e1; rw [e1]
    | con s => obtain ⟨_, c, r, e, h1, h2, h3, h4, h5⟩ := hb; simp only [NT.pr, e, List.cons_append, List.cons.injEq] at h; exact absurd h.1.symm (by assumption)
    | hole _ => simp [NT.pr] at h
    | bv _ => simp [NT.pr] at h
    | app _ _ => simp [NT.pr] at h
    | all _ => simp [NT.pr] at h
  | .con s, b, x, y, ha, hb, hx, hy, h => by
    obtain ⟨ht, hh⟩ := ha
    cases b with
    | con m =>
      simp only [NT.pr] at h
      obtain ⟨e1, e2⟩ := tk_cut ht hb.1 hx hy h
      refine ⟨?_, e2⟩
      cases s with | mk s => cases m with | mk m => cases s; cases m; simp at e1; rw [e1]
    | hole _ => obtain ⟨c, r, e, h1, h2, h3, h4, h5⟩ := hh; simp only [NT.pr, e, List.cons_append, List.cons.injEq] at h; exact absurd h.1 (by assumption)
    | bv _ => obtain ⟨c, r, e, h1, h2, h3, h4, h5⟩ := hh; simp only [NT.pr, e, List.cons_append, List.cons.injEq] at h; exact absurd h.1 (by assumption)
    | fv _ => obtain ⟨c, r, e, h1, h2, h3, h4, h5⟩ := hh; simp only [NT.pr, e, List.cons_append, List.cons.injEq] at h; exact absurd h.1 (by assumption)
    | app _ _ => obtain ⟨c, r, e, h1, h2, h3, h4, h5⟩ := hh; simp only [NT.pr, e, List.cons_append, List.cons.injEq] at h; exact absurd h.1 (by assumption)
    | all _ => obtain ⟨c, r, e, h1, h2, h3, h4, h5⟩ := hh; simp only [NT.pr, e, List.cons_append, List.cons.injEq] at h; exact absurd h.1 (by assumption)
  | .app a a2, b, x, y, ha, hb, hx, hy, h => by
    cases b with
    | app b b2 =>
      simp only [NT.pr, List.cons_append, List.cons.injEq, true_and, List.append_assoc] at h
      obtain ⟨e1, e2⟩ := ntpr_inj a b _ _ ha.1 hb.1 (EndN.sp _) (EndN.sp _) h
      simp only [List.cons.injEq, true_and] at e2
      obtain ⟨e3, e4⟩ := ntpr_inj a2 b2 _ _ ha.2 hb.2 (EndN.cl _) (EndN.cl _) e2
      simp only [List.cons.injEq, List.nil_append, true_and] at e4
      exact ⟨by rw [e1, e3], e4⟩
    | con s => obtain ⟨_, c, r, e, h1, h2, h3, h4, h5⟩ := hb; simp only [NT.pr, e, List.cons_append, List.cons.injEq] at h; exact absurd h.1.symm (by assumption)
    | hole _ => simp [NT.pr] at h
    | fv _ => simp [NT.pr] at h
    | bv _ => simp [NT.pr] at h
    | all _ => simp [NT.pr] at h
  | .all a, b, x, y, ha, hb, hx, hy, h => by
    cases b with
    | all b =>
      simp only [NT.pr, List.cons_append, List.cons.injEq, true_and, List.append_assoc] at h
      obtain ⟨e1, e2⟩ := ntpr_inj a b _ _ ha hb (EndN.br _) (EndN.br _) h
      simp only [List.cons.injEq, List.nil_append, true_and] at e2
      exact ⟨by rw [e1], e2⟩
    | con s => obtain ⟨_, c, r, e, h1, h2, h3, h4, h5⟩ := hb; simp only [NT.pr, e, List.cons_append, List.cons.injEq] at h; exact absurd h.1.symm (by assumption)
    | hole _ => simp [NT.pr] at h
    | fv _ => simp [NT.pr] at h
    | bv _ => simp [NT.pr] at h
    | app _ _ => simp [NT.pr] at h
theorem ntpr_eq {a b : NT} (ha : a.ok) (hb : b.ok) : a.pr = b.pr ↔ a = b := by
  constructor
  · intro h
    exact (ntpr_inj a b [] [] ha hb (.inl rfl) (.inl rfl) (by rw [h])).1
  · intro h; rw [h]
/-- What is put is told of what is told, where all that is put is so. -/
theorem NT.ok_sub {θ : ByteArray → NT} (hθ : ∀ x, (θ x).ok ∨ ¬ TkN x.data.toList) : ∀ (a : NT), a.ok → (a.sub θ).ok
  | .hole _, h => h
  | .bv _, h => h
  | .fv s, h => (hθ s).resolve_right (fun h2 => h2 h)
  | .con _, h => h
  | .app a b, h => ⟨ok_sub hθ a h.1, ok_sub hθ b h.2⟩
  | .all a, h => ok_sub hθ a h
/-! ### Which types are told so -/
def Ty.okN : Ty → Prop
  | .hole n => 0 ≤ n
  | .var s => TkN s.data.toList
  | .con s => TkN s.data.toList ∧ HdN s.data.toList
  | .app a b => a.okN ∧ b.okN
  | .all _ a => a.okN
theorem world_okN : ∀ (t : Ty), t.world → t.okN
  | .hole n, h => by simp only [Ty.world] at h; simp only [Ty.okN]; omega
  | .var s, h => by rcases h with rfl | rfl | rfl | rfl <;> (intro c hc; simp at hc; subst hc; decide)
  | .con s, h => by
    rcases h with rfl | rfl | rfl | rfl | rfl | rfl
    all_goals refine ⟨fun c hc => ?_, _, _, rfl, by decide, by decide, by decide, by decide, by decide⟩
    all_goals (simp at hc; first | (subst hc; decide) | (rcases hc with rfl | rfl <;> decide) | (rcases hc with rfl | rfl | rfl <;> decide) | (rcases hc with rfl | rfl | rfl | rfl <;> decide))
  | .app a b, h => ⟨world_okN a h.1, world_okN b h.2⟩
  | .all _ a, h => world_okN a h.2
theorem nt_ok : ∀ (t : Ty) (G : List ByteArray), t.okN → (t.nt G).ok
  | .hole _, _, h => h
  | .var s, G, h => by
    simp only [Ty.nt]
    split
    · trivial
    · exact h
  | .con _, _, h => h
  | .app a b, G, h => ⟨nt_ok a G h.1, nt_ok b G h.2⟩
  | .all s a, G, h => nt_ok a (s :: G) h
theorem tk_letters (n : Nat) : TkN (lettersL n) := fun c hc => by
  unfold lettersL at hc
  rw [List.mem_cons] at hc
  rcases hc with rfl | hc
  · have h9 : (UInt8.ofNat (97 + n % 26)).toNat = 97 + n % 26 := ofNat_toN _ (by omega)
    refine ⟨?_, ?_, ?_⟩ <;> (intro e; rw [e] at h9; have h8 : (32 : UInt8).toNat = 32 := rfl; have h7 : (41 : UInt8).toNat = 41 := rfl; have h6 : (93 : UInt8).toNat = 93 := rfl; omega)
  · split at hc
    · simp at hc
    · exact tk_dec _ c hc
theorem letB_data (n : Nat) : (letB n).data.toList = lettersL n := by unfold letB; simp
theorem lookS_P {P : Ty → Prop} {σ : List (ByteArray × Ty)} {s : ByteArray} (h : ∀ p ∈ σ, P p.2) (h0 : P (.var s)) : P ((lookS σ s).getD (.var s)) := by
  cases h1 : lookS σ s with
  | none => exact h0
  | some u => exact h _ (lookS_mem h1)
theorem mem_intoB {s : ByteArray} {b : Ty} {σ : List (ByteArray × Ty)} {p : ByteArray × Ty} (h : p ∈ intoB s b σ) : p ∈ σ := (List.mem_filter.1 h).1
theorem okN_sub : ∀ (t : Ty) (σ : List (ByteArray × Ty)), t.okN → (∀ p ∈ σ, p.2.okN) → (t.sub σ).okN
  | .hole _, _, h, _ => h
  | .var s, σ, h, hs => lookS_P hs h
  | .con _, _, h, _ => h
  | .app a b, σ, h, hs => ⟨okN_sub a σ h.1 hs, okN_sub b σ h.2 hs⟩
  | .all s a, σ, h, hs => by
    simp only [Ty.sub]
    split
    · refine okN_sub a _ h (fun p hp => ?_)
      rw [List.mem_append, List.mem_singleton] at hp
      rcases hp with hp | rfl
      · exact hs p (mem_intoB hp)
      · simp only [Ty.okN]; unfold freshB; rw [letB_data]; exact tk_letters _
    · exact okN_sub a _ h (fun p hp => hs p (mem_intoB hp))
/-! ### How long they are -/
/-- Names and numbers of at most so many bytes. -/
def Ty.lt (B : Nat) : Ty → Prop
  | .hole n => n.toNat ≤ B
  | .var s => s.size ≤ B
  | .con s => s.size ≤ B
  | .app a b => a.lt B ∧ b.lt B
  | .all s a => s.size ≤ B ∧ a.lt B
theorem dec_len : ∀ (f u : Nat), u < f → (Lib.decDigits u).length ≤ u + 1
  | 0, _, h => absurd h (Nat.not_lt_zero _)
  | f + 1, u, h => by
    rw [Lib.decDigits]
    by_cases h10 : u < 10
    · rw [dif_pos h10]; simp
    · rw [dif_neg h10, List.length_append]
      have := dec_len f (u / 10) (by omega)
      simp only [List.length_singleton]
      omega
theorem nt_len (B : Nat) : ∀ (t : Ty) (G : List ByteArray), t.lt B → G.length + t.sz ≤ B → (t.nt G).pr.length + 3 ≤ (B + 5) * t.sz
  | .hole n, G, h, hg => by
    simp only [Ty.lt, Ty.sz] at *
    have := dec_len _ n.toNat (Nat.lt_succ_self _)
    simp only [Ty.nt, NT.pr, List.length_cons]
    omega
  | .var s, G, h, hg => by
    simp only [Ty.lt, Ty.sz] at *
    have e : s.data.toList.length = s.size := Array.length_toList
    simp only [Ty.nt]
    cases hi : idxB G s with
    | none => simp only [NT.pr, List.length_cons]; omega
    | some i =>
      have := idxB_lt hi
      have := dec_len _ i (Nat.lt_succ_self _)
      simp only [NT.pr, List.length_cons]; omega
  | .con s, G, h, hg => by
    simp only [Ty.lt, Ty.sz] at *
    have e : s.data.toList.length = s.size := Array.length_toList
    simp only [Ty.nt, NT.pr]; omega
  | .app a b, G, h, hg => by
    simp only [Ty.sz] at *
    have h1 := nt_len B a G h.1 (by omega)
    have h2 := nt_len B b G h.2 (by omega)
    simp only [Ty.nt, NT.pr, List.length_cons, List.length_append, List.length_nil]
    have e : (B + 5) * (a.sz + b.sz + 1) = (B + 5) * a.sz + (B + 5) * b.sz + (B + 5) := by rw [Nat.mul_add, Nat.mul_add, Nat.mul_one]
    omega
  | .all s a, G, h, hg => by
    simp only [Ty.sz] at *
    have h1 := nt_len B a (s :: G) h.2 (by simp only [List.length_cons]; omega)
    simp only [Ty.nt, NT.pr, List.length_cons, List.length_append, List.length_nil]
    have e : (B + 5) * (a.sz + 1) = (B + 5) * a.sz + (B + 5) := by rw [Nat.mul_add, Nat.mul_one]
    omega
end Go.Proofs.YtbdfjboojokgdaaDoor
namespace Go.Proofs.YtbdfjboojokgdaaDoor
open Go.RowKit

/-- What Nameless tells. -/
def NlRes (t : Ty) (names : List ByteArray) (w : World) (e : Ending) (w' : World) : Prop := e = .returned (.string ⟨(t.nt names.reverse).pr.toArray⟩) ∧ Below w.heap.size w w'
def NlIs (n : Nat) : Prop := ∀ (P Q : Nat → Prop) (t : Ty) (names : List ByteArray) (v nv : Value) (w : World), t.sz ≤ n → TyAt P w t v → StrsAt Q w nv names → t.okN → t.lt 1048576 → names.length + t.sz ≤ 1048576 → Calls Tryd.prog 69 #[v, nv] w (NlRes t names w)
theorem mk_toList (s : ByteArray) : (⟨s.data.toList.toArray⟩ : ByteArray) = s := by cases s; simp
theorem cons_mk (c : UInt8) (l : List UInt8) : (⟨#[c]⟩ : ByteArray) ++ ⟨l.toArray⟩ = ⟨(c :: l).toArray⟩ := append_mk2 [c] l
theorem cons_mkS (c : UInt8) (s : ByteArray) : (⟨#[c]⟩ : ByteArray) ++ s = ⟨(c :: s.data.toList).toArray⟩ := by have h := cons_mk c s.data.toList; rw [mk_toList] at h; exact h
theorem nt_pr_le {t : Ty} {names : List ByteArray} (h : t.lt 1048576) (hz : names.length + t.sz ≤ 1048576) : (t.nt names.reverse).pr.length ≤ 1099516870656 := by
  have h1 := nt_len 1048576 t names.reverse h (by rw [List.length_reverse]; exact hz)
  have h2 : (1048576 + 5) * t.sz ≤ (1048576 + 5) * 1048576 := Nat.mul_le_mul_left _ (by omega)
  omega
set_option maxRecDepth 100000 in
set_option maxHeartbeats 1000000 in
theorem nl_hole (P Q : Nat → Prop) (n : Int) (names : List ByteArray) (v nv : Value) (w : World) (h : TyAt P w (.hole n) v) (hs : StrsAt Q w nv names) (hok : 0 ≤ n) (hlt : n.toNat ≤ 1048576) : Calls Tryd.prog 69 #[v, nv] w (NlRes (.hole n) names w) := by
  obtain ⟨A, c, rfl, _, _⟩ := h.form
  obtain ⟨An, cn, rfl, _, _⟩ := hs.shape
  simp only [Ty.form, Ty.num, Ty.name, Ty.args, List.length_nil]
  unfold NlRes
  obtain ⟨W, eW, q1, b1, z1⟩ := one_box w (.int .i64 1) (.int .i64 n) (.string ⟨#[]⟩) (.slice A 0 c) 25
  have HEW := Lib.hid eW
  have HB := Lib.hid b1
  obtain ⟨x0, x1, x2, x3, x4, _⟩ := q1
  have HD := Lib.hid (fun q => decimal_any (n.toNat + 1) n.toNat (Nat.lt_succ_self _) (by omega) q)
  have e9 : ((n.toNat : Nat) : Int) = n := by omega
  rw [e9] at HD
  have hl := dec_len _ n.toNat (Nat.lt_succ_self _)
  have hz9 := mk_size (Lib.decDigits n.toNat)
  have HE : Hid ((⟨#[63]⟩ : ByteArray) ++ ⟨(Lib.decDigits n.toNat).toArray⟩ = ⟨((Ty.hole n).nt names.reverse).pr.toArray⟩) := cons_mk _ _
  generalize ((Ty.hole n).nt names.reverse).pr = D at *
  generalize hXX : (⟨(Lib.decDigits n.toNat).toArray⟩ : ByteArray) = X at *
  have hx : X.size ≤ 1099511627776 := by omega
  have hd : ∀ q : World, (Op.stringOp .add ⟨#[63]⟩ X).run Tryd.prog q = .ok (.string (⟨#[63]⟩ ++ X)) q := fun q => run_string_add_sum q _ _ (by show 1 + _ ≤ _; omega)
  clear eW b1 h hs hl hz9 hXX
  go_enter Tryd.func69, Tryd.ntmps69
  go_wp2_with fail
  rw [HEW.out]
  go_wp2_with fail
  refine (HD.out _).mono ?_
  rintro e y ⟨rfl, hb⟩
  go_wp2
  go_ret
  exact ⟨by first | rfl | (rw [HE.out]; rfl), HB.out.trans (hb.mono HB.out.size)⟩
set_option maxRecDepth 100000 in
set_option maxHeartbeats 1000000 in
theorem nl_con (P Q : Nat → Prop) (s : ByteArray) (names : List ByteArray) (v nv : Value) (w : World) (h : TyAt P w (.con s) v) (hs : StrsAt Q w nv names) : Calls Tryd.prog 69 #[v, nv] w (NlRes (.con s) names w) := by
  obtain ⟨A, c, rfl, _, _⟩ := h.form
  obtain ⟨An, cn, rfl, _, _⟩ := hs.shape
  simp only [Ty.form, Ty.num, Ty.name, Ty.args, List.length_nil]
  unfold NlRes
  obtain ⟨W, eW, q1, b1, z1⟩ := one_box w (.int .i64 3) (.int .i64 0) (.string s) (.slice A 0 c) 25
  have HEW := Lib.hid eW
  have HB := Lib.hid b1
  obtain ⟨x0, x1, x2, x3, x4, _⟩ := q1
  have HE : Hid (s = ⟨((Ty.con s).nt names.reverse).pr.toArray⟩) := (mk_toList s).symm
  generalize ((Ty.con s).nt names.reverse).pr = D at *
  clear eW b1 h hs
  go_enter Tryd.func69, Tryd.ntmps69
  go_wp2_with fail
  rw [HEW.out]
  go_wp2
  go_ret
  exact ⟨by first | rfl | (rw [← HE.out]; rfl) | (rw [HE.out]; rfl), HB.out⟩
theorem idx_rev {s : ByteArray} : ∀ (l : List ByteArray) (k : Nat), k ≤ l.length → (∀ j (h : j < l.length), k ≤ j → l[j] ≠ s) → idxB l.reverse s = match idxB (l.take k).reverse s with | some i => some (i + (l.length - k)) | none => none := by
  intro l k hk hno
  have e : l = l.take k ++ l.drop k := (List.take_append_drop k l).symm
  have hd : ∀ x ∈ l.drop k, x ≠ s := fun x hx => by
    obtain ⟨j, hj, rfl⟩ := List.getElem_of_mem hx
    rw [List.getElem_drop]
    exact hno _ _ (by omega)
  have key : ∀ (a b : List ByteArray), (∀ x ∈ a, x ≠ s) → idxB (a ++ b) s = match idxB b s with | some i => some (i + a.length) | none => none := by
    intro a
    induction a with
    | nil => intro b _; cases h : idxB b s <;> simp [h]
    | cons x r ih =>
      intro b hx
      rw [List.cons_append, idxB, if_neg (hx x (List.mem_cons_self ..)), ih b (fun y hy => hx y (List.mem_cons_of_mem _ hy))]
      cases h : idxB b s <;> simp [Nat.add_assoc]
  conv => lhs; rw [e]
  rw [List.reverse_append, key _ _ (fun x hx => hd x (List.mem_reverse.1 hx)), List.length_reverse, List.length_drop]
theorem idx_hit {s : ByteArray} {l : List ByteArray} {k : Nat} (hk : k < l.length) (hs : l[k] = s) (hno : ∀ j (h : j < l.length), k < j → l[j] ≠ s) : idxB l.reverse s = some (l.length - 1 - k) := by
  rw [idx_rev l (k + 1) (by omega) (fun j h hj => hno j h (by omega)), List.take_succ_eq_append_getElem hk, List.reverse_append]
  simp only [List.reverse_cons, List.reverse_nil, List.nil_append, List.singleton_append, idxB, hs, if_true]
  congr 1; omega
theorem idx_no {s : ByteArray} {l : List ByteArray} (hno : ∀ j (h : j < l.length), l[j] ≠ s) : idxB l.reverse s = none := by
  rw [idxB_none]
  intro h
  obtain ⟨j, hj, e⟩ := List.getElem_of_mem (List.mem_reverse.1 h)
  exact hno j hj e
set_option maxRecDepth 100000 in
set_option maxHeartbeats 1000000 in
theorem nl_var (P Q : Nat → Prop) (s : ByteArray) (names : List ByteArray) (v nv : Value) (w : World) (h : TyAt P w (.var s) v) (hs : StrsAt Q w nv names) (hlt : s.size ≤ 1048576) (hz : names.length ≤ 1048576) : Calls Tryd.prog 69 #[v, nv] w (NlRes (.var s) names w) := by
  obtain ⟨A, c, rfl, _, _⟩ := h.form
  obtain ⟨An, cn, rfl, hcn, hmn⟩ := hs.shape
  unfold maxLen at hmn
  simp only [Ty.form, Ty.num, Ty.name, Ty.args, List.length_nil]
  unfold NlRes
  obtain ⟨W, eW, q1, b1, z1⟩ := one_box w (.int .i64 2) (.int .i64 0) (.string s) (.slice A 0 c) 25
  have HEW := Lib.hid eW
  have HB := Lib.hid b1
  have HS := Lib.hid (hs.on b1)
  have HQ := Lib.hid q1
  obtain ⟨x0, x1, x2, x3, x4, _⟩ := q1
  have HD : Hid (∀ (m : Nat), m ≤ 1048576 → ∀ (q : World), Calls Tryd.prog 77 #[.int .i64 m] q fun e w' => e = .returned (.string ⟨(Lib.decDigits m).toArray⟩) ∧ Below q.heap.size q w') := fun m hm q => decimal_any (m + 1) m (Nat.lt_succ_self _) (by omega) q
  have HN : Hid ((∀ j (h : j < names.length), names[j] ≠ s) → (⟨#[39]⟩ : ByteArray) ++ s = ⟨((Ty.var s).nt names.reverse).pr.toArray⟩) := fun hno => by
    rw [cons_mkS]
    simp only [Ty.nt, idx_no hno, NT.pr]
  have HY : Hid (∀ k (hk : k < names.length), names[k] = s → (∀ j (h : j < names.length), k < j → names[j] ≠ s) → (⟨#[35]⟩ : ByteArray) ++ ⟨(Lib.decDigits (names.length - 1 - k)).toArray⟩ = ⟨((Ty.var s).nt names.reverse).pr.toArray⟩) := fun k hk e hno => by
    rw [cons_mk]
    simp only [Ty.nt, idx_hit hk e hno, NT.pr]
  have hd9 : ∀ q : World, (Op.stringOp .add ⟨#[39]⟩ s).run Tryd.prog q = .ok (.string (⟨#[39]⟩ ++ s)) q := fun q => run_string_add_sum q _ _ (by show 1 + _ ≤ _; omega)
  generalize ((Ty.var s).nt names.reverse).pr = D at *
  clear eW b1 h hs
  go_enter Tryd.func69, Tryd.ntmps69
  go_wp2_with fail
  rw [HEW.out]
  go_wp2_with fail
  go_loopw [5] (fun i wr => ∃ (k : Nat) (z : Int), k ≤ names.length ∧ i = .int .i64 z ∧ z = (k : Int) - 1 ∧ Hid (∀ j (h : j < names.length), k ≤ j → names[j] ≠ s) ∧ Hid (Below W.heap.size W wr)) (fun i _ => (intOf i + 1).toNat)
  case atStart => exact ⟨names.length, _, Nat.le_refl _, rfl, rfl, fun j h hj => absurd h (by omega), Below.refl _ _⟩
  case round =>
    obtain ⟨k, z, hk, rfl, hz', hno, HBR⟩ := hrel
    clear x0 x1 x2 x3 x4
    obtain ⟨x0, x1, x2, x3, x4, _⟩ := HQ.out.on HBR.out
    have hwr := HBR.out.size
    have HBW := Lib.hid (HB.out.trans (HBR.out.mono HB.out.size))
    rcases k with _ | k
    · obtain rfl : z = -1 := by omega
      have HE := Lib.hid (HN.out (fun j h => hno.out j h (Nat.zero_le _)))
      clear hno hz'
      go_wp2
      go_ret
      exact ⟨by first | rfl | (rw [← HE.out]; rfl) | (rw [HE.out]; rfl), HBW.out⟩
    · obtain rfl : z = (k : Int) := by omega
      have hlt : k < names.length := by omega
      obtain ⟨b, off, e1, hb, hcell⟩ := (HS.out.on HBR.out).at k hlt
      subst e1
      have hki : (k : Int) < (names.length : Int) := by omega
      have hk0 : (0 : Int) ≤ (k : Int) := by omega
      by_cases he : names[k] = s
      · have HE := Lib.hid (HY.out k hlt he (fun j h hj => hno.out j h hj))
        have hbq : (names[k].toList == s.toList) = true := by rw [he]; simp
        have HDK := Lib.hid (HD.out (names.length - 1 - k) (by omega))
        have e9 : ((names.length - 1 - k : Nat) : Int) = (names.length : Int) - 1 - (k : Int) := by omega
        rw [e9] at HDK
        have hl := dec_len _ (names.length - 1 - k) (Nat.lt_succ_self _)
        have hz9 := mk_size (Lib.decDigits (names.length - 1 - k))
        generalize hXX : (⟨(Lib.decDigits (names.length - 1 - k)).toArray⟩ : ByteArray) = X at *
        have hx : X.size ≤ 1099511627776 := by omega
        have hd : ∀ q : World, (Op.stringOp .add ⟨#[35]⟩ X).run Tryd.prog q = .ok (.string (⟨#[35]⟩ ++ X)) q := fun q => run_string_add_sum q _ _ (by show 1 + _ ≤ _; omega)
        generalize names[k] = u at *
        clear he hno hz' hl hz9 hXX e9
        go_wp2_with fail
        go_region
        go_wp2_with fail
        refine (HDK.out _).mono ?_
        rintro e y ⟨rfl, hb2⟩
        go_wp2
        go_ret
        exact ⟨by first | rfl | (rw [HE.out]; rfl), HBW.out.drew.trans (hb2.mono HBW.out.drew.size)⟩
      · have hbq : (names[k].toList == s.toList) = false := by
          rw [beq_eq_false_iff_ne]; intro e; apply he
          have : names[k].data.toList = s.data.toList := by simpa [Lib.toList_data] using e
          cases hss : names[k]; cases hx : s; rw [hss, hx] at this; simp at this; rw [this]
        have HR : Hid (∀ j (h : j < names.length), k ≤ j → names[j] ≠ s) := fun j h hj => by
          by_cases e : j = k
          · subst e; exact he
          · exact hno.out j h (by omega)
        generalize names[k] = u at *
        clear he hno hz'
        go_wp2_with fail
        go_region
        go_wp2
        go_roundw
        case rel => exact ⟨k, _, by omega, by go_num, rfl, HR, HBR.out.drew⟩
        case measure => simp [intOf]
end Go.Proofs.YtbdfjboojokgdaaDoor
