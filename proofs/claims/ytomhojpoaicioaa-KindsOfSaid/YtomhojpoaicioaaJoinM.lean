/- Plain mathematics of chapter 3: what join and joinVars make known, and how much. No program, no world. -/
import Derived.Test.YtomhojpoaicioaaFlatM
namespace Go.Proofs.Ytomhojpoaicioaa
open Tm

/-- Is a variable known to be no other variable? -/
def rootB (kn : Kn) (x : Int) : Bool := match kn x with | some (.var _) => false | _ => true
def phi (N M : Nat) (kn : Kn) : Nat := ((List.range (N + M + 1)).filter (fun i : Nat => rootB kn ((i : Int) - (M : Int)))).length
theorem phi_le {N M : Nat} {kn kn' : Kn} (h : ∀ x, rootB kn' x = true → rootB kn x = true) : phi N M kn' ≤ phi N M kn := by
  unfold phi
  rw [← List.countP_eq_length_filter, ← List.countP_eq_length_filter]
  exact List.countP_mono_left (fun m _ hm => h _ hm)
theorem phi_less {N M : Nat} {kn kn' : Kn} (h : ∀ x, rootB kn' x = true → rootB kn x = true) {b : Int} (h1 : -(M : Int) ≤ b) (h2 : b ≤ N) (hb : rootB kn b = true) (hb' : rootB kn' b = false) : phi N M kn' < phi N M kn := by
  refine filter_less (fun m _ hm => h _ hm) ⟨(b + M).toNat, by simp; omega, ?_, ?_⟩
  · rw [show (((b + M).toNat : Int)) - M = b by omega]; exact hb
  · rw [show (((b + M).toNat : Int)) - M = b by omega]; exact hb'
theorem rootB_set {kn : Kn} {n : Int} {u : Tz} {x : Int} (hn : rootB kn n = true) (h : rootB (setK kn n (some u)) x = true) : rootB kn x = true := by
  by_cases e : x = n
  · rw [e]; exact hn
  · unfold rootB at h ⊢; rw [setK_ne _ _ e] at h; exact h
structure Inv (N : Nat) (s : KS) (σ : Sb) : Prop where
  st : St s.kn σ
  inn : Inn s
  inv : InV N σ
  flat : ∀ n a b, s.kn n = some (.arr a b) → arrows a = 0 ∧ arrows b = 0
def wt (N M : Nat) (s : KS) (σ : Sb) : Nat := s.log.length + 2 * phi N M s.kn + leftN N σ
/-- From one state of what is known to a later one. -/
structure Move (N M g : Nat) (s s' : KS) (σ σ' : Sb) : Prop where
  inv : Inv N s' σ'
  ext : Ext σ' σ
  den : ∀ {t : Tz} {T : Tm}, Den s.kn t T → Den s'.kn t (T.sub σ')
  log : ∃ l, s'.log = s.log ++ l ∧ undoL l s'.kn = s.kn
  room : s'.sz + leftN N σ' ≤ s.sz + leftN N σ + g
  wt : wt N M s' σ' ≤ wt N M s σ + g
theorem Move.refl {N M : Nat} {s : KS} {σ : Sb} (h : Inv N s σ) : Move N M 0 s s σ σ :=
  ⟨h, h.st.idem, fun hd => by rw [h.st.fix hd]; exact hd, ⟨[], by simp, rfl⟩, Nat.le_refl _, Nat.le_refl _⟩
theorem Move.more {N M g g' : Nat} {s s' : KS} {σ σ' : Sb} (h : Move N M g s s' σ σ') (hg : g ≤ g') : Move N M g' s s' σ σ' :=
  ⟨h.inv, h.ext, h.den, h.log, by have := h.room; omega, by have := h.wt; omega⟩
theorem Move.trans {N M g g' : Nat} {s s1 s2 : KS} {σ σ1 σ2 : Sb} (h : Move N M g s s1 σ σ1) (h' : Move N M g' s1 s2 σ1 σ2) : Move N M (g + g') s s2 σ σ2 := by
  refine ⟨h'.inv, ext_trans h'.ext h.ext, fun hd => ?_, ?_, by have := h.room; have := h'.room; omega, by have := h.wt; have := h'.wt; omega⟩
  · have := h'.den (h.den hd)
    rw [ext_sub h'.ext] at this
    exact this
  · obtain ⟨l, e, u⟩ := h.log
    obtain ⟨l', e', u'⟩ := h'.log
    exact ⟨l ++ l', by rw [e', e, List.append_assoc], by rw [undoL_app, u', u]⟩
/-- What an error leaves: it can be undone. -/
structure Back (N M g : Nat) (s s' : KS) (σ : Sb) : Prop where
  log : ∃ l, s'.log = s.log ++ l ∧ undoL l s'.kn = s.kn
  len : s'.log.length ≤ Ytomhojpoaicioaa.wt N M s σ + g
theorem Back.refl {N M g : Nat} {s : KS} {σ : Sb} : Back N M g s s σ := ⟨⟨[], by simp, rfl⟩, by unfold wt; omega⟩
theorem Move.back {N M g g' : Nat} {s s1 s2 : KS} {σ σ1 : Sb} (h : Move N M g s s1 σ σ1) (h' : Back N M g' s1 s2 σ1) : Back N M (g + g') s s2 σ := by
  refine ⟨?_, by have := h.wt; have := h'.len; omega⟩
  obtain ⟨l, e, u⟩ := h.log
  obtain ⟨l', e', u'⟩ := h'.log
  exact ⟨l ++ l', by rw [e', e, List.append_assoc], by rw [undoL_app, u', u]⟩
theorem Back.more {N M g g' : Nat} {s s' : KS} {σ : Sb} (h : Back N M g s s' σ) (hg : g ≤ g') : Back N M g' s s' σ := ⟨h.log, by have := h.len; omega⟩
theorem sub_bind {σ : Sb} {n : Nat} {B T : Tm} (h : T.sub σ = T) : T.sub (bindS σ n B) = T.sub (single n B) := by
  have e : T.sub (bindS σ n B) = (T.sub σ).sub (single n B) := by rw [sub_sub]; rfl
  rw [e, h]
theorem learn_kn (s : KS) (n : Int) (x : Tz) : (s.learn n x).kn = setK s.kn n (some x) := rfl
/-- An outer variable becomes known. -/
theorem move_bind {N M : Nat} {s : KS} {σ : Sb} (hi : Inv N s σ) {n : Nat} (hn1 : 1 ≤ n) (hnN : n ≤ N) (hn : s.kn n = none) {u : Tz} {B : Tm} (hu : Den s.kn u B) (ho : B.occ n = false) (hB : VarsTo N B) (hf : ∀ a b, u = .arr a b → arrows a = 0 ∧ arrows b = 0) :
    Move N M 0 s (s.learn n u) σ (bindS σ n B) := by
  have hsn : σ n = var n := (hi.st.den n hn1).det (.free n hn1 hn)
  have hBf : B.sub σ = B := hi.st.fix hu
  have hsz : (s.learn n u).sz = s.sz + 1 := by show (if (s.kn n).isSome then _ else _) = _; rw [hn]; rfl
  have hlen : (s.learn n u).log.length = s.log.length + 1 := by simp [KS.learn]
  have hl := bind_less hnN hBf hsn ho
  refine ⟨⟨hi.st.bind hn1 hn hu ho, fun k hk hne => ?_, bind_inV hi.inv hnN hB, fun m a b e => ?_⟩, bind_ext n B hi.st.idem, fun hd => ?_, ⟨[(((n : Nat) : Int), s.kn n)], rfl, ?_⟩, by omega, ?_⟩
  · rw [hsz]
    have := hi.inn k hk (fun e => hne (by rw [learn_kn, setK_ne _ _ (by omega)]; exact e))
    omega
  · rw [learn_kn] at e
    by_cases em : m = n
    · subst em; rw [setK_self] at e; injection e with e; exact hf a b e
    · rw [setK_ne _ _ em] at e; exact hi.flat m a b e
  · rw [sub_bind (hi.st.fix hd)]
    exact Den.bind hn hu ho hd
  · exact setK_back _ _ _
  · have hp := phi_le (N := N) (M := M) (kn := s.kn) (kn' := (s.learn n u).kn) (fun x hx => rootB_set (by unfold rootB; rw [hn]) hx)
    unfold wt
    omega
/-- A variable becomes known to be one that is the same already. -/
theorem move_join {N M : Nat} {s : KS} {σ : Sb} (hi : Inv N s σ) {a b : Int} {ta : Tz} {U : Tm} (hab : a ≠ b) (ha : s.kn a = some ta) (hv : ∀ n, ta ≠ .var n) (hda : Den s.kn (.var a) U) (hdb : Den s.kn (.var b) U) (hkb : s.kn b ≠ none) (hr : rootB s.kn b = true)
    (h1 : -(M : Int) ≤ b) (h2 : b ≤ N) : Move N M 0 s (s.learn b (.var a)) σ σ := by
  have hsz : (s.learn b (.var a)).sz = s.sz := by
    show (if (s.kn b).isSome then _ else _) = _
    cases e : s.kn b with
    | none => exact absurd e hkb
    | some t => rfl
  have hlen : (s.learn b (.var a)).log.length = s.log.length + 1 := by simp [KS.learn]
  have hden : ∀ {t : Tz} {T : Tm}, Den s.kn t T → Den (s.learn b (.var a)).kn t T := fun hd => Den.join hab ha hv hda hdb hkb hd
  refine ⟨⟨hi.st.same hden (fun x hx => ?_), fun k hk hne => ?_, hi.inv, fun m x y e => ?_⟩, hi.st.idem, fun hd => by rw [hi.st.fix hd]; exact hden hd, ⟨[(b, s.kn b)], rfl, setK_back _ _ _⟩, by omega, ?_⟩
  · by_cases e : x = b
    · subst e; exact .inl hkb
    · left; rw [learn_kn, setK_ne _ _ e] at hx; exact hx
  · rw [hsz]
    by_cases e : k = b
    · subst e; exact hi.inn k hk hkb
    · exact hi.inn k hk (fun e9 => hne (by rw [learn_kn, setK_ne _ _ e]; exact e9))
  · rw [learn_kn] at e
    by_cases em : m = b
    · subst em; rw [setK_self] at e; cases e
    · rw [setK_ne _ _ em] at e; exact hi.flat m x y e
  · have hp := phi_less (N := N) (M := M) (kn := s.kn) (kn' := (s.learn b (.var a)).kn) (fun x hx => rootB_set hr hx) h1 h2 hr (by unfold rootB; rw [learn_kn, setK_self])
    unfold wt
    omega
theorem nameF_flat (r : Tz × KS) : arrows (nameF r).1 = 0 := by
  unfold nameF
  split
  · rfl
  · rename_i h; cases e : r.1 with
    | var n => rfl
    | star => rfl
    | arr a b => exact absurd e (h a b)
theorem flatF_flat : ∀ (x : Tz) (s : KS) (a b : Tz), (flatF x s).1 = .arr a b → arrows a = 0 ∧ arrows b = 0
  | .var n, s, a, b, h => by cases h
  | .star, s, a, b, h => by cases h
  | .arr x y, s, a, b, h => by
    have h' : Tz.arr _ _ = Tz.arr a b := h
    injection h' with h1 h2
    subst h1 h2
    exact ⟨nameF_flat _, nameF_flat _⟩
/-- What flat makes known. -/
structure Flats (N M : Nat) (s s' : KS) (σ : Sb) : Prop where
  inv : Inv N s' σ
  grow : Grow s s'
  root : ∀ x, rootB s'.kn x = rootB s.kn x
theorem flats_name {N M : Nat} {s : KS} {σ : Sb} {r : Tz × KS} (h : Flats N M s r.2 σ) (hd : ∃ X, Den r.2.kn r.1 X) (hf : ∀ a b, r.1 = .arr a b → arrows a = 0 ∧ arrows b = 0) : Flats N M s (nameF r).2 σ := by
  obtain ⟨t, s'⟩ := r
  cases t with
  | var n => exact h
  | star => exact h
  | arr a b =>
    obtain ⟨X, hX⟩ := hd
    have hg := grow_name h.inv.inn (.arr a b)
    have hn := inn_new h.inv.inn
    have hnew : Den (s'.learn (-1 - (s'.sz : Int)) (.arr a b)).kn (.var (-1 - (s'.sz : Int))) X := .bound _ _ _ (setK_self _ _ _) (hg.den hX)
    refine ⟨⟨h.inv.st.same hg.den (fun x hx => ?_), hg.inn, h.inv.inv, fun m x y e => ?_⟩, h.grow.trans hg, fun x => ?_⟩
    · by_cases e : x = -1 - (s'.sz : Int)
      · right; rw [e]; exact ⟨X, hnew⟩
      · left
        have hx' : (s'.learn (-1 - (s'.sz : Int)) (.arr a b)).kn x ≠ none := hx
        rw [learn_kn, setK_ne _ _ e] at hx'; exact hx'
    · have e' : (s'.learn (-1 - (s'.sz : Int)) (.arr a b)).kn m = some (.arr x y) := e
      rw [learn_kn] at e'
      by_cases em : m = -1 - (s'.sz : Int)
      · rw [em, setK_self] at e'; injection e' with e'; exact hf x y e'
      · rw [setK_ne _ _ em] at e'; exact h.inv.flat m x y e'
    · rw [← h.root x]
      show rootB (s'.learn (-1 - (s'.sz : Int)) (.arr a b)).kn x = rootB s'.kn x
      rw [learn_kn]
      by_cases e : x = -1 - (s'.sz : Int)
      · unfold rootB; rw [e, setK_self]
        have hn' : s'.kn (-1 - (s'.sz : Int)) = none := hn
        rw [hn']
      · unfold rootB; rw [setK_ne _ _ e]
theorem flats_any {N M : Nat} {σ : Sb} : ∀ (x : Tz) (s : KS) (X : Tm), Inv N s σ → Den s.kn x X → Flats N M s (flatF x s).2 σ
  | .var n, s, _, h, _ => ⟨h, .refl h.inn, fun _ => rfl⟩
  | .star, s, _, h, _ => ⟨h, .refl h.inn, fun _ => rfl⟩
  | .arr a b, s, X, h, hd => by
    cases hd with
    | arr _ _ A B hA hB =>
      have ha := flats_any (M := M) a s A h hA
      obtain ⟨_, da⟩ := flatF_ok a s h.inn
      have ha' := flats_name ha ⟨A, da A hA⟩ (flatF_flat a s)
      have hb := flats_any (M := M) b (nameF (flatF a s)).2 B ha'.inv (ha'.grow.den hB)
      obtain ⟨_, db⟩ := flatF_ok b (nameF (flatF a s)).2 ha'.inv.inn
      have hb' := flats_name hb ⟨B, db B (ha'.grow.den hB)⟩ (flatF_flat b _)
      exact ⟨hb'.inv, ha'.grow.trans hb'.grow, fun x => (hb'.root x).trans (ha'.root x)⟩
theorem move_flat {N M : Nat} {s : KS} {σ : Sb} (hi : Inv N s σ) {x : Tz} {X : Tm} (hd : Den s.kn x X) : Move N M (arrows x) s (flatF x s).2 σ σ := by
  have h := flats_any (M := M) x s X hi hd
  obtain ⟨_, _, q1, q2⟩ := flat_sz x s
  refine ⟨h.inv, hi.st.idem, fun hd => by rw [hi.st.fix hd]; exact h.grow.den hd, h.grow.log, by omega, ?_⟩
  have := phi_le (N := N) (M := M) (kn := s.kn) (kn' := (flatF x s).2.kn) (fun x hx => by rw [← h.root x]; exact hx)
  unfold wt
  omega
end Go.Proofs.Ytomhojpoaicioaa
