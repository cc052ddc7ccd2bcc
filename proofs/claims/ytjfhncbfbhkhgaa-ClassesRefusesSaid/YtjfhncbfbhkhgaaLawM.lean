/- The mathematics of the laws: what is above a class is what a way leads up to; what is not told. No program; no conditions but those that each theorem names. -/
import Derived.Test.YtjfhncbfbhkhgaaPik
namespace Go.Proofs.Ytjfhncbfbhkhgaa
section
variable {α : Type} [DecidableEq α]
theorem aboveF_sub (next : α → List α) (cls : α → Bool) : ∀ (n : Nat) (T : List α) (x : α), ∀ y ∈ T, y ∈ aboveF next cls n T x
  | 0, T, x, y, h => h
  | n + 1, T, x, y, h => by
    unfold aboveF
    by_cases hc : cls x = true ∧ x ∉ T
    · rw [if_pos hc]
      have key : ∀ (l T : List α), y ∈ T → y ∈ l.foldl (fun t z => aboveF next cls n t z) T := by
        intro l
        induction l with
        | nil => exact fun T h => h
        | cons a l ih => exact fun T h => ih _ (aboveF_sub next cls n T a y h)
      exact key _ _ (List.mem_append_left _ h)
    · rw [if_neg hc]; exact h
theorem fold_sub (next : α → List α) (cls : α → Bool) (n : Nat) (y : α) : ∀ (l T : List α), y ∈ T → y ∈ l.foldl (fun t z => aboveF next cls n t z) T
  | [], _, h => h
  | a :: l, T, h => fold_sub next cls n y l _ (aboveF_sub next cls n T a y h)
theorem aboveF_sound (next : α → List α) (cls : α → Bool) : ∀ (n : Nat) (T : List α) (x : α), ∀ y ∈ aboveF next cls n T x, y ∈ T ∨ (cls y = true ∧ Way next x y)
  | 0, T, x, y, h => .inl h
  | n + 1, T, x, y, h => by
    unfold aboveF at h
    by_cases hc : cls x = true ∧ x ∉ T
    · rw [if_pos hc] at h
      have key : ∀ (l T : List α), (∀ z ∈ l, z ∈ next x) → y ∈ l.foldl (fun t z => aboveF next cls n t z) T → y ∈ T ∨ (cls y = true ∧ Way next x y) := by
        intro l
        induction l with
        | nil => exact fun T _ h => .inl h
        | cons a l ih =>
          intro T hl h
          rcases ih _ (fun z hz => hl z (List.mem_cons_of_mem _ hz)) h with h1 | h1
          · rcases aboveF_sound next cls n T a y h1 with h2 | ⟨h2, h3⟩
            · exact .inl h2
            · exact .inr ⟨h2, .cons trivial (hl a List.mem_cons_self) h3⟩
          · exact .inr h1
      rcases key _ _ (fun z hz => hz) h with h1 | h1
      · rcases List.mem_append.1 h1 with h2 | h2
        · exact .inl h2
        · rw [List.mem_singleton.1 h2]; exact .inr ⟨hc.1, .nil trivial⟩
      · exact .inr h1
    · rw [if_neg hc] at h; exact .inl h
theorem aboveF_comp (next : α → List α) (cls : α → Bool) {U : List α} (hU : ∀ x, cls x = true → x ∈ U) : ∀ (n : Nat) (T : List α) (x : α), cntC U T < n →
    (cls x = true → x ∈ aboveF next cls n T x) ∧ ∀ z ∈ aboveF next cls n T x, z ∉ T → ∀ y ∈ next z, cls y = true → y ∈ aboveF next cls n T x
  | 0, T, x, h => absurd h (Nat.not_lt_zero _)
  | n + 1, T, x, h => by
    have hfold : ∀ (l T : List α), cntC U T < n → (∀ y ∈ l, cls y = true → y ∈ l.foldl (fun t z => aboveF next cls n t z) T) ∧
        ∀ z ∈ l.foldl (fun t z => aboveF next cls n t z) T, z ∉ T → ∀ y ∈ next z, cls y = true → y ∈ l.foldl (fun t z => aboveF next cls n t z) T := by
      intro l
      induction l with
      | nil => exact fun T _ => ⟨fun y hy => (by cases hy), fun z hz hn => absurd hz hn⟩
      | cons a l ih =>
        intro T hT
        obtain ⟨c1, c2⟩ := aboveF_comp next cls hU n T a hT
        obtain ⟨i1, i2⟩ := ih (aboveF next cls n T a) (Nat.lt_of_le_of_lt (cntC_le (aboveF_sub next cls n T a)) hT)
        refine ⟨fun y hy hc => ?_, fun z hz hn y hy hc => ?_⟩
        · rcases List.mem_cons.1 hy with rfl | hy
          · exact fold_sub next cls n _ l _ (c1 hc)
          · exact i1 y hy hc
        · by_cases hz1 : z ∈ aboveF next cls n T a
          · exact fold_sub next cls n _ l _ (c2 z hz1 hn y hy hc)
          · exact i2 z hz hz1 y hy hc
    unfold aboveF
    by_cases hc : cls x = true ∧ x ∉ T
    · rw [if_pos hc]
      obtain ⟨f1, f2⟩ := hfold (next x) (T ++ [x]) (by have := cntC_lt (hU x hc.1) hc.2; omega)
      refine ⟨fun _ => fold_sub next cls n _ _ _ (List.mem_append_right _ (List.mem_singleton.2 rfl)), fun z hz hn y hy hcy => ?_⟩
      by_cases e : z = x
      · subst e; exact f1 y hy hcy
      · exact f2 z hz (fun h9 => (List.mem_append.1 h9).elim hn (fun h9 => e (List.mem_singleton.1 h9))) y hy hcy
    · rw [if_neg hc]
      exact ⟨fun h9 => Classical.byContradiction fun h8 => hc ⟨h9, h8⟩, fun z hz hn => absurd hz hn⟩
omit [DecidableEq α] in
theorem way_first {next : α → List α} {cls : α → Bool} (hn : ∀ x, cls x = false → next x = []) {a x : α} (hw : Way next a x) (hx : cls x = true) : cls a = true := by
  cases hw with
  | nil _ => exact hx
  | cons _ e _ =>
    cases hc : cls a with
    | true => rfl
    | false => rw [hn a hc] at e; cases e
/-- What is told of a class is what is there of all that a way leads up to. -/
theorem aboveF_way {next : α → List α} {cls : α → Bool} {U : List α} (hU : ∀ x, cls x = true → x ∈ U) (hn : ∀ x, cls x = false → next x = []) {n : Nat} (h : U.length < n) (a x : α) :
    x ∈ aboveF next cls n [] a ↔ cls x = true ∧ Way next a x := by
  constructor
  · intro h1
    rcases aboveF_sound next cls n [] a x h1 with h2 | h2
    · cases h2
    · exact h2
  · rintro ⟨hx, hw⟩
    have hcn : cntC U [] < n := Nat.lt_of_le_of_lt (List.length_filter_le _ _) h
    obtain ⟨c1, c2⟩ := aboveF_comp next cls hU n [] a hcn
    have ha := c1 (way_first hn hw hx)
    generalize aboveF next cls n [] a = R at *
    clear c1 hcn
    revert ha
    induction hw with
    | nil _ => exact fun h => h
    | @cons a y x _ e g ih => exact fun ha => ih hx (c2 a ha (by simp) y e (way_first hn g hx))
end
theorem above_mem {C : List Cls} (a x : ByteArray) : x ∈ aboveF (supF C) (hasF C) (C.length + 1) [] a ↔ hasF C x = true ∧ Way (supF C) a x :=
  aboveF_way (U := C.map (·.name)) (fun x h => hasF_mem h) (fun x h => supF_none h) (by simp) a x
theorem above_pos {C : List Cls} (a : ByteArray) : 0 < (aboveF (supF C) (hasF C) (C.length + 1) [] a).length ↔ hasF C a = true := by
  constructor
  · intro h
    obtain ⟨x, hx⟩ := List.exists_mem_of_length_pos h
    obtain ⟨h1, h2⟩ := (above_mem a x).1 hx
    exact way_first (next := supF C) (cls := hasF C) (fun x h => supF_none h) h2 h1
  · intro h
    exact List.length_pos_of_mem ((above_mem a a).2 ⟨h, .nil trivial⟩)
theorem instF_get {a b : ByteArray} : ∀ {L : List Ins} {n k : Nat}, instF L n a b = some k → ∃ j x, k = n + j ∧ L[j]? = some x ∧ x.cls = a ∧ x.con = b
  | [], _, _, h => by cases h
  | y :: l, n, k, h => by
    unfold instF at h
    by_cases e : y.cls = a ∧ y.con = b
    · rw [if_pos e] at h; injection h with h
      exact ⟨0, y, h.symm, rfl, e⟩
    · rw [if_neg e] at h
      obtain ⟨j, x, h1, h2, h3⟩ := instF_get h
      exact ⟨j + 1, x, by omega, h2, h3⟩
theorem instF_some {I : List Ins} {a b : ByteArray} {k : Nat} (h : instF I 0 a b = some k) : ∃ x, I[k]? = some x ∧ x.cls = a ∧ x.con = b := by
  obtain ⟨j, x, h1, h2⟩ := instF_get h
  rw [Nat.zero_add] at h1; subst h1; exact ⟨x, h2⟩
theorem instF_has {a b : ByteArray} : ∀ {L : List Ins} {n : Nat} {x : Ins}, x ∈ L → x.cls = a → x.con = b → (instF L n a b).isSome = true
  | y :: l, n, x, h, h1, h2 => by
    unfold instF
    by_cases e : y.cls = a ∧ y.con = b
    · rw [if_pos e]; rfl
    · rw [if_neg e]
      rcases List.mem_cons.1 h with rfl | h
      · exact absurd ⟨h1, h2⟩ e
      · exact instF_has h h1 h2
theorem instF_iff {I : List Ins} {a b : ByteArray} : (instF I 0 a b).isSome = true ↔ ∃ x ∈ I, x.cls = a ∧ x.con = b := by
  constructor
  · intro h
    obtain ⟨k, hk⟩ := Option.isSome_iff_exists.1 h
    obtain ⟨x, h1, h2⟩ := instF_some hk
    exact ⟨x, List.mem_of_getElem? h1, h2⟩
  · rintro ⟨x, hx, h1, h2⟩; exact instF_has hx h1 h2
theorem overL_nz : ∀ (I S : List Ins), ∀ p ∈ overL S I, p.1 = 34
  | [], _, p, h => by cases h
  | x :: l, S, p, h => by
    rcases List.mem_append.1 h with h | h
    · split at h
      · rw [List.mem_singleton.1 h]
      · cases h
    · exact overL_nz l _ p h
theorem lackL_nz (C : List Cls) (I J : List Ins) : ∀ p ∈ lackL C I J, p.1 = 35 := by
  intro p h
  obtain ⟨l, hl, hp⟩ := List.mem_flatten.1 h
  obtain ⟨x, _, rfl⟩ := List.mem_map.1 hl
  split at hp
  · rw [List.mem_singleton.1 hp]
  · cases hp
theorem loopL_nz (C : List Cls) (G : List (List ByteArray)) : ∀ p ∈ loopL C G, p.1 = 35 := by
  intro p h
  obtain ⟨l, hl, hp⟩ := List.mem_flatten.1 h
  obtain ⟨g, _, rfl⟩ := List.mem_map.1 hl
  unfold loopG at hp
  split at hp
  · cases hp
  · obtain ⟨n, _, rfl⟩ := List.mem_map.1 hp; rfl
theorem newT_zero (C : List Cls) (I : List Ins) (G : List (List ByteArray)) : (newT C I G).1 = 0 ↔ loopL C G = [] ∧ overL [] I = [] ∧ lackL C I I = [] := by
  unfold newT
  rw [tellsF_zero (fun p hp => by
    rcases List.mem_append.1 hp with hp | hp
    · rcases List.mem_append.1 hp with hp | hp
      · rw [loopL_nz _ _ p hp]; decide
      · rw [overL_nz _ _ p hp]; decide
    · rw [lackL_nz _ _ _ p hp]; decide)]
  simp
/-- Of no head there are two instances. -/
theorem over_nil : ∀ (I S : List Ins), overL S I = [] → (∀ (k : Nat) (x : Ins), I[k]? = some x → (instF S 0 x.cls x.con) = none ∧ ∀ (j : Nat) (y : Ins), j < k → I[j]? = some y → ¬ (y.cls = x.cls ∧ y.con = x.con))
  | [], _, _, k, x, h => by cases k <;> cases h
  | z :: l, S, h, k, x, hx => by
    obtain ⟨h1, h2⟩ := List.append_eq_nil_iff.1 h
    have hz : instF S 0 z.cls z.con = none := by
      cases e : instF S 0 z.cls z.con with
      | none => rfl
      | some d => rw [e] at h1; cases h1
    have ih := over_nil l (S ++ [z]) h2
    cases k with
    | zero => injection hx with hx; subst hx; exact ⟨hz, fun j y hj => absurd hj (by omega)⟩
    | succ k =>
      have hx' : l[k]? = some x := hx
      obtain ⟨g1, g2⟩ := ih k x hx'
      rw [instF_snoc] at g1
      cases e : instF S 0 x.cls x.con with
      | some d => rw [e] at g1; cases g1
      | none =>
        rw [e] at g1
        refine ⟨rfl, fun j y hj hy => ?_⟩
        cases j with
        | zero =>
          injection hy with hy; subst hy
          intro hh
          have g1' : (if z.cls = x.cls ∧ z.con = x.con then some (0 + S.length) else none) = none := g1
          rw [if_pos hh] at g1'; cases g1'
        | succ j => exact g2 j y (by omega) hy
theorem over_one {I : List Ins} (h : overL [] I = []) {k j : Nat} {x y : Ins} (hx : I[k]? = some x) (hy : I[j]? = some y) (h1 : x.cls = y.cls) (h2 : x.con = y.con) : k = j := by
  rcases Nat.lt_trichotomy k j with hlt | e | hlt
  · exact absurd ⟨h1, h2⟩ ((over_nil I [] h j y hy).2 k x hlt hx)
  · exact e
  · exact absurd ⟨h1.symm, h2.symm⟩ ((over_nil I [] h k x hx).2 j y hlt hy)
theorem nil_of_one : ∀ (I S : List Ins), (∀ (k : Nat) (x : Ins), I[k]? = some x → (instF S 0 x.cls x.con) = none ∧ ∀ (j : Nat) (y : Ins), j < k → I[j]? = some y → ¬ (y.cls = x.cls ∧ y.con = x.con)) → overL S I = []
  | [], _, _ => rfl
  | z :: l, S, h => by
    show (if _ then _ else _) ++ overL (S ++ [z]) l = []
    rw [(h 0 z rfl).1]
    refine (List.nil_append _).trans (nil_of_one l (S ++ [z]) (fun k x hx => ?_))
    obtain ⟨h1, h2⟩ := h (k + 1) x hx
    refine ⟨?_, fun j y hj hy => h2 (j + 1) y (by omega) hy⟩
    rw [instF_snoc, h1]
    exact if_neg (h2 0 z (by omega) rfl)
theorem lack_nil {C : List Cls} {I : List Ins} : lackL C I I = [] ↔ ∀ x ∈ I, ∀ c ∈ supF C x.cls, ∃ y ∈ I, y.cls = c ∧ y.con = x.con := by
  constructor
  · intro h x hx c hc
    refine instF_iff.1 (Classical.byContradiction fun hn => ?_)
    have hl : lackF C I x = true := List.any_eq_true.2 ⟨c, hc, by simpa using hn⟩
    have : ((35 : Int), x.atp) ∈ lackL C I I := List.mem_flatten.2 ⟨_, List.mem_map.2 ⟨x, hx, rfl⟩, by rw [if_pos hl]; exact List.mem_singleton.2 rfl⟩
    rw [h] at this; cases this
  · intro h
    refine List.eq_nil_iff_forall_not_mem.2 (fun p hp => ?_)
    obtain ⟨l, hl, hp⟩ := List.mem_flatten.1 hp
    obtain ⟨x, hx, rfl⟩ := List.mem_map.1 hl
    have hf : lackF C I x = false := by
      refine List.any_eq_false.2 (fun c hc => ?_)
      have := instF_iff.2 (h x hx c hc)
      simp [this]
    rw [hf] at hp; cases hp
/-- All that is above an instance's class has one of its constructor. -/
theorem ups_have {C : List Cls} {I : List Ins} (h : lackL C I I = []) {a c : ByteArray} (hw : Way (supF C) a c) : ∀ {x : Ins}, x ∈ I → x.cls = a → ∃ y ∈ I, y.cls = c ∧ y.con = x.con := by
  induction hw with
  | nil _ => exact fun {x} hx e => ⟨x, hx, e, rfl⟩
  | @cons a z c _ e _ ih =>
    intro x hx hxa
    obtain ⟨y, hy, h1, h2⟩ := lack_nil.1 h x hx z (by rw [hxa]; exact e)
    obtain ⟨u, hu, h3, h4⟩ := ih hy h1
    exact ⟨u, hu, h3, h4.trans h2⟩
end Go.Proofs.Ytjfhncbfbhkhgaa
