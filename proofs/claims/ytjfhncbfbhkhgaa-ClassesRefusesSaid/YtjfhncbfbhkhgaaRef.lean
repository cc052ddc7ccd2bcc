/- The document's Over and less and bare and circle, and its refusal as a whole. Conditions: those that each theorem names. -/
import Derived.Test.YtjfhncbfbhkhgaaLawM
import Derived.Test.YtjfhncbfbhkhgaaDpt
import Derived.Deep.Cut
import Derived.Deep.DeepCutAuto
namespace Go.Proofs.Ytjfhncbfbhkhgaa
section
variable {α : Type} [DecidableEq α]
/-- One thing that a thing leads to is come to. -/
def oneO (has : α → Bool) (s : List α × List α) (c : α) : List α × List α := if has c = true ∧ c ∉ s.1 then (s.1 ++ [c], s.2 ++ [c]) else s
def stepO (next : α → List α) (has : α → Bool) (s : List α × List α) (x : α) : List α × List α := (next x).foldl (oneO has) s
def levelO (next : α → List α) (has : α → Bool) (o n : List α) : List α × List α := n.foldl (stepO next has) (o, [])
def overN (next : α → List α) (has : α → Bool) : Nat → List α → List α → List α
  | 0, o, _ => o
  | k + 1, o, n => overN next has k (levelO next has o n).1 (levelO next has o n).2
theorem oneO_sub {has : α → Bool} {s : List α × List α} {c : α} : (∀ y ∈ s.1, y ∈ (oneO has s c).1) ∧ (∀ y ∈ s.2, y ∈ (oneO has s c).2) := by
  unfold oneO
  by_cases h : has c = true ∧ c ∉ s.1
  · rw [if_pos h]; exact ⟨fun y hy => List.mem_append_left _ hy, fun y hy => List.mem_append_left _ hy⟩
  · rw [if_neg h]; exact ⟨fun y hy => hy, fun y hy => hy⟩
/-- A state of a level: what is come to more is what was come to first in it. -/
structure LvI (has : α → Bool) (P : α → Prop) (o0 : List α) (s : List α × List α) : Prop where
  sub : ∀ y ∈ o0, y ∈ s.1
  new : ∀ y ∈ s.1, y ∈ o0 ∨ y ∈ s.2
  more : ∀ y ∈ s.2, y ∈ s.1 ∧ y ∉ o0 ∧ has y = true
  ok : ∀ y ∈ s.2, P y
theorem LvI.one {has : α → Bool} {P : α → Prop} {o0 : List α} {s : List α × List α} (h : LvI has P o0 s) {c : α} (hc : P c) : LvI has P o0 (oneO has s c) ∧ (has c = true → c ∈ (oneO has s c).1) := by
  unfold oneO
  by_cases hh : has c = true ∧ c ∉ s.1
  · rw [if_pos hh]
    refine ⟨⟨fun y hy => List.mem_append_left _ (h.sub y hy), fun y hy => ?_, fun y hy => ?_, fun y hy => ?_⟩, fun _ => List.mem_append_right _ (List.mem_singleton.2 rfl)⟩
    · rcases List.mem_append.1 hy with hy | hy
      · exact (h.new y hy).imp id (List.mem_append_left _)
      · exact .inr (List.mem_append_right _ hy)
    · rcases List.mem_append.1 hy with hy | hy
      · exact ⟨List.mem_append_left _ (h.more y hy).1, (h.more y hy).2⟩
      · rw [List.mem_singleton.1 hy]
        exact ⟨List.mem_append_right _ (List.mem_singleton.2 rfl), fun h9 => hh.2 (h.sub _ h9), hh.1⟩
    · rcases List.mem_append.1 hy with hy | hy
      · exact h.ok y hy
      · rw [List.mem_singleton.1 hy]; exact hc
  · rw [if_neg hh]
    exact ⟨h, fun h9 => Classical.byContradiction fun h8 => hh ⟨h9, h8⟩⟩
theorem LvI.fold {has : α → Bool} {P : α → Prop} {o0 : List α} : ∀ (l : List α) (s : List α × List α), LvI has P o0 s → (∀ c ∈ l, P c) → LvI has P o0 (l.foldl (oneO has) s) ∧ (∀ y ∈ s.1, y ∈ (l.foldl (oneO has) s).1) ∧ ∀ c ∈ l, has c = true → c ∈ (l.foldl (oneO has) s).1
  | [], s, h, _ => ⟨h, fun y hy => hy, fun c hc => by cases hc⟩
  | a :: l, s, h, hl => by
    obtain ⟨h1, h2⟩ := h.one (hl a List.mem_cons_self)
    obtain ⟨h3, h4, h5⟩ := LvI.fold l _ h1 (fun c hc => hl c (List.mem_cons_of_mem _ hc))
    refine ⟨h3, fun y hy => h4 y (oneO_sub.1 y hy), fun c hc hh => ?_⟩
    rcases List.mem_cons.1 hc with rfl | hc
    · exact h4 _ (h2 hh)
    · exact h5 c hc hh
theorem LvI.steps {next : α → List α} {has : α → Bool} {P : α → Prop} {o0 : List α} : ∀ (n : List α) (s : List α × List α), LvI has P o0 s → (∀ x ∈ n, ∀ c ∈ next x, P c) → LvI has P o0 (n.foldl (stepO next has) s) ∧ (∀ y ∈ s.1, y ∈ (n.foldl (stepO next has) s).1) ∧ ∀ x ∈ n, ∀ c ∈ next x, has c = true → c ∈ (n.foldl (stepO next has) s).1
  | [], s, h, _ => ⟨h, fun y hy => hy, fun c hc => by cases hc⟩
  | a :: l, s, h, hl => by
    obtain ⟨h1, h2, h3⟩ := LvI.fold (next a) s h (hl a List.mem_cons_self)
    obtain ⟨h4, h5, h6⟩ := LvI.steps (next := next) l _ h1 (fun x hx => hl x (List.mem_cons_of_mem _ hx))
    refine ⟨h4, fun y hy => h5 y (h2 y hy), fun x hx c hc hh => ?_⟩
    rcases List.mem_cons.1 hx with rfl | hx
    · exact h5 _ (h3 c hc hh)
    · exact h6 x hx c hc hh
theorem overN_nil (next : α → List α) (has : α → Bool) : ∀ (k : Nat) (o : List α), overN next has k o [] = o
  | 0, _ => rfl
  | k + 1, o => overN_nil next has k o
/-- What is come to from a thing, level by level, is closed, and all of it is led to. -/
theorem overN_ok {next : α → List α} {has : α → Bool} {U : List α} (hU : ∀ x, has x = true → x ∈ U) {a : α} {P : α → Prop} (hP : ∀ c ∈ next a, P c) (hPP : ∀ x, P x → ∀ c ∈ next x, P c) : ∀ (k : Nat) (o n : List α), cntC U o < k → (∀ x ∈ o, P x) → (∀ x ∈ n, x = a ∨ x ∈ o) → (∀ x, x = a ∨ x ∈ o → x ∉ n → ∀ c ∈ next x, has c = true → c ∈ o) →
    (∀ x ∈ overN next has k o n, P x) ∧ ∀ x, x = a ∨ x ∈ overN next has k o n → ∀ c ∈ next x, has c = true → c ∈ overN next has k o n
  | 0, o, n, hk, _, _, _ => absurd hk (Nat.not_lt_zero _)
  | k + 1, o, n, hk, ho, hn, hcl => by
    have hnP : ∀ x ∈ n, ∀ c ∈ next x, P c := fun x hx => by
      rcases hn x hx with rfl | h
      · exact hP
      · exact hPP x (ho x h)
    obtain ⟨h1, h2, h3⟩ := LvI.steps (next := next) (has := has) (P := P) (o0 := o) n (o, []) ⟨fun y hy => hy, fun y hy => .inl hy, fun y hy => (by cases hy), fun y hy => (by cases hy)⟩ hnP
    show (∀ x ∈ overN next has k (levelO next has o n).1 (levelO next has o n).2, P x) ∧ _
    have e : levelO next has o n = n.foldl (stepO next has) (o, []) := rfl
    rw [← e] at h1 h2 h3
    have hall : ∀ x, x = a ∨ x ∈ o → ∀ c ∈ next x, has c = true → c ∈ (levelO next has o n).1 := fun x hx c hc hh => by
      by_cases hxn : x ∈ n
      · exact h3 x hxn c hc hh
      · exact h2 c (hcl x hx hxn c hc hh)
    show (∀ x ∈ overN next has k (levelO next has o n).1 (levelO next has o n).2, P x) ∧ ∀ x, x = a ∨ x ∈ overN next has k (levelO next has o n).1 (levelO next has o n).2 → ∀ c ∈ next x, has c = true → c ∈ overN next has k (levelO next has o n).1 (levelO next has o n).2
    have hoP : ∀ x ∈ (levelO next has o n).1, P x := fun x hx => (h1.new x hx).elim (ho x) (h1.ok x)
    by_cases hm : (levelO next has o n).2 = []
    · rw [hm, overN_nil]
      refine ⟨hoP, fun x hx => ?_⟩
      rcases hx with rfl | hx
      · exact hall _ (.inl rfl)
      · rcases h1.new x hx with h | h
        · exact hall x (.inr h)
        · rw [hm] at h; cases h
    · obtain ⟨y, hy⟩ := List.exists_mem_of_ne_nil _ hm
      have hlt : cntC U (levelO next has o n).1 < cntC U o := by
        have hyo := h1.more y hy
        refine Nat.lt_of_le_of_lt (cntC_le (st := o ++ [y]) (fun x hx => ?_)) (cntC_lt (hU y hyo.2.2) hyo.2.1)
        rcases List.mem_append.1 hx with hx | hx
        · exact h1.sub x hx
        · rw [List.mem_singleton.1 hx]; exact hyo.1
      refine overN_ok hU hP hPP k _ _ (by omega) hoP (fun x hx => .inr (h1.more x hx).1) (fun x hx hxn => ?_)
      rcases hx with rfl | hx
      · exact hall _ (.inl rfl)
      · rcases h1.new x hx with h | h
        · exact hall x (.inr h)
        · exact absurd h hxn
end
/-- The document's Over. -/
def overC (C : List Cls) (a : ByteArray) : List ByteArray := overN (supF C) (hasF C) (C.length + 1) [] [a]
/-- A class is among those above it just if it is above itself. -/
theorem over_self {C : List Cls} {a : ByteArray} (ha : hasF C a = true) : a ∈ overC C a ↔ Self C a := by
  have hc0 : cntC (C.map (·.name)) [] < C.length + 1 := by
    have := List.length_filter_le (fun c => decide (c ∉ ([] : List ByteArray))) (C.map (·.name))
    unfold cntC
    simp at this ⊢
    omega
  obtain ⟨h1, h2⟩ := overN_ok (next := supF C) (has := hasF C) (U := C.map (·.name)) (fun x h => hasF_mem h) (a := a) (P := fun x => ∃ y ∈ supF C a, Way (supF C) y x) (fun c hc => ⟨c, hc, .nil trivial⟩) (fun x ⟨y, hy, hw⟩ c hc => ⟨y, hy, hw.trans (Way.one hc)⟩) (C.length + 1) [] [a] hc0 (fun x h => (by cases h)) (fun x h => .inl (List.mem_singleton.1 h)) (fun x hx hn => absurd (List.mem_singleton.2 (hx.resolve_right (fun h => by cases h))) hn)
  constructor
  · intro h
    obtain ⟨y, hy, hw⟩ := h1 a h
    exact ⟨y, hy, hw⟩
  · rintro ⟨y, hy, hw⟩
    have hy' : y ∈ overC C a := h2 a (.inl rfl) y hy (way_first (next := supF C) (cls := hasF C) (fun x h => supF_none h) hw ha)
    clear hy
    unfold overC at *
    generalize overN (supF C) (hasF C) (C.length + 1) [] [a] = R at *
    have key : ∀ {p q : ByteArray}, Way (supF C) p q → q = a → p ∈ R → q ∈ R := by
      intro p q hpq
      induction hpq with
      | nil _ => exact fun _ h => h
      | @cons p z q _ e g ih =>
        intro e1 h
        exact ih e1 (h2 p (.inr h) z e (way_first (next := supF C) (cls := hasF C) (fun x h => supF_none h) (by rw [← e1] at ha; exact g) (by rw [e1]; exact ha)))
    exact key hw rfl hy'
/-- The least of some refusals. -/
theorem tells_min : ∀ (l : List (Int × Int)) (s : Int × Int), s.1 ≠ 0 → (∀ p ∈ l, p.1 ≠ 0) → tellsF s l ∈ s :: l ∧ ∀ p ∈ s :: l, (tellsF s l).2 ≤ p.2
  | [], s, _, _ => ⟨List.mem_singleton.2 rfl, fun p hp => by rw [List.mem_singleton.1 hp]; exact Int.le_refl _⟩
  | q :: l, s, hs, hl => by
    show tellsF (tellF s q.1 q.2) l ∈ _ ∧ _
    have e : tellF s q.1 q.2 = if q.2 < s.2 then q else s := by
      unfold tellF
      by_cases h : q.2 < s.2
      · rw [if_pos (.inr h), if_pos h]
      · rw [if_neg (fun h9 => h9.elim hs h), if_neg h]
    have hs' : (tellF s q.1 q.2).1 ≠ 0 := by
      rw [e]; split
      · exact hl q List.mem_cons_self
      · exact hs
    obtain ⟨h1, h2⟩ := tells_min l (tellF s q.1 q.2) hs' (fun p hp => hl p (List.mem_cons_of_mem _ hp))
    have h3 := h2 _ List.mem_cons_self
    refine ⟨?_, fun p hp => ?_⟩
    · rcases List.mem_cons.1 h1 with h | h
      · show tellsF (tellF s q.1 q.2) l ∈ _
        rw [h, e]; split
        · exact List.mem_cons_of_mem _ List.mem_cons_self
        · exact List.mem_cons_self
      · exact List.mem_cons_of_mem _ (List.mem_cons_of_mem _ h)
    · show (tellsF (tellF s q.1 q.2) l).2 ≤ p.2
      have hle : (tellF s q.1 q.2).2 ≤ s.2 ∧ (tellF s q.1 q.2).2 ≤ q.2 := by
        rw [e]; split <;> constructor <;> omega
      rcases List.mem_cons.1 hp with rfl | hp
      · omega
      · rcases List.mem_cons.1 hp with rfl | hp
        · omega
        · exact h2 p (List.mem_cons_of_mem _ hp)
/-- Refusals of one kind: their row does not matter. -/
theorem tells_set {l m : List (Int × Int)} {k : Int} (hk : k ≠ 0) (hl : ∀ p ∈ l, p.1 = k) (hm : ∀ p, p ∈ l ↔ p ∈ m) : tellsF (0, 0) l = tellsF (0, 0) m := by
  have hf : ∀ (q : Int × Int) (t : List (Int × Int)), tellsF (0, 0) (q :: t) = tellsF q t := fun q t => by
    show tellsF (tellF (0, 0) q.1 q.2) t = _
    unfold tellF; rw [if_pos (.inl rfl)]
  cases l with
  | nil =>
    cases m with
    | nil => rfl
    | cons q t => exact absurd ((hm q).2 List.mem_cons_self) (by simp)
  | cons q t =>
    cases m with
    | nil => exact absurd ((hm q).1 List.mem_cons_self) (by simp)
    | cons q' t' =>
      rw [hf, hf]
      have hq : ∀ p ∈ q :: t, p.1 ≠ 0 := fun p hp => by rw [hl p hp]; exact hk
      have hq' : ∀ p ∈ q' :: t', p.1 ≠ 0 := fun p hp => hq p ((hm p).2 hp)
      obtain ⟨a1, a2⟩ := tells_min t q (hq q List.mem_cons_self) (fun p hp => hq p (List.mem_cons_of_mem _ hp))
      obtain ⟨b1, b2⟩ := tells_min t' q' (hq' q' List.mem_cons_self) (fun p hp => hq' p (List.mem_cons_of_mem _ hp))
      have c1 := a2 _ ((hm _).2 b1)
      have c2 := b2 _ ((hm _).1 a1)
      refine Prod.ext ((hl _ a1).trans (hl _ ((hm _).2 b1)).symm) (by omega)
/-- What the document tells of classes. -/
noncomputable def circL (C : List Cls) (J : List Cls) : List (Int × Int) := (J.map (fun c => @ite _ (atOf C c.name = c.atp ∧ Self C c.name) (Classical.propDecidable _) [((35 : Int), c.atp)] [])).flatten
theorem circL_mem {C : List Cls} {p : Int × Int} : p ∈ circL C C ↔ ∃ c ∈ C, atOf C c.name = c.atp ∧ Self C c.name ∧ p = (35, c.atp) := by
  unfold circL
  rw [List.mem_flatten]
  constructor
  · rintro ⟨l, hl, hp⟩
    obtain ⟨c, hc, rfl⟩ := List.mem_map.1 hl
    split at hp
    · rename_i h
      exact ⟨c, hc, h.1, h.2, List.mem_singleton.1 hp⟩
    · cases hp
  · rintro ⟨c, hc, h1, h2, rfl⟩
    exact ⟨_, List.mem_map.2 ⟨c, hc, rfl⟩, by rw [if_pos ⟨h1, h2⟩]; exact List.mem_singleton.2 rfl⟩
theorem circL_snoc (C J : List Cls) (c : Cls) : circL C (J ++ [c]) = circL C J ++ @ite _ (atOf C c.name = c.atp ∧ Self C c.name) (Classical.propDecidable _) [((35 : Int), c.atp)] [] := by
  unfold circL; rw [List.map_append, List.flatten_append]; simp
noncomputable def refT (C : List Cls) (I : List Ins) : Int × Int := tellsF (0, 0) (circL C C ++ overL [] I ++ lackL C I I)
/-- What New tells is what the document's Refused tells. -/
theorem newT_ref {C : List Cls} {I : List Ins} {d : DS ByteArray (List ByteArray)} {S : List ByteArray} {G : List (List ByteArray)} (hw : Walks (leaveK (supF C)) ⟨[], [], []⟩ (namesF C []) d) (hd : Downs (belF (supF C) (namesF C [])) [] [] d.st.reverse S G) : newT C I G = refT C I := by
  have key : tellsF (0, 0) (loopL C G) = tellsF (0, 0) (circL C C) := by
   refine tells_set (k := 35) (by decide) (loopL_nz C G) (fun p => ?_)
   rw [loop_mem hw hd, circL_mem]
   constructor
   · rintro ⟨n, hs, rfl⟩
     obtain ⟨y, hy, _⟩ := id hs
     cases hc : clsOf C n with
     | none => unfold supF at hy; rw [hc] at hy; cases hy
     | some c =>
       obtain ⟨h1, h2⟩ := clsOf_mem hc
       have ha : atOf C n = c.atp := by unfold atOf; rw [hc]
       exact ⟨c, h1, by rw [h2]; exact ha, by rw [h2]; exact hs, by rw [ha]⟩
   · rintro ⟨c, hc, h1, h2, rfl⟩
     exact ⟨c.name, h2, by rw [h1]⟩
  unfold newT refT
  rw [List.append_assoc, List.append_assoc, tellsF_append (0, 0) (loopL C G), tellsF_append (0, 0) (circL C C), key]
end Go.Proofs.Ytjfhncbfbhkhgaa
namespace Go.Proofs.Ytjfhncbfbhkhgaa
open Go.RowKit
theorem oneO_good {C : List Cls} {s : List ByteArray × List ByteArray} {c : ByteArray} (h1 : s.1.Nodup) (h2 : ∀ y ∈ s.1, hasF C y = true) (h3 : ∃ o, s.1 = o ++ s.2) : (oneO (hasF C) s c).1.Nodup ∧ (∀ y ∈ (oneO (hasF C) s c).1, hasF C y = true) ∧ ∃ o, (oneO (hasF C) s c).1 = o ++ (oneO (hasF C) s c).2 := by
  unfold oneO
  by_cases hh : hasF C c = true ∧ c ∉ s.1
  · rw [if_pos hh]
    refine ⟨?_, fun y hy => ?_, ?_⟩
    · rw [List.nodup_append]
      exact ⟨h1, by simp, fun a ha b hb e => by simp at hb; subst hb; subst e; exact hh.2 ha⟩
    · rcases List.mem_append.1 hy with h | h
      · exact h2 y h
      · rw [List.mem_singleton.1 h]; exact hh.1
    · obtain ⟨o, ho⟩ := h3
      exact ⟨o, by show s.1 ++ [c] = o ++ (s.2 ++ [c]); rw [ho, List.append_assoc]⟩
  · rw [if_neg hh]; exact ⟨h1, h2, h3⟩
/-- How many there may be. -/
structure OvG (C : List Cls) (s : List ByteArray × List ByteArray) : Prop where
  nd : s.1.Nodup
  hs : ∀ y ∈ s.1, hasF C y = true
  ap : ∃ o, s.1 = o ++ s.2
theorem OvG.one {C : List Cls} {s : List ByteArray × List ByteArray} (h : OvG C s) (c : ByteArray) : OvG C (oneO (hasF C) s c) := by
  obtain ⟨h1, h2, h3⟩ := oneO_good (c := c) h.nd h.hs h.ap
  exact ⟨h1, h2, h3⟩
theorem OvG.len {C : List Cls} (hC : OkC C) {s : List ByteArray × List ByteArray} (h : OvG C s) : s.1.length ≤ 1048576 ∧ s.2.length ≤ 1048576 := by
  have h1 := told_len hC h.nd h.hs
  obtain ⟨o, ho⟩ := h.ap
  have h2 := congrArg List.length ho
  rw [List.length_append] at h2
  exact ⟨h1, by omega⟩
theorem fold_take {β : Type} (f : β → ByteArray → β) (s : β) {l : List ByteArray} {k : Nat} {y : ByteArray} (hy : l[k]? = some y) : (l.take (k + 1)).foldl f s = f ((l.take k).foldl f s) y := by
  rw [List.take_add_one, hy, List.foldl_append]; rfl
/-- The rows while a level is gone through. -/
structure MoI (N B : Nat) (ov nv mv : Value) (O X M : List ByteArray) (V wr : World) : Prop where
  own : wr.ownsRow (N + 1) 9 1 ov O.length (O.map .string)
  more : wr.ownsRow B 9 1 mv M.length (M.map .string)
  nxt : StrsAt (fun b => N < b ∧ b < B ∧ ov.ownBlock ≠ some b) wr nv X
  ap : ∀ g, ov.ownBlock = some g → mv.ownBlock ≠ some g
  hB : N < B ∧ B ≤ wr.heap.size
  hV : V.heap.size = N + 1
  bl : Below V.heap.size V wr
theorem MoI.on {N B : Nat} {ov nv mv : Value} {O X M : List ByteArray} {V wr w' : World} (h : MoI N B ov nv mv O X M V wr) (hb : Below wr.heap.size wr w') : MoI N B ov nv mv O X M V w' :=
  ⟨own_on h.own hb, own_on h.more hb, h.nxt.on hb, h.ap, ⟨h.hB.1, Nat.le_trans h.hB.2 hb.size⟩, h.hV, h.bl.trans (hb.mono h.bl.size)⟩
/-- What an append to a row of names leaves. -/
theorem grown_keep {B : Nat} {ov : Value} {O : List ByteArray} {wr w1 w3 : World} (ho : wr.ownsRow B 9 1 ov O.length (O.map .string)) (hb : Below wr.heap.size wr w1) (hg : w1.grownBy w3 ov.ownBlock) : (∀ (k : Nat) (cs : Array Value) (t : TypeId), wr.heap[k]? = some (Obj.cells cs t) → t ≠ 9 → w3.heap[k]? = wr.heap[k]?) ∧ (∀ k : Nat, k < wr.heap.size → ov.ownBlock ≠ some k → w3.heap[k]? = wr.heap[k]?) ∧ Fr (fun k => ov.ownBlock = some k) wr w3 := by
  have hbs := hb.size
  have key : ∀ k, k < wr.heap.size → ov.ownBlock ≠ some k → w3.heap[k]? = wr.heap[k]? := fun k hk hn => (hg.block k (by omega) (fun e => hn e.symm)).trans (hb.block k hk)
  refine ⟨fun k cs t hk ht => key k (lt_of_block hk) (own_not ho hk (fun e => ht e.symm)), key, ⟨hg.os.trans hb.os, hg.tape.trans hb.tape, hg.output.trans hb.output, Nat.le_trans hbs hg.size, fun k hk hn => key k hk hn⟩⟩
theorem MoI.out1 {N B : Nat} {ov nv mv ov' : Value} {O X M : List ByteArray} {V wr w1 w3 : World} {y : ByteArray} (h : MoI N B ov nv mv O X M V wr) (hb : Below wr.heap.size wr w1) (ho : w3.ownsRow (N + 1) 9 1 ov' (O.length + 1) (O.map .string ++ [.string y])) (hg : w1.grownBy w3 ov.ownBlock) (hat : ov'.ownBlock = ov.ownBlock ∨ ov'.ownBlock = some w1.heap.size) :
    MoI N B ov' nv mv (O ++ [y]) X M V w3 := by
  obtain ⟨_, k2, k3⟩ := grown_keep h.own hb hg
  have hbs := hb.size
  have hB := h.hB
  have hne : ∀ g, g < wr.heap.size → ov.ownBlock ≠ some g → ov'.ownBlock ≠ some g := fun g hl hn e => by
    rcases hat with e9 | e9
    · exact hn (by rw [← e9]; exact e)
    · rw [e9] at e; injection e with e; omega
  refine ⟨by rw [List.length_append, List.length_singleton, List.map_append]; exact ho, own_keep h.more (fun g hgo => k2 g (World.ownsRow.lt h.more g hgo).2 (fun e => h.ap g e hgo)), (h.nxt.keepB k3.size (fun b hb hl => k2 b hl hb.2.2)).mono (fun b hb => ⟨hb.1, hb.2.1, hne b (by omega) hb.2.2⟩), fun g e hm => hne g (World.ownsRow.lt h.more g hm).2 (fun e9 => h.ap g e9 hm) e, ⟨hB.1, Nat.le_trans hB.2 k3.size⟩, h.hV, ?_⟩
  exact h.bl.trans (k3.below h.bl.size (fun k e => by have := (World.ownsRow.lt h.own k e).1; rw [h.hV]; exact this))
theorem MoI.more1 {N B : Nat} {ov nv mv mv' : Value} {O X M : List ByteArray} {V wr w1 w3 : World} {y : ByteArray} (h : MoI N B ov nv mv O X M V wr) (hb : Below wr.heap.size wr w1) (ho : w3.ownsRow B 9 1 mv' (M.length + 1) (M.map .string ++ [.string y])) (hg : w1.grownBy w3 mv.ownBlock) (hat : mv'.ownBlock = mv.ownBlock ∨ mv'.ownBlock = some w1.heap.size) :
    MoI N B ov nv mv' O X (M ++ [y]) V w3 := by
  obtain ⟨_, k2, k3⟩ := grown_keep h.more hb hg
  have hbs := hb.size
  have hB := h.hB
  refine ⟨own_keep h.own (fun g hgo => k2 g (World.ownsRow.lt h.own g hgo).2 (fun e => h.ap g hgo e)), by rw [List.length_append, List.length_singleton, List.map_append]; exact ho, h.nxt.keepB k3.size (fun b hb hl => k2 b hl (fun e => by have := (World.ownsRow.lt h.more b e).1; omega)), fun g e hm => ?_, ⟨hB.1, Nat.le_trans hB.2 k3.size⟩, h.hV, ?_⟩
  · rcases hat with e9 | e9
    · exact h.ap g e (by rw [← e9]; exact hm)
    · rw [e9] at hm; injection hm with hm
      have := (World.ownsRow.lt h.own g e).2
      omega
  · exact h.bl.trans (k3.below h.bl.size (fun k e => by have := (World.ownsRow.lt h.more k e).1; rw [h.hV]; omega))
/-- The rows between levels. -/
structure OvI (N : Nat) (ov nv : Value) (O X : List ByteArray) (V wr : World) : Prop where
  own : wr.ownsRow (N + 1) 9 1 ov O.length (O.map .string)
  nxt : StrsAt (fun b => N < b ∧ ov.ownBlock ≠ some b) wr nv X
  hV : V.heap.size = N + 1
  bl : Below V.heap.size V wr
theorem StrsAt.low {P : Nat → Prop} {w : World} {v : Value} {l : List ByteArray} (h : StrsAt P w v l) : StrsAt (fun b => P b ∧ b < w.heap.size) w v l := by
  obtain ⟨A, c, e, q1, q2, q3⟩ := h
  exact ⟨A, c, e, q1, q2, q3.imp id (fun ⟨b, off, e, hp, hlt, r⟩ => ⟨b, off, e, ⟨hp, hlt⟩, hlt, r⟩)⟩
theorem OvI.begin {N : Nat} {ov nv : Value} {O X : List ByteArray} {V wr : World} (h : OvI N ov nv O X V wr) : MoI N wr.heap.size ov nv (.slice none 0 0) O X [] V wr :=
  ⟨h.own, World.ownsRow_nil _ _ _ _, h.nxt.low.mono (fun b hb => ⟨hb.1.1, hb.2, hb.1.2⟩), fun g _ e => (by cases e), ⟨by have := h.bl.size; rw [h.hV] at this; omega, Nat.le_refl _⟩, h.hV, h.bl⟩
theorem MoI.turn {N B : Nat} {ov nv mv : Value} {O X M : List ByteArray} {V wr : World} (h : MoI N B ov nv mv O X M V wr) : OvI N ov mv O M V wr :=
  ⟨h.own, (OwnS.strs h.more).mono (fun b hb => ⟨by have := h.hB.1; omega, fun e => h.ap b e hb.2⟩), h.hV, h.bl⟩
/-- A class in a box of its own. -/
def BoxC (Q : Nat → Prop) (C : List Cls) (x : ByteArray) (B : Nat) (v : Value) (wr : World) : Prop :=
  ∃ cb n1 n2 n3 As cs A2 m2 c2, v = .pointer (some ⟨cb, 0, none⟩) ∧ B ≤ cb ∧ wr.heap[cb]? = some (.cells #[.string n1, .int .i64 n2, .string n3, .slice none 0 0, .slice As (supF C x).length cs, .slice A2 m2 c2] 59) ∧ StrsAt Q wr (.slice As (supF C x).length cs) (supF C x)
theorem BoxC.keep {Q : Nat → Prop} {C : List Cls} {x : ByteArray} {B : Nat} {v : Value} {wr w' : World} (h : BoxC Q C x B v wr) (hs : wr.heap.size ≤ w'.heap.size) (h1 : ∀ (k : Nat) (cs : Array Value) (t : TypeId), wr.heap[k]? = some (Obj.cells cs t) → t ≠ 9 → w'.heap[k]? = wr.heap[k]?) (h2 : ∀ b, Q b → b < wr.heap.size → w'.heap[b]? = wr.heap[b]?) : BoxC Q C x B v w' := by
  obtain ⟨cb, n1, n2, n3, As, cs, A2, m2, c2, e, hB, hx, hst⟩ := h
  exact ⟨cb, n1, n2, n3, As, cs, A2, m2, c2, e, hB, (h1 cb _ _ hx (by decide)).trans hx, hst.keepB hs h2⟩
theorem BoxC.on {Q : Nat → Prop} {C : List Cls} {x : ByteArray} {B : Nat} {v : Value} {wr w' : World} (h : BoxC Q C x B v wr) (hb : Below wr.heap.size wr w') : BoxC Q C x B v w' :=
  h.keep hb.size (fun k _ _ hk _ => hb.block k (lt_of_block hk)) (fun b _ hl => hb.block b hl)
end Go.Proofs.Ytjfhncbfbhkhgaa
namespace Go.Proofs.Ytjfhncbfbhkhgaa
open Go.RowKit
def OvrRes (C : List Cls) (a : ByteArray) (w : World) (e : Ending) (w' : World) : Prop := (∃ v, e = .returned v ∧ StrsAt (fun b => b < w'.heap.size) w' v (overC C a)) ∧ Below w.heap.size w w'
theorem new_one (w : World) (x : ByteArray) : StrsAt (fun b => w.heap.size ≤ b) (w.alloc (.cells #[.string x] 9)) (.slice (some ⟨w.heap.size, 0, none⟩) 1 1) [x] :=
  ⟨_, 1, rfl, Nat.le_refl _, by decide, .inr ⟨_, 0, rfl, Nat.le_refl _, by simp, fun i hi => by
    have h0 : i = 0 := by simp at hi; omega
    subst h0; simp⟩⟩
theorem box_set {Q : Nat → Prop} {C : List Cls} {x : ByteArray} {B g : Nat} {wr w2 : World} {x0 x1 x2 x3 x4 x5 : Value} (hz : w2.heap[g]? = some (.cells #[x0, x1, x2, x3, x4, x5] 59)) (hg : B ≤ g) (hBr : B = wr.heap.size) (hb : Below B wr w2) {As A2 : Option Addr} {cs m2 c2 : Nat} (hst : StrsAt Q w2 (.slice As (supF C x).length cs) (supF C x)) (hq : ∀ b, Q b → b < B) (n1 n3 : ByteArray) (n2 : Int) :
    BoxC Q C x B (.pointer (some ⟨g, 0, none⟩)) (set6 w2 g (.string n1) (.int .i64 n2) (.string n3) (.slice none 0 0) (.slice As (supF C x).length cs) (.slice A2 m2 c2)) ∧ Below B wr (set6 w2 g (.string n1) (.int .i64 n2) (.string n3) (.slice none 0 0) (.slice As (supF C x).length cs) (.slice A2 m2 c2)) := by
  have hf := set6_fr w2 g (.string n1) (.int .i64 n2) (.string n3) (.slice none 0 0) (.slice As (supF C x).length cs) (.slice A2 m2 c2)
  refine ⟨⟨g, n1, n2, n3, As, cs, A2, m2, c2, rfl, hg, set6_heap hz _ _ _ _ _ _, hst.keepB hf.size (fun b hb9 hl => hf.block b hl (fun e => by have := hq b hb9; omega))⟩, hb.trans (hf.below (by have := hb.size; omega) (fun k e => by omega))⟩
theorem box_new {Q : Nat → Prop} {C : List Cls} {x : ByteArray} {B : Nat} {wr w2 : World} (hBr : B = wr.heap.size) (hb : Below B wr w2) {As A2 : Option Addr} {cs m2 c2 : Nat} (hst : StrsAt Q w2 (.slice As (supF C x).length cs) (supF C x)) (n1 n3 : ByteArray) (n2 : Int) :
    BoxC Q C x B (.pointer (some ⟨w2.heap.size, 0, none⟩)) (w2.alloc (.cells #[.string n1, .int .i64 n2, .string n3, .slice none 0 0, .slice As (supF C x).length cs, .slice A2 m2 c2] 59)) ∧ Below B wr (w2.alloc (.cells #[.string n1, .int .i64 n2, .string n3, .slice none 0 0, .slice As (supF C x).length cs, .slice A2 m2 c2] 59)) :=
  ⟨⟨w2.heap.size, n1, n2, n3, As, cs, A2, m2, c2, rfl, by have := hb.size; omega, by rw [alloc_get, if_pos rfl], hst.on (below_new w2 _)⟩, hb.trans ((below_new w2 _).mono (by have := hb.size; omega))⟩
theorem below_chain {B g : Nat} {wr w2 : World} (hg : B ≤ g) (hBr : B = wr.heap.size) (hb : Below B wr w2) (a b c d e f : Value) : Below B wr ((((((w2.setCell ⟨g, 0, none⟩ a).setCell ⟨g, 1, none⟩ b).setCell ⟨g, 2, none⟩ c).setCell ⟨g, 3, none⟩ d).setCell ⟨g, 4, none⟩ e).setCell ⟨g, 5, none⟩ f) :=
  hb.trans ((set6_fr w2 g a b c d e f).below (by have := hb.size; omega) (fun k e => by omega))
theorem below_al {B : Nat} {wr w2 : World} (hBr : B = wr.heap.size) (hb : Below B wr w2) (o : Obj) : Below B wr (w2.alloc o) := hb.trans ((below_new w2 o).mono (by have := hb.size; omega))
theorem BoxC.cellAt {Q : Nat → Prop} {C : List Cls} {x : ByteArray} {B cb : Nat} {w : World} (h : BoxC Q C x B (.pointer (some ⟨cb, 0, none⟩)) w) {k : Nat} {y : ByteArray} (hy : (supF C x)[k]? = some y) : ∃ b off c, w.cell? ⟨cb, 4, none⟩ = some (.slice (some ⟨b, off, none⟩) (supF C x).length c) ∧ w.cell? ⟨b, off + k, none⟩ = some (.string y) ∧ b < w.heap.size ∧ cb < w.heap.size := by
  obtain ⟨cb', n1', n2', n3', As', cs', A2', m2', c2', ecb, hcb, hcx, hsv⟩ := h
  injection ecb with ecb; injection ecb with ecb; injection ecb with ecb _ _
  subst ecb
  obtain ⟨hk, e9⟩ := List.getElem?_eq_some_iff.1 hy
  obtain ⟨b, off, rfl, hl, hc⟩ := hsv.at k hk
  rw [e9] at hc
  exact ⟨b, off, cs', by simp [World.cell?, hcx], hc, hl, lt_of_block hcx⟩
theorem BoxC.len4 {Q : Nat → Prop} {C : List Cls} {x : ByteArray} {B cb : Nat} {w : World} (h : BoxC Q C x B (.pointer (some ⟨cb, 0, none⟩)) w) : ∃ A c, w.cell? ⟨cb, 4, none⟩ = some (.slice A (supF C x).length c) := by
  obtain ⟨cb', n1', n2', n3', As', cs', A2', m2', c2', ecb, hcb, hcx, hsv⟩ := h
  injection ecb with ecb; injection ecb with ecb; injection ecb with ecb _ _
  subst ecb
  exact ⟨_, _, by simp [World.cell?, hcx]; exact ⟨rfl, rfl⟩⟩
set_option maxRecDepth 100000 in
set_option maxHeartbeats 4000000 in
theorem over_any {Q : Nat → Prop} {C : List Cls} (hC : OkC C) {Ac Ai : Option Addr} {cc ni ci : Nat} {a : ByteArray} {w : World} (hcl : ClassesAt Q w (.slice Ac C.length cc) C) (hQ : ∀ b, Q b → b < w.heap.size) :
    Calls Try.prog 57 #[.agg #[.slice none 0 0, .slice Ac C.length cc, .slice Ai ni ci, .slice none 0 0], .string a] w (OvrRes C a w) := by
  have hCl : C.length ≤ 1048576 := by have := hC.len; unfold univ at this; simp at this; omega
  obtain ⟨V, eV⟩ : ∃ V, w.alloc (.cells #[.slice none 0 0, .slice Ac C.length cc, .slice Ai ni ci, .slice none 0 0] 28) = V := ⟨_, rfl⟩
  have hbV : Below w.heap.size w V := by rw [← eV]; exact below_new w _
  have hx0 : V.heap[w.heap.size]? = some (.cells #[.slice none 0 0, .slice Ac C.length cc, .slice Ai ni ci, .slice none 0 0] 28) := by rw [← eV, alloc_get, if_pos rfl]
  have hVs : V.heap.size = w.heap.size + 1 := by rw [← eV]; simp
  have hov : OvI w.heap.size (.slice none 0 0) (.slice (some ⟨V.heap.size, 0, none⟩) 1 1) [] [a] V (V.alloc (.cells #[.string a] 9)) := ⟨World.ownsRow_nil _ _ _ _, (new_one V a).mono (fun b hb => ⟨by omega, fun e => by cases e⟩), hVs, below_new V _⟩
  have HX0 := Lib.hid hx0
  have HCV := Lib.hid (hcl.keep (w' := V) hbV.size (fun b _ hl => hbV.block b hl))
  have HQV : Hid (∀ b, Q b → b < V.heap.size) := Lib.hid (fun b hb => Nat.lt_of_lt_of_le (hQ b hb) hbV.size)
  have HBV := Lib.hid hbV
  have HOV := Lib.hid hov
  have HEV := Lib.hid eV
  have HC := Lib.hid hC
  obtain ⟨N, hN⟩ : ∃ N, w.heap.size = N := ⟨_, rfl⟩
  have HN := Lib.hid hN
  clear eV hbV hx0 hcl hQ hC hVs hov hN
  go_enter Try.func57, Try.ntmps57
  go_upto_region 1 with (fail)
  rw [HEV.out]
  clear HEV
  go_wp2_with fail
  rw [HN.out]
  rw [HN.out] at HOV HX0
  go_loopw [5, 6, 7] (fun ov nv v wr => ∃ (n : Nat) (O X : List ByteArray), v = .int .i64 n ∧ n ≤ C.length + 1 ∧ overC C a = overN (supF C) (hasF C) (C.length + 1 - n) O X ∧ OvI N ov nv O X V wr ∧ OvG C (O, []) ∧ X.length ≤ 1048576) (fun _ _ v _ => C.length + 1 - (intOf v).toNat)
  case atStart => exact ⟨0, [], [a], rfl, Nat.zero_le _, rfl, HOV.out, ⟨List.nodup_nil, fun y h => (by cases h), ⟨[], rfl⟩⟩, by simp⟩
  case round =>
    obtain ⟨n, O, X, rfl, hn, hov, hI, hG, hXl⟩ := hrel
    have q1 : wr.cell? ⟨N, 1, none⟩ = some (.slice Ac C.length cc) := by
      have := (hI.bl.block _ (lt_of_block HX0.out)).trans HX0.out
      simp [World.cell?, this]
    obtain ⟨Ax, cx, rfl, _, _⟩ := hI.nxt.form
    obtain ⟨Ao, co, rfl, _, _⟩ := own_form hI.own
    have HI := Lib.hid hI
    have HG := Lib.hid hG
    have HO := Lib.hid hov
    clear hov hI hG
    by_cases hnl : n ≤ C.length
    · have hni : (n : Int) ≤ (C.length : Int) := by omega
      have HO2 : Hid (overC C a = overN (supF C) (hasF C) (C.length + 1 - (n + 1)) (levelO (supF C) (hasF C) O X).1 (levelO (supF C) (hasF C) O X).2) := Lib.hid (by
        rw [HO.out, show C.length + 1 - n = (C.length + 1 - (n + 1)) + 1 by omega]; rfl)
      obtain ⟨B0, hB0⟩ : ∃ B0, wr.heap.size = B0 := ⟨_, rfl⟩
      have hM0 := HI.out.begin
      rw [hB0] at hM0
      have HM0 := Lib.hid hM0
      clear hM0 hB0 HI
      go_wp2_with fail
      go_loopw [5, 8, 9] (fun ov mv v wr => ∃ (i : Nat) (s : List ByteArray × List ByteArray), v = .int .i64 i ∧ i ≤ X.length ∧ s = (X.take i).foldl (stepO (supF C) (hasF C)) (O, []) ∧ MoI N B0 ov (.slice Ax X.length cx) mv s.1 X s.2 V wr ∧ OvG C s) (fun _ _ v _ => X.length - (intOf v).toNat)
      case atStart => exact ⟨0, (O, []), rfl, Nat.zero_le _, rfl, HM0.out, HG.out⟩
      case round =>
        obtain ⟨i, s, rfl, hi, hs, hM, hG⟩ := hrel
        obtain ⟨A5, c5, rfl, _, _⟩ := own_form hM.own
        obtain ⟨A8, c8, rfl, _, _⟩ := own_form hM.more
        have HM := Lib.hid hM
        have HG1 := Lib.hid hG
        have HS := Lib.hid hs
        have hbx := (hM.bl.block _ (lt_of_block HX0.out)).trans HX0.out
        have HBX := Lib.hid hbx
        by_cases hil : i < X.length
        · have hii : (i : Int) < (X.length : Int) := by omega
          have hi0 : (0 : Int) ≤ (i : Int) := by omega
          obtain ⟨x, hx⟩ : ∃ x, X[i]? = some x := ⟨_, List.getElem?_eq_getElem hil⟩
          obtain ⟨b9, o9, e9, hl9, hc9⟩ := hM.nxt.at i hil
          have hc9' : wr.cell? ⟨b9, o9 + i, none⟩ = some (.string x) := by
            obtain ⟨h, e⟩ := List.getElem?_eq_some_iff.1 hx
            rw [← e]; exact hc9
          obtain ⟨p0, p1, p2, p3⟩ : wr.cell? ⟨N, 0, none⟩ = some (.slice none 0 0) ∧ wr.cell? ⟨N, 1, none⟩ = some (.slice Ac C.length cc) ∧ wr.cell? ⟨N, 2, none⟩ = some (.slice Ai ni ci) ∧ wr.cell? ⟨N, 3, none⟩ = some (.slice none 0 0) := by simp [World.cell?, hbx]
          have HRC : Hid (∀ y, Below wr.heap.size wr y → Calls Try.prog 24 #[.agg #[.slice none 0 0, .slice Ac C.length cc, .slice Ai ni ci, .slice none 0 0], .string x] y (RClassRes Q C x y)) := Lib.hid (fun y hy => by
            have hb : Below V.heap.size V y := HM.out.bl.trans (hy.mono HM.out.bl.size)
            exact rclass_any (HCV.out.keep hb.size (fun b _ hl => hb.block b hl)) ⟨_, _, _, rfl⟩ (fun b h => Nat.lt_of_lt_of_le (HQV.out b h) hb.size) x)
          have HX := Lib.hid hx
          have HQL : Hid (∀ b, Q b → b < wr.heap.size) := Lib.hid (fun b h => Nat.lt_of_lt_of_le (HQV.out b h) HM.out.bl.size)
          subst e9
          clear hM hG hs hbx hx hc9
          go_upto_region 10 with (fail)
          go_cut [10] (fun v wx => BoxC Q C x wr.heap.size v wx ∧ Below wr.heap.size wr wx)
          case first =>
            have e1 : Below wr.heap.size wr wr.drew := (Below.refl _ _).drew
            have e2 : Below wr.heap.size wr (wr.alloc (.cells #[.string ⟨#[]⟩, .int .i64 0, .string ⟨#[]⟩, .slice none 0 0, .slice none 0 0, .slice none 0 0] 59)).drew := (below_new wr _).drew
            have zz : (wr.alloc (.cells #[.string ⟨#[]⟩, .int .i64 0, .string ⟨#[]⟩, .slice none 0 0, .slice none 0 0, .slice none 0 0] 59)).drew.heap[wr.heap.size]? = some (.cells #[.string ⟨#[]⟩, .int .i64 0, .string ⟨#[]⟩, .slice none 0 0, .slice none 0 0, .slice none 0 0] 59) := by
              show (wr.alloc _).heap[wr.heap.size]? = _
              rw [alloc_get, if_pos rfl]
            have EE2 := Lib.hid e2
            have ZZ := Lib.hid zz
            clear e2 zz
            have hNr : N < wr.heap.size := lt_of_block HBX.out
            have u0 : (wr.alloc (.cells #[.string ⟨#[]⟩, .int .i64 0, .string ⟨#[]⟩, .slice none 0 0, .slice none 0 0, .slice none 0 0] 59)).cell? ⟨N, 0, none⟩ = some (.slice none 0 0) := ((below_new wr _).cell (p := ⟨N, 0, none⟩) hNr).trans p0
            have u1 : (wr.alloc (.cells #[.string ⟨#[]⟩, .int .i64 0, .string ⟨#[]⟩, .slice none 0 0, .slice none 0 0, .slice none 0 0] 59)).cell? ⟨N, 1, none⟩ = some (.slice Ac C.length cc) := ((below_new wr _).cell (p := ⟨N, 1, none⟩) hNr).trans p1
            have u2 : (wr.alloc (.cells #[.string ⟨#[]⟩, .int .i64 0, .string ⟨#[]⟩, .slice none 0 0, .slice none 0 0, .slice none 0 0] 59)).cell? ⟨N, 2, none⟩ = some (.slice Ai ni ci) := ((below_new wr _).cell (p := ⟨N, 2, none⟩) hNr).trans p2
            have u3 : (wr.alloc (.cells #[.string ⟨#[]⟩, .int .i64 0, .string ⟨#[]⟩, .slice none 0 0, .slice none 0 0, .slice none 0 0] 59)).cell? ⟨N, 3, none⟩ = some (.slice none 0 0) := ((below_new wr _).cell (p := ⟨N, 3, none⟩) hNr).trans p3
            have u4 : (wr.alloc (.cells #[.string ⟨#[]⟩, .int .i64 0, .string ⟨#[]⟩, .slice none 0 0, .slice none 0 0, .slice none 0 0] 59)).cell? ⟨b9, o9 + i, none⟩ = some (.string x) := ((below_new wr _).cell (p := ⟨b9, o9 + i, none⟩) hl9).trans hc9'
            go_region_law (go_simp; go_at_call 24; (first
              | ((with_reducible refine (HRC.out _ EE2.out).mono ?_); rintro e w2 hrc; obtain ⟨hb2, n1, n2, n3, S, As, cs, A2, m2, c2, q, rfl, rfl, hq, hsv⟩ := rclass_form hrc; have hzz := (hb2.block _ (lt_of_block ZZ.out)).trans ZZ.out; have ff : ∀ j, w2.frozen? ⟨wr.heap.size, j, none⟩ = false := (fun j => by simp [World.frozen?, hzz]); obtain ⟨k0, k1, k2, k3, k4, k5⟩ : w2.cell? ⟨wr.heap.size, 0, none⟩ = some (.string ⟨#[]⟩) ∧ w2.cell? ⟨wr.heap.size, 1, none⟩ = some (.int .i64 0) ∧ w2.cell? ⟨wr.heap.size, 2, none⟩ = some (.string ⟨#[]⟩) ∧ w2.cell? ⟨wr.heap.size, 3, none⟩ = some (.slice none 0 0) ∧ w2.cell? ⟨wr.heap.size, 4, none⟩ = some (.slice none 0 0) ∧ w2.cell? ⟨wr.heap.size, 5, none⟩ = some (.slice none 0 0) := (by simp [World.cell?, hzz]); have HZ2 := Lib.hid hzz; have HB2 := Lib.hid (EE2.out.trans (hb2.mono EE2.out.size)); have HSV := Lib.hid hsv; clear hrc hzz hb2 hsv hq)
              | ((with_reducible refine (HRC.out wr.drew e1).mono ?_); rintro e w2 hrc; obtain ⟨hb2, n1, n2, n3, S, As, cs, A2, m2, c2, q, rfl, rfl, hq, hsv⟩ := rclass_form hrc; have HB2 := Lib.hid (e1.trans hb2); have HSV := Lib.hid hsv; clear hrc hb2 hsv hq)))
            all_goals
              go_wp2_with fail
              go_meet
              first
                | exact box_set HZ2.out (Nat.le_refl _) rfl HB2.out HSV.out HQL.out n1 n3 n2
                | exact box_new rfl HB2.out HSV.out n1 n3 n2
          case rest =>
            obtain ⟨hbc, hbw⟩ := hcut
            obtain ⟨W1, rfl⟩ : ∃ y, y = wc := ⟨_, rfl⟩
            obtain ⟨cb, n1, n2, n3, As, cs, A2, m2, c2, hu10, hcb, hcx, hsv⟩ := id hbc
            subst hu10
            have hSl : (supF C x).length ≤ 1048576 := supF_len HC.out x
            have c4 : W1.cell? ⟨cb, 4, none⟩ = some (.slice As (supF C x).length cs) := by simp [World.cell?, hcx]
            have HBC : Hid (BoxC Q C x wr.heap.size (.pointer (some ⟨cb, 0, none⟩)) W1) := Lib.hid hbc
            have HM1 := Lib.hid (HM.out.on hbw)
            have HSN : Hid ((X.take (i + 1)).foldl (stepO (supF C) (hasF C)) (O, []) = (supF C x).foldl (oneO (hasF C)) s) := Lib.hid (by rw [fold_take _ _ HX.out, ← HS.out]; rfl)
            clear hbc hbw hcx hsv hcb HRC p0 p1 p2 p3 hc9' q1 HM HX HBX
            generalize hSS : supF C x = SS at *
            go_wp2_with fail
            go_loopw [5, 8, 12] (fun ov mv v wr2 => ∃ (k : Nat) (t : List ByteArray × List ByteArray), v = .int .i64 k ∧ k ≤ SS.length ∧ t = (SS.take k).foldl (oneO (hasF C)) s ∧ MoI N B0 ov (.slice (some ⟨b9, o9, none⟩) X.length cx) mv t.1 X t.2 V wr2 ∧ OvG C t ∧ BoxC Q C x wr.heap.size (.pointer (some ⟨cb, 0, none⟩)) wr2) (fun _ _ v _ => SS.length - (intOf v).toNat)
            case atStart => exact ⟨0, s, rfl, Nat.zero_le _, rfl, HM1.out, HG1.out, HBC.out⟩
            case round =>
              obtain ⟨k, t, rfl, hk, ht, hM, hG, hbc⟩ := hrel
              obtain ⟨ws, rfl⟩ : ∃ y, y = wr := ⟨_, rfl⟩
              obtain ⟨A5, c5, rfl, _, _⟩ := own_form hM.own
              obtain ⟨A8, c8, rfl, _, _⟩ := own_form hM.more
              have HM2 := Lib.hid hM
              have HG2 := Lib.hid hG
              have HT2 := Lib.hid ht
              have HBC2 := Lib.hid hbc
              have hbx := (hM.bl.block _ (lt_of_block HX0.out)).trans HX0.out
              by_cases hkl : k < SS.length
              · obtain ⟨y, hy⟩ : ∃ y, SS[k]? = some y := ⟨_, List.getElem?_eq_getElem hkl⟩
                obtain ⟨b8, o8, c8', d4, dy, hb8, hcb8⟩ := hbc.cellAt (k := k) (y := y) (by rw [hSS]; exact hy)
                rw [hSS] at d4
                have hki : (k : Int) < (SS.length : Int) := by omega
                have hk0 : (0 : Int) ≤ (k : Int) := by omega
                obtain ⟨p0, p1, p2, p3⟩ : ws.cell? ⟨N, 0, none⟩ = some (.slice none 0 0) ∧ ws.cell? ⟨N, 1, none⟩ = some (.slice Ac C.length cc) ∧ ws.cell? ⟨N, 2, none⟩ = some (.slice Ai ni ci) ∧ ws.cell? ⟨N, 3, none⟩ = some (.slice none 0 0) := by simp [World.cell?, hbx]
                have hNr : N < ws.heap.size := lt_of_block hbx
                have HRC : Hid (∀ z, Below ws.heap.size ws z → Calls Try.prog 24 #[.agg #[.slice none 0 0, .slice Ac C.length cc, .slice Ai ni ci, .slice none 0 0], .string y] z (RClassRes Q C y z)) := Lib.hid (fun z hz => by
                  have hb : Below V.heap.size V z := HM2.out.bl.trans (hz.mono HM2.out.bl.size)
                  exact rclass_any (HCV.out.keep hb.size (fun b _ hl => hb.block b hl)) ⟨_, _, _, rfl⟩ (fun b h => Nat.lt_of_lt_of_le (HQV.out b h) hb.size) y)
                have HY := Lib.hid hy
                clear hM hG ht hbc hbx hy c4
                go_upto_region 14 with (fail)
                go_cut [14] (fun v wx => v = .bool (hasF C y) ∧ Below ws.heap.size ws wx)
                case first =>
                  have e1 : Below ws.heap.size ws ws.drew := (Below.refl _ _).drew
                  have e2 : Below ws.heap.size ws (ws.alloc (.cells #[.string ⟨#[]⟩, .int .i64 0, .string ⟨#[]⟩, .slice none 0 0, .slice none 0 0, .slice none 0 0] 59)).drew := (below_new ws _).drew
                  have zz : (ws.alloc (.cells #[.string ⟨#[]⟩, .int .i64 0, .string ⟨#[]⟩, .slice none 0 0, .slice none 0 0, .slice none 0 0] 59)).drew.heap[ws.heap.size]? = some (.cells #[.string ⟨#[]⟩, .int .i64 0, .string ⟨#[]⟩, .slice none 0 0, .slice none 0 0, .slice none 0 0] 59) := by
                    show (ws.alloc _).heap[ws.heap.size]? = _
                    rw [alloc_get, if_pos rfl]
                  have EE2 := Lib.hid e2
                  have ZZ := Lib.hid zz
                  clear e2 zz
                  have u0 : (ws.alloc (.cells #[.string ⟨#[]⟩, .int .i64 0, .string ⟨#[]⟩, .slice none 0 0, .slice none 0 0, .slice none 0 0] 59)).cell? ⟨N, 0, none⟩ = some (.slice none 0 0) := ((below_new ws _).cell (p := ⟨N, 0, none⟩) hNr).trans p0
                  have u1 : (ws.alloc (.cells #[.string ⟨#[]⟩, .int .i64 0, .string ⟨#[]⟩, .slice none 0 0, .slice none 0 0, .slice none 0 0] 59)).cell? ⟨N, 1, none⟩ = some (.slice Ac C.length cc) := ((below_new ws _).cell (p := ⟨N, 1, none⟩) hNr).trans p1
                  have u2 : (ws.alloc (.cells #[.string ⟨#[]⟩, .int .i64 0, .string ⟨#[]⟩, .slice none 0 0, .slice none 0 0, .slice none 0 0] 59)).cell? ⟨N, 2, none⟩ = some (.slice Ai ni ci) := ((below_new ws _).cell (p := ⟨N, 2, none⟩) hNr).trans p2
                  have u3 : (ws.alloc (.cells #[.string ⟨#[]⟩, .int .i64 0, .string ⟨#[]⟩, .slice none 0 0, .slice none 0 0, .slice none 0 0] 59)).cell? ⟨N, 3, none⟩ = some (.slice none 0 0) := ((below_new ws _).cell (p := ⟨N, 3, none⟩) hNr).trans p3
                  have u4 : (ws.alloc (.cells #[.string ⟨#[]⟩, .int .i64 0, .string ⟨#[]⟩, .slice none 0 0, .slice none 0 0, .slice none 0 0] 59)).cell? ⟨cb, 4, none⟩ = some (.slice (some ⟨b8, o8, none⟩) SS.length c8') := ((below_new ws _).cell (p := ⟨cb, 4, none⟩) hcb8).trans d4
                  have u5 : (ws.alloc (.cells #[.string ⟨#[]⟩, .int .i64 0, .string ⟨#[]⟩, .slice none 0 0, .slice none 0 0, .slice none 0 0] 59)).cell? ⟨b8, o8 + k, none⟩ = some (.string y) := ((below_new ws _).cell (p := ⟨b8, o8 + k, none⟩) hb8).trans dy
                  go_region_law (go_simp; go_at_call 24; (first
                    | ((with_reducible refine (HRC.out _ EE2.out).mono ?_); rintro e w2 hrc; obtain ⟨hb2, m1, m2', m3, S', Ar, cr, A2', m3', c2', q, rfl, hS', hq, hsv⟩ := rclass_form hrc; subst hq; have hzz := (hb2.block _ (lt_of_block ZZ.out)).trans ZZ.out; have ff : ∀ j, w2.frozen? ⟨ws.heap.size, j, none⟩ = false := (fun j => by simp [World.frozen?, hzz]); obtain ⟨k0, k1, k2, k3, k4, k5⟩ : w2.cell? ⟨ws.heap.size, 0, none⟩ = some (.string ⟨#[]⟩) ∧ w2.cell? ⟨ws.heap.size, 1, none⟩ = some (.int .i64 0) ∧ w2.cell? ⟨ws.heap.size, 2, none⟩ = some (.string ⟨#[]⟩) ∧ w2.cell? ⟨ws.heap.size, 3, none⟩ = some (.slice none 0 0) ∧ w2.cell? ⟨ws.heap.size, 4, none⟩ = some (.slice none 0 0) ∧ w2.cell? ⟨ws.heap.size, 5, none⟩ = some (.slice none 0 0) := (by simp [World.cell?, hzz]); have HB2 := Lib.hid (EE2.out.trans (hb2.mono EE2.out.size)); clear hrc hzz hb2 hsv hS')
                    | ((with_reducible refine (HRC.out ws.drew e1).mono ?_); rintro e w2 hrc; obtain ⟨hb2, m1, m2', m3, S', Ar, cr, A2', m3', c2', q, rfl, hS', hq, hsv⟩ := rclass_form hrc; subst hq; have HB2 := Lib.hid (e1.trans hb2); clear hrc hb2 hsv hS')))
                  all_goals
                    go_wp2_with fail
                    go_meet
                    refine ⟨rfl, ?_⟩
                    first
                      | with_reducible exact below_chain (Nat.le_refl _) rfl HB2.out _ _ _ _ _ _
                      | with_reducible exact below_al rfl HB2.out _
                case rest =>
                  obtain ⟨hu14, hbw⟩ := hcut
                  obtain ⟨W2, rfl⟩ : ∃ z, z = wc := ⟨_, rfl⟩
                  subst hu14
                  have f4 : W2.cell? ⟨cb, 4, none⟩ = some (.slice (some ⟨b8, o8, none⟩) SS.length c8') := (hbw.cell (p := ⟨cb, 4, none⟩) hcb8).trans d4
                  have fy : W2.cell? ⟨b8, o8 + k, none⟩ = some (.string y) := (hbw.cell (p := ⟨b8, o8 + k, none⟩) hb8).trans dy
                  have HM3 := Lib.hid (HM2.out.on hbw)
                  have HBC3 := Lib.hid (HBC2.out.on hbw)
                  have HIN := Lib.hid (in29_any (OwnS.strs HM3.out.own) y)
                  have hcbW := Nat.lt_of_lt_of_le hcb8 hbw.size
                  have hb8W := Nat.lt_of_lt_of_le hb8 hbw.size
                  clear hbw d4 dy p0 p1 p2 p3 HRC HM2 HBC2
                  go_wp2_with fail
                  with_reducible refine HIN.out.mono ?_
                  rintro e W3 ⟨rfl, hb3⟩
                  have g4 : W3.cell? ⟨cb, 4, none⟩ = some (.slice (some ⟨b8, o8, none⟩) SS.length c8') := (hb3.cell (p := ⟨cb, 4, none⟩) hcbW).trans f4
                  have gy : W3.cell? ⟨b8, o8 + k, none⟩ = some (.string y) := (hb3.cell (p := ⟨b8, o8 + k, none⟩) hb8W).trans fy
                  have HM4 := Lib.hid (HM3.out.on hb3)
                  have HBC4 := Lib.hid (HBC3.out.on hb3)
                  have HGN := Lib.hid (HG2.out.one y)
                  have HSTEP : Hid ((SS.take (k + 1)).foldl (oneO (hasF C)) s = oneO (hasF C) t y) := Lib.hid (by rw [fold_take _ _ HY.out, ← HT2.out])
                  clear hb3 f4 fy HIN HM3 HBC3
                  by_cases hone : hasF C y = true ∧ y ∉ t.1
                  · obtain ⟨hc1, hc2⟩ := hone
                    have hd : decide (y ∈ t.1) = false := decide_eq_false hc2
                    have HON : Hid (oneO (hasF C) t y = (t.1 ++ [y], t.2 ++ [y])) := Lib.hid (by unfold oneO; rw [if_pos ⟨hc1, hc2⟩])
                    have hlen := HG2.out.len HC.out
                    obtain ⟨i9, hi9, hz9, hs9, hb9⟩ := info_parts Try.info9
                    have HQ4 : Hid (∀ b, Q b → b < N + 1) := Lib.hid (fun b h => by have := HQV.out b h; rw [HM4.out.hV] at this; exact this)
                    have HOW : Hid ((W3.alloc (.cells #[.string y] 9)).ownsRow (N + 1) 9 1 (.slice A5 t.1.length c5) t.1.length (t.1.map Value.string)) := Lib.hid (World.ownsRow.alloc HM4.out.own _)
                    have HNW := Lib.hid (one_new W3 (.string y) 9)
                    have H63 : Hid (t.1.length + 1 ≤ maxLen) := Lib.hid (by unfold maxLen; omega)
                    have HBY : Hid ((t.1.length + 1) * 16 ≤ 140737488355328) := Lib.hid (by omega)
                    have HBASE : Hid (N + 1 ≤ (W3.alloc (.cells #[.string y] 9)).heap.size) := Lib.hid (by have := HM4.out.hB; simp; omega)
                    have HPP : Hid (∀ v' w9, w9.ownsRow (N + 1) 9 1 v' (t.1.length + 1) (t.1.map Value.string ++ [.string y]) → (W3.alloc (.cells #[.string y] 9)).grownBy w9 (Value.slice A5 t.1.length c5).ownBlock → (v'.ownBlock = (Value.slice A5 t.1.length c5).ownBlock ∨ v'.ownBlock = some (W3.alloc (.cells #[.string y] 9)).heap.size) →
                        MoI N B0 v' (.slice (some ⟨b9, o9, none⟩) X.length cx) (.slice A8 t.2.length c8) (t.1 ++ [y]) X t.2 V w9 ∧ BoxC Q C x wr.heap.size (.pointer (some ⟨cb, 0, none⟩)) w9) := Lib.hid (fun v' w9 h1 h2 h3 => by
                      obtain ⟨k1, k2, k3⟩ := grown_keep HM4.out.own (below_new W3 _) h2
                      exact ⟨HM4.out.out1 (below_new W3 _) h1 h2 h3, HBC4.out.keep k3.size k1 (fun b hb hl => k2 b hl (fun e => by have := (World.ownsRow.lt HM4.out.own b e).1; have := HQ4.out b hb; omega))⟩)
                    obtain ⟨tn, htn⟩ : ∃ tn, t.1.length = tn := ⟨_, rfl⟩
                    obtain ⟨tx, htx⟩ : ∃ tx, t.1.map Value.string = tx := ⟨_, rfl⟩
                    rw [htn, htx] at HOW HPP
                    rw [htn] at H63 HBY
                    simp only [hc1, hd, htn]
                    clear htn htx hc1 hc2 hd HG2
                    go_upto_region 18 with (at_builtin; refine wpList_append_own_at _ rfl (.tmp 69) (.tmp 75) 40 rfl (N + 1) 9 i9 (.string ⟨#[]⟩) 1 16 Try.underlying40 hi9 hz9 hs9 hb9 rfl (by decide) _ tn tx rfl HOW.out ⟨W3.heap.size, 0, none⟩ 1 1 [.string y] rfl rfl HNW.out (one_str y) H63.out HBY.out HBASE.out ?_; intro v' w9 hown2 hg2 _ hat2; have HP := Lib.hid (HPP.out v' w9 hown2 hg2 hat2); obtain ⟨A3, c3, rfl, _⟩ := own_form hown2; clear hown2 hat2 hg2)
                    obtain ⟨hM5, hbc5⟩ := HP.out
                    obtain ⟨b7, o7, c7', j4, jy, hb7, hcb7⟩ := hbc5.cellAt (k := k) (y := y) (by rw [hSS]; exact HY.out)
                    rw [hSS] at j4
                    have HM5 := Lib.hid hM5
                    have HBC5 := Lib.hid hbc5
                    have HOW2 : Hid ((w9.alloc (.cells #[.string y] 9)).ownsRow B0 9 1 (.slice A8 t.2.length c8) t.2.length (t.2.map Value.string)) := Lib.hid (World.ownsRow.alloc hM5.more _)
                    have HNW2 := Lib.hid (one_new w9 (.string y) 9)
                    have H632 : Hid (t.2.length + 1 ≤ maxLen) := Lib.hid (by unfold maxLen; omega)
                    have HBY2 : Hid ((t.2.length + 1) * 16 ≤ 140737488355328) := Lib.hid (by omega)
                    have HBASE2 : Hid (B0 ≤ (w9.alloc (.cells #[.string y] 9)).heap.size) := Lib.hid (by have := hM5.hB; simp; omega)
                    have HPP2 : Hid (∀ v' w8, w8.ownsRow B0 9 1 v' (t.2.length + 1) (t.2.map Value.string ++ [.string y]) → (w9.alloc (.cells #[.string y] 9)).grownBy w8 (Value.slice A8 t.2.length c8).ownBlock → (v'.ownBlock = (Value.slice A8 t.2.length c8).ownBlock ∨ v'.ownBlock = some (w9.alloc (.cells #[.string y] 9)).heap.size) →
                        MoI N B0 (.slice A3 (tn + 1) c3) (.slice (some ⟨b9, o9, none⟩) X.length cx) v' (oneO (hasF C) t y).1 X (oneO (hasF C) t y).2 V w8 ∧ BoxC Q C x wr.heap.size (.pointer (some ⟨cb, 0, none⟩)) w8) := Lib.hid (fun v' w8 h1 h2 h3 => by
                      obtain ⟨k1, k2, k3⟩ := grown_keep HM5.out.more (below_new w9 _) h2
                      rw [HON.out]
                      exact ⟨HM5.out.more1 (below_new w9 _) h1 h2 h3, HBC5.out.keep k3.size k1 (fun b hb hl => k2 b hl (fun e => by have := (World.ownsRow.lt HM5.out.more b e).1; have := HQ4.out b hb; have := HM5.out.hB; omega))⟩)
                    obtain ⟨un, hun⟩ : ∃ un, t.2.length = un := ⟨_, rfl⟩
                    obtain ⟨ux, hux⟩ : ∃ ux, t.2.map Value.string = ux := ⟨_, rfl⟩
                    rw [hun, hux] at HOW2 HPP2
                    rw [hun] at H632 HBY2
                    simp only [hun]
                    clear hun hux hM5 hbc5 HP HPP HOW HNW H63 HBY HBASE g4 gy hlen
                    go_wp2_with (at_builtin; refine wpList_append_own_at _ rfl (.tmp 77) (.tmp 83) 40 rfl B0 9 i9 (.string ⟨#[]⟩) 1 16 Try.underlying40 hi9 hz9 hs9 hb9 rfl (by decide) _ un ux rfl HOW2.out ⟨w9.heap.size, 0, none⟩ 1 1 [.string y] rfl rfl HNW2.out (one_str y) H632.out HBY2.out HBASE2.out ?_; intro v' w8 hown2 hg2 _ hat2; have HP := Lib.hid (HPP2.out v' w8 hown2 hg2 hat2); obtain ⟨A4, c4', rfl, _⟩ := own_form hown2; clear hown2 hat2 hg2)
                    go_roundw
                    case rel => exact ⟨k + 1, oneO (hasF C) t y, by go_num, by omega, HSTEP.out.symm, HP.out.1, HGN.out, HP.out.2⟩
                    case measure => simp [intOf]; omega
                  · have HON : Hid (oneO (hasF C) t y = t) := Lib.hid (by unfold oneO; rw [if_neg hone])
                    have hcond : (hasF C y = false) ∨ (hasF C y = true ∧ decide (y ∈ t.1) = true) := by
                      cases h : hasF C y with
                      | false => exact .inl rfl
                      | true => exact .inr ⟨rfl, decide_eq_true (Classical.byContradiction fun h9 => hone ⟨h, h9⟩)⟩
                    clear hone
                    rcases hcond with hc1 | ⟨hc1, hc2⟩
                    · simp only [hc1]
                      go_wp2_with fail
                      go_roundw
                      case rel => exact ⟨k + 1, t, by go_num, by omega, by rw [HSTEP.out, HON.out], HM4.out, HG2.out, HBC4.out⟩
                      case measure => simp [intOf]; omega
                    · simp only [hc1, hc2]
                      go_wp2_with fail
                      go_roundw
                      case rel => exact ⟨k + 1, t, by go_num, by omega, by rw [HSTEP.out, HON.out], HM4.out, HG2.out, HBC4.out⟩
                      case measure => simp [intOf]; omega
              · have hke : k = SS.length := by omega
                subst hke
                rw [List.take_length] at ht
                obtain ⟨A9, c9, d4⟩ := hbc.len4
                rw [hSS] at d4
                have HEND : Hid (t = (X.take (i + 1)).foldl (stepO (supF C) (hasF C)) (O, [])) := Lib.hid (by rw [HSN.out]; exact ht)
                have hkn : ¬ ((SS.length : Nat) : Int) < (SS.length : Int) := by omega
                clear hM hG ht hbc hbx c4 HBC HM1 HSN
                go_wp2_with fail
                go_roundw
                case rel => exact ⟨i + 1, t, by go_num, by omega, HEND.out, HM2.out, HG2.out⟩
                case measure => simp [intOf]; omega
        · have hie : i = X.length := by omega
          subst hie
          rw [List.take_length] at hs
          have hlv : s = levelO (supF C) (hasF C) O X := hs
          have HT : Hid (OvI N (.slice A5 s.1.length c5) (.slice A8 s.2.length c8) s.1 s.2 V wr) := Lib.hid hM.turn
          have HG2 : Hid (OvG C (s.1, [])) := Lib.hid ⟨hG.nd, hG.hs, ⟨s.1, by simp⟩⟩
          have HO3 : Hid (overC C a = overN (supF C) (hasF C) (C.length + 1 - (n + 1)) s.1 s.2) := Lib.hid (by rw [HO2.out, ← hlv])
          have HL := Lib.hid (hG.len HC.out).2
          have hin : ¬ ((X.length : Nat) : Int) < (X.length : Int) := by omega
          clear hM hG hs hbx hlv HO2 HM HG1 HS HBX
          go_wp2_with fail
          go_roundw
          case rel => exact ⟨n + 1, s.1, s.2, by go_num, by omega, HO3.out, HT.out, HG2.out, HL.out⟩
          case measure => simp [intOf]; omega
    · have hni : ¬ (n : Int) ≤ (C.length : Int) := by omega
      have HR : Hid (OvrRes C a w (.returned (.slice Ao O.length co)) wr) := Lib.hid (by
        refine ⟨⟨_, rfl, ?_⟩, ?_⟩
        · rw [HO.out, show C.length + 1 - n = 0 by omega]
          exact (OwnS.strs HI.out.own).mono (fun b hb => (World.ownsRow.lt HI.out.own b hb.2).2)
        · exact HBV.out.trans (HI.out.bl.mono HBV.out.size))
      clear HI HG HO
      go_wp2_with fail
      show bodyPost _ _ _ _ _ _
      go_ret
      exact HR.out
end Go.Proofs.Ytjfhncbfbhkhgaa
namespace Go.Proofs.Ytjfhncbfbhkhgaa
open Go.RowKit
theorem set2_heap {w : World} {g : Nat} {t : TypeId} {x0 x1 : Value} (h : w.heap[g]? = some (.cells #[x0, x1] t)) (a b : Value) : ((w.setCell ⟨g, 0, none⟩ a).setCell ⟨g, 1, none⟩ b).heap[g]? = some (.cells #[a, b] t) := by
  have h1 := heap_setCell_same w g 0 _ t a h
  have h2 := heap_setCell_same _ g 1 _ t b h1
  rw [h2]; rfl
theorem set2_fr (w : World) (g : Nat) (a b : Value) : Fr (fun k => k = g) w ((w.setCell ⟨g, 0, none⟩ a).setCell ⟨g, 1, none⟩ b) := ((Fr.refl (fun k => k = g) w).setCell (b := g) rfl _).setCell (b := g) rfl _
set_option maxRecDepth 100000 in
set_option maxHeartbeats 2000000 in
theorem less_any (s : Int × Int) (e a : Int) (he : e ≠ 0) (w : World) : Calls Try.prog 39 #[.agg #[.int .i64 s.1, .int .i64 s.2], .agg #[.int .i64 e, .int .i64 a]] w fun e' w' => e' = .returned (.agg #[.int .i64 (tellF s e a).1, .int .i64 (tellF s e a).2]) ∧ Below w.heap.size w w' := by
  obtain ⟨s1, s2⟩ := s
  obtain ⟨V, eV⟩ : ∃ V, ((w.alloc (.cells #[.int .i64 s1, .int .i64 s2] 34)).alloc (.cells #[.int .i64 e, .int .i64 a] 34)).alloc (.cells #[.int .i64 0, .int .i64 0] 34) = V := ⟨_, rfl⟩
  have hbV : Below w.heap.size w V := by rw [← eV]; exact ((below_new _ _).alloc (by simp) _).alloc (by simp; omega) _
  have v0 : V.heap[w.heap.size]? = some (.cells #[.int .i64 s1, .int .i64 s2] 34) := by rw [← eV, alloc_get, if_neg (by first | (simp; done) | (simp; omega)), alloc_get, if_neg (by first | (simp; done) | (simp; omega)), alloc_get, if_pos rfl]
  have v1 : V.heap[w.heap.size + 1]? = some (.cells #[.int .i64 e, .int .i64 a] 34) := by rw [← eV, alloc_get, if_neg (by first | (simp; done) | (simp; omega)), alloc_get, if_pos (by simp)]
  have v2 : V.heap[w.heap.size + 1 + 1]? = some (.cells #[.int .i64 0, .int .i64 0] 34) := by rw [← eV, alloc_get, if_pos (by simp)]
  obtain ⟨a0, a1⟩ : V.cell? ⟨w.heap.size, 0, none⟩ = some (.int .i64 s1) ∧ V.cell? ⟨w.heap.size, 1, none⟩ = some (.int .i64 s2) := by simp [World.cell?, v0]
  obtain ⟨b0, b1⟩ : V.cell? ⟨w.heap.size + 1, 0, none⟩ = some (.int .i64 e) ∧ V.cell? ⟨w.heap.size + 1, 1, none⟩ = some (.int .i64 a) := by simp [World.cell?, v1]
  obtain ⟨c0, c1⟩ : V.cell? ⟨w.heap.size + 1 + 1, 0, none⟩ = some (.int .i64 0) ∧ V.cell? ⟨w.heap.size + 1 + 1, 1, none⟩ = some (.int .i64 0) := by simp [World.cell?, v2]
  have f0 : ∀ j, V.frozen? ⟨w.heap.size + 1 + 1, j, none⟩ = false := fun j => by simp [World.frozen?, v2]
  have HV2 := Lib.hid v2
  have HBV := Lib.hid hbV
  have HFIN : Hid (∀ x y : Int, ((V.setCell ⟨w.heap.size + 1 + 1, 0, none⟩ (.int .i64 x)).setCell ⟨w.heap.size + 1 + 1, 1, none⟩ (.int .i64 y)).heap[w.heap.size + 1 + 1]? = some (.cells #[.int .i64 x, .int .i64 y] 34) ∧ Below w.heap.size w ((V.setCell ⟨w.heap.size + 1 + 1, 0, none⟩ (.int .i64 x)).setCell ⟨w.heap.size + 1 + 1, 1, none⟩ (.int .i64 y))) := Lib.hid (fun x y =>
    ⟨set2_heap HV2.out _ _, HBV.out.trans ((set2_fr V _ _ _).below HBV.out.size (fun k hk => by omega))⟩)
  have he1 : (e != 0) = true := by simpa using he
  have he2 : (e == 0) = false := by simpa using he
  have HEV := Lib.hid eV
  clear eV hbV v0 v1 v2
  by_cases hs : s1 = 0
  · have hs1 : (s1 == 0) = true := by simpa using hs
    have HT : Hid (tellF (s1, s2) e a = (e, a)) := Lib.hid (by unfold tellF; rw [if_pos (.inl hs)])
    rw [HT.out]
    clear hs
    go_enter Try.func39, Try.ntmps39
    go_upto_region 1 with (fail)
    rw [HEV.out]
    clear HEV
    go_wp2_with fail
    refine ⟨rfl, _, results_row1 rfl _ _ (w.heap.size + 1 + 1) 34 _ (0, 0) _ rfl (HFIN.out e a).1 Try.underlying34 Try.size34, rfl, (HFIN.out e a).2⟩
  · have hs1 : (s1 == 0) = false := by simpa using hs
    by_cases hl : a < s2
    · have HT : Hid (tellF (s1, s2) e a = (e, a)) := Lib.hid (by unfold tellF; rw [if_pos (.inr hl)])
      rw [HT.out]
      clear hs
      go_enter Try.func39, Try.ntmps39
      go_upto_region 1 with (fail)
      rw [HEV.out]
      clear HEV
      go_wp2_with fail
      refine ⟨rfl, _, results_row1 rfl _ _ (w.heap.size + 1 + 1) 34 _ (0, 0) _ rfl (HFIN.out e a).1 Try.underlying34 Try.size34, rfl, (HFIN.out e a).2⟩
    · have HT : Hid (tellF (s1, s2) e a = (s1, s2)) := Lib.hid (by unfold tellF; rw [if_neg (fun h => h.elim hs hl)])
      rw [HT.out]
      clear hs
      go_enter Try.func39, Try.ntmps39
      go_upto_region 1 with (fail)
      rw [HEV.out]
      clear HEV
      go_wp2_with fail
      refine ⟨rfl, _, results_row1 rfl _ _ (w.heap.size + 1 + 1) 34 _ (0, 0) _ rfl (HFIN.out s1 s2).1 Try.underlying34 Try.size34, rfl, (HFIN.out s1 s2).2⟩
end Go.Proofs.Ytjfhncbfbhkhgaa
namespace Go.Proofs.Ytjfhncbfbhkhgaa
open Go.RowKit
set_option maxRecDepth 100000 in
set_option maxHeartbeats 4000000 in
theorem bare_any {Q : Nat → Prop} {C : List Cls} {I : List Ins} (hC : OkC C) {Ac Ai : Option Addr} {cc ci : Nat} {x : Ins} {w : World} (hcl : ClassesAt Q w (.slice Ac C.length cc) C) (hin : InstsAt Q w (.slice Ai I.length ci) I) (hQ : ∀ b, Q b → b < w.heap.size) :
    Calls Try.prog 40 #[.agg #[.slice none 0 0, .slice Ac C.length cc, .slice Ai I.length ci, .slice none 0 0], insV x] w fun e w' => e = .returned (.bool (lackF C I x)) ∧ Below w.heap.size w w' := by
  unfold insV
  obtain ⟨V, eV⟩ : ∃ V, (w.alloc (.cells #[.slice none 0 0, .slice Ac C.length cc, .slice Ai I.length ci, .slice none 0 0] 28)).alloc (.cells #[.string x.cls, .int .i64 x.atp, .string x.con, .slice none 0 0, .slice none 0 0, .slice none 0 0] 70) = V := ⟨_, rfl⟩
  have hbV : Below w.heap.size w V := by rw [← eV]; exact (below_new _ _).alloc (by simp) _
  have v0 : V.heap[w.heap.size]? = some (.cells #[.slice none 0 0, .slice Ac C.length cc, .slice Ai I.length ci, .slice none 0 0] 28) := by rw [← eV, alloc_get, if_neg (by first | (simp; done) | (simp; omega)), alloc_get, if_pos rfl]
  have v1 : V.heap[w.heap.size + 1]? = some (.cells #[.string x.cls, .int .i64 x.atp, .string x.con, .slice none 0 0, .slice none 0 0, .slice none 0 0] 70) := by rw [← eV, alloc_get, if_pos (by simp)]
  obtain ⟨p0, p1, p2, p3⟩ : V.cell? ⟨w.heap.size, 0, none⟩ = some (.slice none 0 0) ∧ V.cell? ⟨w.heap.size, 1, none⟩ = some (.slice Ac C.length cc) ∧ V.cell? ⟨w.heap.size, 2, none⟩ = some (.slice Ai I.length ci) ∧ V.cell? ⟨w.heap.size, 3, none⟩ = some (.slice none 0 0) := by simp [World.cell?, v0]
  have x0 : V.cell? ⟨w.heap.size + 1, 0, none⟩ = some (.string x.cls) := by simp [World.cell?, v1]
  have HV0 := Lib.hid v0
  have HV1 := Lib.hid v1
  have HCV := Lib.hid (hcl.keep (w' := V) hbV.size (fun b _ hl => hbV.block b hl))
  have HIV := Lib.hid (hin.keep (w' := V) hbV.size (fun b _ hl => hbV.block b hl))
  have HQV : Hid (∀ b, Q b → b < V.heap.size) := Lib.hid (fun b hb => Nat.lt_of_lt_of_le (hQ b hb) hbV.size)
  have HBV := Lib.hid hbV
  have HRC := Lib.hid (rclass_any (iv := .slice Ai I.length ci) HCV.out ⟨_, _, _, rfl⟩ HQV.out x.cls)
  have HEV := Lib.hid eV
  have HC := Lib.hid hC
  obtain ⟨N, hN⟩ : ∃ N, w.heap.size = N := ⟨_, rfl⟩
  have HN := Lib.hid hN
  rw [hN] at p0 p1 p2 p3 x0
  clear eV hbV v0 v1 hcl hin hQ hC hN
  go_enter Try.func40, Try.ntmps40
  go_upto_region 1 with (fail)
  rw [HEV.out, HN.out]
  clear HEV
  go_wp2_with fail
  with_reducible refine HRC.out.mono ?_
  rintro e w2 hrc
  obtain ⟨hb2, n1, n2, n3, S, As, cs, A2, m2, c2, q, rfl, hS, hq, hsv⟩ := rclass_form hrc
  obtain ⟨W2, hW2⟩ : ∃ W2, w2.alloc (.cells #[.string n1, .int .i64 n2, .string n3, .slice none 0 0, .slice As S.length cs, .slice A2 m2 c2] 59) = W2 := ⟨_, rfl⟩
  have hbW : Below w2.heap.size w2 W2 := by rw [← hW2]; exact below_new w2 _
  have hbX : Below V.heap.size V W2 := hb2.trans (hbW.mono hb2.size)
  have hx1 : W2.heap[w2.heap.size]? = some (.cells #[.string n1, .int .i64 n2, .string n3, .slice none 0 0, .slice As S.length cs, .slice A2 m2 c2] 59) := by rw [← hW2, alloc_get, if_pos rfl]
  have c4 : W2.cell? ⟨w2.heap.size, 4, none⟩ = some (.slice As S.length cs) := by simp [World.cell?, hx1]
  have HX1 := Lib.hid hx1
  have HBX := Lib.hid hbX
  have HSV := Lib.hid (hsv.on hbW)
  have HS := Lib.hid hS
  have hSl : S.length ≤ 1048576 := by rw [hS]; exact supF_len HC.out x.cls
  have HW := Lib.hid hW2
  clear hrc hb2 hbW hbX hx1 hsv hS hq hW2 HRC p0 p1 p2 p3 x0
  go_upto_region 2 with (fail)
  rw [HW.out]
  clear HW
  go_wp2_with fail
  go_loopw [7] (fun v wr => ∃ k : Nat, v = .int .i64 k ∧ k ≤ S.length ∧ (S.take k).any (fun c => !(instF I 0 c x.con).isSome) = false ∧ Below W2.heap.size W2 wr) (fun v _ => S.length - (intOf v).toNat)
  case atStart => exact ⟨0, rfl, Nat.zero_le _, rfl, Below.refl _ _⟩
  case round =>
    obtain ⟨k, rfl, hk, hany, hbr⟩ := hrel
    have HANY := Lib.hid hany
    have HBR := Lib.hid hbr
    have hY := (hbr.block _ (lt_of_block HX1.out)).trans HX1.out
    have hbVr : Below V.heap.size V wr := HBX.out.trans (hbr.mono HBX.out.size)
    have hP := (hbVr.block _ (lt_of_block HV0.out)).trans HV0.out
    have hXX := (hbVr.block _ (lt_of_block HV1.out)).trans HV1.out
    have d4 : wr.cell? ⟨w2.heap.size, 4, none⟩ = some (.slice As S.length cs) := by simp [World.cell?, hY]
    have HBW : Hid (Below w.heap.size w wr) := Lib.hid (HBV.out.trans (hbVr.mono HBV.out.size))
    clear hany
    by_cases hkl : k < S.length
    · obtain ⟨y, hy⟩ : ∃ y, S[k]? = some y := ⟨_, List.getElem?_eq_getElem hkl⟩
      obtain ⟨b9, o9, e9, hl9, hc9⟩ := (HSV.out.on hbr).at k hkl
      have hc9' : wr.cell? ⟨b9, o9 + k, none⟩ = some (.string y) := by
        obtain ⟨h, e⟩ := List.getElem?_eq_some_iff.1 hy
        rw [← e]; exact hc9
      subst e9
      rw [HN.out] at hP hXX
      obtain ⟨p0, p1, p2, p3⟩ : wr.cell? ⟨N, 0, none⟩ = some (.slice none 0 0) ∧ wr.cell? ⟨N, 1, none⟩ = some (.slice Ac C.length cc) ∧ wr.cell? ⟨N, 2, none⟩ = some (.slice Ai I.length ci) ∧ wr.cell? ⟨N, 3, none⟩ = some (.slice none 0 0) := by simp [World.cell?, hP]
      have x2 : wr.cell? ⟨N + 1, 2, none⟩ = some (.string x.con) := by simp [World.cell?, hXX]
      have hki : (k : Int) < (S.length : Int) := by omega
      have hk0 : (0 : Int) ≤ (k : Int) := by omega
      have HCALL := Lib.hid (rinst_any (w := wr.drew) (HIV.out.keep (w' := wr.drew) hbVr.size (fun b _ hl => hbVr.block b hl)) (cv := .slice Ac C.length cc) ⟨_, _, _, rfl⟩ y x.con)
      have HY := Lib.hid hy
      have hlY := lt_of_block hY
      have hlP := lt_of_block hP
      have hlX := lt_of_block hXX
      have hS0 : wr.drew.cell? ⟨N, 0, none⟩ = some (.slice none 0 0) ∧ wr.drew.cell? ⟨N, 1, none⟩ = some (.slice Ac C.length cc) ∧ wr.drew.cell? ⟨N, 2, none⟩ = some (.slice Ai I.length ci) ∧ wr.drew.cell? ⟨N, 3, none⟩ = some (.slice none 0 0) ∧ wr.drew.cell? ⟨w2.heap.size, 4, none⟩ = some (.slice (some ⟨b9, o9, none⟩) S.length cs) ∧ wr.drew.cell? ⟨b9, o9 + k, none⟩ = some (.string y) ∧ wr.drew.cell? ⟨N + 1, 2, none⟩ = some (.string x.con) := ⟨p0, p1, p2, p3, d4, hc9', x2⟩
      have HKC : Hid (∀ u, Below wr.drew.heap.size wr.drew u → u.cell? ⟨N, 0, none⟩ = some (.slice none 0 0) ∧ u.cell? ⟨N, 1, none⟩ = some (.slice Ac C.length cc) ∧ u.cell? ⟨N, 2, none⟩ = some (.slice Ai I.length ci) ∧ u.cell? ⟨N, 3, none⟩ = some (.slice none 0 0) ∧ u.cell? ⟨w2.heap.size, 4, none⟩ = some (.slice (some ⟨b9, o9, none⟩) S.length cs) ∧ u.cell? ⟨b9, o9 + k, none⟩ = some (.string y) ∧ u.cell? ⟨N + 1, 2, none⟩ = some (.string x.con)) := Lib.hid fun u hu => ⟨(hu.cell (p := ⟨N, 0, none⟩) hlP).trans p0, (hu.cell (p := ⟨N, 1, none⟩) hlP).trans p1, (hu.cell (p := ⟨N, 2, none⟩) hlP).trans p2, (hu.cell (p := ⟨N, 3, none⟩) hlP).trans p3, (hu.cell (p := ⟨w2.heap.size, 4, none⟩) hlY).trans d4, (hu.cell (p := ⟨b9, o9 + k, none⟩) hl9).trans hc9', (hu.cell (p := ⟨N + 1, 2, none⟩) hlX).trans x2⟩
      obtain ⟨oo, hoo⟩ : ∃ oo, instF I 0 y x.con = oo := ⟨_, rfl⟩
      rw [hoo] at HCALL
      have HOO := Lib.hid hoo
      have HSX : Hid (S = supF C x.cls) := HS
      clear hy hc9 hY hP hXX hbVr hbr hlY hlP hlX hoo
      generalize ((oo.getD 0 : Nat) : Int) = oz at *
      go_wp2_with fail
      go_region_held3 (fun u => u.cell? ⟨N, 0, none⟩ = some (.slice none 0 0) ∧ u.cell? ⟨N, 1, none⟩ = some (.slice Ac C.length cc) ∧ u.cell? ⟨N, 2, none⟩ = some (.slice Ai I.length ci) ∧ u.cell? ⟨N, 3, none⟩ = some (.slice none 0 0) ∧ u.cell? ⟨w2.heap.size, 4, none⟩ = some (.slice (some ⟨b9, o9, none⟩) S.length cs) ∧ u.cell? ⟨b9, o9 + k, none⟩ = some (.string y) ∧ u.cell? ⟨N + 1, 2, none⟩ = some (.string x.con)) (first | exact hS0 | exact hS1) (first | (go_at_call 22; (with_reducible refine HCALL.out.mono ?_); rintro e w3 ⟨rfl, hb3⟩; have HB3 := Lib.hid hb3; have hS1 := HKC.out w3 hb3; clear hb3))
      all_goals
        have hb4 : Below wr.heap.size wr w3 := (Below.refl _ wr).drew.trans HB3.out
        cases oo with
        | none =>
          have HR : Hid (lackF C I x = true) := Lib.hid (by
            unfold lackF
            rw [← HSX.out]
            exact List.any_eq_true.2 ⟨y, List.mem_of_getElem? HY.out, by rw [HOO.out]; rfl⟩)
          have HB5 := Lib.hid (HBW.out.trans (hb4.mono HBW.out.size))
          clear hb4
          go_wp2_with fail
          go_ret
          rw [HR.out]
          exact ⟨rfl, HB5.out⟩
        | some d =>
          have HST : Hid ((S.take (k + 1)).any (fun c => !(instF I 0 c x.con).isSome) = false) := Lib.hid (by
            rw [List.take_add_one, HY.out, List.any_append, HANY.out, Option.toList_some, List.any_cons, HOO.out]; rfl)
          have HB5 := Lib.hid (HBR.out.trans (hb4.mono HBR.out.size))
          clear hb4
          go_wp2_with fail
          go_roundw
          case rel =>
            exact ⟨k + 1, by go_num, by omega, HST.out, HB5.out⟩
          case measure => simp [intOf]; omega
    · have hke : k = S.length := by omega
      have HR : Hid (lackF C I x = false) := Lib.hid (by
        have := HANY.out
        rw [hke, List.take_length] at this
        unfold lackF; rw [← HS.out]; exact this)
      have hkn : ¬ (k : Int) < (S.length : Int) := by omega
      clear hY hP hXX hbVr hbr
      go_wp2_with fail
      go_ret
      rw [HR.out]
      exact ⟨rfl, HBW.out⟩
end Go.Proofs.Ytjfhncbfbhkhgaa
namespace Go.Proofs.Ytjfhncbfbhkhgaa
open Go.RowKit
theorem rclass_form2 {Q : Nat → Prop} {C : List Cls} {x : ByteArray} {w w' : World} {e : Ending} (h : RClassRes Q C x w e w') : Below w.heap.size w w' ∧ ∃ n1 n2 n3 S A c A2 m2 c2 q, e = .returned (.tuple #[.agg #[.string n1, .int .i64 n2, .string n3, .slice none 0 0, .slice A (List.length S) c, .slice A2 m2 c2], .bool q]) ∧ n2 = atOf C x ∧ StrsAt Q w' (.slice A S.length c) S := by
  obtain ⟨⟨k2, sv, As, ns, ms, hk2, rfl, hsv⟩ | ⟨hk2, rfl⟩, hb2⟩ := h
  · obtain ⟨Asv, csv, rfl, _, _⟩ := hsv.form
    exact ⟨hb2, _, _, _, _, _, _, _, _, _, _, rfl, by unfold atOf; rw [hk2], hsv⟩
  · exact ⟨hb2, _, _, _, [], none, 0, _, _, _, _, rfl, by unfold atOf; rw [hk2], strs_nil _ _⟩
/-- What is told so far, in its box at g. -/
structure CirI (N g : Nat) (cv iv : Value) (s : Int × Int) (w wr : World) : Prop where
  arg : wr.heap[N]? = some (.cells #[.slice none 0 0, cv, iv, .slice none 0 0] 28)
  res : wr.heap[N + 1]? = some (.cells #[.int .i64 0, .int .i64 0] 34)
  out : wr.heap[g]? = some (.cells #[.int .i64 s.1, .int .i64 s.2] 34)
  lt : N + 1 < g
  bl : Below N w wr
theorem CirI.on {N g : Nat} {cv iv : Value} {s : Int × Int} {w wr w' : World} (h : CirI N g cv iv s w wr) (hb : Below wr.heap.size wr w') : CirI N g cv iv s w w' :=
  ⟨(hb.block _ (lt_of_block h.arg)).trans h.arg, (hb.block _ (lt_of_block h.res)).trans h.res, (hb.block _ (lt_of_block h.out)).trans h.out, h.lt, h.bl.trans (hb.mono (Nat.le_of_lt (lt_of_block h.arg)))⟩
theorem CirI.set {N g : Nat} {cv iv : Value} {s : Int × Int} {w wr : World} (h : CirI N g cv iv s w wr) (s' : Int × Int) : CirI N g cv iv s' w ((wr.setCell ⟨g, 0, none⟩ (.int .i64 s'.1)).setCell ⟨g, 1, none⟩ (.int .i64 s'.2)) := by
  have hf := set2_fr wr g (.int .i64 s'.1) (.int .i64 s'.2)
  have hl := h.lt
  exact ⟨(hf.block N (lt_of_block h.arg) (fun e => by omega)).trans h.arg, (hf.block (N + 1) (lt_of_block h.res) (fun e => by omega)).trans h.res, set2_heap h.out _ _, hl, h.bl.trans (hf.below (Nat.le_of_lt (lt_of_block h.arg)) (fun k e => by omega))⟩
theorem CirI.fin {N g : Nat} {cv iv : Value} {s : Int × Int} {w wr : World} (h : CirI N g cv iv s w wr) : ((wr.setCell ⟨N + 1, 0, none⟩ (.int .i64 s.1)).setCell ⟨N + 1, 1, none⟩ (.int .i64 s.2)).heap[N + 1]? = some (.cells #[.int .i64 s.1, .int .i64 s.2] 34) ∧ Below N w ((wr.setCell ⟨N + 1, 0, none⟩ (.int .i64 s.1)).setCell ⟨N + 1, 1, none⟩ (.int .i64 s.2)) :=
  ⟨set2_heap h.res _ _, h.bl.trans ((set2_fr wr (N + 1) _ _).below (by have := lt_of_block h.res; omega) (fun k e => by omega))⟩
theorem CirI.cells {N g : Nat} {cv iv : Value} {s : Int × Int} {w wr : World} (h : CirI N g cv iv s w wr) : (wr.cell? ⟨N, 0, none⟩ = some (.slice none 0 0) ∧ wr.cell? ⟨N, 1, none⟩ = some cv ∧ wr.cell? ⟨N, 2, none⟩ = some iv ∧ wr.cell? ⟨N, 3, none⟩ = some (.slice none 0 0)) ∧ wr.cell? ⟨g, 0, none⟩ = some (.int .i64 s.1) ∧ wr.cell? ⟨g, 1, none⟩ = some (.int .i64 s.2) := by
  have h1 := h.arg
  have h2 := h.out
  exact ⟨by simp [World.cell?, h1], by simp [World.cell?, h2]⟩
theorem over_dec {C : List Cls} {c : Cls} (hc : c ∈ C) : decide (c.name ∈ overC C c.name) = true ↔ Self C c.name := by
  rw [decide_eq_true_iff]
  exact over_self (hasF_iff.2 (List.mem_map.2 ⟨c, hc, rfl⟩))
theorem circ_yes {C : List Cls} {i : Nat} {c : Cls} (hc : C[i]? = some c) (h : atOf C c.name = c.atp ∧ Self C c.name) : tellsF (0, 0) (circL C (C.take (i + 1))) = tellF (tellsF (0, 0) (circL C (C.take i))) 35 c.atp := by
  rw [List.take_add_one, hc, Option.toList_some, circL_snoc, if_pos h, tellsF_append]; rfl
theorem circ_no {C : List Cls} {i : Nat} {c : Cls} (hc : C[i]? = some c) (h : ¬ (atOf C c.name = c.atp ∧ Self C c.name)) : circL C (C.take (i + 1)) = circL C (C.take i) := by
  rw [List.take_add_one, hc, Option.toList_some, circL_snoc, if_neg h, List.append_nil]
set_option maxRecDepth 100000 in
set_option maxHeartbeats 4000000 in
theorem circle_any {Q : Nat → Prop} {C : List Cls} (hC : OkC C) {Ac Ai : Option Addr} {cc ni ci : Nat} {w : World} (hcl : ClassesAt Q w (.slice Ac C.length cc) C) (hQ : ∀ b, Q b → b < w.heap.size) :
    Calls Try.prog 38 #[.agg #[.slice none 0 0, .slice Ac C.length cc, .slice Ai ni ci, .slice none 0 0]] w fun e w' => e = .returned (.agg #[.int .i64 (tellsF (0, 0) (circL C C)).1, .int .i64 (tellsF (0, 0) (circL C C)).2]) ∧ Below w.heap.size w w' := by
  obtain ⟨hlc, hcm⟩ : C.length ≤ cc ∧ cc ≤ maxLen := by
    obtain ⟨_, _, e0, h1, h2, _⟩ := hcl
    injection e0 with _ _ e0
    subst e0
    exact ⟨h1, h2⟩
  unfold maxLen at hcm
  obtain ⟨V, eV⟩ : ∃ V, ((w.alloc (.cells #[.slice none 0 0, .slice Ac C.length cc, .slice Ai ni ci, .slice none 0 0] 28)).alloc (.cells #[.int .i64 0, .int .i64 0] 34)).alloc (.cells #[.int .i64 0, .int .i64 0] 34) = V := ⟨_, rfl⟩
  have hbV : Below w.heap.size w V := by rw [← eV]; exact ((below_new _ _).alloc (by simp) _).alloc (by simp; omega) _
  have hI0 : CirI w.heap.size (w.heap.size + 1 + 1) (.slice Ac C.length cc) (.slice Ai ni ci) (0, 0) w V := by
    refine ⟨?_, ?_, ?_, by omega, hbV⟩
    · rw [← eV, alloc_get, if_neg (by first | (simp; done) | (simp; omega)), alloc_get, if_neg (by first | (simp; done) | (simp; omega)), alloc_get, if_pos rfl]
    · rw [← eV, alloc_get, if_neg (by first | (simp; done) | (simp; omega)), alloc_get, if_pos (by simp)]
    · rw [← eV, alloc_get, if_pos (by simp)]
  have HCW := Lib.hid hcl
  have HQ := Lib.hid hQ
  have HEV := Lib.hid eV
  have HC := Lib.hid hC
  obtain ⟨N, hN⟩ : ∃ N, w.heap.size = N := ⟨_, rfl⟩
  have HN := Lib.hid hN
  rw [hN] at hI0
  have HI0 := Lib.hid hI0
  clear eV hbV hcl hQ hC hN hI0
  go_enter Try.func38, Try.ntmps38
  go_upto_region 2 with (fail)
  rw [HEV.out, HN.out]
  clear HEV
  go_wp2_with fail
  go_loopw [4] (fun v wr => ∃ i : Nat, v = .int .i64 i ∧ i ≤ C.length ∧ CirI N (N + 1 + 1) (.slice Ac C.length cc) (.slice Ai ni ci) (tellsF (0, 0) (circL C (C.take i))) w wr) (fun v _ => C.length - (intOf v).toNat)
  case atStart => exact ⟨0, rfl, Nat.zero_le _, HI0.out⟩
  case round =>
    obtain ⟨i, rfl, hi, hI⟩ := hrel
    obtain ⟨⟨p0, p1, p2, p3⟩, o0, o1⟩ := hI.cells
    have HI := Lib.hid hI
    by_cases hil : i < C.length
    · obtain ⟨c, hc⟩ : ∃ c, C[i]? = some c := ⟨_, List.getElem?_eq_getElem hil⟩
      have hCr : ClassesAt Q wr (.slice Ac C.length cc) C := HCW.out.keep hI.bl.size (fun b hb _ => hI.bl.block b (by rw [← HN.out]; exact HQ.out b hb))
      have hQr : ∀ b, Q b → b < wr.heap.size := fun b hb => Nat.lt_of_lt_of_le (HQ.out b hb) hI.bl.size
      obtain ⟨bb, sv, mv, rfl, hbl, c0, c1, c2, c3, c4, c5, hst, hsg⟩ := hCr.at hc
      obtain ⟨As, cs, rfl, _, _⟩ := hst.form
      obtain ⟨Am, cm, rfl, _⟩ := id hsg
      obtain ⟨W1, hW1⟩ : ∃ W1, wr.alloc (.cells #[.string c.name, .int .i64 c.atp, .string c.var, .slice none 0 0, .slice As c.supers.length cs, .slice Am c.meths.length cm] 59) = W1 := ⟨_, rfl⟩
      have hbW : Below wr.heap.size wr W1 := by rw [← hW1]; exact below_new wr _
      have hx1 : W1.heap[wr.heap.size]? = some (.cells #[.string c.name, .int .i64 c.atp, .string c.var, .slice none 0 0, .slice As c.supers.length cs, .slice Am c.meths.length cm] 59) := by rw [← hW1, alloc_get, if_pos rfl]
      have d0 : W1.cell? ⟨wr.heap.size, 0, none⟩ = some (.string c.name) := by simp [World.cell?, hx1]
      obtain ⟨⟨r0, r1, r2, r3⟩, _⟩ := (hI.on hbW).cells
      have HI1 := Lib.hid (hI.on hbW)
      have HX1 := Lib.hid hx1
      have HRC := Lib.hid (rclass_any (iv := .slice Ai ni ci) (hCr.keep hbW.size (fun b _ hl => hbW.block b hl)) ⟨_, _, _, rfl⟩ (fun b hb => Nat.lt_of_lt_of_le (hQr b hb) hbW.size) c.name)
      have HCc := Lib.hid hc
      have hii : (i : Int) < (C.length : Int) := by omega
      have hi0 : (0 : Int) ≤ (i : Int) := by omega
      have HW := Lib.hid hW1
      clear hI hc hCr hQr hst hsg hW1 hbW hx1 HI o0 o1
      go_upto_region 6 with (fail)
      rw [HW.out]
      clear HW
      go_wp2_with fail
      with_reducible refine HRC.out.mono ?_
      rintro e w2 hrc
      obtain ⟨hb2, n1, n2, n3, S, A1, k1, A2, m2, k2, q, rfl, hat, _⟩ := rclass_form2 hrc
      obtain ⟨W2, hW2⟩ : ∃ W2, w2.alloc (.cells #[.string n1, .int .i64 n2, .string n3, .slice none 0 0, .slice A1 S.length k1, .slice A2 m2 k2] 59) = W2 := ⟨_, rfl⟩
      have hbW : Below w2.heap.size w2 W2 := by rw [← hW2]; exact below_new w2 _
      have hbX : Below W1.heap.size W1 W2 := hb2.trans (hbW.mono hb2.size)
      have hx2 : W2.heap[w2.heap.size]? = some (.cells #[.string n1, .int .i64 n2, .string n3, .slice none 0 0, .slice A1 S.length k1, .slice A2 m2 k2] 59) := by rw [← hW2, alloc_get, if_pos rfl]
      have hx1 := (hbX.block _ (lt_of_block HX1.out)).trans HX1.out
      have HX2 := Lib.hid hx2
      have HX1' := Lib.hid hx1
      have HI2 := Lib.hid (HI1.out.on hbX)
      have HAT := Lib.hid hat
      have HW := Lib.hid hW2
      -- the two calls
      have HTD := Lib.hid (HI2.out.on (Below.refl _ W2).drew)
      have HA1 : Hid (∀ y, Below W2.drew.heap.size W2.drew y → Calls Try.prog 57 #[.agg #[.slice none 0 0, .slice (some ⟨bb, 0, none⟩) C.length cc, .slice Ai ni ci, .slice none 0 0], .string c.name] y (fun e w' => ∃ (A : Option Addr) (m : Nat), e = .returned (.slice A (overC C c.name).length m) ∧ StrsAt (fun b => b < w'.heap.size) w' (.slice A (overC C c.name).length m) (overC C c.name) ∧ Below y.heap.size y w')) := Lib.hid (fun y hy => by
        have hT := HTD.out.on hy
        refine (over_any HC.out (HCW.out.keep hT.bl.size (fun b hb _ => hT.bl.block b (by rw [← HN.out]; exact HQ.out b hb))) (fun b hb => Nat.lt_of_lt_of_le (HQ.out b hb) hT.bl.size)).mono ?_
        rintro e w' ⟨⟨v, rfl, ht⟩, h3⟩
        obtain ⟨A, m, rfl, _⟩ := ht.form
        exact ⟨A, m, rfl, ht, h3⟩)
      have b0 : Below W2.drew.heap.size W2.drew W2.drew := Below.refl _ _
      have keepS : Hid (∀ y, Below W2.drew.heap.size W2.drew y → y.cell? ⟨N, 0, none⟩ = some (.slice none 0 0) ∧ y.cell? ⟨N, 1, none⟩ = some (.slice (some ⟨bb, 0, none⟩) C.length cc) ∧ y.cell? ⟨N, 2, none⟩ = some (.slice Ai ni ci) ∧ y.cell? ⟨N, 3, none⟩ = some (.slice none 0 0) ∧ y.cell? ⟨wr.heap.size, 0, none⟩ = some (.string c.name)) := Lib.hid (fun y hy => by
        obtain ⟨⟨h0, h1, h2, h3⟩, _⟩ := (HTD.out.on hy).cells
        have hb : Below W2.heap.size W2 y := (Below.refl _ W2).drew.trans hy
        have h4 := (hb.block _ (lt_of_block HX1'.out)).trans HX1'.out
        exact ⟨h0, h1, h2, h3, by simp [World.cell?, h4]⟩)
      have hS0 := keepS.out _ b0
      generalize hov : overC C c.name = ov at *
      have HOVR := Lib.hid hov
      clear hrc hb2 hbW hbX hx2 hx1 hat hW2 HRC HI1 HX1 r0 r1 r2 r3 p0 p1 p2 p3 d0 c0 c1 c2 c3 c4 c5 hov
      go_upto_region 7 with (fail)
      rw [HW.out]
      clear HW
      go_region_held3 (fun y => y.cell? ⟨N, 0, none⟩ = some (.slice none 0 0) ∧ y.cell? ⟨N, 1, none⟩ = some (.slice (some ⟨bb, 0, none⟩) C.length cc) ∧ y.cell? ⟨N, 2, none⟩ = some (.slice Ai ni ci) ∧ y.cell? ⟨N, 3, none⟩ = some (.slice none 0 0) ∧ y.cell? ⟨wr.heap.size, 0, none⟩ = some (.string c.name)) (first | exact hS0 | exact hS1 | exact hS2) (first
        | (go_at_call 57; (with_reducible refine (HA1.out _ b0).mono ?_); rintro e y1 ⟨A6, m6, rfl, s2, d1⟩; have b1 := b0.trans (d1.mono b0.size); have hS1 := keepS.out y1 b1)
        | (go_at_call 29; (with_reducible refine (in29_any s2 c.name).mono ?_); rintro e y2 ⟨rfl, d2⟩; have b2 := b1.trans (d2.mono b1.size); have hS2 := keepS.out y2 b2))
      all_goals
        have HI3 := Lib.hid (HTD.out.on b2)
        have hb : Below W2.heap.size W2 y2 := (Below.refl _ W2).drew.trans b2
        have hx1 := (hb.block _ (lt_of_block HX1'.out)).trans HX1'.out
        have hx2 := (hb.block _ (lt_of_block HX2.out)).trans HX2.out
        have r1 : y2.cell? ⟨wr.heap.size, 1, none⟩ = some (.int .i64 c.atp) := by simp [World.cell?, hx1]
        have r2 : y2.cell? ⟨w2.heap.size, 1, none⟩ = some (.int .i64 n2) := by simp [World.cell?, hx2]
        have hself : decide (c.name ∈ ov) = true ↔ Self C c.name := by rw [← HOVR.out]; exact over_dec (List.mem_of_getElem? HCc.out)
        have HSELF := Lib.hid hself
        clear hb hx1 hx2 hself b0 b1 b2 d1 d2 s2 hS0 hS1 hS2 HA1 keepS HTD HX2 HX1' HI2
        generalize decide (c.name ∈ ov) = dq at *
        have HAT2 : Hid (atOf C c.name = n2) := Lib.hid HAT.out.symm
        by_cases hcond : n2 = c.atp ∧ dq = true
        · obtain ⟨hn2, hdq⟩ := hcond
          have HST := Lib.hid (circ_yes HCc.out ⟨HAT2.out.trans hn2, HSELF.out.1 hdq⟩)
          have hn2b : (n2 == c.atp) = true := by simpa using hn2
          obtain ⟨_, o0, o1⟩ := HI3.out.cells
          have HLS := Lib.hid (less_any (tellsF (0, 0) (circL C (C.take i))) 35 c.atp (by decide) y2)
          subst hdq
          clear hn2
          generalize hT : tellsF (0, 0) (circL C (C.take i)) = T at *
          clear hT
          go_wp2_with fail
          with_reducible refine HLS.out.mono ?_
          rintro e y3 ⟨rfl, hb3⟩
          have hI4 := HI3.out.on hb3
          have HI4 := Lib.hid hI4
          obtain ⟨_, o2, o3⟩ := hI4.cells
          have f0 : ∀ j, y3.frozen? ⟨N + 1 + 1, j, none⟩ = false := fun j => by have h := hI4.out; simp [World.frozen?, h]
          obtain ⟨T', hT'⟩ : ∃ T' : Int × Int, tellF T 35 c.atp = T' := ⟨_, rfl⟩
          rw [hT'] at HST ⊢
          have HREL : Hid (CirI N (N + 1 + 1) (.slice (some ⟨bb, 0, none⟩) C.length cc) (.slice Ai ni ci) (tellsF (0, 0) (circL C (C.take (i + 1)))) w ((y3.setCell ⟨N + 1 + 1, 0, none⟩ (.int .i64 T'.1)).setCell ⟨N + 1 + 1, 1, none⟩ (.int .i64 T'.2))) := Lib.hid (by rw [HST.out]; exact HI4.out.set T')
          obtain ⟨T1, T2⟩ := T'
          clear hb3 hI4 hT' HLS
          go_wp2_with fail
          go_roundw
          case rel => exact ⟨i + 1, by go_num, by omega, HREL.out⟩
          case measure => simp [intOf]; omega
        · have HST := Lib.hid (circ_no HCc.out (fun h => hcond ⟨HAT2.out.symm.trans h.1, HSELF.out.2 h.2⟩))
          have HREL : Hid (CirI N (N + 1 + 1) (.slice (some ⟨bb, 0, none⟩) C.length cc) (.slice Ai ni ci) (tellsF (0, 0) (circL C (C.take (i + 1)))) w y2) := Lib.hid (by rw [HST.out]; exact HI3.out)
          by_cases hn2 : n2 = c.atp
          · have hdq : dq = false := by
              cases dq with
              | true => exact absurd ⟨hn2, rfl⟩ hcond
              | false => rfl
            have hn2b : (n2 == c.atp) = true := by simpa using hn2
            subst hdq
            clear hn2 hcond
            go_wp2_with fail
            go_roundw
            case rel => exact ⟨i + 1, by go_num, by omega, HREL.out⟩
            case measure => simp [intOf]; omega
          · have hn2b : (n2 == c.atp) = false := by simpa using hn2
            clear hn2 hcond
            go_wp2_with fail
            go_roundw
            case rel => exact ⟨i + 1, by go_num, by omega, HREL.out⟩
            case measure => simp [intOf]; omega
    · have hie : i = C.length := by omega
      subst hie
      rw [List.take_length] at hI
      have hin : ¬ ((C.length : Nat) : Int) < (C.length : Int) := by omega
      have hf := hI.fin
      have HF1 := Lib.hid hf.1
      have HF2 := Lib.hid hf.2
      obtain ⟨e0, e1⟩ : wr.cell? ⟨N + 1, 0, none⟩ = some (.int .i64 0) ∧ wr.cell? ⟨N + 1, 1, none⟩ = some (.int .i64 0) := by have h := hI.res; simp [World.cell?, h]
      have f0 : ∀ j, wr.frozen? ⟨N + 1, j, none⟩ = false := fun j => by have h := hI.res; simp [World.frozen?, h]
      rw [List.take_length] at o0 o1
      clear hI hf HI
      obtain ⟨T, hT⟩ : ∃ T, tellsF (0, 0) (circL C C) = T := ⟨_, rfl⟩
      have HT := Lib.hid hT
      rw [hT] at o0 o1 HF1 HF2
      obtain ⟨T1, T2⟩ := T
      clear hT
      go_wp2_with fail
      rw [HN.out]
      refine ⟨rfl, _, results_row1 rfl _ _ (N + 1) 34 _ (0, 0) _ rfl HF1.out Try.underlying34 Try.size34, by rw [HT.out], HF2.out⟩
end Go.Proofs.Ytjfhncbfbhkhgaa
namespace Go.Proofs.Ytjfhncbfbhkhgaa
open Go.RowKit
theorem instF_shift {a b : ByteArray} : ∀ (L : List Ins) (n d : Nat), instF L n a b = some d → n ≤ d ∧ d < n + L.length
  | [], _, _, h => absurd h (by simp [instF])
  | y :: l, n, d, h => by
    unfold instF at h
    by_cases e : y.cls = a ∧ y.con = b
    · rw [if_pos e] at h; injection h with h; subst h; simp
    · rw [if_neg e] at h
      have := instF_shift l (n + 1) d h
      simp only [List.length_cons]; omega
theorem instF_app {a b : ByteArray} : ∀ (L M : List Ins) (n : Nat), instF (L ++ M) n a b = match instF L n a b with | some d => some d | none => instF M (n + L.length) a b
  | [], M, n => rfl
  | y :: l, M, n => by
    show (if y.cls = a ∧ y.con = b then some n else instF (l ++ M) (n + 1) a b) = match (if y.cls = a ∧ y.con = b then some n else instF l (n + 1) a b) with | some d => some d | none => _
    by_cases e : y.cls = a ∧ y.con = b
    · rw [if_pos e, if_pos e]
    · rw [if_neg e, if_neg e, instF_app l M (n + 1)]
      simp only [List.length_cons]
      rw [show n + 1 + l.length = n + (l.length + 1) by omega]
theorem instF_lt {I : List Ins} {i : Nat} {x : Ins} (hx : I[i]? = some x) : ((instF I 0 x.cls x.con).getD 0 < i) ↔ (instF (I.take i) 0 x.cls x.con).isSome = true := by
  obtain ⟨hi, hxe⟩ := List.getElem?_eq_some_iff.1 hx
  have hs : I = I.take i ++ (x :: I.drop (i + 1)) := by rw [← hxe, List.getElem_cons_drop, List.take_append_drop]
  have hl : (I.take i).length = i := by rw [List.length_take]; omega
  have he : instF I 0 x.cls x.con = match instF (I.take i) 0 x.cls x.con with | some d => some d | none => some i := by
    have h2 : instF I 0 x.cls x.con = instF (I.take i ++ (x :: I.drop (i + 1))) 0 x.cls x.con := congrArg (fun l => instF l 0 x.cls x.con) hs
    rw [h2, instF_app, hl]
    cases instF (I.take i) 0 x.cls x.con with
    | some d => rfl
    | none => show (if _ then _ else _) = _; rw [if_pos ⟨rfl, rfl⟩]; simp
  rw [he]
  cases h : instF (I.take i) 0 x.cls x.con with
  | some d => have := instF_shift _ _ _ h; simp; omega
  | none => simp
theorem dup_yes {I : List Ins} {i : Nat} {x : Ins} (L0 : List (Int × Int)) (hx : I[i]? = some x) (h : (instF I 0 x.cls x.con).getD 0 < i) : tellsF (0, 0) (L0 ++ overL [] (I.take (i + 1))) = tellF (tellsF (0, 0) (L0 ++ overL [] (I.take i))) 34 x.atp := by
  rw [List.take_add_one, hx, Option.toList_some, overL_snoc, List.nil_append, if_pos ((instF_lt hx).1 h), ← List.append_assoc, tellsF_append]; rfl
theorem dup_no {I : List Ins} {i : Nat} {x : Ins} (L0 : List (Int × Int)) (hx : I[i]? = some x) (h : ¬ (instF I 0 x.cls x.con).getD 0 < i) : L0 ++ overL [] (I.take (i + 1)) = L0 ++ overL [] (I.take i) := by
  rw [List.take_add_one, hx, Option.toList_some, overL_snoc, List.nil_append, if_neg (fun e => h ((instF_lt hx).2 e)), List.append_nil]
theorem lack_yes {C : List Cls} {I : List Ins} {i : Nat} {x : Ins} (L0 : List (Int × Int)) (hx : I[i]? = some x) (h : lackF C I x = true) : tellsF (0, 0) (L0 ++ lackL C I (I.take (i + 1))) = tellF (tellsF (0, 0) (L0 ++ lackL C I (I.take i))) 35 x.atp := by
  rw [List.take_add_one, hx, Option.toList_some, lackL_snoc, if_pos h, ← List.append_assoc, tellsF_append]; rfl
theorem lack_no {C : List Cls} {I : List Ins} {i : Nat} {x : Ins} (L0 : List (Int × Int)) (hx : I[i]? = some x) (h : lackF C I x = false) : L0 ++ lackL C I (I.take (i + 1)) = L0 ++ lackL C I (I.take i) := by
  rw [List.take_add_one, hx, Option.toList_some, lackL_snoc, if_neg (by rw [h]; decide), List.append_nil]
set_option maxRecDepth 100000 in
set_option maxHeartbeats 4000000 in
theorem refused_any {Q : Nat → Prop} {C : List Cls} {I : List Ins} (hC : OkC C) {Ac Ai : Option Addr} {cc ci : Nat} {w : World} (hcl : ClassesAt Q w (.slice Ac C.length cc) C) (hin : InstsAt Q w (.slice Ai I.length ci) I) (hQ : ∀ b, Q b → b < w.heap.size) :
    Calls Try.prog 11 #[.agg #[.slice none 0 0, .slice Ac C.length cc, .slice Ai I.length ci, .slice none 0 0]] w fun e w' => e = .returned (.agg #[.int .i64 (refT C I).1, .int .i64 (refT C I).2]) ∧ Below w.heap.size w w' := by
  obtain ⟨hlc, hcm⟩ : I.length ≤ ci ∧ ci ≤ maxLen := by
    obtain ⟨_, _, e0, h1, h2, _⟩ := hin
    injection e0 with _ _ e0
    subst e0
    exact ⟨h1, h2⟩
  unfold maxLen at hcm
  obtain ⟨V, eV⟩ : ∃ V, ((w.alloc (.cells #[.slice none 0 0, .slice Ac C.length cc, .slice Ai I.length ci, .slice none 0 0] 28)).alloc (.cells #[.int .i64 0, .int .i64 0] 34)) = V := ⟨_, rfl⟩
  have hbV : Below w.heap.size w V := by rw [← eV]; exact (below_new _ _).alloc (by simp) _
  have v0 : V.heap[w.heap.size]? = some (.cells #[.slice none 0 0, .slice Ac C.length cc, .slice Ai I.length ci, .slice none 0 0] 28) := by rw [← eV, alloc_get, if_neg (by first | (simp; done) | (simp; omega)), alloc_get, if_pos rfl]
  have v1 : V.heap[w.heap.size + 1]? = some (.cells #[.int .i64 0, .int .i64 0] 34) := by rw [← eV, alloc_get, if_pos (by simp)]
  obtain ⟨p0, p1, p2, p3⟩ : V.cell? ⟨w.heap.size, 0, none⟩ = some (.slice none 0 0) ∧ V.cell? ⟨w.heap.size, 1, none⟩ = some (.slice Ac C.length cc) ∧ V.cell? ⟨w.heap.size, 2, none⟩ = some (.slice Ai I.length ci) ∧ V.cell? ⟨w.heap.size, 3, none⟩ = some (.slice none 0 0) := by simp [World.cell?, v0]
  have HCI := Lib.hid (circle_any (ni := I.length) (ci := ci) (Ai := Ai) hC (hcl.keep (w' := V) hbV.size (fun b _ hl => hbV.block b hl)) (fun b hb => Nat.lt_of_lt_of_le (hQ b hb) hbV.size))
  have HCW := Lib.hid hcl
  have HIW := Lib.hid hin
  have HQ := Lib.hid hQ
  have HEV := Lib.hid eV
  have HC := Lib.hid hC
  have HBV := Lib.hid hbV
  have HV0 := Lib.hid v0
  have HV1 := Lib.hid v1
  obtain ⟨N, hN⟩ : ∃ N, w.heap.size = N := ⟨_, rfl⟩
  have HN := Lib.hid hN
  rw [hN] at p0 p1 p2 p3
  clear eV hbV hcl hin hQ hC hN v0 v1
  go_enter Try.func11, Try.ntmps11
  go_upto_region 1 with (fail)
  rw [HEV.out, HN.out]
  clear HEV
  go_wp2_with fail
  with_reducible refine HCI.out.mono ?_
  rintro e w2 ⟨rfl, hb2⟩
  obtain ⟨K, hK⟩ : ∃ K, circL C C = K := ⟨_, rfl⟩
  have HK := Lib.hid hK
  rw [hK]
  obtain ⟨W2, hW2⟩ : ∃ W2, w2.alloc (.cells #[.int .i64 (tellsF (0, 0) K).1, .int .i64 (tellsF (0, 0) K).2] 34) = W2 := ⟨_, rfl⟩
  have hbW : Below w2.heap.size w2 W2 := by rw [← hW2]; exact below_new w2 _
  have hbX : Below V.heap.size V W2 := hb2.trans (hbW.mono hb2.size)
  have hlV1 := lt_of_block HV1.out
  have HI0 : Hid (CirI N w2.heap.size (.slice Ac C.length cc) (.slice Ai I.length ci) (tellsF (0, 0) (K ++ overL [] (I.take 0))) w W2) := Lib.hid (by
    rw [List.take_zero]
    refine ⟨?_, ?_, ?_, ?_, ?_⟩
    · rw [← HN.out]; exact (hbX.block _ (lt_of_block HV0.out)).trans HV0.out
    · rw [← HN.out]; exact (hbX.block _ (lt_of_block HV1.out)).trans HV1.out
    · rw [← hW2, alloc_get, if_pos rfl]; rw [show overL [] [] = [] from rfl, List.append_nil]
    · rw [← HN.out]; exact Nat.lt_of_lt_of_le hlV1 hb2.size
    · rw [← HN.out]; exact HBV.out.trans (hbX.mono HBV.out.size))
  have HW := Lib.hid hW2
  clear hK hbW hb2 hbX hlV1 hW2 HCI p0 p1 p2 p3 HBV HV0 HV1
  obtain ⟨g, hg⟩ : ∃ g, w2.heap.size = g := ⟨_, rfl⟩
  rw [hg] at HI0
  have HG := Lib.hid hg
  clear hg
  go_upto_region 2 with (fail)
  rw [HW.out, HG.out]
  clear HW HG
  go_wp2_with fail
  go_loopw [4] (fun v wr => ∃ i : Nat, v = .int .i64 i ∧ i ≤ I.length ∧ CirI N g (.slice Ac C.length cc) (.slice Ai I.length ci) (tellsF (0, 0) (K ++ overL [] (I.take i))) w wr) (fun v _ => I.length - (intOf v).toNat)
  case atStart => exact ⟨0, rfl, Nat.zero_le _, HI0.out⟩
  case round =>
    clear HI0
    obtain ⟨i, rfl, hi, hI⟩ := hrel
    obtain ⟨⟨p0, p1, p2, p3⟩, o0, o1⟩ := hI.cells
    have HI := Lib.hid hI
    by_cases hil : i < I.length
    · obtain ⟨x, hx⟩ : ∃ x, I[i]? = some x := ⟨_, List.getElem?_eq_getElem hil⟩
      have hIr : InstsAt Q wr (.slice Ai I.length ci) I := HIW.out.keep hI.bl.size (fun b hb _ => hI.bl.block b (by rw [← HN.out]; exact HQ.out b hb))
      obtain ⟨bb, rfl, hbl, c0, c1, c2, c3, c4, c5⟩ := hIr.at hx
      obtain ⟨W1, hW1⟩ : ∃ W1, wr.alloc (.cells #[.string x.cls, .int .i64 x.atp, .string x.con, .slice none 0 0, .slice none 0 0, .slice none 0 0] 70) = W1 := ⟨_, rfl⟩
      have hbW : Below wr.heap.size wr W1 := by rw [← hW1]; exact below_new wr _
      have hx1 : W1.heap[wr.heap.size]? = some (.cells #[.string x.cls, .int .i64 x.atp, .string x.con, .slice none 0 0, .slice none 0 0, .slice none 0 0] 70) := by rw [← hW1, alloc_get, if_pos rfl]
      obtain ⟨d0, d2⟩ : W1.cell? ⟨wr.heap.size, 0, none⟩ = some (.string x.cls) ∧ W1.cell? ⟨wr.heap.size, 2, none⟩ = some (.string x.con) := by simp [World.cell?, hx1]
      obtain ⟨⟨r0, r1, r2, r3⟩, _⟩ := (hI.on hbW).cells
      have HI1 := Lib.hid (hI.on hbW)
      have HX1 := Lib.hid hx1
      have HRI := Lib.hid (rinst_any (cv := .slice Ac C.length cc) (hIr.keep (w' := W1) hbW.size (fun b _ hl => hbW.block b hl)) ⟨_, _, _, rfl⟩ x.cls x.con)
      have HXX := Lib.hid hx
      have hii : (i : Int) < (I.length : Int) := by omega
      have hi0 : (0 : Int) ≤ (i : Int) := by omega
      have HW := Lib.hid hW1
      obtain ⟨oo, hoo⟩ : ∃ oo, instF I 0 x.cls x.con = oo := ⟨_, rfl⟩
      rw [hoo] at HRI
      have HOO := Lib.hid hoo
      clear hI hx hIr hW1 hbW hx1 HI o0 o1 hoo
      go_upto_region 6 with (fail)
      rw [HW.out]
      clear HW
      go_wp2_with fail
      with_reducible refine HRI.out.mono ?_
      rintro e w3 ⟨rfl, hb3⟩
      have hI3 := HI1.out.on hb3
      have HI3 := Lib.hid hI3
      have hx1 := (hb3.block _ (lt_of_block HX1.out)).trans HX1.out
      have s1 : w3.cell? ⟨wr.heap.size, 1, none⟩ = some (.int .i64 x.atp) := by simp [World.cell?, hx1]
      obtain ⟨_, o0, o1⟩ := hI3.cells
      obtain ⟨dd, hdd⟩ : ∃ dd, oo.getD 0 = dd := ⟨_, rfl⟩
      rw [hdd]
      have HDD : Hid ((instF I 0 x.cls x.con).getD 0 = dd) := Lib.hid (by rw [HOO.out]; exact hdd)
      generalize oo.isSome = ob
      clear HOO HRI HI1 HX1 hdd hx1 hI3 hb3 r0 r1 r2 r3 d0 d2 c0 c1 c2 c3 c4 c5 p0 p1 p2 p3
      by_cases hlt : dd < i
      · have HST := Lib.hid (dup_yes K HXX.out (by rw [HDD.out]; exact hlt))
        have hlt' : (dd : Int) < (i : Int) := by omega
        have HLS := Lib.hid (less_any (tellsF (0, 0) (K ++ overL [] (I.take i))) 34 x.atp (by decide) w3)
        generalize hT : tellsF (0, 0) (K ++ overL [] (I.take i)) = T at *
        clear hT
        go_wp2_with fail
        with_reducible refine HLS.out.mono ?_
        rintro e y3 ⟨rfl, hb4⟩
        have hI4 := HI3.out.on hb4
        have HI4 := Lib.hid hI4
        obtain ⟨_, o2, o3⟩ := hI4.cells
        have f0 : ∀ j, y3.frozen? ⟨g, j, none⟩ = false := fun j => by have h := hI4.out; simp [World.frozen?, h]
        obtain ⟨T', hT'⟩ : ∃ T' : Int × Int, tellF T 34 x.atp = T' := ⟨_, rfl⟩
        rw [hT'] at HST ⊢
        have HREL : Hid (CirI N g (.slice Ac C.length cc) (.slice (some ⟨bb, 0, none⟩) I.length ci) (tellsF (0, 0) (K ++ overL [] (I.take (i + 1)))) w ((y3.setCell ⟨g, 0, none⟩ (.int .i64 T'.1)).setCell ⟨g, 1, none⟩ (.int .i64 T'.2))) := Lib.hid (by rw [HST.out]; exact HI4.out.set T')
        obtain ⟨T1, T2⟩ := T'
        clear hb4 hI4 hT' HLS
        go_wp2_with fail
        go_roundw
        case rel => exact ⟨i + 1, by go_num, by omega, HREL.out⟩
        case measure => simp [intOf]; omega
      · have HST := Lib.hid (dup_no K HXX.out (by rw [HDD.out]; exact hlt))
        have hlt' : ¬ (dd : Int) < (i : Int) := by omega
        have HREL : Hid (CirI N g (.slice Ac C.length cc) (.slice (some ⟨bb, 0, none⟩) I.length ci) (tellsF (0, 0) (K ++ overL [] (I.take (i + 1)))) w w3) := Lib.hid (by rw [HST.out]; exact HI3.out)
        go_wp2_with fail
        go_roundw
        case rel => exact ⟨i + 1, by go_num, by omega, HREL.out⟩
        case measure => simp [intOf]; omega
    · have hie : i = I.length := by omega
      subst hie
      rw [List.take_length] at hI
      have hin : ¬ ((I.length : Nat) : Int) < (I.length : Int) := by omega
      obtain ⟨K2, hK2⟩ : ∃ K2, K ++ overL [] I = K2 := ⟨_, rfl⟩
      rw [hK2] at hI
      have HK2 := Lib.hid hK2
      have HI5 : Hid (CirI N g (.slice Ac C.length cc) (.slice Ai I.length ci) (tellsF (0, 0) (K2 ++ lackL C I (I.take 0))) w wr) := Lib.hid (by
        rw [List.take_zero, show lackL C I [] = [] from rfl, List.append_nil]; exact hI)
      clear hI HI o0 o1 hK2
      go_wp2_with fail
      clear p0 p1 p2 p3
      rename_i wr0 hi0
      go_loopw [8] (fun v wr => ∃ i : Nat, v = .int .i64 i ∧ i ≤ I.length ∧ CirI N g (.slice Ac C.length cc) (.slice Ai I.length ci) (tellsF (0, 0) (K2 ++ lackL C I (I.take i))) w wr) (fun v _ => I.length - (intOf v).toNat)
      case atStart => exact ⟨0, rfl, Nat.zero_le _, HI5.out⟩
      case round =>
        clear HI5
        obtain ⟨i, rfl, hi, hI⟩ := hrel
        obtain ⟨⟨p0, p1, p2, p3⟩, o0, o1⟩ := hI.cells
        have HI := Lib.hid hI
        by_cases hil : i < I.length
        · obtain ⟨x, hx⟩ : ∃ x, I[i]? = some x := ⟨_, List.getElem?_eq_getElem hil⟩
          have hIr : InstsAt Q wr (.slice Ai I.length ci) I := HIW.out.keep hI.bl.size (fun b hb _ => hI.bl.block b (by rw [← HN.out]; exact HQ.out b hb))
          have hCr : ClassesAt Q wr (.slice Ac C.length cc) C := HCW.out.keep hI.bl.size (fun b hb _ => hI.bl.block b (by rw [← HN.out]; exact HQ.out b hb))
          have hQr : ∀ b, Q b → b < wr.heap.size := fun b hb => Nat.lt_of_lt_of_le (HQ.out b hb) hI.bl.size
          obtain ⟨bb, rfl, hbl, c0, c1, c2, c3, c4, c5⟩ := hIr.at hx
          have hii : (i : Int) < (I.length : Int) := by omega
          have hi0 : (0 : Int) ≤ (i : Int) := by omega
          have HXX := Lib.hid hx
          have HBA := Lib.hid (bare_any (x := x) (w := wr.drew) HC.out (hCr.keep (w' := wr.drew) (Nat.le_refl _) (fun b _ _ => rfl)) (hIr.keep (w' := wr.drew) (Nat.le_refl _) (fun b _ _ => rfl)) hQr)
          unfold insV at HBA
          have hS0 : wr.drew.cell? ⟨N, 0, none⟩ = some (.slice none 0 0) ∧ wr.drew.cell? ⟨N, 1, none⟩ = some (.slice Ac C.length cc) ∧ wr.drew.cell? ⟨N, 2, none⟩ = some (.slice (some ⟨bb, 0, none⟩) I.length ci) ∧ wr.drew.cell? ⟨N, 3, none⟩ = some (.slice none 0 0) ∧ wr.drew.cell? ⟨bb, i * 6, none⟩ = some (.string x.cls) ∧ wr.drew.cell? ⟨bb, i * 6 + 1, none⟩ = some (.int .i64 x.atp) ∧ wr.drew.cell? ⟨bb, i * 6 + 2, none⟩ = some (.string x.con) ∧ wr.drew.cell? ⟨bb, i * 6 + 3, none⟩ = some (.slice none 0 0) ∧ wr.drew.cell? ⟨bb, i * 6 + 4, none⟩ = some (.slice none 0 0) ∧ wr.drew.cell? ⟨bb, i * 6 + 5, none⟩ = some (.slice none 0 0) := ⟨p0, p1, p2, p3, c0, c1, c2, c3, c4, c5⟩
          have hlP := lt_of_block hI.arg
          have HKC : Hid (∀ y, Below wr.drew.heap.size wr.drew y → y.cell? ⟨N, 0, none⟩ = some (.slice none 0 0) ∧ y.cell? ⟨N, 1, none⟩ = some (.slice Ac C.length cc) ∧ y.cell? ⟨N, 2, none⟩ = some (.slice (some ⟨bb, 0, none⟩) I.length ci) ∧ y.cell? ⟨N, 3, none⟩ = some (.slice none 0 0) ∧ y.cell? ⟨bb, i * 6, none⟩ = some (.string x.cls) ∧ y.cell? ⟨bb, i * 6 + 1, none⟩ = some (.int .i64 x.atp) ∧ y.cell? ⟨bb, i * 6 + 2, none⟩ = some (.string x.con) ∧ y.cell? ⟨bb, i * 6 + 3, none⟩ = some (.slice none 0 0) ∧ y.cell? ⟨bb, i * 6 + 4, none⟩ = some (.slice none 0 0) ∧ y.cell? ⟨bb, i * 6 + 5, none⟩ = some (.slice none 0 0)) := Lib.hid (fun u hu => ⟨(hu.cell (p := ⟨N, 0, none⟩) hlP).trans p0, (hu.cell (p := ⟨N, 1, none⟩) hlP).trans p1, (hu.cell (p := ⟨N, 2, none⟩) hlP).trans p2, (hu.cell (p := ⟨N, 3, none⟩) hlP).trans p3, (hu.cell (p := ⟨bb, i * 6, none⟩) hbl).trans c0, (hu.cell (p := ⟨bb, i * 6 + 1, none⟩) hbl).trans c1, (hu.cell (p := ⟨bb, i * 6 + 2, none⟩) hbl).trans c2, (hu.cell (p := ⟨bb, i * 6 + 3, none⟩) hbl).trans c3, (hu.cell (p := ⟨bb, i * 6 + 4, none⟩) hbl).trans c4, (hu.cell (p := ⟨bb, i * 6 + 5, none⟩) hbl).trans c5⟩)
          obtain ⟨lq, hlq⟩ : ∃ lq, lackF C I x = lq := ⟨_, rfl⟩
          rw [hlq] at HBA
          have HLQ := Lib.hid hlq
          clear hI hx hIr hCr hQr o0 o1 hlP hlq
          go_wp2_with fail
          go_region_held3 (fun y => y.cell? ⟨N, 0, none⟩ = some (.slice none 0 0) ∧ y.cell? ⟨N, 1, none⟩ = some (.slice Ac C.length cc) ∧ y.cell? ⟨N, 2, none⟩ = some (.slice (some ⟨bb, 0, none⟩) I.length ci) ∧ y.cell? ⟨N, 3, none⟩ = some (.slice none 0 0) ∧ y.cell? ⟨bb, i * 6, none⟩ = some (.string x.cls) ∧ y.cell? ⟨bb, i * 6 + 1, none⟩ = some (.int .i64 x.atp) ∧ y.cell? ⟨bb, i * 6 + 2, none⟩ = some (.string x.con) ∧ y.cell? ⟨bb, i * 6 + 3, none⟩ = some (.slice none 0 0) ∧ y.cell? ⟨bb, i * 6 + 4, none⟩ = some (.slice none 0 0) ∧ y.cell? ⟨bb, i * 6 + 5, none⟩ = some (.slice none 0 0)) (first | exact hS0 | exact hS1) (first | (go_at_call 40; (with_reducible refine HBA.out.mono ?_); rintro e w3 ⟨rfl, hb3⟩; have HB3 := Lib.hid hb3; have hS1 := HKC.out w3 hb3; clear hb3))
          all_goals
            have hI3 := HI.out.on ((Below.refl _ wr).drew.trans HB3.out)
            have HI3 := Lib.hid hI3
            obtain ⟨_, o0, o1⟩ := hI3.cells
            obtain ⟨p0, p1, p2, p3, c0, c1, c2, c3, c4, c5⟩ := hS1
            clear hI3 hS0 HKC HBA HI HB3
            cases lq with
            | true =>
              have HST := Lib.hid (lack_yes K2 HXX.out HLQ.out)
              have HLS : Hid (∀ y, Calls Try.prog 39 _ y _) := Lib.hid (fun y => less_any (tellsF (0, 0) (K2 ++ lackL C I (I.take i))) 35 x.atp (by decide) y)
              have HSETS : Hid (∀ y, Below w3.drew.heap.size w3.drew y → (∀ j, y.frozen? ⟨g, j, none⟩ = false) ∧ (∃ a b, y.cell? ⟨g, 0, none⟩ = some a ∧ y.cell? ⟨g, 1, none⟩ = some b) ∧ ∀ T' : Int × Int, tellF (tellsF (0, 0) (K2 ++ lackL C I (I.take i))) 35 x.atp = T' → CirI N g (.slice Ac C.length cc) (.slice (some ⟨bb, 0, none⟩) I.length ci) (tellsF (0, 0) (K2 ++ lackL C I (I.take (i + 1)))) w ((y.setCell ⟨g, 0, none⟩ (.int .i64 T'.1)).setCell ⟨g, 1, none⟩ (.int .i64 T'.2))) := Lib.hid (fun y hy => by
                have hI4 := HI3.out.on ((Below.refl _ w3).drew.trans hy)
                obtain ⟨_, o2, o3⟩ := hI4.cells
                refine ⟨fun j => by have h := hI4.out; simp [World.frozen?, h], ⟨_, _, o2, o3⟩, fun T' hT' => ?_⟩
                rw [HST.out, hT']; exact hI4.set T')
              obtain ⟨T', hT'⟩ : ∃ T' : Int × Int, tellF (tellsF (0, 0) (K2 ++ lackL C I (I.take i))) 35 x.atp = T' := ⟨_, rfl⟩
              rw [hT'] at HLS
              have HT' := Lib.hid hT'
              clear hT'
              obtain ⟨T1, T2⟩ := T'
              generalize tellsF (0, 0) (K2 ++ lackL C I (I.take i)) = T at *
              obtain ⟨t1, t2⟩ := T
              go_wp2_with fail
              go_region_law (go_simp; go_at_call 39; (with_reducible refine (HLS.out _).mono ?_); rintro e y3 ⟨rfl, hb4⟩; obtain ⟨f0, ⟨o2, o3, h2, h3⟩, hset⟩ := HSETS.out y3 hb4; have HREL := Lib.hid (hset _ HT'.out); clear hset hb4)
              all_goals
                go_wp2_with fail
                go_roundw
                case rel => exact ⟨i + 1, by go_num, by omega, HREL.out⟩
                case measure => simp [intOf]; omega
            | false =>
              have HST := Lib.hid (lack_no K2 HXX.out HLQ.out)
              have HREL : Hid (CirI N g (.slice Ac C.length cc) (.slice (some ⟨bb, 0, none⟩) I.length ci) (tellsF (0, 0) (K2 ++ lackL C I (I.take (i + 1)))) w w3) := Lib.hid (by rw [HST.out]; exact HI3.out)
              go_wp2_with fail
              go_roundw
              case rel => exact ⟨i + 1, by go_num, by omega, HREL.out⟩
              case measure => simp [intOf]; omega
        · have hie : i = I.length := by omega
          subst hie
          rw [List.take_length] at hI o0 o1
          have hin : ¬ ((I.length : Nat) : Int) < (I.length : Int) := by omega
          have hf := hI.fin
          have HF1 := Lib.hid hf.1
          have HF2 := Lib.hid hf.2
          obtain ⟨e0, e1⟩ : wr.cell? ⟨N + 1, 0, none⟩ = some (.int .i64 0) ∧ wr.cell? ⟨N + 1, 1, none⟩ = some (.int .i64 0) := by have h := hI.res; simp [World.cell?, h]
          have f0 : ∀ j, wr.frozen? ⟨N + 1, j, none⟩ = false := fun j => by have h := hI.res; simp [World.frozen?, h]
          clear hI hf HI
          have hR : tellsF (0, 0) (K2 ++ lackL C I I) = refT C I := by rw [← HK2.out, ← HK.out]; rfl
          obtain ⟨T, hT⟩ : ∃ T, refT C I = T := ⟨_, rfl⟩
          have HT := Lib.hid hT
          rw [hR, hT] at o0 o1 HF1 HF2
          obtain ⟨T1, T2⟩ := T
          clear hT hR
          go_wp2_with fail
          rw [HN.out]
          refine ⟨rfl, _, results_row1 rfl _ _ (N + 1) 34 _ (0, 0) _ rfl HF1.out Try.underlying34 Try.size34, by rw [HT.out], HF2.out⟩
end Go.Proofs.Ytjfhncbfbhkhgaa
