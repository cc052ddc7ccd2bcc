/- The mathematics of groups: all ways up are gone, then all ways down, from what was left last to what was left first. No program; no conditions but those that each theorem names. -/
import Derived.Test.YtjfhncbfbhkhgaaWalkM
namespace Go.Proofs.Ytjfhncbfbhkhgaa
section
variable {α : Type}
/-- One thing leads to another one, by things that are all such. -/
inductive WayP (next : α → List α) (P : α → Prop) : α → α → Prop
  | nil {x : α} : P x → WayP next P x x
  | cons {x y z : α} : P x → y ∈ next x → WayP next P y z → WayP next P x z
abbrev Way (next : α → List α) : α → α → Prop := WayP next (fun _ => True)
theorem WayP.imp {next : α → List α} {P Q : α → Prop} (h : ∀ x, P x → Q x) {x y : α} (w : WayP next P x y) : WayP next Q x y := by
  induction w with
  | nil p => exact .nil (h _ p)
  | cons p e _ ih => exact .cons (h _ p) e ih
theorem WayP.trans {next : α → List α} {P : α → Prop} {x y z : α} (h : WayP next P x y) (g : WayP next P y z) : WayP next P x z := by
  induction h with
  | nil _ => exact g
  | cons p e _ ih => exact .cons p e (ih g)
theorem Way.one {next : α → List α} {x y : α} (h : y ∈ next x) : Way next x y := .cons trivial h (.nil trivial)
end
section
variable {α : Type} [DecidableEq α]
/-- The walk that tells what it leaves. -/
def leaveK (next : α → List α) : Wk α (List α) := ⟨next, fun st _ => st, fun st n => st ++ [n]⟩
/-- The walk that tells what it comes to. -/
def comeK (next : α → List α) : Wk α (List α) := ⟨next, fun st n => st ++ [n], fun st _ => st⟩
/-- What a thing that was left leads to: what was left ahead of it, itself, or what leads to all that was left between. -/
def Edge (next : α → List α) (path : List α) (s1 : List α) (b : α) (s2 : List α) (c : α) : Prop :=
  c ∈ s1 ∨ c = b ∨ (c ∈ path ∧ ∀ z, z ∈ b :: s2 → Way next c z) ∨ (∃ t1 t2, s2 = t1 ++ c :: t2 ∧ ∀ z, z ∈ b :: t1 → Way next c z)
structure UpI (next : α → List α) (d : DS α (List α)) : Prop where
  seen : ∀ x, x ∈ d.seen ↔ x ∈ d.st ∨ x ∈ d.path.map Prod.fst
  nodup : d.seen.Nodup
  stn : (d.st ++ d.path.map Prod.fst).Nodup
  chain : d.path.Pairwise (fun a b => Way next b.1 a.1)
  todo : ∀ g l, (g, l) ∈ d.path → (∀ c ∈ l, c ∈ next g) ∧ ∀ c ∈ next g, c ∈ l ∨ c ∈ d.seen
  edge : ∀ s1 b s2, d.st = s1 ++ b :: s2 → ∀ c ∈ next b, Edge next (d.path.map Prod.fst) s1 b s2 c
theorem UpI.enter {next : α → List α} {d : DS α (List α)} (h : UpI next d) {x : α} (hc : ∀ g ∈ d.path, Way next g.1 x) : UpI next ((leaveK next).enter x d) := by
  unfold Wk.enter
  split
  · exact h
  · rename_i hx
    have hx' : x ∉ d.st ∧ x ∉ d.path.map Prod.fst := ⟨fun h9 => hx ((h.seen x).2 (.inl h9)), fun h9 => hx ((h.seen x).2 (.inr h9))⟩
    refine ⟨fun y => ?_, List.nodup_cons.2 ⟨hx, h.nodup⟩, ?_, List.pairwise_cons.2 ⟨hc, h.chain⟩, fun g l hg => ?_, fun s1 b s2 e c hcb => ?_⟩
    · show y ∈ x :: d.seen ↔ y ∈ d.st ∨ y ∈ x :: d.path.map Prod.fst
      rw [List.mem_cons, List.mem_cons, h.seen y]
      constructor
      · rintro (h9 | h9 | h9)
        · exact .inr (.inl h9)
        · exact .inl h9
        · exact .inr (.inr h9)
      · rintro (h9 | h9 | h9)
        · exact .inr (.inl h9)
        · exact .inl h9
        · exact .inr (.inr h9)
    · show (d.st ++ (x :: d.path.map Prod.fst)).Nodup
      have h9 := h.stn
      rw [List.nodup_append] at h9 ⊢
      refine ⟨h9.1, List.nodup_cons.2 ⟨hx'.2, h9.2.1⟩, fun a ha b hb => ?_⟩
      rcases List.mem_cons.1 hb with rfl | hb
      · exact fun e => hx'.1 (e ▸ ha)
      · exact h9.2.2 a ha b hb
    · rcases List.mem_cons.1 hg with e | hg
      · injection e with e1 e2; subst e1; subst e2
        exact ⟨fun c hc => hc, fun c hc => .inl hc⟩
      · exact ⟨(h.todo g l hg).1, fun c hc => ((h.todo g l hg).2 c hc).imp id (List.mem_cons_of_mem _)⟩
    · rcases h.edge s1 b s2 e c hcb with h9 | h9 | ⟨h9, h8⟩ | h9
      · exact .inl h9
      · exact .inr (.inl h9)
      · exact .inr (.inr (.inl ⟨List.mem_cons_of_mem _ h9, h8⟩))
      · exact .inr (.inr (.inr h9))
theorem UpI.step {next : α → List α} {d : DS α (List α)} (h : UpI next d) : UpI next ((leaveK next).step d) := by
  obtain ⟨seen, path, st⟩ := d
  unfold Wk.step
  split
  · exact h
  · rename_i n p e
    simp only at e; subst e
    have hch := List.pairwise_cons.1 h.chain
    refine ⟨fun y => ?_, h.nodup, ?_, hch.2, fun g l hg => h.todo g l (List.mem_cons_of_mem _ hg), fun s1 b s2 e c hcb => ?_⟩
    · have h9 := h.seen y
      show y ∈ seen ↔ y ∈ st ++ [n] ∨ y ∈ p.map Prod.fst
      rw [h9]
      simp only [List.map_cons, List.mem_cons, List.mem_append, List.not_mem_nil, or_false]
      constructor
      · rintro (h9 | h9 | h9)
        · exact .inl (.inl h9)
        · exact .inl (.inr h9)
        · exact .inr h9
      · rintro ((h9 | h9) | h9)
        · exact .inl h9
        · exact .inr (.inl h9)
        · exact .inr (.inr h9)
    · have h9 := h.stn
      show ((st ++ [n]) ++ p.map Prod.fst).Nodup
      rw [List.append_assoc]; exact h9
    · have e' : st ++ [n] = s1 ++ b :: s2 := e
      rcases List.eq_nil_or_concat s2 with h9 | ⟨s3, m, h9⟩
      · subst h9
        obtain ⟨e1, e2⟩ := List.append_inj' e' rfl
        injection e2 with e2 _
        subst e1; subst e2
        rcases ((h.todo n [] (List.mem_cons_self ..)).2 c hcb) with h8 | h8
        · cases h8
        · rcases (h.seen c).1 h8 with h7 | h7
          · exact .inl h7
          · rcases List.mem_cons.1 h7 with h6 | h6
            · exact .inr (.inl h6)
            · refine .inr (.inr (.inl ⟨h6, fun z hz => ?_⟩))
              obtain ⟨g, hg, rfl⟩ := List.mem_map.1 h6
              rcases List.mem_cons.1 hz with rfl | hz
              · exact hch.1 g hg
              · cases hz
      · rw [List.concat_eq_append] at h9
        subst h9
        have e2 : st ++ [n] = (s1 ++ b :: s3) ++ [m] := by rw [e']; simp
        obtain ⟨e3, e4⟩ := List.append_inj' e2 rfl
        injection e4 with e4 _
        subst e4
        rcases h.edge s1 b s3 e3 c hcb with h8 | h8 | ⟨h8, h7⟩ | ⟨t1, t2, h8, h7⟩
        · exact .inl h8
        · exact .inr (.inl h8)
        · rcases List.mem_cons.1 h8 with h6 | h6
          · have h6' : c = n := h6
            subst h6'
            exact .inr (.inr (.inr ⟨s3, [], rfl, h7⟩))
          · refine .inr (.inr (.inl ⟨h6, fun z hz => ?_⟩))
            rcases List.mem_cons.1 hz with rfl | hz
            · exact h7 _ (List.mem_cons_self ..)
            · rcases List.mem_append.1 hz with hz | hz
              · exact h7 z (List.mem_cons_of_mem _ hz)
              · obtain ⟨g, hg, rfl⟩ := List.mem_map.1 h6
                rcases List.mem_cons.1 hz with rfl | hz
                · exact hch.1 g hg
                · cases hz
        · exact .inr (.inr (.inr ⟨t1, t2 ++ [n], by rw [h8]; simp, h7⟩))
  · rename_i n x l p e
    simp only at e; subst e
    have hch := List.pairwise_cons.1 h.chain
    have hx : x ∈ next n := (h.todo n (x :: l) (List.mem_cons_self ..)).1 x (List.mem_cons_self ..)
    have hw : ∀ g ∈ (n, l) :: p, Way next g.1 x := fun g hg => by
      rcases List.mem_cons.1 hg with rfl | hg
      · exact Way.one hx
      · exact (hch.1 g hg).trans (Way.one hx)
    -- the top's row is one shorter; what was taken is come to behind it
    have hcore : ∀ (seen' : List α) (path' : List (α × List α)), x ∈ seen' → (∀ y, y ∈ seen → y ∈ seen') → (∀ g l', (g, l') ∈ path' → (g, l') = (n, l) ∨ (g, l') ∈ p ∨ (g, l') = (x, next x)) → ∀ g l', (g, l') ∈ path' → (∀ c ∈ l', c ∈ next g) ∧ ∀ c ∈ next g, c ∈ l' ∨ c ∈ seen' := fun seen' path' hx' hs hp g l' hg => by
      rcases hp g l' hg with e | h9 | e
      · injection e with e1 e2; subst e1; subst e2
        have h8 := h.todo g (x :: l') (List.mem_cons_self ..)
        refine ⟨fun c hc => h8.1 c (List.mem_cons_of_mem _ hc), fun c hc => ?_⟩
        rcases h8.2 c hc with h7 | h7
        · rcases List.mem_cons.1 h7 with rfl | h7
          · exact .inr hx'
          · exact .inl h7
        · exact .inr (hs c h7)
      · have h8 := h.todo g l' (List.mem_cons_of_mem _ h9)
        exact ⟨h8.1, fun c hc => (h8.2 c hc).imp id (hs c)⟩
      · injection e with e1 e2; subst e1; subst e2
        exact ⟨fun c hc => hc, fun c hc => .inl hc⟩
    by_cases hs : x ∈ seen
    · have he : (leaveK next).enter x ⟨seen, (n, l) :: p, st⟩ = ⟨seen, (n, l) :: p, st⟩ := by unfold Wk.enter; rw [if_pos hs]
      rw [he]
      refine ⟨h.seen, h.nodup, h.stn, List.pairwise_cons.2 ⟨hch.1, hch.2⟩, ?_, h.edge⟩
      exact hcore seen _ hs (fun _ h => h) (fun g l' hg => by
        rcases List.mem_cons.1 hg with e | hg
        · exact .inl e
        · exact .inr (.inl hg))
    · have he : (leaveK next).enter x ⟨seen, (n, l) :: p, st⟩ = ⟨x :: seen, (x, next x) :: (n, l) :: p, st⟩ := by unfold Wk.enter; rw [if_neg hs]; rfl
      rw [he]
      have hx' : x ∉ st ∧ x ∉ ((n, x :: l) :: p).map Prod.fst := ⟨fun h9 => hs ((h.seen x).2 (.inl h9)), fun h9 => hs ((h.seen x).2 (.inr h9))⟩
      refine ⟨fun y => ?_, List.nodup_cons.2 ⟨hs, h.nodup⟩, ?_, List.pairwise_cons.2 ⟨hw, List.pairwise_cons.2 ⟨hch.1, hch.2⟩⟩, ?_, fun s1 b s2 e c hcb => ?_⟩
      · show y ∈ x :: seen ↔ y ∈ st ∨ y ∈ x :: ((n, l) :: p).map Prod.fst
        have h9 := h.seen y
        rw [List.mem_cons, List.mem_cons, h9]
        constructor
        · rintro (h9 | h9 | h9)
          · exact .inr (.inl h9)
          · exact .inl h9
          · exact .inr (.inr h9)
        · rintro (h9 | h9 | h9)
          · exact .inr (.inl h9)
          · exact .inl h9
          · exact .inr (.inr h9)
      · have h9 := h.stn
        show (st ++ (x :: ((n, l) :: p).map Prod.fst)).Nodup
        rw [List.nodup_append] at h9 ⊢
        refine ⟨h9.1, List.nodup_cons.2 ⟨hx'.2, h9.2.1⟩, fun a ha b hb => ?_⟩
        rcases List.mem_cons.1 hb with rfl | hb
        · exact fun e => hx'.1 (e ▸ ha)
        · exact h9.2.2 a ha b hb
      · exact hcore (x :: seen) _ (List.mem_cons_self ..) (fun _ h => List.mem_cons_of_mem _ h) (fun g l' hg => by
          rcases List.mem_cons.1 hg with e | hg
          · exact .inr (.inr e)
          · rcases List.mem_cons.1 hg with e | hg
            · exact .inl e
            · exact .inr (.inl hg))
      · rcases h.edge s1 b s2 e c hcb with h9 | h9 | ⟨h9, h8⟩ | h9
        · exact .inl h9
        · exact .inr (.inl h9)
        · exact .inr (.inr (.inl ⟨List.mem_cons_of_mem _ h9, h8⟩))
        · exact .inr (.inr (.inr h9))
/-- What leads to r by things that were left ahead of r, r leads to. -/
theorem way_back {next : α → List α} {L s t : List α} {r : α} (hL : L = s ++ r :: t) (hn : L.Nodup) (hE : ∀ s1 b s2, L = s1 ++ b :: s2 → ∀ c ∈ next b, Edge next [] s1 b s2 c) {P : α → Prop} (hP : ∀ z, P z → z ∈ s ++ [r]) {x r' : α} (h : WayP next P x r') (hr : r = r') :
    ∃ u v, s ++ [r] = u ++ v ∧ x ∈ v ∧ ∀ z ∈ v, Way next r z := by
  induction h with
  | nil _ => subst hr; exact ⟨s, [r], rfl, by simp, fun z hz => by simp at hz; subst hz; exact .nil trivial⟩
  | @cons x y r' hx hxy _ ih =>
    subst hr
    obtain ⟨u, v, e, hyv, hall⟩ := ih rfl
    replace hx := hP x hx
    by_cases hxv : x ∈ v
    · exact ⟨u, v, e, hxv, hall⟩
    · rw [e] at hx
      have hxu : x ∈ u := (List.mem_append.1 hx).resolve_right hxv
      obtain ⟨u1, u2, rfl⟩ := List.append_of_mem hxu
      have hL2 : L = u1 ++ x :: (u2 ++ (v ++ t)) := by
        rw [hL, show s ++ r :: t = (s ++ [r]) ++ t by simp, e]; simp
      rw [hL2] at hn
      have hnd := List.nodup_append.1 hn
      have hnd2 := List.nodup_cons.1 hnd.2.1
      have hnd3 := List.nodup_append.1 hnd2.2
      have hy4 : y ∈ u2 ++ (v ++ t) := List.mem_append_right _ (List.mem_append_left _ hyv)
      refine ⟨u1, x :: u2 ++ v, by rw [e]; simp, by simp, ?_⟩
      have hry : Way next r y := hall y hyv
      rcases hE u1 x _ hL2 y hxy with h9 | h9 | ⟨h9, _⟩ | ⟨t1, t2, h9, h8⟩
      · exact absurd rfl (hnd.2.2 y h9 y (List.mem_cons_of_mem _ hy4))
      · subst h9; exact absurd hy4 hnd2.1
      · cases h9
      · have hyu : y ∉ u2 := fun h7 => hnd3.2.2 y h7 y (List.mem_append_left _ hyv) rfl
        have hsub : ∀ z ∈ u2, z ∈ t1 := by
          rcases List.append_eq_append_iff.1 h9 with ⟨a, h7, h6⟩ | ⟨a, h7, h6⟩
          · exact fun z hz => by rw [h7]; exact List.mem_append_left _ hz
          · cases a with
            | nil => rw [List.append_nil] at h7; exact fun z hz => h7 ▸ hz
            | cons q a => injection h6 with h6 _; subst h6; exact absurd (by rw [h7]; simp) hyu
        intro z hz
        rcases List.mem_append.1 hz with hz | hz
        · rcases List.mem_cons.1 hz with rfl | hz
          · exact hry.trans (h8 _ (List.mem_cons_self ..))
          · exact hry.trans (h8 z (List.mem_cons_of_mem _ (hsub z hz)))
        · exact hall z hz
end
end Go.Proofs.Ytjfhncbfbhkhgaa
