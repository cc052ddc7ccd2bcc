/- The document's Turned. Conditions: those that each theorem names. -/
import Derived.Test.YtjfhncbfbhkhgaaMadB
namespace Go.Proofs.Ytjfhncbfbhkhgaa
open Go.RowKit
/-- Classes in memory, their rows named. -/
theorem ClassesAt.split {Q : Nat → Prop} {w : World} {v : Value} {C : List Cls} (h : ClassesAt Q w v C) : ∃ L : List (Cls × Value × Value), L.map (·.1) = C ∧ (∀ x ∈ L, StrsAt Q w x.2.1 x.1.supers ∧ SigsAt Q w x.2.2 x.1.meths) ∧
    ∃ A c, v = .slice A L.length c ∧ L.length ≤ c ∧ c ≤ maxLen ∧ (L = [] ∨ ∃ b, A = some ⟨b, 0, none⟩ ∧ b < w.heap.size ∧ Q b ∧ ∀ i x, L[i]? = some x → ∀ j u, (clsC x)[j]? = some u → w.cell? ⟨b, i * 6 + j, none⟩ = some u) := by
  obtain ⟨A, c, e, h1, h2, hr⟩ := h
  rcases hr with rfl | ⟨b, e9, hq, hb, hc⟩
  · exact ⟨[], rfl, fun x h => (by cases h), A, c, e, h1, h2, .inl rfl⟩
  · have hx : ∀ i : Nat, ∃ p : Value × Value, ∀ h : i < C.length, StrsAt Q w p.1 C[i].supers ∧ SigsAt Q w p.2 C[i].meths ∧ ∀ j u, (clsC (C[i], p))[j]? = some u → w.cell? ⟨b, i * 6 + j, none⟩ = some u := fun i => by
      by_cases h : i < C.length
      · obtain ⟨sv, mv, c0, c1, c2, c3, c4, c5, c6, c7⟩ := hc i h
        refine ⟨(sv, mv), fun _ => ⟨c6, c7, fun j u hu => ?_⟩⟩
        have hj := (List.getElem?_eq_some_iff.1 hu).1
        simp [clsC] at hj
        rcases (by omega : j = 0 ∨ j = 1 ∨ j = 2 ∨ j = 3 ∨ j = 4 ∨ j = 5) with rfl | rfl | rfl | rfl | rfl | rfl <;> (simp [clsC] at hu; subst hu; assumption)
      · exact ⟨(.slice none 0 0, .slice none 0 0), fun h' => absurd h' h⟩
    obtain ⟨f, hf⟩ := Classical.axiomOfChoice hx
    have hlen : ((List.range C.length).pmap (fun i (h : i < C.length) => (C[i], f i)) (fun i hi => List.mem_range.1 hi)).length = C.length := by simp
    have hget : ∀ i x, ((List.range C.length).pmap (fun i (h : i < C.length) => (C[i], f i)) (fun i hi => List.mem_range.1 hi))[i]? = some x → ∃ h : i < C.length, x = (C[i], f i) := fun i x hi => by
      obtain ⟨h1, h2⟩ := List.getElem?_eq_some_iff.1 hi
      have h3 : i < C.length := by simpa using h1
      refine ⟨h3, ?_⟩
      rw [← h2]; simp
    refine ⟨(List.range C.length).pmap (fun i (h : i < C.length) => (C[i], f i)) (fun i hi => List.mem_range.1 hi), ?_, ?_, A, c, by rw [hlen]; exact e, by rw [hlen]; exact h1, h2, .inr ⟨b, e9, hb, hq, fun i x hi j u hu => ?_⟩⟩
    · apply List.ext_getElem
      · simp
      · intro i h1 h2; simp
    · intro x hx
      obtain ⟨i, hi⟩ := List.getElem?_of_mem hx
      obtain ⟨h, rfl⟩ := hget i x hi
      exact ⟨(hf i h).1, (hf i h).2.1⟩
    · obtain ⟨h, rfl⟩ := hget i x hi
      exact (hf i h).2.2 j u hu
/-- A row of classes that a call owns, their rows elsewhere. -/
theorem ClassesAt.of_own {Q : Nat → Prop} {B : Nat} {w : World} {v : Value} {L : List (Cls × Value × Value)} (ho : w.ownsRow B 59 6 v L.length (clsCs L)) (hr : ∀ x ∈ L, StrsAt Q w x.2.1 x.1.supers ∧ SigsAt Q w x.2.2 x.1.meths) : ClassesAt (fun b => B ≤ b ∨ Q b) w v (L.map (·.1)) := by
  obtain ⟨A, c, e, hc, hm⟩ := own_form ho
  refine ⟨A, c, by rw [List.length_map]; exact e, by rw [List.length_map]; exact hc, hm, ?_⟩
  rcases ho.2 with ⟨h1, h2⟩ | ⟨g, cap, cur, h1, h2, h3, h4, h5, h6, h7⟩
  · exact .inl (by rw [List.eq_nil_of_length_eq_zero h2]; rfl)
  · rw [h1] at e; injection e with e1 e2 e3
    subst e3
    refine .inr ⟨g, e1.symm, .inl h2, lt_of_block h3, fun i hi => ?_⟩
    rw [h1] at ho
    have hi' : i < L.length := by simpa using hi
    have hx : L[i]? = some L[i] := List.getElem?_eq_getElem hi'
    have t : ∀ r, r < 6 → w.cell? ⟨g, i * 6 + r, none⟩ = (clsC L[i])[r]? := fun r hr => (ho.cellAt (i * 6 + r) (by omega)).trans (flatN (f := clsC) (fun _ => rfl) L i r _ hx hr)
    have eL : (L.map (·.1))[i] = L[i].1 := List.getElem_map ..
    obtain ⟨s1, A', c', e', q1, q2, q3⟩ := hr _ (List.getElem_mem hi')
    rw [eL]
    exact ⟨L[i].2.1, L[i].2.2, t 0 (by omega), t 1 (by omega), t 2 (by omega), t 3 (by omega), t 4 (by omega), t 5 (by omega), s1.mono (fun b hb => .inr hb), A', c', e', q1, q2, q3.imp id (fun ⟨b, e, hp, r⟩ => ⟨b, e, .inr hp, r⟩)⟩
def TurnedRes (C : List Cls) (I : List Ins) (w : World) (e : Ending) (w' : World) : Prop :=
  ∃ cv iv, e = .returned (.agg #[.slice none 0 0, cv, iv, .slice none 0 0]) ∧ ClassesAt (fun b => b < w'.heap.size) w' cv C.reverse ∧ InstsAt (fun b => b < w'.heap.size) w' iv I.reverse ∧ (iv = .slice none 0 0 ∨ ∃ ad n c, iv = .slice (some ad) n c) ∧ Below w.heap.size w w'
/-- What is turned so far, in its box. -/
structure TurI (N : Nat) (cv0 iv0 : Value) (L : List (Cls × Value × Value)) (I : List Ins) (w wr : World) : Prop where
  arg : wr.heap[N]? = some (.cells #[.slice none 0 0, cv0, iv0, .slice none 0 0] 28)
  res : wr.heap[N + 1]? = some (.cells #[.slice none 0 0, .slice none 0 0, .slice none 0 0, .slice none 0 0] 28)
  out : ∃ cv iv, wr.heap[N + 1 + 1]? = some (.cells #[.slice none 0 0, cv, iv, .slice none 0 0] 28) ∧ wr.ownsRow (N + 1 + 1 + 1) 59 6 cv L.length (clsCs L) ∧ wr.ownsRow (N + 1 + 1 + 1) 70 6 iv I.length (insCs I)
  bl : Below N w wr
theorem TurI.cls {N : Nat} {cv0 iv0 : Value} {L : List (Cls × Value × Value)} {I : List Ins} {w wr w1 w3 : World} (h : TurI N cv0 iv0 L I w wr) {x : Cls × Value × Value} {cv iv cv' : Value} (hv : wr.heap[N + 1 + 1]? = some (.cells #[.slice none 0 0, cv, iv, .slice none 0 0] 28)) (ho : wr.ownsRow (N + 1 + 1 + 1) 59 6 cv L.length (clsCs L)) (hi : wr.ownsRow (N + 1 + 1 + 1) 70 6 iv I.length (insCs I))
    (hb : Below wr.heap.size wr w1) (ho3 : w3.ownsRow (N + 1 + 1 + 1) 59 6 cv' (L.length + 1) (clsCs L ++ clsC x)) (hg : w1.grownBy w3 cv.ownBlock) :
    TurI N cv0 iv0 (L ++ [x]) I w (w3.setCell ⟨N + 1 + 1, 1, none⟩ cv') ∧ w3.cell? ⟨N + 1 + 1, 1, none⟩ = some cv ∧ w3.frozen? ⟨N + 1 + 1, 1, none⟩ = false := by
  have hl := lt_of_block hv
  have hbs := hb.size
  have hlow : ∀ k, k ≤ N + 1 + 1 → w3.heap[k]? = wr.heap[k]? := fun k hk => (hg.block k (by omega) (fun e => by have := (World.ownsRow.lt ho k e.symm).1; omega)).trans (hb.block k (by omega))
  have hN := (hlow _ (Nat.le_refl _)).trans hv
  have hset : ∀ k, k ≠ N + 1 + 1 → (w3.setCell ⟨N + 1 + 1, 1, none⟩ cv').heap[k]? = w3.heap[k]? := fun k hk => Below.heap_setCell _ _ _ _ hk
  refine ⟨⟨(hset N (by omega)).trans ((hlow N (by omega)).trans h.arg), (hset (N + 1) (by omega)).trans ((hlow (N + 1) (by omega)).trans h.res), ⟨cv', iv, ?_, ?_, ?_⟩, ?_⟩, by simp [World.cell?, hN], by simp [World.frozen?, hN]⟩
  · rw [heap_setCell_same w3 (N + 1 + 1) 1 _ 28 cv' hN]; rfl
  · rw [List.length_append, List.length_singleton, clsCs_snoc]
    exact own_keep ho3 (fun g hgo => hset g (by have := (World.ownsRow.lt ho3 g hgo).1; omega))
  · exact own_keep hi (fun g hgo => by
      have hlt := World.ownsRow.lt hi g hgo
      rw [hset g (by omega), hg.block g (by omega) (fun e9 => own_apart hi ho (by decide) g hgo e9.symm), hb.block g hlt.2])
  · have b3 : Below N w1 w3 := ⟨hg.os, hg.tape, hg.output, hg.size, fun k hk => hg.block k (by omega) (fun e => by have := (World.ownsRow.lt ho k e.symm).1; omega)⟩
    exact ((h.bl.trans (hb.mono (by omega))).trans b3).trans (((Fr.refl (fun k => k = N + 1 + 1) w3).setCell (b := N + 1 + 1) rfl _).below (by have := hg.size; omega) (fun k e => by omega))
theorem TurI.ins {N : Nat} {cv0 iv0 : Value} {L : List (Cls × Value × Value)} {I : List Ins} {w wr w1 w3 : World} (h : TurI N cv0 iv0 L I w wr) {x : Ins} {cv iv iv' : Value} (hv : wr.heap[N + 1 + 1]? = some (.cells #[.slice none 0 0, cv, iv, .slice none 0 0] 28)) (hi : wr.ownsRow (N + 1 + 1 + 1) 59 6 cv L.length (clsCs L)) (ho : wr.ownsRow (N + 1 + 1 + 1) 70 6 iv I.length (insCs I))
    (hb : Below wr.heap.size wr w1) (ho3 : w3.ownsRow (N + 1 + 1 + 1) 70 6 iv' (I.length + 1) (insCs I ++ insC x)) (hg : w1.grownBy w3 iv.ownBlock) :
    TurI N cv0 iv0 L (I ++ [x]) w (w3.setCell ⟨N + 1 + 1, 2, none⟩ iv') ∧ w3.cell? ⟨N + 1 + 1, 2, none⟩ = some iv ∧ w3.frozen? ⟨N + 1 + 1, 2, none⟩ = false := by
  have hl := lt_of_block hv
  have hbs := hb.size
  have hlow : ∀ k, k ≤ N + 1 + 1 → w3.heap[k]? = wr.heap[k]? := fun k hk => (hg.block k (by omega) (fun e => by have := (World.ownsRow.lt ho k e.symm).1; omega)).trans (hb.block k (by omega))
  have hN := (hlow _ (Nat.le_refl _)).trans hv
  have hset : ∀ k, k ≠ N + 1 + 1 → (w3.setCell ⟨N + 1 + 1, 2, none⟩ iv').heap[k]? = w3.heap[k]? := fun k hk => Below.heap_setCell _ _ _ _ hk
  refine ⟨⟨(hset N (by omega)).trans ((hlow N (by omega)).trans h.arg), (hset (N + 1) (by omega)).trans ((hlow (N + 1) (by omega)).trans h.res), ⟨cv, iv', ?_, ?_, ?_⟩, ?_⟩, by simp [World.cell?, hN], by simp [World.frozen?, hN]⟩
  · rw [heap_setCell_same w3 (N + 1 + 1) 2 _ 28 iv' hN]; rfl
  · exact own_keep hi (fun g hgo => by
      have hlt := World.ownsRow.lt hi g hgo
      rw [hset g (by omega), hg.block g (by omega) (fun e9 => own_apart hi ho (by decide) g hgo e9.symm), hb.block g hlt.2])
  · rw [List.length_append, List.length_singleton, insCs_snoc]
    exact own_keep ho3 (fun g hgo => hset g (by have := (World.ownsRow.lt ho3 g hgo).1; omega))
  · have b3 : Below N w1 w3 := ⟨hg.os, hg.tape, hg.output, hg.size, fun k hk => hg.block k (by omega) (fun e => by have := (World.ownsRow.lt ho k e.symm).1; omega)⟩
    exact ((h.bl.trans (hb.mono (by omega))).trans b3).trans (((Fr.refl (fun k => k = N + 1 + 1) w3).setCell (b := N + 1 + 1) rfl _).below (by have := hg.size; omega) (fun k e => by omega))
theorem take_rev {α : Type} {l : List α} {k : Nat} (h : k < l.length) : l.reverse.take (l.length - k) = l.reverse.take (l.length - (k + 1)) ++ [l[k]] := by
  have h1 : l.length - k = (l.length - (k + 1)) + 1 := by omega
  rw [h1, List.take_add_one, List.getElem?_reverse (by omega), show l.length - 1 - (l.length - (k + 1)) = k by omega, List.getElem?_eq_getElem h]; rfl
theorem turned_fin {Q : Nat → Prop} {N : Nat} {cv0 iv0 cv iv : Value} {L : List (Cls × Value × Value)} {C : List Cls} {I : List Ins} {w wr : World} (h : TurI N cv0 iv0 L.reverse I.reverse w wr) (hN : w.heap.size = N) (hL : L.map (·.1) = C) (hr : ∀ x ∈ L, StrsAt Q w x.2.1 x.1.supers ∧ SigsAt Q w x.2.2 x.1.meths) (hQ : ∀ b, Q b → b < N)
    (ho : wr.ownsRow (N + 1 + 1 + 1) 59 6 cv L.reverse.length (clsCs L.reverse)) (hi : wr.ownsRow (N + 1 + 1 + 1) 70 6 iv I.reverse.length (insCs I.reverse)) :
    TurnedRes C I w (.returned (.agg #[.slice none 0 0, cv, iv, .slice none 0 0])) ((((wr.setCell ⟨N + 1, 0, none⟩ (.slice none 0 0)).setCell ⟨N + 1, 1, none⟩ cv).setCell ⟨N + 1, 2, none⟩ iv).setCell ⟨N + 1, 3, none⟩ (.slice none 0 0)) ∧
      ((((wr.setCell ⟨N + 1, 0, none⟩ (.slice none 0 0)).setCell ⟨N + 1, 1, none⟩ cv).setCell ⟨N + 1, 2, none⟩ iv).setCell ⟨N + 1, 3, none⟩ (.slice none 0 0)).heap[N + 1]? = some (.cells #[.slice none 0 0, cv, iv, .slice none 0 0] 28) := by
  have e1 := heap_setCell_same wr (N + 1) 0 _ 28 (.slice none 0 0) h.res
  have e2 := heap_setCell_same _ (N + 1) 1 _ 28 cv e1
  have e3 := heap_setCell_same _ (N + 1) 2 _ 28 iv e2
  have e4 := heap_setCell_same _ (N + 1) 3 _ 28 (.slice none 0 0) e3
  have hF := ((((Fr.refl (fun k => k = N + 1) wr).setCell (b := N + 1) (o := 0) rfl (.slice none 0 0)).setCell (b := N + 1) (o := 1) rfl cv).setCell (b := N + 1) (o := 2) rfl iv).setCell (b := N + 1) (o := 3) rfl (.slice none 0 0)
  generalize (((wr.setCell ⟨N + 1, 0, none⟩ (.slice none 0 0)).setCell ⟨N + 1, 1, none⟩ cv).setCell ⟨N + 1, 2, none⟩ iv).setCell ⟨N + 1, 3, none⟩ (.slice none 0 0) = W at *
  have hs := hF.size
  have hws := h.bl.size
  have hr' : ∀ x ∈ L.reverse, StrsAt Q wr x.2.1 x.1.supers ∧ SigsAt Q wr x.2.2 x.1.meths := fun x hx => ⟨(hr x (List.mem_reverse.1 hx)).1.keepB hws (fun b hb _ => h.bl.block b (hQ b hb)), (hr x (List.mem_reverse.1 hx)).2.keep hws (fun b hb _ => h.bl.block b (hQ b hb))⟩
  have hc := ClassesAt.of_own ho hr'
  rw [List.map_reverse, hL] at hc
  have hc' : ClassesAt (fun b => (N + 1 + 1 + 1 ≤ b ∨ Q b) ∧ b < wr.heap.size) wr cv C.reverse := by
    obtain ⟨A, c, e, q1, q2, q3⟩ := hc
    refine ⟨A, c, e, q1, q2, q3.imp id (fun ⟨b, e, hp, hlt, hcc⟩ => ⟨b, e, ⟨hp, hlt⟩, hlt, fun i hi => ?_⟩)⟩
    obtain ⟨sv, mv, c0, c1, c2, c3, c4, c5, c6, c7⟩ := hcc i hi
    refine ⟨sv, mv, c0, c1, c2, c3, c4, c5, ?_, ?_⟩
    · obtain ⟨A, c, e, q1, q2, q3⟩ := c6
      exact ⟨A, c, e, q1, q2, q3.imp id (fun ⟨b, off, e, hp, hlt, r⟩ => ⟨b, off, e, ⟨hp, hlt⟩, hlt, r⟩)⟩
    · obtain ⟨A, c, e, q1, q2, q3⟩ := c7
      exact ⟨A, c, e, q1, q2, q3.imp id (fun ⟨b, e, hp, hlt, r⟩ => ⟨b, e, ⟨hp, hlt⟩, hlt, r⟩)⟩
  refine ⟨⟨cv, iv, rfl, (hc'.keep hs (fun b hb hl => hF.block b hl (fun e => by rcases hb.1 with h9 | h9; omega; have := hQ b h9; omega))).mono (fun b hb => by omega), ((InstsAt.of_own hi).keep hs (fun b hb hl => hF.block b hl (fun e => by omega))).mono (fun b _ hl => hl), ?_, ?_⟩, e4⟩
  · rcases hi.2 with ⟨h1, _⟩ | ⟨g, cap, cur, h1, _⟩
    · exact .inl h1
    · exact .inr ⟨_, _, _, h1⟩
  · rw [hN]
    exact h.bl.trans (hF.below (by have := lt_of_block h.arg; omega) (fun k e => by omega))
set_option maxRecDepth 100000 in
set_option maxHeartbeats 4000000 in
theorem turned_any {Q : Nat → Prop} {C : List Cls} {I : List Ins} {cv iv : Value} {w : World} (hcl : ClassesAt Q w cv C) (hi : InstsAt Q w iv I) (hQ : ∀ b, Q b → b < w.heap.size) (hC : C.length ≤ 1048576) (hI : I.length ≤ 536870912) :
    Calls Try.prog 9 #[.agg #[.slice none 0 0, cv, iv, .slice none 0 0]] w (TurnedRes C I w) := by
  obtain ⟨L, hL, hrows, Ac, cc, rfl, hlc, hcm, hcells⟩ := hcl.split
  obtain ⟨Ai, ci, rfl, hic, him, _⟩ := id hi
  unfold maxLen at hcm him
  have hLl : L.length ≤ 1048576 := by rw [← List.length_map (f := fun x : Cls × Value × Value => x.1), hL]; exact hC
  obtain ⟨V, eV⟩ : ∃ V, V = ((w.alloc (.cells #[.slice none 0 0, .slice Ac L.length cc, .slice Ai I.length ci, .slice none 0 0] 28)).alloc (.cells #[.slice none 0 0, .slice none 0 0, .slice none 0 0, .slice none 0 0] 28)).alloc (.cells #[.slice none 0 0, .slice none 0 0, .slice none 0 0, .slice none 0 0] 28) := ⟨_, rfl⟩
  have hBV : Below w.heap.size w V := by rw [eV]; exact ((below_new _ _).alloc (by simp) _).alloc (by simp; omega) _
  have hVI : TurI w.heap.size (.slice Ac L.length cc) (.slice Ai I.length ci) [] [] w V := by
    refine ⟨?_, ?_, ⟨.slice none 0 0, .slice none 0 0, ?_, World.ownsRow_nil _ _ _ _, World.ownsRow_nil _ _ _ _⟩, hBV⟩
    · rw [eV, alloc_get, if_neg (by first | (simp; done) | (simp; omega)), alloc_get, if_neg (by first | (simp; done) | (simp; omega)), alloc_get, if_pos rfl]
    · rw [eV, alloc_get, if_neg (by first | (simp; done) | (simp; omega)), alloc_get, if_pos (by simp)]
    · rw [eV, alloc_get, if_pos (by simp)]
  have c0 : V.cell? ⟨w.heap.size, 1, none⟩ = some (.slice Ac L.length cc) := by simp [World.cell?, hVI.arg]
  obtain ⟨N, hN⟩ : ∃ N, w.heap.size = N := ⟨_, rfl⟩
  rw [hN] at hVI c0
  have HVI := Lib.hid hVI
  have HEV := Lib.hid eV
  have HI := Lib.hid hi
  have HQ := Lib.hid hQ
  have HR := Lib.hid hrows
  have HCS := Lib.hid hcells
  have HL := Lib.hid hL
  have HN := Lib.hid hN
  have hw1 : IntKind.i64.wrap ((L.length : Int) - 1) = (L.length : Int) - 1 := IntWalk.i64_in _ (by omega)
  clear hcl hi hQ eV hBV hVI hrows hcells hL hN
  go_enter Try.func9, Try.ntmps9
  go_upto_region 2 with (fail)
  rw [← HEV.out, HN.out]
  clear HEV
  go_wp2_with fail
  go_loopw [4] (fun v wr => ∃ (k : Nat) (z : Int), k ≤ L.length ∧ v = .int .i64 z ∧ z = (k : Int) - 1 ∧ TurI N (.slice Ac L.length cc) (.slice Ai I.length ci) (L.reverse.take (L.length - k)) [] w wr) (fun v _ => (intOf v + 1).toNat)
  case atStart => exact ⟨L.length, _, Nat.le_refl _, rfl, rfl, by rw [Nat.sub_self, List.take_zero]; exact HVI.out⟩
  case round =>
    obtain ⟨k, z, hk, rfl, hz, hT⟩ := hrel
    cases k with
    | zero =>
      have hzn : ¬ z ≥ 0 := by omega
      have hzn' : z < 0 := by omega
      rw [Nat.sub_zero, show L.reverse.take L.length = L.reverse from by rw [← List.length_reverse, List.take_length]] at hT
      have y2 : wr.cell? ⟨N, 2, none⟩ = some (.slice Ai I.length ci) := by simp [World.cell?, hT.arg]
      have HT := Lib.hid hT
      have hw2 : IntKind.i64.wrap ((I.length : Int) - 1) = (I.length : Int) - 1 := IntWalk.i64_in _ (by omega)
      clear hT HVI
      go_wp2_with fail
      go_loopw [5] (fun v wr => ∃ (k : Nat) (z : Int), k ≤ I.length ∧ v = .int .i64 z ∧ z = (k : Int) - 1 ∧ TurI N (.slice Ac L.length cc) (.slice Ai I.length ci) L.reverse (I.reverse.take (I.length - k)) w wr) (fun v _ => (intOf v + 1).toNat)
      case atStart => exact ⟨I.length, _, Nat.le_refl _, rfl, rfl, by rw [Nat.sub_self, List.take_zero]; exact HT.out⟩
      case round =>
        obtain ⟨k, z, hk, rfl, hz, hT⟩ := hrel
        cases k with
        | zero =>
          have hzn : ¬ z ≥ 0 := by omega
          have hzn' : z < 0 := by omega
          rw [Nat.sub_zero, show I.reverse.take I.length = I.reverse from by rw [← List.length_reverse, List.take_length]] at hT
          obtain ⟨cvv, ivv, b0, o1, o2⟩ := hT.out
          obtain ⟨Ao, co, rfl, _, _⟩ := own_form o1
          obtain ⟨Ap, cp, rfl, _, _⟩ := own_form o2
          obtain ⟨q0, q1, q2, q3⟩ : wr.cell? ⟨N + 1 + 1, 0, none⟩ = some (.slice none 0 0) ∧ wr.cell? ⟨N + 1 + 1, 1, none⟩ = some (.slice Ao L.reverse.length co) ∧ wr.cell? ⟨N + 1 + 1, 2, none⟩ = some (.slice Ap I.reverse.length cp) ∧ wr.cell? ⟨N + 1 + 1, 3, none⟩ = some (.slice none 0 0) := by simp only [World.cell?, b0]; simp
          obtain ⟨r0, r1, r2, r3⟩ : wr.cell? ⟨N + 1, 0, none⟩ = some (.slice none 0 0) ∧ wr.cell? ⟨N + 1, 1, none⟩ = some (.slice none 0 0) ∧ wr.cell? ⟨N + 1, 2, none⟩ = some (.slice none 0 0) ∧ wr.cell? ⟨N + 1, 3, none⟩ = some (.slice none 0 0) := by simp [World.cell?, hT.res]
          have f0 : ∀ j, wr.frozen? ⟨N + 1, j, none⟩ = false := fun j => by simp [World.frozen?, hT.res]
          have hf := turned_fin (Q := Q) hT HN.out HL.out HR.out (fun b hb => by rw [← HN.out]; exact HQ.out b hb) o1 o2
          have HF1 := Lib.hid hf.1
          have HF2 := Lib.hid hf.2
          clear hf b0 o1 o2 hT HT HR HCS
          generalize L.reverse.length = lr at *
          generalize I.reverse.length = ir at *
          go_wp2_with fail
          refine ⟨rfl, _, results_row1 rfl _ _ (N + 1) 28 _ (0, 0) _ rfl HF2.out Try.underlying28 Try.size28, HF1.out⟩
        | succ k =>
          have hzk : z = (k : Int) := by omega
          subst hzk
          have hkl : k < I.length := by omega
          obtain ⟨x, hx⟩ : ∃ x, I[k]? = some x := ⟨_, List.getElem?_eq_getElem hkl⟩
          obtain ⟨b, e9, hb, c0, c1, c2, c3, c4, c5⟩ := (HI.out.keep (w' := wr) hT.bl.size (fun b hb _ => hT.bl.block b (by rw [← HN.out]; exact HQ.out b hb))).at hx
          subst e9
          have HTK : Hid (I.reverse.take (I.length - k) = I.reverse.take (I.length - (k + 1)) ++ [x]) := Lib.hid (by
            obtain ⟨h, rfl⟩ := List.getElem?_eq_some_iff.1 hx
            exact take_rev h)
          have HLE : Hid ((I.reverse.take (I.length - (k + 1))).length + 1 ≤ 536870912) := Lib.hid (by rw [List.length_take, List.length_reverse]; omega)
          generalize I.reverse.take (I.length - (k + 1)) = P at *
          obtain ⟨cvv, ivv, b0, o1, o2⟩ := hT.out
          obtain ⟨Ao, co, rfl, _, _⟩ := own_form o2
          have d1 : wr.cell? ⟨N + 1 + 1, 2, none⟩ = some (.slice Ao P.length co) := by simp [World.cell?, b0]
          have d0 : wr.cell? ⟨N, 2, none⟩ = some (.slice (some ⟨b, 0, none⟩) I.length ci) := by simp [World.cell?, hT.arg]
          have d1' : (wr.alloc (.cells #[.string x.cls, .int .i64 x.atp, .string x.con, .slice none 0 0, .slice none 0 0, .slice none 0 0] 70)).cell? ⟨N + 1 + 1, 2, none⟩ = some (.slice Ao P.length co) := ((below_new wr _).cell (p := ⟨N + 1 + 1, 2, none⟩) (lt_of_block b0)).trans d1
          obtain ⟨i70, hi70, hz70, hs70, hb70⟩ := info_parts Try.info70
          have hbz : Below wr.heap.size wr (wr.alloc (.cells #[.string x.cls, .int .i64 x.atp, .string x.con, .slice none 0 0, .slice none 0 0, .slice none 0 0] 70)).drew := (below_new wr _).drew
          have HOWZ := Lib.hid (own_on o2 hbz)
          have HNEW : Hid (∀ j u, (insC x)[j]? = some u → (wr.alloc (.cells #[.string x.cls, .int .i64 x.atp, .string x.con, .slice none 0 0, .slice none 0 0, .slice none 0 0] 70)).drew.cell? ((⟨wr.heap.size, 0, none⟩ : Addr).add j) = some u) := Lib.hid (new_cells wr _ 70)
          have HONE : Hid (∀ u ∈ insC x, u.oneCell' = true) := Lib.hid (fun j hj => insCs_one [x] j (by simpa [insCs] using hj))
          have H63 : Hid (P.length + 1 ≤ maxLen) := Lib.hid (by have := HLE.out; unfold maxLen; omega)
          have HBY : Hid ((P.length + 1) * 112 ≤ 140737488355328) := Lib.hid (by have := HLE.out; omega)
          have HBASE : Hid (N + 1 + 1 + 1 ≤ (wr.alloc (.cells #[.string x.cls, .int .i64 x.atp, .string x.con, .slice none 0 0, .slice none 0 0, .slice none 0 0] 70)).drew.heap.size) := Lib.hid (by have := hbz.size; have := lt_of_block b0; omega)
          have HPP : Hid (∀ (gg cap : Nat) (w9 : World), w9.ownsRow (N + 1 + 1 + 1) 70 6 (.slice (some ⟨gg, 0, none⟩) (P.length + 1) cap) (P.length + 1) (insCs P ++ insC x) → (wr.alloc (.cells #[.string x.cls, .int .i64 x.atp, .string x.con, .slice none 0 0, .slice none 0 0, .slice none 0 0] 70)).drew.grownBy w9 (Value.slice Ao P.length co).ownBlock → TurI N (.slice Ac L.length cc) (.slice (some ⟨b, 0, none⟩) I.length ci) L.reverse (P ++ [x]) w (w9.setCell ⟨N + 1 + 1, 2, none⟩ (.slice (some ⟨gg, 0, none⟩) (P.length + 1) cap)) ∧ w9.cell? ⟨N + 1 + 1, 2, none⟩ = some (.slice Ao P.length co) ∧ w9.frozen? ⟨N + 1 + 1, 2, none⟩ = false) := Lib.hid (fun gg cap w9 h1 h2 => hT.ins b0 o1 o2 hbz h1 h2)
          have hk0 : (0 : Int) ≤ (k : Int) := by omega
          have hkl' : (k : Int) < (I.length : Int) := by omega
          have hkg : (k : Int) ≥ 0 := by omega
          have hwk : IntKind.i64.wrap ((k : Int) - 1) = (k : Int) - 1 := IntWalk.i64_in _ (by omega)
          clear hx b0 o1 o2 hbz hT HT HCS hz
          generalize hpl : P.length = pl at *
          generalize insCs P = px at *
          go_wp2_with fail
          go_region_law (first | (refine step_append_lies _ rfl (.tmp 33) (.tmp 39) 25 rfl (N + 1 + 1 + 1) 70 i70 _ 6 112 Try.underlying25 hi70 hz70 hs70 hb70 rfl (by decide) (.slice Ao pl co) pl px rfl HOWZ.out ⟨wr.heap.size, 0, none⟩ 1 1 (insC x) rfl rfl HNEW.out HONE.out (by decide) H63.out HBY.out HBASE.out (wr.heap.size + 1) (by show (wr.alloc _).heap.size = _; simp) ?_; intro gg cap w9 h9 g9 hat _; obtain ⟨k1, k2, k3⟩ := HPP.out gg cap w9 h9 g9; have QQ := Lib.hid k1; clear k1 h9 g9 hat))
          all_goals
            clear k2 k3
            go_wp2
            go_roundw
            case rel => exact ⟨k, _, by omega, rfl, rfl, by rw [HTK.out]; exact QQ.out⟩
            case measure => simp [intOf]
    | succ k =>
      have hzk : z = (k : Int) := by omega
      subst hzk
      have hkl : k < L.length := by omega
      obtain ⟨x, hx⟩ : ∃ x, L[k]? = some x := ⟨_, List.getElem?_eq_getElem hkl⟩
      obtain ⟨b, rfl, hb, hqb, hcc⟩ := HCS.out.resolve_left (fun e => by rw [e] at hkl; simp at hkl)
      have hbN : b < N := by rw [← HN.out]; exact hb
      have t : ∀ (W : World), Below N w W → ∀ j u, (clsC x)[j]? = some u → W.cell? ⟨b, k * 6 + j, none⟩ = some u := fun W hW j u hu => (hW.cell (p := ⟨b, k * 6 + j, none⟩) hbN).trans (hcc k x hx j u hu)
      have c0 : wr.cell? ⟨b, k * 6, none⟩ = some (.string x.1.name) := t wr hT.bl 0 _ rfl
      have c1 : wr.cell? ⟨b, k * 6 + 1, none⟩ = some (.int .i64 x.1.atp) := t wr hT.bl 1 _ rfl
      have c2 : wr.cell? ⟨b, k * 6 + 2, none⟩ = some (.string x.1.var) := t wr hT.bl 2 _ rfl
      have c3 : wr.cell? ⟨b, k * 6 + 3, none⟩ = some (.slice none 0 0) := t wr hT.bl 3 _ rfl
      have c4 : wr.cell? ⟨b, k * 6 + 4, none⟩ = some x.2.1 := t wr hT.bl 4 _ rfl
      have c5 : wr.cell? ⟨b, k * 6 + 5, none⟩ = some x.2.2 := t wr hT.bl 5 _ rfl
      obtain ⟨⟨A1, n1, m1, e1⟩, ⟨A2, n2, m2, e2⟩⟩ : (∃ A n m, x.2.1 = .slice A n m) ∧ ∃ A n m, x.2.2 = .slice A n m := by
        obtain ⟨h1, A, c, h2, _⟩ := HR.out x (List.mem_of_getElem? hx)
        obtain ⟨A', c', h3, _⟩ := h1.form
        exact ⟨⟨_, _, _, h3⟩, ⟨_, _, _, h2⟩⟩
      rw [e1] at c4
      rw [e2] at c5
      have HTK : Hid (L.reverse.take (L.length - k) = L.reverse.take (L.length - (k + 1)) ++ [x]) := Lib.hid (by
        obtain ⟨h, rfl⟩ := List.getElem?_eq_some_iff.1 hx
        exact take_rev h)
      have HLE : Hid ((L.reverse.take (L.length - (k + 1))).length + 1 ≤ 1048576) := Lib.hid (by rw [List.length_take, List.length_reverse]; omega)
      generalize L.reverse.take (L.length - (k + 1)) = P at *
      obtain ⟨cvv, ivv, b0, o1, o2⟩ := hT.out
      obtain ⟨Ao, co, rfl, _, _⟩ := own_form o1
      have d1 : wr.cell? ⟨N + 1 + 1, 1, none⟩ = some (.slice Ao P.length co) := by simp [World.cell?, b0]
      have d0 : wr.cell? ⟨N, 1, none⟩ = some (.slice (some ⟨b, 0, none⟩) L.length cc) := by simp [World.cell?, hT.arg]
      have d1' : (wr.alloc (.cells #[.string x.1.name, .int .i64 x.1.atp, .string x.1.var, .slice none 0 0, .slice A1 n1 m1, .slice A2 n2 m2] 59)).cell? ⟨N + 1 + 1, 1, none⟩ = some (.slice Ao P.length co) := ((below_new wr _).cell (p := ⟨N + 1 + 1, 1, none⟩) (lt_of_block b0)).trans d1
      obtain ⟨i59, hi59, hz59, hs59, hb59⟩ := info_parts Try.info59
      have hbz : Below wr.heap.size wr (wr.alloc (.cells #[.string x.1.name, .int .i64 x.1.atp, .string x.1.var, .slice none 0 0, .slice A1 n1 m1, .slice A2 n2 m2] 59)).drew := (below_new wr _).drew
      have HOWZ := Lib.hid (own_on o1 hbz)
      have HNEW : Hid (∀ j u, (clsC x)[j]? = some u → (wr.alloc (.cells #[.string x.1.name, .int .i64 x.1.atp, .string x.1.var, .slice none 0 0, .slice A1 n1 m1, .slice A2 n2 m2] 59)).drew.cell? ((⟨wr.heap.size, 0, none⟩ : Addr).add j) = some u) := Lib.hid (by
        have := new_cells wr #[.string x.1.name, .int .i64 x.1.atp, .string x.1.var, .slice none 0 0, .slice A1 n1 m1, .slice A2 n2 m2] 59
        rw [← e1, ← e2] at this ⊢; exact this)
      have HONE : Hid (∀ u ∈ clsC x, u.oneCell' = true) := Lib.hid (cls_one x (by rw [e1]; rfl) (by rw [e2]; rfl))
      have H63 : Hid (P.length + 1 ≤ maxLen) := Lib.hid (by have := HLE.out; unfold maxLen; omega)
      have HBY : Hid ((P.length + 1) * 112 ≤ 140737488355328) := Lib.hid (by have := HLE.out; omega)
      have HBASE : Hid (N + 1 + 1 + 1 ≤ (wr.alloc (.cells #[.string x.1.name, .int .i64 x.1.atp, .string x.1.var, .slice none 0 0, .slice A1 n1 m1, .slice A2 n2 m2] 59)).drew.heap.size) := Lib.hid (by have := hbz.size; have := lt_of_block b0; omega)
      have HPP : Hid (∀ (gg cap : Nat) (w9 : World), w9.ownsRow (N + 1 + 1 + 1) 59 6 (.slice (some ⟨gg, 0, none⟩) (P.length + 1) cap) (P.length + 1) (clsCs P ++ clsC x) → (wr.alloc (.cells #[.string x.1.name, .int .i64 x.1.atp, .string x.1.var, .slice none 0 0, .slice A1 n1 m1, .slice A2 n2 m2] 59)).drew.grownBy w9 (Value.slice Ao P.length co).ownBlock → TurI N (.slice (some ⟨b, 0, none⟩) L.length cc) (.slice Ai I.length ci) (P ++ [x]) [] w (w9.setCell ⟨N + 1 + 1, 1, none⟩ (.slice (some ⟨gg, 0, none⟩) (P.length + 1) cap)) ∧ w9.cell? ⟨N + 1 + 1, 1, none⟩ = some (.slice Ao P.length co) ∧ w9.frozen? ⟨N + 1 + 1, 1, none⟩ = false) := Lib.hid (fun gg cap w9 h1 h2 => hT.cls b0 o1 o2 hbz h1 h2)
      have hk0 : (0 : Int) ≤ (k : Int) := by omega
      have hkl' : (k : Int) < (L.length : Int) := by omega
      have hkg : (k : Int) ≥ 0 := by omega
      have hwk : IntKind.i64.wrap ((k : Int) - 1) = (k : Int) - 1 := IntWalk.i64_in _ (by omega)
      clear t hcc hx b0 o1 o2 hbz e1 e2 hT HCS HVI hz
      generalize hpl : P.length = pl at *
      generalize clsCs P = px at *
      go_wp2_with fail
      go_region_law (first | (refine step_append_lies _ rfl (.tmp 15) (.tmp 21) 24 rfl (N + 1 + 1 + 1) 59 i59 _ 6 112 Try.underlying24 hi59 hz59 hs59 hb59 rfl (by decide) (.slice Ao pl co) pl px rfl HOWZ.out ⟨wr.heap.size, 0, none⟩ 1 1 (clsC x) rfl rfl HNEW.out HONE.out (by decide) H63.out HBY.out HBASE.out (wr.heap.size + 1) (by show (wr.alloc _).heap.size = _; simp) ?_; intro gg cap w9 h9 g9 hat _; obtain ⟨k1, k2, k3⟩ := HPP.out gg cap w9 h9 g9; have QQ := Lib.hid k1; clear k1 h9 g9 hat))
      all_goals
        clear k2 k3
        go_wp2
        go_roundw
        case rel => exact ⟨k, _, by omega, rfl, rfl, by rw [HTK.out]; exact QQ.out⟩
        case measure => simp [intOf]
end Go.Proofs.Ytjfhncbfbhkhgaa
