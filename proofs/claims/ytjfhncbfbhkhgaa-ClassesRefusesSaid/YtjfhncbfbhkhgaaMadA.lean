/- The memory of the document's Made. Conditions: those that each theorem names. -/
import Derived.Test.YtjfhncbfbhkhgaaPik
namespace Go.Proofs.Ytjfhncbfbhkhgaa
open Go.RowKit
theorem flatN {α : Type} {n : Nat} {f : α → List Value} (hf : ∀ x, (f x).length = n) : ∀ (l : List α) (i r : Nat) (x : α), l[i]? = some x → r < n → ((l.map f).flatten)[i * n + r]? = (f x)[r]?
  | [], _, _, _, h, _ => by simp at h
  | a :: l, 0, r, x, h, hr => by
    simp at h; subst h
    rw [List.map_cons, List.flatten_cons, List.getElem?_append_left (by rw [hf]; omega)]
    simp
  | a :: l, i + 1, r, x, h, hr => by
    rw [List.map_cons, List.flatten_cons, List.getElem?_append_right (by rw [hf, Nat.add_mul]; omega), hf]
    have := flatN hf l i r x (by simpa using h) hr
    rw [show (i + 1) * n + r - n = i * n + r by rw [Nat.add_mul]; omega]; exact this
/-- The cells of a method, of a class. -/
def sigC (m : ByteArray × Int) : List Value := [.string m.1, .int .i64 m.2, .slice none 0 0, .slice none 0 0, .slice none 0 0, .int .i64 0, .int .i64 0, .string ⟨#[]⟩, .slice none 0 0]
def sigCs (M : List (ByteArray × Int)) : List Value := (M.map sigC).flatten
def clsC (x : Cls × Value × Value) : List Value := [.string x.1.name, .int .i64 x.1.atp, .string x.1.var, .slice none 0 0, x.2.1, x.2.2]
def clsCs (L : List (Cls × Value × Value)) : List Value := (L.map clsC).flatten
theorem sigCs_snoc (M : List (ByteArray × Int)) (x : ByteArray × Int) : sigCs (M ++ [x]) = sigCs M ++ sigC x := by unfold sigCs; rw [List.map_append, List.flatten_append]; simp
theorem clsCs_snoc (L : List (Cls × Value × Value)) (x : Cls × Value × Value) : clsCs (L ++ [x]) = clsCs L ++ clsC x := by unfold clsCs; rw [List.map_append, List.flatten_append]; simp
theorem SigsAt.of_own {B : Nat} {w : World} {v : Value} {M : List (ByteArray × Int)} (h : w.ownsRow B 81 9 v M.length (sigCs M)) : SigsAt (fun b => B ≤ b) w v M := by
  obtain ⟨A, c, e, hc, hm⟩ := own_form h
  refine ⟨A, c, e, hc, hm, ?_⟩
  rcases h.2 with ⟨h1, h2⟩ | ⟨g, cap, cur, h1, h2, h3, h4, h5, h6, h7⟩
  · exact .inl (List.eq_nil_of_length_eq_zero h2)
  · rw [h1] at e; injection e with e1 e2 e3
    subst e3
    refine .inr ⟨g, e1.symm, h2, lt_of_block h3, fun i hi => ?_⟩
    rw [h1] at h
    have hx : M[i]? = some M[i] := List.getElem?_eq_getElem hi
    have t : ∀ r, r < 9 → w.cell? ⟨g, i * 9 + r, none⟩ = (sigC M[i])[r]? := fun r hr => (h.cellAt (i * 9 + r) (by omega)).trans (flatN (f := sigC) (fun _ => rfl) M i r _ hx hr)
    exact ⟨t 0 (by omega), t 1 (by omega), t 2 (by omega), t 3 (by omega), t 4 (by omega), t 5 (by omega), t 6 (by omega), t 7 (by omega), t 8 (by omega)⟩
/-- The program that is made, in its box. -/
structure MadI (N : Nat) (L : List (Cls × Value × Value)) (I : List Ins) (w wr : World) : Prop where
  out : ∃ cv iv, wr.heap[N]? = some (.cells #[.slice none 0 0, cv, iv, .slice none 0 0] 28) ∧ wr.ownsRow (N + 1) 59 6 cv L.length (clsCs L) ∧ wr.ownsRow (N + 1) 70 6 iv I.length (insCs I)
  rows : ∀ x ∈ L, wr.ownsRow (N + 1) 9 1 x.2.1 x.1.supers.length (x.1.supers.map .string) ∧ wr.ownsRow (N + 1) 81 9 x.2.2 x.1.meths.length (sigCs x.1.meths)
  bl : Below N w wr
theorem MadI.lt {N : Nat} {L : List (Cls × Value × Value)} {I : List Ins} {w wr : World} (h : MadI N L I w wr) : N < wr.heap.size := by obtain ⟨_, _, h, _⟩ := h.out; exact lt_of_block h
theorem MadI.on {N : Nat} {L : List (Cls × Value × Value)} {I : List Ins} {w wr w' : World} (h : MadI N L I w wr) (hb : Below wr.heap.size wr w') : MadI N L I w w' := by
  have hl := h.lt
  obtain ⟨cv, iv, h1, h2, h3⟩ := h.out
  exact ⟨⟨cv, iv, (hb.block _ hl).trans h1, own_on h2 hb, own_on h3 hb⟩, fun x hx => ⟨own_on (h.rows x hx).1 hb, own_on (h.rows x hx).2 hb⟩, h.bl.trans (hb.mono (Nat.le_of_lt hl))⟩
/-- One more class. -/
theorem MadI.put {N : Nat} {L : List (Cls × Value × Value)} {I : List Ins} {w wr w1 w3 : World} (h : MadI N L I w wr) {x : Cls × Value × Value} {cv iv cv' : Value} (hv : wr.heap[N]? = some (.cells #[.slice none 0 0, cv, iv, .slice none 0 0] 28)) (ho : wr.ownsRow (N + 1) 59 6 cv L.length (clsCs L)) (hi : wr.ownsRow (N + 1) 70 6 iv I.length (insCs I))
    (hx1 : wr.ownsRow (N + 1) 9 1 x.2.1 x.1.supers.length (x.1.supers.map .string)) (hx2 : wr.ownsRow (N + 1) 81 9 x.2.2 x.1.meths.length (sigCs x.1.meths)) (hb : Below wr.heap.size wr w1)
    (ho3 : w3.ownsRow (N + 1) 59 6 cv' (L.length + 1) (clsCs L ++ clsC x)) (hg : w1.grownBy w3 cv.ownBlock) :
    MadI N (L ++ [x]) I w (w3.setCell ⟨N, 1, none⟩ cv') ∧ w3.cell? ⟨N, 1, none⟩ = some cv ∧ w3.frozen? ⟨N, 1, none⟩ = false := by
  have hl := h.lt
  have hbs := hb.size
  have hN : w3.heap[N]? = some (.cells #[.slice none 0 0, cv, iv, .slice none 0 0] 28) := ((hg.block N (by omega) (fun e => by have := (World.ownsRow.lt ho N e.symm).1; omega)).trans (hb.block N hl)).trans hv
  have hset : ∀ k, k ≠ N → (w3.setCell ⟨N, 1, none⟩ cv').heap[k]? = w3.heap[k]? := fun k hk => Below.heap_setCell _ _ _ _ hk
  have keep : ∀ {e : TypeId} {s n : Nat} {v : Value} {xs : List Value}, e ≠ 59 → wr.ownsRow (N + 1) e s v n xs → (w3.setCell ⟨N, 1, none⟩ cv').ownsRow (N + 1) e s v n xs := fun {e s n v xs} hne hr => own_keep hr (fun g hgo => by
    have hlt := World.ownsRow.lt hr g hgo
    rw [hset g (by omega), hg.block g (by omega) (fun e9 => own_apart hr ho hne g hgo e9.symm), hb.block g hlt.2])
  refine ⟨⟨⟨cv', iv, ?_, ?_, keep (by decide) hi⟩, ?_, ?_⟩, by simp [World.cell?, hN], by simp [World.frozen?, hN]⟩
  · rw [heap_setCell_same w3 N 1 _ 28 cv' hN]; rfl
  · rw [List.length_append, List.length_singleton, clsCs_snoc]
    exact own_keep ho3 (fun g hgo => hset g (by have := (World.ownsRow.lt ho3 g hgo).1; omega))
  · intro y hy
    rcases List.mem_append.1 hy with hy | hy
    · exact ⟨keep (by decide) (h.rows y hy).1, keep (by decide) (h.rows y hy).2⟩
    · rw [List.mem_singleton.1 hy]; exact ⟨keep (by decide) hx1, keep (by decide) hx2⟩
  · have b3 : Below N w1 w3 := ⟨hg.os, hg.tape, hg.output, hg.size, fun k hk => hg.block k (by omega) (fun e => by have := (World.ownsRow.lt ho k e.symm).1; omega)⟩
    exact ((h.bl.trans (hb.mono (by omega))).trans b3).trans (((Fr.refl (fun k => k = N) w3).setCell (b := N) rfl _).below (by have := hg.size; omega) (fun k e => by omega))
/-- One more instance. -/
theorem MadI.ins {N : Nat} {L : List (Cls × Value × Value)} {I : List Ins} {w wr w1 w3 : World} (h : MadI N L I w wr) {x : Ins} {cv iv iv' : Value} (hv : wr.heap[N]? = some (.cells #[.slice none 0 0, cv, iv, .slice none 0 0] 28)) (hc : wr.ownsRow (N + 1) 59 6 cv L.length (clsCs L)) (ho : wr.ownsRow (N + 1) 70 6 iv I.length (insCs I))
    (hb : Below wr.heap.size wr w1) (ho3 : w3.ownsRow (N + 1) 70 6 iv' (I.length + 1) (insCs I ++ insC x)) (hg : w1.grownBy w3 iv.ownBlock) :
    MadI N L (I ++ [x]) w (w3.setCell ⟨N, 2, none⟩ iv') ∧ w3.cell? ⟨N, 2, none⟩ = some iv ∧ w3.frozen? ⟨N, 2, none⟩ = false := by
  have hl := h.lt
  have hbs := hb.size
  have hN : w3.heap[N]? = some (.cells #[.slice none 0 0, cv, iv, .slice none 0 0] 28) := ((hg.block N (by omega) (fun e => by have := (World.ownsRow.lt ho N e.symm).1; omega)).trans (hb.block N hl)).trans hv
  have hset : ∀ k, k ≠ N → (w3.setCell ⟨N, 2, none⟩ iv').heap[k]? = w3.heap[k]? := fun k hk => Below.heap_setCell _ _ _ _ hk
  have keep : ∀ {e : TypeId} {s n : Nat} {v : Value} {xs : List Value}, e ≠ 70 → wr.ownsRow (N + 1) e s v n xs → (w3.setCell ⟨N, 2, none⟩ iv').ownsRow (N + 1) e s v n xs := fun {e s n v xs} hne hr => own_keep hr (fun g hgo => by
    have hlt := World.ownsRow.lt hr g hgo
    rw [hset g (by omega), hg.block g (by omega) (fun e9 => own_apart hr ho hne g hgo e9.symm), hb.block g hlt.2])
  refine ⟨⟨⟨cv, iv', ?_, keep (by decide) hc, ?_⟩, fun y hy => ⟨keep (by decide) (h.rows y hy).1, keep (by decide) (h.rows y hy).2⟩, ?_⟩, by simp [World.cell?, hN], by simp [World.frozen?, hN]⟩
  · rw [heap_setCell_same w3 N 2 _ 28 iv' hN]; rfl
  · rw [List.length_append, List.length_singleton, insCs_snoc]
    exact own_keep ho3 (fun g hgo => hset g (by have := (World.ownsRow.lt ho3 g hgo).1; omega))
  · have b3 : Below N w1 w3 := ⟨hg.os, hg.tape, hg.output, hg.size, fun k hk => hg.block k (by omega) (fun e => by have := (World.ownsRow.lt ho k e.symm).1; omega)⟩
    exact ((h.bl.trans (hb.mono (by omega))).trans b3).trans (((Fr.refl (fun k => k = N) w3).setCell (b := N) rfl _).below (by have := hg.size; omega) (fun k e => by omega))
theorem MadI.classes {N : Nat} {L : List (Cls × Value × Value)} {I : List Ins} {w wr : World} (h : MadI N L I w wr) {cv : Value} (ho : wr.ownsRow (N + 1) 59 6 cv L.length (clsCs L)) : ClassesAt (fun b => N < b ∧ b < wr.heap.size) wr cv (L.map (·.1)) := by
  obtain ⟨A, c, e, hc, hm⟩ := own_form ho
  refine ⟨A, c, by rw [List.length_map]; exact e, by rw [List.length_map]; exact hc, hm, ?_⟩
  rcases ho.2 with ⟨h1, h2⟩ | ⟨g, cap, cur, h1, h2, h3, h4, h5, h6, h7⟩
  · exact .inl (by rw [List.eq_nil_of_length_eq_zero h2]; rfl)
  · rw [h1] at e; injection e with e1 e2 e3
    subst e3
    refine .inr ⟨g, e1.symm, ⟨by omega, lt_of_block h3⟩, lt_of_block h3, fun i hi => ?_⟩
    rw [h1] at ho
    have hi' : i < L.length := by simpa using hi
    have hx : L[i]? = some L[i] := List.getElem?_eq_getElem hi'
    have t : ∀ r, r < 6 → wr.cell? ⟨g, i * 6 + r, none⟩ = (clsC L[i])[r]? := fun r hr => (ho.cellAt (i * 6 + r) (by omega)).trans (flatN (f := clsC) (fun _ => rfl) L i r _ hx hr)
    have hrow := h.rows _ (List.getElem_mem hi')
    have eL : (L.map (·.1))[i] = L[i].1 := List.getElem_map ..
    rw [eL]
    refine ⟨L[i].2.1, L[i].2.2, t 0 (by omega), t 1 (by omega), t 2 (by omega), t 3 (by omega), t 4 (by omega), t 5 (by omega), ?_, ?_⟩
    · exact (OwnS.strs hrow.1).mono (fun b hb => ⟨by omega, (World.ownsRow.lt hrow.1 b hb.2).2⟩)
    · have hs := SigsAt.of_own hrow.2
      obtain ⟨A', c', e', q1, q2, q3⟩ := hs
      exact ⟨A', c', e', q1, q2, q3.imp id (fun ⟨b, e, hp, hlt, hc⟩ => ⟨b, e, ⟨by omega, hlt⟩, hlt, hc⟩)⟩
/-- A class that is being made, in its box at B. -/
structure CurI (B : Nat) (nm : ByteArray) (at' : Int) (S : List ByteArray) (M : List (ByteArray × Int)) (w wr : World) : Prop where
  out : ∃ sv mv, wr.heap[B]? = some (.cells #[.string nm, .int .i64 at', .string ⟨#[97]⟩, .slice none 0 0, sv, mv] 59) ∧ wr.ownsRow (B + 1) 9 1 sv S.length (S.map .string) ∧ wr.ownsRow (B + 1) 81 9 mv M.length (sigCs M)
  bl : Below B w wr
theorem CurI.lt {B : Nat} {nm : ByteArray} {at' : Int} {S : List ByteArray} {M : List (ByteArray × Int)} {w wr : World} (h : CurI B nm at' S M w wr) : B < wr.heap.size := by obtain ⟨_, _, h, _⟩ := h.out; exact lt_of_block h
/-- One more class above it. -/
theorem CurI.sup {B : Nat} {nm : ByteArray} {at' : Int} {S : List ByteArray} {M : List (ByteArray × Int)} {w wr w1 w3 : World} (h : CurI B nm at' S M w wr) {y : ByteArray} {sv mv sv' : Value} (hv : wr.heap[B]? = some (.cells #[.string nm, .int .i64 at', .string ⟨#[97]⟩, .slice none 0 0, sv, mv] 59)) (ho : wr.ownsRow (B + 1) 9 1 sv S.length (S.map .string)) (hm : wr.ownsRow (B + 1) 81 9 mv M.length (sigCs M))
    (hb : Below wr.heap.size wr w1) (ho3 : w3.ownsRow (B + 1) 9 1 sv' (S.length + 1) (S.map .string ++ [.string y])) (hg : w1.grownBy w3 sv.ownBlock) :
    CurI B nm at' (S ++ [y]) M w (w3.setCell ⟨B, 4, none⟩ sv') ∧ w3.cell? ⟨B, 4, none⟩ = some sv ∧ w3.frozen? ⟨B, 4, none⟩ = false := by
  have hl := h.lt
  have hbs := hb.size
  have hB : w3.heap[B]? = some (.cells #[.string nm, .int .i64 at', .string ⟨#[97]⟩, .slice none 0 0, sv, mv] 59) := ((hg.block B (by omega) (fun e => by have := (World.ownsRow.lt ho B e.symm).1; omega)).trans (hb.block B hl)).trans hv
  have hset : ∀ k, k ≠ B → (w3.setCell ⟨B, 4, none⟩ sv').heap[k]? = w3.heap[k]? := fun k hk => Below.heap_setCell _ _ _ _ hk
  refine ⟨⟨⟨sv', mv, ?_, ?_, ?_⟩, ?_⟩, by simp [World.cell?, hB], by simp [World.frozen?, hB]⟩
  · rw [heap_setCell_same w3 B 4 _ 59 sv' hB]; rfl
  · rw [List.length_append, List.length_singleton, List.map_append]
    exact own_keep ho3 (fun g hgo => hset g (by have := (World.ownsRow.lt ho3 g hgo).1; omega))
  · exact own_keep hm (fun g hgo => by
      have hlt := World.ownsRow.lt hm g hgo
      rw [hset g (by omega), hg.block g (by omega) (fun e9 => own_apart hm ho (by decide) g hgo e9.symm), hb.block g hlt.2])
  · have b3 : Below B w1 w3 := ⟨hg.os, hg.tape, hg.output, hg.size, fun k hk => hg.block k (by omega) (fun e => by have := (World.ownsRow.lt ho k e.symm).1; omega)⟩
    exact ((h.bl.trans (hb.mono (by omega))).trans b3).trans (((Fr.refl (fun k => k = B) w3).setCell (b := B) rfl _).below (by have := hg.size; omega) (fun k e => by omega))
/-- One more method. -/
theorem CurI.mth {B : Nat} {nm : ByteArray} {at' : Int} {S : List ByteArray} {M : List (ByteArray × Int)} {w wr w1 w3 : World} (h : CurI B nm at' S M w wr) {y : ByteArray × Int} {sv mv mv' : Value} (hv : wr.heap[B]? = some (.cells #[.string nm, .int .i64 at', .string ⟨#[97]⟩, .slice none 0 0, sv, mv] 59)) (ho : wr.ownsRow (B + 1) 9 1 sv S.length (S.map .string)) (hm : wr.ownsRow (B + 1) 81 9 mv M.length (sigCs M))
    (hb : Below wr.heap.size wr w1) (ho3 : w3.ownsRow (B + 1) 81 9 mv' (M.length + 1) (sigCs M ++ sigC y)) (hg : w1.grownBy w3 mv.ownBlock) :
    CurI B nm at' S (M ++ [y]) w (w3.setCell ⟨B, 5, none⟩ mv') ∧ w3.cell? ⟨B, 5, none⟩ = some mv ∧ w3.frozen? ⟨B, 5, none⟩ = false := by
  have hl := h.lt
  have hbs := hb.size
  have hB : w3.heap[B]? = some (.cells #[.string nm, .int .i64 at', .string ⟨#[97]⟩, .slice none 0 0, sv, mv] 59) := ((hg.block B (by omega) (fun e => by have := (World.ownsRow.lt hm B e.symm).1; omega)).trans (hb.block B hl)).trans hv
  have hset : ∀ k, k ≠ B → (w3.setCell ⟨B, 5, none⟩ mv').heap[k]? = w3.heap[k]? := fun k hk => Below.heap_setCell _ _ _ _ hk
  refine ⟨⟨⟨sv, mv', ?_, ?_, ?_⟩, ?_⟩, by simp [World.cell?, hB], by simp [World.frozen?, hB]⟩
  · rw [heap_setCell_same w3 B 5 _ 59 mv' hB]; rfl
  · exact own_keep ho (fun g hgo => by
      have hlt := World.ownsRow.lt ho g hgo
      rw [hset g (by omega), hg.block g (by omega) (fun e9 => own_apart ho hm (by decide) g hgo e9.symm), hb.block g hlt.2])
  · rw [List.length_append, List.length_singleton, sigCs_snoc]
    exact own_keep ho3 (fun g hgo => hset g (by have := (World.ownsRow.lt ho3 g hgo).1; omega))
  · have b3 : Below B w1 w3 := ⟨hg.os, hg.tape, hg.output, hg.size, fun k hk => hg.block k (by omega) (fun e => by have := (World.ownsRow.lt hm k e.symm).1; omega)⟩
    exact ((h.bl.trans (hb.mono (by omega))).trans b3).trans (((Fr.refl (fun k => k = B) w3).setCell (b := B) rfl _).below (by have := hg.size; omega) (fun k e => by omega))
/-- What is known of classes that are made. -/
structure GoodC (C : List Cls) : Prop where
  names : C.map (·.name) = names5.take C.length
  len : C.length ≤ 5
  sup : ∀ c ∈ C, c.supers.length ≤ 2 ∧ ∀ s ∈ c.supers, s ∈ names5
  mth : ∀ c ∈ C, c.meths.length ≤ 2 ∧ ∀ m ∈ c.meths, m.1.size ≤ 2
theorem GoodC.nil : GoodC [] := ⟨rfl, Nat.zero_le _, fun c h => (by cases h), fun c h => (by cases h)⟩
theorem GoodC.put {C : List Cls} (h : GoodC C) {c : Cls} (hn : names5[C.length]? = some c.name) (hs : c.supers.length ≤ 2 ∧ ∀ s ∈ c.supers, s ∈ names5) (hm : c.meths.length ≤ 2 ∧ ∀ m ∈ c.meths, m.1.size ≤ 2) : GoodC (C ++ [c]) := by
  refine ⟨?_, ?_, ?_, ?_⟩
  · rw [List.map_append, h.names, List.length_append, List.length_singleton, List.take_add_one, hn]; rfl
  · have := (List.getElem?_eq_some_iff.1 hn).1
    have h5 : names5.length = 5 := rfl
    rw [List.length_append, List.length_singleton]; omega
  · intro x hx
    rcases List.mem_append.1 hx with hx | hx
    · exact h.sup x hx
    · rw [List.mem_singleton.1 hx]; exact hs
  · intro x hx
    rcases List.mem_append.1 hx with hx | hx
    · exact h.mth x hx
    · rw [List.mem_singleton.1 hx]; exact hm
theorem names5_size : ∀ s ∈ names5, s.size = 1 := by decide
theorem names5_nodup : names5.Nodup := by decide
theorem GoodC.nodup {C : List Cls} (h : GoodC C) : (C.map (·.name)).Nodup := by rw [h.names]; exact names5_nodup.sublist (List.take_sublist _ _)
theorem GoodC.mem {C : List Cls} (h : GoodC C) {c : Cls} (hc : c ∈ C) : c.name ∈ names5 := by
  have : c.name ∈ C.map (·.name) := List.mem_map.2 ⟨c, hc, rfl⟩
  rw [h.names] at this; exact List.mem_of_mem_take this
theorem sum_le {α : Type} (f : α → Nat) (k : Nat) : ∀ (l : List α), (∀ x ∈ l, f x ≤ k) → (l.map f).sum ≤ l.length * k
  | [], _ => by simp
  | a :: l, h => by
    have h1 := h a List.mem_cons_self
    have h2 := sum_le f k l (fun x hx => h x (List.mem_cons_of_mem _ hx))
    simp only [List.map_cons, List.sum_cons, List.length_cons, Nat.add_mul]; omega
theorem GoodC.ok {C : List Cls} (h : GoodC C) : OkC C := by
  have hl := h.len
  refine ⟨fun u hu => ?_, ?_⟩
  · have hn : u ∈ names5 := by
      rcases List.mem_append.1 hu with hu | hu
      · obtain ⟨c, hc, rfl⟩ := List.mem_map.1 hu; exact h.mem hc
      · obtain ⟨l, hl, hu⟩ := List.mem_flatten.1 hu
        obtain ⟨c, hc, rfl⟩ := List.mem_map.1 hl
        exact (h.sup c hc).2 u hu
    rw [names5_size u hn]; decide
  · unfold univ
    rw [List.length_append, List.length_map, List.length_flatten, List.map_map]
    have := sum_le (fun c : Cls => c.supers.length) 2 C (fun c hc => (h.sup c hc).1)
    have h9 : (List.map (List.length ∘ fun x : Cls => x.supers) C).sum = (C.map (fun c => c.supers.length)).sum := rfl
    rw [h9]; omega
theorem GoodC.mths {C : List Cls} (h : GoodC C) : (mths C).length ≤ 536870912 ∧ ∀ c ∈ C, c.meths.length ≤ 536870912 ∧ ∀ m ∈ c.meths, m.1.size ≤ maxLen := by
  have hl := h.len
  refine ⟨?_, fun c hc => ⟨by have := (h.mth c hc).1; omega, fun m hm => Nat.le_trans ((h.mth c hc).2 m hm) (by decide)⟩⟩
  unfold Ytjfhncbfbhkhgaa.mths
  rw [List.length_flatten, List.map_map]
  have h1 : ∀ c ∈ C, (List.length ∘ fun c : Cls => mthsK c.name 0 c.meths) c ≤ 2 := fun c hc => by
    show (mthsK c.name 0 c.meths).length ≤ 2
    rw [mthsK_len]; exact (h.mth c hc).1
  have := sum_le _ 2 C h1
  omega
end Go.Proofs.Ytjfhncbfbhkhgaa
