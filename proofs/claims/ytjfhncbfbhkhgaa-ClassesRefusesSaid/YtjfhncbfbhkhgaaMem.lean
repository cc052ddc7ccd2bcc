/- Rows of numbers in memory. No conditions but those that each theorem names. -/
import Derived.Test.YtjfhncbfbhkhgaaProg
import Derived.WalkKit
import Derived.WalkSpells
import Derived.WalkLawsBesides
import Derived.Lib.Strings
import Derived.Lib.Hide
import Derived.Deep.QuietTactic
import Derived.BigQuiet
import Derived.Deep.RegionWith
import Derived.StillTailTactics
import Derived.Laws.MakeOwn
import Derived.Laws.OwnMore
import Derived.Deep.AppendLies
import Derived.Maps.AppendAt
import Derived.OneCell
namespace Go.Proofs.Ytjfhncbfbhkhgaa
open Go.RowKit

theorem ret_bool {a b : Bool} (h : a = b) : Ending.returned (.bool a) = .returned (.bool b) := by rw [h]
theorem ret_i64 {a b : Int} (h : a = b) : Ending.returned (.int .i64 a) = .returned (.int .i64 b) := by rw [h]
theorem below_new (w : World) (o : Obj) : Below w.heap.size w (w.alloc o) := (Below.refl _ _).alloc (Nat.le_refl _) _
/-- Blocks other than these stay. -/
structure Fr (M : Nat → Prop) (w w' : World) : Prop where
  os : w'.os = w.os
  tape : w'.tape = w.tape
  output : w'.output = w.output
  size : w.heap.size ≤ w'.heap.size
  block : ∀ k, k < w.heap.size → ¬ M k → w'.heap[k]? = w.heap[k]?
theorem Fr.refl (M : Nat → Prop) (w : World) : Fr M w w := ⟨rfl, rfl, rfl, Nat.le_refl _, fun _ _ _ => rfl⟩
theorem Fr.trans {M : Nat → Prop} {a b c : World} (h : Fr M a b) (k : Fr M b c) : Fr M a c :=
  ⟨k.os.trans h.os, k.tape.trans h.tape, k.output.trans h.output, Nat.le_trans h.size k.size, fun i hi hm => (k.block i (Nat.lt_of_lt_of_le hi h.size) hm).trans (h.block i hi hm)⟩
theorem Fr.of_below {M : Nat → Prop} {w w' : World} (h : Below w.heap.size w w') : Fr M w w' := ⟨h.os, h.tape, h.output, h.size, fun k hk _ => h.block k hk⟩
theorem Fr.drew {M : Nat → Prop} {a w : World} (h : Fr M a w) : Fr M a w.drew := ⟨h.os, h.tape, h.output, h.size, h.block⟩
theorem Fr.drewN {M : Nat → Prop} {a w : World} (h : Fr M a w) (m : Nat) : Fr M a (w.drewN m) := ⟨h.os, h.tape, h.output, h.size, h.block⟩
theorem Fr.below {M : Nat → Prop} {w w' : World} {B : Nat} (h : Fr M w w') (hB : B ≤ w.heap.size) (hM : ∀ k, M k → B ≤ k) : Below B w w' :=
  ⟨h.os, h.tape, h.output, h.size, fun k hk => h.block k (by omega) (fun hm => by have := hM k hm; omega)⟩
theorem Fr.mono {M M' : Nat → Prop} {w w' : World} (h : Fr M w w') (hm : ∀ k, M k → M' k) : Fr M' w w' := ⟨h.os, h.tape, h.output, h.size, fun k hk hn => h.block k hk (fun h9 => hn (hm k h9))⟩
theorem Fr.setCell {M : Nat → Prop} {a w : World} (h : Fr M a w) {b o : Nat} (hb : M b) (u : Value) : Fr M a (w.setCell ⟨b, o, none⟩ u) :=
  h.trans ⟨rfl, rfl, rfl, by simp, fun k _ hk => Below.heap_setCell _ _ _ _ (fun e => hk (by rw [e]; exact hb))⟩
theorem Fr.alloc {M : Nat → Prop} {a w : World} (h : Fr M a w) (o : Obj) : Fr M a (w.alloc o) := h.trans (.of_below (below_new w o))
theorem Fr.grown {M : Nat → Prop} {a w w' : World} {row : Option Nat} (h : Fr M a w) (hg : w.grownBy w' row) (hr : ∀ k, row = some k → M k) : Fr M a w' :=
  h.trans ⟨hg.os, hg.tape, hg.output, hg.size, fun k hk hm => hg.block k hk (fun e => hm (hr k e.symm))⟩

/-- A slice of these numbers, in a block of which P holds. -/
def IntsAt (P : Nat → Prop) (w : World) (v : Value) (zs : List Int) : Prop :=
  ∃ A c, v = .slice A zs.length c ∧ zs.length ≤ c ∧ c ≤ maxLen ∧ (∀ z ∈ zs, -9223372036854775808 ≤ z ∧ z ≤ 9223372036854775807) ∧
    (zs = [] ∨ ∃ b off, A = some ⟨b, off, none⟩ ∧ P b ∧ b < w.heap.size ∧ ∀ i (h : i < zs.length), w.cell? ⟨b, off + i, none⟩ = some (.int .i64 zs[i]))
theorem IntsAt.keepB {P : Nat → Prop} {w w' : World} {v : Value} {zs : List Int} (h : IntsAt P w v zs) (hs : w.heap.size ≤ w'.heap.size) (hb : ∀ b, P b → b < w.heap.size → w'.heap[b]? = w.heap[b]?) : IntsAt P w' v zs := by
  obtain ⟨A, c, e, h1, h2, h3, hr⟩ := h
  refine ⟨A, c, e, h1, h2, h3, ?_⟩
  rcases hr with hr | ⟨b, off, e, hp, hlt, hc⟩
  · exact .inl hr
  · exact .inr ⟨b, off, e, hp, Nat.lt_of_lt_of_le hlt hs, fun i hi => (World.cell?_of_block (hb b hp hlt)).trans (hc i hi)⟩
theorem IntsAt.on {P : Nat → Prop} {w w' : World} {v : Value} {zs : List Int} (h : IntsAt P w v zs) (hb : Below w.heap.size w w') : IntsAt P w' v zs := h.keepB hb.size (fun b _ hl => hb.block b hl)
theorem IntsAt.mono {P Q : Nat → Prop} {w : World} {v : Value} {zs : List Int} (h : IntsAt P w v zs) (hpq : ∀ b, P b → Q b) : IntsAt Q w v zs := by
  obtain ⟨A, c, e, h1, h2, h3, hr⟩ := h
  refine ⟨A, c, e, h1, h2, h3, ?_⟩
  rcases hr with hr | ⟨b, off, e, hp, r⟩
  · exact .inl hr
  · exact .inr ⟨b, off, e, hpq b hp, r⟩
theorem ints_nil (P : Nat → Prop) (w : World) : IntsAt P w (.slice none 0 0) [] := ⟨none, 0, rfl, Nat.le_refl _, Nat.zero_le _, fun z hz => absurd hz (by simp), .inl rfl⟩
theorem IntsAt.at {P : Nat → Prop} {w : World} {A : Option Addr} {n c : Nat} {zs : List Int} (h : IntsAt P w (.slice A n c) zs) : n = zs.length ∧ n ≤ c ∧ c ≤ maxLen ∧ (0 < n → ∃ b off, A = some ⟨b, off, none⟩ ∧ P b ∧ b < w.heap.size ∧ ∀ i (h : i < zs.length), w.cell? ⟨b, off + i, none⟩ = some (.int .i64 zs[i])) := by
  obtain ⟨A', c', e, h1, h2, _, hr⟩ := h
  injection e with e1 e2 e3
  subst e1 e2 e3
  refine ⟨rfl, h1, h2, fun h0 => ?_⟩
  rcases hr with hr | hr
  · rw [hr] at h0; simp at h0
  · exact hr
theorem IntsAt.form {P : Nat → Prop} {w : World} {v : Value} {zs : List Int} (h : IntsAt P w v zs) : ∃ A c, v = .slice A zs.length c ∧ zs.length ≤ maxLen := by
  obtain ⟨A, c, e, h1, h2, _⟩ := h
  exact ⟨A, c, e, Nat.le_trans h1 h2⟩
theorem ints_tail {Q : Nat → Prop} {w : World} {z : Int} {r : List Int} {v : Value} (h : IntsAt Q w v (z :: r)) : ∃ b off c, v = .slice (some ⟨b, off, none⟩) (r.length + 1) c ∧ r.length + 1 ≤ c ∧ c ≤ maxLen ∧ b < w.heap.size ∧ w.cell? ⟨b, off, none⟩ = some (.int .i64 z) ∧ (-9223372036854775808 ≤ z ∧ z ≤ 9223372036854775807) ∧
    ∃ A9, (if c = 1 then (some ⟨b, off, none⟩ : Option Addr) else some ⟨b, off + 1, none⟩) = some A9 ∧ IntsAt Q w (.slice (some A9) r.length (c - 1)) r := by
  obtain ⟨A, c, e, h1, h2, h3, hr⟩ := h
  rcases hr with hr | ⟨b, off, rfl, hp, hlt, hc⟩
  · cases hr
  · simp only [List.length_cons] at e h1
    refine ⟨b, off, c, e, h1, h2, hlt, ?_, h3 z List.mem_cons_self, ?_⟩
    · have := hc 0 (by simp); simpa using this
    · have hbr : ∀ x ∈ r, -9223372036854775808 ≤ x ∧ x ≤ 9223372036854775807 := fun x hx => h3 x (List.mem_cons_of_mem _ hx)
      by_cases hc1 : c = 1
      · have hr0 : r = [] := List.eq_nil_of_length_eq_zero (by omega)
        subst hr0
        exact ⟨⟨b, off, none⟩, if_pos hc1, some ⟨b, off, none⟩, c - 1, rfl, by omega, by omega, hbr, .inl rfl⟩
      · refine ⟨⟨b, off + 1, none⟩, if_neg hc1, some ⟨b, off + 1, none⟩, c - 1, rfl, by omega, by omega, hbr, ?_⟩
        cases r with
        | nil => exact .inl rfl
        | cons y r =>
          refine .inr ⟨b, off + 1, rfl, hp, hlt, fun i hi => ?_⟩
          have := hc (i + 1) (by simp at hi ⊢; omega)
          rw [show off + 1 + i = off + (i + 1) by omega, this]; rfl

/-- A slice that reads as texts, in a block of which P holds. -/
def StrsAt (P : Nat → Prop) (w : World) (v : Value) (ss : List ByteArray) : Prop :=
  ∃ A c, v = .slice A ss.length c ∧ ss.length ≤ c ∧ c ≤ maxLen ∧ (ss = [] ∨ ∃ b off, A = some ⟨b, off, none⟩ ∧ P b ∧ b < w.heap.size ∧ ∀ i (h : i < ss.length), w.cell? ⟨b, off + i, none⟩ = some (.string ss[i]))
theorem StrsAt.keepB {P : Nat → Prop} {w w' : World} {v : Value} {zs : List ByteArray} (h : StrsAt P w v zs) (hs : w.heap.size ≤ w'.heap.size) (hb : ∀ b, P b → b < w.heap.size → w'.heap[b]? = w.heap[b]?) : StrsAt P w' v zs := by
  obtain ⟨A, c, e, h1, h2, hr⟩ := h
  refine ⟨A, c, e, h1, h2, ?_⟩
  rcases hr with hr | ⟨b, off, e, hp, hlt, hc⟩
  · exact .inl hr
  · exact .inr ⟨b, off, e, hp, Nat.lt_of_lt_of_le hlt hs, fun i hi => (World.cell?_of_block (hb b hp hlt)).trans (hc i hi)⟩
theorem StrsAt.on {P : Nat → Prop} {w w' : World} {v : Value} {zs : List ByteArray} (h : StrsAt P w v zs) (hb : Below w.heap.size w w') : StrsAt P w' v zs := h.keepB hb.size (fun b _ hl => hb.block b hl)
theorem StrsAt.mono {P Q : Nat → Prop} {w : World} {v : Value} {zs : List ByteArray} (h : StrsAt P w v zs) (hpq : ∀ b, P b → Q b) : StrsAt Q w v zs := by
  obtain ⟨A, c, e, h1, h2, hr⟩ := h
  refine ⟨A, c, e, h1, h2, ?_⟩
  rcases hr with hr | ⟨b, off, e, hp, r⟩
  · exact .inl hr
  · exact .inr ⟨b, off, e, hpq b hp, r⟩
theorem strs_nil (P : Nat → Prop) (w : World) : StrsAt P w (.slice none 0 0) [] := ⟨none, 0, rfl, Nat.le_refl _, Nat.zero_le _, .inl rfl⟩
theorem StrsAt.at {P : Nat → Prop} {w : World} {A : Option Addr} {n c : Nat} {zs : List ByteArray} (h : StrsAt P w (.slice A n c) zs) (k : Nat) (hk : k < zs.length) :
    ∃ b off, A = some ⟨b, off, none⟩ ∧ b < w.heap.size ∧ w.cell? ⟨b, off + k, none⟩ = some (.string zs[k]) := by
  obtain ⟨A', c', e, _, _, hr⟩ := h
  injection e with e1 e2 e3
  subst e1
  rcases hr with h9 | ⟨b, off, e, _, hlt, hc⟩
  · rw [h9] at hk; simp at hk
  · exact ⟨b, off, e, hlt, hc k hk⟩
theorem StrsAt.form {P : Nat → Prop} {w : World} {v : Value} {zs : List ByteArray} (h : StrsAt P w v zs) : ∃ A c, v = .slice A zs.length c ∧ zs.length ≤ c ∧ c ≤ maxLen := by
  obtain ⟨A, c, e, h1, h2, _⟩ := h; exact ⟨A, c, e, h1, h2⟩
theorem strs_tail {Q : Nat → Prop} {w : World} {z : ByteArray} {r : List ByteArray} {v : Value} (h : StrsAt Q w v (z :: r)) : ∃ b off c, v = .slice (some ⟨b, off, none⟩) (r.length + 1) c ∧ r.length + 1 ≤ c ∧ c ≤ maxLen ∧ b < w.heap.size ∧ w.cell? ⟨b, off, none⟩ = some (.string z) ∧
    ∃ A9, (if c = 1 then (some ⟨b, off, none⟩ : Option Addr) else some ⟨b, off + 1, none⟩) = some A9 ∧ StrsAt Q w (.slice (some A9) r.length (c - 1)) r := by
  obtain ⟨A, c, e, h1, h2, hr⟩ := h
  rcases hr with hr | ⟨b, off, rfl, hp, hlt, hc⟩
  · cases hr
  · simp only [List.length_cons] at e h1
    refine ⟨b, off, c, e, h1, h2, hlt, ?_, ?_⟩
    · have := hc 0 (by simp); simpa using this
    · by_cases hc1 : c = 1
      · have hr0 : r = [] := List.eq_nil_of_length_eq_zero (by omega)
        subst hr0
        exact ⟨⟨b, off, none⟩, if_pos hc1, some ⟨b, off, none⟩, c - 1, rfl, by omega, by omega, .inl rfl⟩
      · refine ⟨⟨b, off + 1, none⟩, if_neg hc1, some ⟨b, off + 1, none⟩, c - 1, rfl, by omega, by omega, ?_⟩
        cases r with
        | nil => exact .inl rfl
        | cons y r =>
          refine .inr ⟨b, off + 1, rfl, hp, hlt, fun i hi => ?_⟩
          have := hc (i + 1) (by simp at hi ⊢; omega)
          rw [show off + 1 + i = off + (i + 1) by omega, this]; rfl
/-- A row of texts that a call owns. -/
def OwnS (base : Nat) (w : World) (v : Value) (ss : List ByteArray) : Prop := w.ownsRow base 9 1 v ss.length (ss.map Value.string)
def natV (x : Nat) : Value := .int .i64 (x : Int)
/-- A block of n cells. -/
def rowA (n : Nat) (g : Nat → Value) : Array Value := ((List.range n).map g).toArray
theorem rowA_size (n : Nat) (g : Nat → Value) : (rowA n g).size = n := by simp [rowA]
theorem rowA_get (n : Nat) (g : Nat → Value) (j : Nat) (h : j < (rowA n g).size) : (rowA n g)[j] = g j := by simp [rowA]
def RowAt (w : World) (b : Nat) (t : TypeId) (n : Nat) (g : Nat → Value) : Prop := w.heap[b]? = some (.cells (rowA n g) t)
theorem RowAt.cell {w : World} {b : Nat} {t : TypeId} {n : Nat} {g : Nat → Value} (h : RowAt w b t n g) {i : Nat} (hi : i < n) : w.cell? ⟨b, i, none⟩ = some (g i) := by
  unfold RowAt at h
  simp [World.cell?, h, rowA, hi]
theorem RowAt.free {w : World} {b : Nat} {t : TypeId} {n : Nat} {g : Nat → Value} (h : RowAt w b t n g) (i : Nat) : w.frozen? ⟨b, i, none⟩ = false := by
  unfold RowAt at h
  simp [World.frozen?, h]
theorem RowAt.lt {w : World} {b : Nat} {t : TypeId} {n : Nat} {g : Nat → Value} (h : RowAt w b t n g) : b < w.heap.size := lt_of_block h
theorem RowAt.block {w w' : World} {b : Nat} {t : TypeId} {n : Nat} {g : Nat → Value} (h : RowAt w b t n g) (hb : w'.heap[b]? = w.heap[b]?) : RowAt w' b t n g := hb.trans h
theorem rowA_zero (n : Nat) (v : Value) : Array.replicate n v = rowA n (fun _ => v) := by
  apply Array.ext
  · simp [rowA]
  · intro i h1 h2; simp [rowA]
theorem own_keep {w w' : World} {base : Nat} {e : TypeId} {size : Nat} {v : Value} {n : Nat} {xs : List Value} (h : w.ownsRow base e size v n xs) (hb : ∀ g, v.ownBlock = some g → w'.heap[g]? = w.heap[g]?) : w'.ownsRow base e size v n xs := by
  refine ⟨h.1, ?_⟩
  rcases h.2 with h2 | ⟨g, cap, cur, h1, h2, h3, h4⟩
  · exact .inl h2
  · exact .inr ⟨g, cap, cur, h1, h2, (hb g (by rw [h1]; rfl)).trans h3, h4⟩
theorem own_form {w : World} {base : Nat} {e : TypeId} {size : Nat} {v : Value} {n : Nat} {xs : List Value} (h : w.ownsRow base e size v n xs) : ∃ A c, v = .slice A n c ∧ n ≤ c ∧ c ≤ maxLen := by
  rcases h.2 with ⟨h1, h2⟩ | ⟨g, cap, cur, h1, _, _, h4, h5, _⟩
  · exact ⟨none, 0, by rw [h1, h2], by omega, Nat.zero_le _⟩
  · exact ⟨_, _, h1, h4, h5⟩
theorem own_some {w : World} {base : Nat} {e : TypeId} {size : Nat} {v : Value} {n : Nat} {xs : List Value} (h : w.ownsRow base e size v n xs) (hn : 0 < n) : ∃ g c, v = .slice (some ⟨g, 0, none⟩) n c ∧ base ≤ g ∧ g < w.heap.size ∧ n ≤ c ∧ c ≤ maxLen := by
  rcases h.2 with ⟨h1, h2⟩ | ⟨g, cap, cur, h1, h2, h3, h4, h5, _⟩
  · omega
  · exact ⟨g, cap, h1, h2, lt_of_block h3, h4, h5⟩
theorem own_type {w : World} {base : Nat} {e : TypeId} {size : Nat} {v : Value} {n : Nat} {xs : List Value} (h : w.ownsRow base e size v n xs) {g : Nat} (hg : v.ownBlock = some g) : ∃ cur, w.heap[g]? = some (.cells cur e) := by
  rcases h.2 with ⟨h1, _⟩ | ⟨g', cap, cur, h1, _, h3, _⟩
  · rw [h1] at hg; cases hg
  · rw [h1] at hg; injection hg with hg; exact ⟨cur, by rw [← hg]; exact h3⟩
theorem own_not {w : World} {base : Nat} {e e' : TypeId} {size : Nat} {v : Value} {n : Nat} {xs : List Value} (h : w.ownsRow base e size v n xs) {b : Nat} {cs : Array Value} (hb : w.heap[b]? = some (.cells cs e')) (hne : e ≠ e') : v.ownBlock ≠ some b := fun hg => by
  obtain ⟨cur, h1⟩ := own_type h hg
  rw [h1] at hb; injection hb with hb; injection hb with _ hb; exact hne hb
/-- Rows of different kinds lie in different blocks. -/
theorem own_apart {w : World} {base base' : Nat} {e e' : TypeId} {n n' s s' : Nat} {xs xs' : List Value} {v v' : Value} (h : w.ownsRow base e s v n xs) (h' : w.ownsRow base' e' s' v' n' xs') (hne : e ≠ e') (g : Nat) (hg : v.ownBlock = some g) : v'.ownBlock ≠ some g := by
  obtain ⟨cur, h1⟩ := own_type h hg
  exact own_not h' h1 (fun e => hne e.symm)
theorem own_shorter {w : World} {base : Nat} {e : TypeId} {s : Nat} {A : Option Addr} {cap n : Nat} {xs : List Value} (h : w.ownsRow base e s (.slice A n cap) n xs) (m : Nat) (hm : m ≤ n) (hn : 0 < n) :
    w.ownsRow base e s (.slice A m cap) m (xs.take (m * s)) := by
  obtain ⟨h1, h2⟩ := h
  have hms : m * s ≤ n * s := Nat.mul_le_mul_right _ hm
  refine ⟨by rw [List.length_take, h1]; omega, ?_⟩
  rcases h2 with ⟨_, h2⟩ | ⟨g', cap', cur, hv, hg, hh, a1, a2, a3, a4⟩
  · omega
  · injection hv with e1 _ e2
    subst e1 e2
    refine .inr ⟨g', cap, cur, rfl, hg, hh, by omega, a2, a3, ?_⟩
    rw [← a4, List.take_take]
    congr 1
    omega
theorem own_set {w : World} {base : Nat} {e : TypeId} {s g cap n : Nat} {xs : List Value} (h : w.ownsRow base e s (.slice (some ⟨g, 0, none⟩) n cap) n xs) (j : Nat) (u : Value) :
    (w.setCell ⟨g, j, none⟩ u).ownsRow base e s (.slice (some ⟨g, 0, none⟩) n cap) n (xs.set j u) := by
  obtain ⟨h1, h2⟩ := h
  refine ⟨by rw [List.length_set]; exact h1, ?_⟩
  rcases h2 with ⟨h2, _⟩ | ⟨g', cap', cur, hv, hg, hh, a1, a2, a3, a4⟩
  · cases h2
  · injection hv with e1 _ e2
    injection e1 with e1
    injection e1 with e1
    subst e1 e2
    refine .inr ⟨g, cap, cur.setIfInBounds j u, rfl, hg, heap_setCell_same w g j cur e u hh, a1, a2, by simpa using a3, ?_⟩
    rw [← a4]
    simp [List.take_set]
theorem own_on {w w' : World} {base : Nat} {e : TypeId} {size : Nat} {v : Value} {n : Nat} {xs : List Value} (h : w.ownsRow base e size v n xs) (hb : Below w.heap.size w w') : w'.ownsRow base e size v n xs :=
  own_keep h (fun g hg => hb.block g (h.lt g hg).2)
theorem one_new (w : World) (a : Value) (t : TypeId) : ∀ j u, [a][j]? = some u → (w.alloc (.cells #[a] t)).cell? ((⟨w.heap.size, 0, none⟩ : Addr).add j) = some u := by
  intro j u h
  have hj : j = 0 := by have := (List.getElem?_eq_some_iff.1 h).1; simp at this; omega
  subst hj; simp at h; subst h; simp [Addr.add, go_sem]
theorem two_new (w : World) (a b : Value) (t : TypeId) : ∀ j u, [a, b][j]? = some u → (w.alloc (.cells #[a, b] t)).cell? ((⟨w.heap.size, 0, none⟩ : Addr).add j) = some u := by
  intro j u h
  have hj := (List.getElem?_eq_some_iff.1 h).1
  simp at hj
  rcases (by omega : j = 0 ∨ j = 1) with rfl | rfl
  · simp at h; subst h; simp [Addr.add, go_sem]
  · simp at h; subst h; simp [Addr.add, go_sem]
theorem info_parts {P : Program} {t : TypeId} {z : Value} {s b : Nat} (h : (P.info? t).map (fun i => (i.zero, i.size, i.bytes)) = some (some z, s, b)) : ∃ i, P.info? t = some i ∧ i.zero = some z ∧ i.size = s ∧ i.bytes = b := by
  obtain ⟨i, hi, hx⟩ := Option.map_eq_some_iff.1 h
  simp only [Prod.mk.injEq] at hx
  exact ⟨i, hi, hx.1, hx.2.1, hx.2.2⟩
theorem Try.info3 : (Try.prog.info? 3).map (fun i => (i.zero, i.size, i.bytes)) = some (some (.int .i64 0), 1, 8) := by kernel_rfl
theorem Try.info9 : (Try.prog.info? 9).map (fun i => (i.zero, i.size, i.bytes)) = some (some (.string ⟨#[]⟩), 1, 16) := by kernel_rfl
theorem Try.info40 : (Try.prog.info? 40).map (fun i => (i.zero, i.size, i.bytes)) = some (some (.slice none 0 0), 1, 24) := by kernel_rfl
theorem Try.info131 : (Try.prog.info? 131).map (fun i => (i.zero, i.size, i.bytes)) = some (some (.agg #[.string ⟨#[]⟩, .slice none 0 0]), 2, 40) := by kernel_rfl
theorem Try.info59 : (Try.prog.info? 59).map (fun i => (i.zero, i.size, i.bytes)) = some (some (.agg #[.string ⟨#[]⟩, .int .i64 0, .string ⟨#[]⟩, .slice none 0 0, .slice none 0 0, .slice none 0 0]), 6, 112) := by kernel_rfl
theorem Try.info70 : (Try.prog.info? 70).map (fun i => (i.zero, i.size, i.bytes)) = some (some (.agg #[.string ⟨#[]⟩, .int .i64 0, .string ⟨#[]⟩, .slice none 0 0, .slice none 0 0, .slice none 0 0]), 6, 112) := by kernel_rfl
theorem OwnS.nil (base : Nat) (w : World) : OwnS base w (.slice none 0 0) [] := World.ownsRow_nil w base 9 1
theorem OwnS.strs {base : Nat} {w : World} {v : Value} {ss : List ByteArray} (h : OwnS base w v ss) : StrsAt (fun b => base ≤ b ∧ v.ownBlock = some b) w v ss := by
  obtain ⟨A, c, e, hc, hm⟩ := own_form h
  refine ⟨A, c, e, hc, hm, ?_⟩
  rcases h.2 with ⟨h1, h2⟩ | ⟨g, cap, cur, h1, h2, h3, h4, h5, h6, h7⟩
  · exact .inl (List.eq_nil_of_length_eq_zero h2)
  · rw [h1] at e; injection e with e1 e2 e3
    refine .inr ⟨g, 0, e1.symm, ⟨h2, by rw [h1]; rfl⟩, lt_of_block h3, fun i hi => ?_⟩
    have h9 := h.cells (g := g) (by rw [h1]; rfl) i (.string ss[i]) (by rw [List.getElem?_map, List.getElem?_eq_getElem hi]; rfl)
    rw [Nat.zero_add]; by_cases e : i = 0
    · subst e; simpa [Addr.add] using h9
    · simpa [Addr.add, e] using h9
theorem one_str (x : ByteArray) : ∀ u ∈ [Value.string x], u.oneCell' = true := by intro u hu; simp at hu; subst hu; rfl
/-- True, and nothing that was there has changed. -/
def TrueB (w : World) (e : Ending) (w' : World) : Prop := e = .returned (.bool true) ∧ Below w.heap.size w w'
end Go.Proofs.Ytjfhncbfbhkhgaa
