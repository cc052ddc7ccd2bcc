/- inRow: what is known. No conditions but those that each theorem names. -/
import Derived.Test.YthmnghngcbkjpaaRme
namespace Go.Proofs.Ythmnghngcbkjpaa
open Go.RowKit
/-- What lies in memory while inRow runs; 'N': how many blocks there were; 'Q': which of the new ones are the waiting ones'. -/
structure InMem (B N m uo cu : Nat) (gs : List (List Nat)) (told : Nat → Bool) (ord ask : List Nat) (wait left : Nat → List Nat) (Q : Nat → Prop) (uvs wvs rvs : List Value) (av rv : Value) (w wr : World) : Prop where
  mem : RowMem B m N uo cu (N + 1 + 1 + 1) (N + 1 + 1) (N + 1 + 1 + 1 + 1 + 1) (N + 1 + 1 + 1 + 1) (fun b => b < N ∧ b ≠ uo) (fun b => b = N + 1 + 1 + 1 + 1 ∨ (N + 1 + 1 + 1 + 1 + 1 + 1 + 1 ≤ b ∧ Q b)) left wait told uvs wvs wr
  ask : AskAt N (N + 1 + 1 + 1 + 1 + 1 + 1) ask av wr
  askb : ∀ b, av.ownBlock = some b → N + 1 + 1 + 1 + 1 + 1 + 1 + 1 ≤ b ∧ ¬ Q b
  row : wr.ownsRow N 30 1 rv ord.length rvs
  rowb : ∀ b, rv.ownBlock = some b → b = N + 1 ∨ (N + 1 + 1 + 1 + 1 + 1 + 1 + 1 ≤ b ∧ ¬ Q b)
  rows : ∀ i (h : i < rvs.length) (h' : i < ord.length), IntsAt (fun b => b < N ∧ b ≠ uo ∧ B ≤ b) wr rvs[i] (natL (gs.getD ord[i] []))
  size : N + 1 + 1 + 1 + 1 + 1 + 1 + 1 ≤ wr.heap.size
  fr : Fr (fun b => b = uo) w wr
  base : w.heap.size = N
section
variable {B N m uo cu : Nat} {gs : List (List Nat)} {told : Nat → Bool} {ord ask : List Nat} {wait left : Nat → List Nat} {Q : Nat → Prop} {uvs wvs rvs : List Value} {av rv : Value} {w wr : World}
theorem InMem.on (h : InMem B N m uo cu gs told ord ask wait left Q uvs wvs rvs av rv w wr) {w' : World} (hb : Below wr.heap.size wr w') : InMem B N m uo cu gs told ord ask wait left Q uvs wvs rvs av rv w w' :=
  ⟨h.mem.on hb, h.ask.on hb, h.askb, own_on h.row hb, h.rowb, fun i a b => (h.rows i a b).on hb, Nat.le_trans h.size hb.size, h.fr.trans (.of_below hb), h.base⟩
/-- What is new from now on is the waiting ones'. -/
theorem InMem.give (h : InMem B N m uo cu gs told ord ask wait left Q uvs wvs rvs av rv w wr) (hN : uo < N) : InMem B N m uo cu gs told ord ask wait left (fun b => (Q b ∧ b < wr.heap.size) ∨ wr.heap.size ≤ b) uvs wvs rvs av rv w wr := by
  have hs := h.size
  have ha : ∀ b, av.ownBlock = some b → b < wr.heap.size := fun b hb => (h.ask.own.lt b hb).2
  have hr : ∀ b, rv.ownBlock = some b → b < wr.heap.size := fun b hb => (h.row.lt b hb).2
  refine ⟨h.mem.mono (fun b hb hl => ?_) ⟨by omega, fun e => e.2 rfl, ?_, ?_, ?_, ?_, ?_, ?_⟩, h.ask, fun b hb => ⟨(h.askb b hb).1, ?_⟩, h.row, fun b hb => ?_, h.rows, h.size, h.fr, h.base⟩
  · rcases hb with hb | hb
    · exact .inl hb
    · exact .inr ⟨hb.1, .inl ⟨hb.2, hl⟩⟩
  · rintro (e | e) <;> omega
  · rintro (e | e) <;> omega
  · rintro (e | e) <;> omega
  · rintro (e | e) <;> omega
  · rintro (e | e) <;> omega
  · rintro b hb (e | e) <;> omega
  · rintro (e | e)
    · exact (h.askb b hb).2 e.1
    · have := ha b hb; omega
  · rcases h.rowb b hb with e | e
    · exact .inl e
    · refine .inr ⟨e.1, ?_⟩
      rintro (e2 | e2)
      · exact e.2 e2.1
      · have := hr b hb; omega
/-- What is new from now on is not the waiting ones'. -/
theorem InMem.keepNew (h : InMem B N m uo cu gs told ord ask wait left Q uvs wvs rvs av rv w wr) (hN : uo < N) : InMem B N m uo cu gs told ord ask wait left (fun b => Q b ∧ b < wr.heap.size) uvs wvs rvs av rv w wr := by
  have hs := h.size
  refine ⟨h.mem.mono (fun b hb hl => ?_) ⟨by omega, fun e => e.2 rfl, ?_, ?_, ?_, ?_, ?_, ?_⟩, h.ask, fun b hb => ⟨(h.askb b hb).1, fun e => (h.askb b hb).2 e.1⟩, h.row, fun b hb => (h.rowb b hb).imp id (fun e => ⟨e.1, fun e2 => e.2 e2.1⟩), h.rows, h.size, h.fr, h.base⟩
  · rcases hb with hb | hb
    · exact .inl hb
    · exact .inr ⟨hb.1, hb.2, hl⟩
  · rintro (e | e) <;> omega
  · rintro (e | e) <;> omega
  · rintro (e | e) <;> omega
  · rintro (e | e) <;> omega
  · rintro (e | e) <;> omega
  · rintro b hb (e | e) <;> omega
/-- Behind the heap's work. -/
theorem InMem.asked (h : InMem B N m uo cu gs told ord ask wait left Q uvs wvs rvs av rv w wr) (hN : uo < N) {w' : World} {ask' : List Nat} {av' : Value} (hA : AskAt N (N + 1 + 1 + 1 + 1 + 1 + 1) ask' av' w') (hf : Fr (fun b => b = N + 1 + 1 + 1 + 1 + 1 + 1 ∨ av.ownBlock = some b) wr w') (hat : av'.ownBlock = av.ownBlock ∨ ∃ k, av'.ownBlock = some k ∧ wr.heap.size ≤ k) :
    InMem B N m uo cu gs told ord ask' wait left (fun b => Q b ∧ b < wr.heap.size) uvs wvs rvs av' rv w w' := by
  have hk := h.keepNew hN
  have hs := h.size
  have htr := hk.mem.trow
  have key : ∀ b, b < wr.heap.size → b ≠ N + 1 + 1 + 1 + 1 + 1 + 1 → av.ownBlock ≠ some b → w'.heap[b]? = wr.heap[b]? := fun b hb h1 h2 => hf.block b hb (fun e => e.elim h1 h2)
  have hav : ∀ b, av.ownBlock = some b → N + 1 + 1 + 1 + 1 + 1 + 1 + 1 ≤ b ∧ ¬ Q b := h.askb
  refine ⟨hk.mem.keep hf.size (fun b hl hb => key b hl ?_ ?_), hA, fun b hb => ?_, own_keep hk.row (fun g hg => key g (hk.row.lt g hg).2 ?_ ?_), hk.rowb, fun i a b => (hk.rows i a b).keepB hf.size (fun q hq hl => key q hl (by omega) (fun e => by have := (hav q e).1; omega)), by have := hf.size; omega, ?_, h.base⟩
  · rcases hb with hb | hb | hb | hb | hb | hb | hb | hb <;> omega
  · intro e
    have h1 := hav b e
    rcases hb with hb | hb | hb | hb | hb | hb | hb | hb
    · omega
    · omega
    · omega
    · omega
    · omega
    · omega
    · omega
    · exact h1.2 hb.2.1
  · rcases hat with e | ⟨k, e, hk2⟩
    · rw [e] at hb; exact ⟨(hav b hb).1, fun e2 => (hav b hb).2 e2.1⟩
    · rw [e] at hb; injection hb with hb; subst hb
      exact ⟨by omega, fun e2 => by omega⟩
  · intro e
    rcases h.rowb g hg with e2 | e2 <;> omega
  · exact fun e => own_apart h.ask.own h.row (by decide) g e hg
  · have hw := h.fr.size
    have hb := h.base
    exact ⟨hf.os.trans h.fr.os, hf.tape.trans h.fr.tape, hf.output.trans h.fr.output, Nat.le_trans hw hf.size, fun k hk hne => (key k (by omega) (by omega) (fun e => by have := (hav k e).1; omega)).trans (h.fr.block k hk hne)⟩
/-- Behind one whose time was asked for. -/
theorem InMem.come (h : InMem B N m uo cu gs told ord ask wait left Q uvs wvs rvs av rv w wr) (hN : uo < N) {w' : World} {left' wait' : Nat → List Nat} {uvs' wvs' : List Value} (hm : RowMem B m N uo cu (N + 1 + 1 + 1) (N + 1 + 1) (N + 1 + 1 + 1 + 1 + 1) (N + 1 + 1 + 1 + 1) (fun b => b < N ∧ b ≠ uo) (fun b => b = N + 1 + 1 + 1 + 1 ∨ (N + 1 + 1 + 1 + 1 + 1 + 1 + 1 ≤ b ∧ Q b)) left' wait' told uvs' wvs' w') (hf : Fr (fun b => b = uo ∨ (b = N + 1 + 1 + 1 + 1 ∨ (N + 1 + 1 + 1 + 1 + 1 + 1 + 1 ≤ b ∧ Q b))) wr w') :
    InMem B N m uo cu gs told ord ask wait' left' Q uvs' wvs' rvs av rv w w' := by
  have hs := h.size
  have hsz := hf.size
  have hb0 := h.base
  have hw := h.fr.size
  have hA := h.ask
  have ka : ∀ b, av.ownBlock = some b → ¬ (b = uo ∨ (b = N + 1 + 1 + 1 + 1 ∨ (N + 1 + 1 + 1 + 1 + 1 + 1 + 1 ≤ b ∧ Q b))) := fun b hb e => by
    have h9 := h.askb b hb
    rcases e with e | e | e
    · omega
    · omega
    · exact h9.2 e.2
  have kr : ∀ b, rv.ownBlock = some b → ¬ (b = uo ∨ (b = N + 1 + 1 + 1 + 1 ∨ (N + 1 + 1 + 1 + 1 + 1 + 1 + 1 ≤ b ∧ Q b))) := fun b hb e => by
    rcases h.rowb b hb with h9 | h9
    · rcases e with e | e | e <;> omega
    · rcases e with e | e | e
      · omega
      · omega
      · exact h9.2 e.2
  refine ⟨hm, ⟨(hf.block _ (lt_of_block hA.box) (by omega)).trans hA.box, own_keep hA.own (fun b hb => hf.block b (hA.own.lt b hb).2 (ka b hb)), hA.le⟩, h.askb, own_keep h.row (fun b hb => hf.block b (h.row.lt b hb).2 (kr b hb)), h.rowb, fun i a b => (h.rows i a b).keepB hf.size (fun q hq hl => hf.block q hl (by omega)), by omega, ?_, h.base⟩
  exact ⟨hf.os.trans h.fr.os, hf.tape.trans h.fr.tape, hf.output.trans h.fr.output, Nat.le_trans hw hf.size, fun k hk hne => (hf.block k (by omega) (by omega)).trans (h.fr.block k hk hne)⟩
/-- One is told. -/
theorem InMem.tell (h : InMem B N m uo cu gs told ord ask wait left Q uvs wvs rvs av rv w wr) (g : Nat) : InMem B N m uo cu gs (upd told g true) ord ask wait left Q uvs wvs rvs av rv w (wr.setCell ⟨N + 1 + 1, g, none⟩ (.bool true)) := by
  have hb0 := h.base
  have hA := h.ask
  have hoth : ∀ k, k ≠ N + 1 + 1 → (wr.setCell ⟨N + 1 + 1, g, none⟩ (.bool true)).heap[k]? = wr.heap[k]? := fun k hk => Below.heap_setCell _ _ _ _ hk
  refine ⟨h.mem.tell (fun e => by have := e.1; omega) g, ⟨(hoth _ (by omega)).trans hA.box, own_keep hA.own (fun b hb => hoth b (by have := (h.askb b hb).1; omega)), hA.le⟩, h.askb, own_keep h.row (fun b hb => hoth b (by rcases h.rowb b hb with e | e; omega; have := e.1; omega)), h.rowb, fun i a b => (h.rows i a b).keepB (by simp) (fun q hq _ => hoth q (by have := hq.1; omega)), by simpa using h.size, ?_, h.base⟩
  exact ⟨h.fr.os, h.fr.tape, h.fr.output, by simpa using h.fr.size, fun k hk hne => (hoth k (by omega)).trans (h.fr.block k hk hne)⟩
/-- A group stands in the row. -/
theorem InMem.rowpush (h : InMem B N m uo cu gs told ord ask wait left Q uvs wvs rvs av rv w wr) (hN : uo < N) (hQ : ∀ b, Q b → b < wr.heap.size) {w' : World} {rv' u : Value} (g : Nat) (ho : w'.ownsRow N 30 1 rv' (ord.length + 1) (rvs ++ [u])) (hu : IntsAt (fun b => b < N ∧ b ≠ uo ∧ B ≤ b) wr u (natL (gs.getD g []))) (hg : wr.grownBy w' rv.ownBlock) (hat : rv'.ownBlock = rv.ownBlock ∨ ∃ k, rv'.ownBlock = some k ∧ wr.heap.size ≤ k) :
    InMem B N m uo cu gs told (ord ++ [g]) ask wait left Q uvs wvs (rvs ++ [u]) av rv' w w' := by
  have hs := h.size
  have hb0 := h.base
  have hA := h.ask
  have hl : rvs.length = ord.length := by have := h.row.1; omega
  have hoth : ∀ k, k < wr.heap.size → rv.ownBlock ≠ some k → w'.heap[k]? = wr.heap[k]? := fun k hk hne => hg.block k hk (fun e => hne e.symm)
  have hrb := h.rowb
  have h30 : ∀ {b : Nat} {cs : Array Value} {t : TypeId}, wr.heap[b]? = some (.cells cs t) → t ≠ 30 → rv.ownBlock ≠ some b := fun hb ht => own_not h.row hb (fun e => ht e.symm)
  refine ⟨h.mem.keep hg.size (fun b hl hb => hoth b hl (fun e => ?_)), ⟨(hoth _ (lt_of_block hA.box) (h30 hA.box (by decide))).trans hA.box, own_keep hA.own (fun b hb => hoth b (hA.own.lt b hb).2 (own_apart hA.own h.row (by decide) b hb)), hA.le⟩, h.askb, by rw [List.length_append, List.length_singleton]; exact ho, fun b hb => ?_, fun i a b => ?_, by have := hg.size; omega, ?_, h.base⟩
  · have h1 := hrb b e
    rcases hb with hb | hb | hb | hb | hb | hb | hb | hb
    · omega
    · omega
    · omega
    · omega
    · omega
    · omega
    · omega
    · rcases h1 with h1 | h1
      · omega
      · exact h1.2 hb.2
  · rcases hat with e | ⟨k, e, hk⟩
    · rw [e] at hb; exact hrb b hb
    · rw [e] at hb; injection hb with hb; subst hb
      exact .inr ⟨by omega, fun e2 => by have := hQ _ e2; omega⟩
  · have hrow : ∀ q, (q < N ∧ q ≠ uo ∧ B ≤ q) → q < wr.heap.size → w'.heap[q]? = wr.heap[q]? := fun q hq hl => hoth q hl (fun e => by have := hrb q e; omega)
    rw [List.length_append, List.length_singleton] at a b
    by_cases hi : i < rvs.length
    · have hi2 : i < ord.length := by omega
      rw [List.getElem_append_left hi]
      have e1 : (ord ++ [g])[i] = ord[i] := List.getElem_append_left hi2
      rw [e1]
      exact (h.rows i hi hi2).keepB hg.size hrow
    · have ei : i = rvs.length := by omega
      subst ei
      have e1 : (rvs ++ [u])[rvs.length] = u := by simp
      have e2 : (ord ++ [g])[rvs.length]'(by simp; omega) = g := by simp [hl]
      rw [e1, e2]
      exact hu.keepB hg.size hrow
  · have hw := h.fr.size
    exact ⟨hg.os.trans h.fr.os, hg.tape.trans h.fr.tape, hg.output.trans h.fr.output, Nat.le_trans hw hg.size, fun k hk hne => (hoth k (by omega) (fun e => by have := hrb k e; omega)).trans (h.fr.block k hk hne)⟩
end
end Go.Proofs.Ythmnghngcbkjpaa
