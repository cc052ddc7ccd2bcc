/- A trial in memory (an Equal under way), and the contract of its learn. Conditions: those that each theorem names. -/
import Derived.Test.YtomhojpoaicioaaWithin
import Derived.Deep.AppendLies
import Derived.Test.YtomhojpoaicioaaRead
namespace Go.Proofs.Ytomhojpoaicioaa
open Go.RowKit

/-- Blocks in which terms may lie: neither the trial's own, nor the solver's, nor its map, nor the row of what was known before. -/
def FB (tb sb mb : Nat) (bv : Value) (b : Nat) : Prop := b ≠ tb ∧ b ≠ sb ∧ b ≠ mb ∧ bv.ownBlock ≠ some b
/-- .. and none of the boxes of the functions under way. -/
def FL (L : Nat → Prop) (tb sb mb : Nat) (bv : Value) (b : Nat) : Prop := FB tb sb mb bv b ∧ ¬ L b
theorem KnAt.lt {P : Nat → Prop} {w : World} {mb sz : Nat} {kn : Kn} (h : KnAt P w mb sz kn) : mb < w.heap.size := by obtain ⟨f, hm, _⟩ := h; exact hm.lt
/-- A fact's five cells. -/
structure F5 where
  n : Int
  a : Value
  b : Value
  c : Value
  k : Bool
/-- A term's three cells are two numbers and a slice. -/
def F5.plain (f : F5) : Prop := ∃ (x y : Int) (A : Option Addr) (m c : Nat), f.a = .int .i64 x ∧ f.b = .int .i64 y ∧ f.c = .slice A m c
def F5.cells (f : F5) : List Value := [.int .i64 f.n, f.a, f.b, f.c, .bool f.k]
def cellsF (fs : List F5) : List Value := fs.flatMap F5.cells
theorem cellsF_len (fs : List F5) : (cellsF fs).length = fs.length * 5 := by
  induction fs with
  | nil => rfl
  | cons x r ih => simp [cellsF, F5.cells] at *; omega
/-- Facts that read as what was known before of these variables. -/
def LogAt (P : Nat → Prop) (w : World) (fs : List F5) (log : List (Int × Option Tz)) : Prop :=
  fs.length = log.length ∧ ∀ i (h : i < fs.length) (h' : i < log.length), fs[i].n = log[i].1 ∧ fs[i].k = log[i].2.isSome ∧ (-9223372036854775808 ≤ fs[i].n ∧ fs[i].n ≤ 9223372036854775807) ∧ (∀ t, log[i].2 = some t → ZAt P w t (.agg #[fs[i].a, fs[i].b, fs[i].c])) ∧ fs[i].plain
structure TrAt (L : Nat → Prop) (w : World) (tb sb mb sz : Nat) (made : Int) (kn : Kn) (bv : Value) (fs : List F5) (log : List (Int × Option Tz)) : Prop where
  t0 : w.cell? ⟨tb, 0, none⟩ = some (.pointer (some ⟨sb, 0, none⟩))
  t1 : w.cell? ⟨tb, 1, none⟩ = some bv
  ft : w.frozen? ⟨tb, 1, none⟩ = false
  ts : tb ≠ sb
  tm : tb ≠ mb
  sol : SolAt (FL L tb sb mb bv) w sb mb sz made kn
  row : w.ownsRow (tb + 1) 106 5 bv fs.length (cellsF fs)
  slt : sb < tb
  mlt : mb < tb
  log : LogAt (FL L tb sb mb bv) w fs log
theorem TrAt.tlt {L : Nat → Prop} {w : World} {tb sb mb sz : Nat} {made : Int} {kn : Kn} {bv : Value} {fs : List F5} {log : List (Int × Option Tz)} (h : TrAt L w tb sb mb sz made kn bv fs log) : tb < w.heap.size := World.block_lt_of_cell? w _ h.t1
/-- Nothing is told to the world outside. -/
structure Quiet (w w' : World) : Prop where
  os : w'.os = w.os
  tape : w'.tape = w.tape
  output : w'.output = w.output
theorem Quiet.trans {a b c : World} (h : Quiet a b) (h' : Quiet b c) : Quiet a c := ⟨h'.os.trans h.os, h'.tape.trans h.tape, h'.output.trans h.output⟩
theorem Quiet.of_below {B : Nat} {w w' : World} (h : Below B w w') : Quiet w w' := ⟨h.os, h.tape, h.output⟩
theorem Quiet.of_grown {w w' : World} {r : Option Nat} (h : w.grownBy w' r) : Quiet w w' := ⟨h.os, h.tape, h.output⟩
theorem Quiet.setCell (w : World) (a : Addr) (u : Value) : Quiet w (w.setCell a u) := .of_below ((Below.refl 0 w).setCell (Nat.zero_le _) u)
/-- Blocks of terms stand as they stood. -/
structure Fr (tb sb mb : Nat) (bv bv' : Value) (w w' : World) : Prop where
  size : w.heap.size ≤ w'.heap.size
  block : ∀ b, b < w.heap.size → FB tb sb mb bv b → w'.heap[b]? = w.heap[b]?
  at' : bv'.ownBlock = bv.ownBlock ∨ ∃ q, bv'.ownBlock = some q ∧ w.heap.size ≤ q
  quiet : Quiet w w'
theorem Fr.fb {tb sb mb : Nat} {bv bv' : Value} {w w' : World} (h : Fr tb sb mb bv bv' w w') {b : Nat} (hb : FB tb sb mb bv b) (hlt : b < w.heap.size) : FB tb sb mb bv' b := ⟨hb.1, hb.2.1, hb.2.2.1, by
  rcases h.at' with e | ⟨q, e, hq⟩
  · rw [e]; exact hb.2.2.2
  · rw [e]; intro e2; injection e2 with e2; omega⟩
theorem Fr.trans {tb sb mb : Nat} {b1 b2 b3 : Value} {w1 w2 w3 : World} (h : Fr tb sb mb b1 b2 w1 w2) (h' : Fr tb sb mb b2 b3 w2 w3) : Fr tb sb mb b1 b3 w1 w3 := by
  refine ⟨Nat.le_trans h.size h'.size, fun b hlt hb => (h'.block b (Nat.lt_of_lt_of_le hlt h.size) (h.fb hb hlt)).trans (h.block b hlt hb), ?_, h.quiet.trans h'.quiet⟩
  rcases h'.at' with e | ⟨q, e, hq⟩
  · rw [e]; exact h.at'
  · exact .inr ⟨q, e, Nat.le_trans h.size hq⟩
theorem Fr.keeps {tb sb mb : Nat} {bv bv' : Value} {w w' : World} (h : Fr tb sb mb bv bv' w w') : Keeps (FB tb sb mb bv) w w' := ⟨h.size, fun b _ hb hlt => World.cell?_of_block (h.block b hlt hb)⟩
theorem Fr.zat {L : Nat → Prop} {tb sb mb : Nat} {bv bv' : Value} {w w' : World} (h : Fr tb sb mb bv bv' w w') {t : Tz} {v : Value} (hv : ZAt (FL L tb sb mb bv) w t v) : ZAt (FL L tb sb mb bv') w' t v :=
  (hv.bound.keep ⟨h.size, fun b o hb hlt => h.keeps.cell b o hb.1.1 hlt⟩).mono (fun _ hb => ⟨h.fb hb.1.1 hb.2, hb.1.2⟩)
theorem Fr.of_below {tb sb mb : Nat} {bv : Value} {w w' : World} (h : Below w.heap.size w w') : Fr tb sb mb bv bv w w' := ⟨h.size, fun b hlt _ => h.block b hlt, .inl rfl, .of_below h⟩
theorem TrAt.on {L : Nat → Prop} {w w' : World} {tb sb mb sz : Nat} {made : Int} {kn : Kn} {bv : Value} {fs : List F5} {log : List (Int × Option Tz)} (h : TrAt L w tb sb mb sz made kn bv fs log) (hb : Below w.heap.size w w') : TrAt L w' tb sb mb sz made kn bv fs log :=
  ⟨(hb.cell (p := ⟨tb, 0, none⟩) h.tlt).trans h.t0, (hb.cell (p := ⟨tb, 1, none⟩) h.tlt).trans h.t1, (hb.frozen (p := ⟨tb, 1, none⟩) h.tlt).trans h.ft, h.ts, h.tm, h.sol.on hb, ownsRow_below' h.row hb, h.slt, h.mlt,
    h.log.1, fun i a b => by
      obtain ⟨q1, q2, q3, q4, q5⟩ := h.log.2 i a b
      exact ⟨q1, q2, q3, fun t e => (q4 t e).on hb, q5⟩⟩
theorem Try.info106 : (Try.prog.info? 106).map (fun i => (i.zero, i.size, i.bytes)) = some (some (.agg #[.int .i64 0, .int .i64 0, .int .i64 0, .slice none 0 0, .bool false]), 5, 56) := by kernel_rfl
theorem five_new (w : World) (a0 a1 a2 a3 a4 : Value) (t : TypeId) : ∀ j u, [a0, a1, a2, a3, a4][j]? = some u → (w.alloc (.cells #[a0, a1, a2, a3, a4] t)).cell? ((⟨w.heap.size, 0, none⟩ : Addr).add j) = some u := by
  intro j u h
  rw [Go.WideShapes.add_plain, Nat.zero_add, World.cell?_alloc_at _ _ _ _ rfl]
  simpa using h
/-- What learn did. -/
def Learnt (L : Nat → Prop) (w : World) (tb sb mb sz : Nat) (made : Int) (kn : Kn) (bv : Value) (log : List (Int × Option Tz)) (n : Int) (x : Tz) (e : Ending) (w' : World) : Prop :=
  e = .returned (.tuple #[]) ∧ ∃ bv' fs', TrAt L w' tb sb mb (if (kn n).isSome then sz else sz + 1) made (setK kn n (some x)) bv' fs' (log ++ [(n, kn n)]) ∧ Fr tb sb mb bv bv' w w'
theorem cellsF_snoc (fs : List F5) (f : F5) : cellsF (fs ++ [f]) = cellsF fs ++ f.cells := by simp [cellsF]
/-- The row of facts gets one more. -/
theorem TrAt.push {L : Nat → Prop} {wa wn w2 : World} {tb sb mb sz : Nat} {made : Int} {kn : Kn} {bv bv' : Value} {fs : List F5} {log : List (Int × Option Tz)} (h : TrAt L wa tb sb mb sz made kn bv fs log) (hn : Below wa.heap.size wa wn) (f : F5) (old : Option Tz)
    (hk : f.k = old.isSome) (hn1 : -9223372036854775808 ≤ f.n ∧ f.n ≤ 9223372036854775807) (hz : ∀ t, old = some t → ZAt (FL L tb sb mb bv) wa t (.agg #[f.a, f.b, f.c])) (h1 : f.plain)
    (ho : w2.ownsRow (tb + 1) 106 5 bv' (fs.length + 1) (cellsF fs ++ f.cells)) (hg : wn.grownBy w2 bv.ownBlock) (hat : bv'.ownBlock = bv.ownBlock ∨ ∃ q, bv'.ownBlock = some q ∧ wn.heap.size ≤ q) :
    TrAt L (w2.setCell ⟨tb, 1, none⟩ bv') tb sb mb sz made kn bv' (fs ++ [f]) (log ++ [(f.n, old)]) ∧ Fr tb sb mb bv bv' wa (w2.setCell ⟨tb, 1, none⟩ bv') := by
  have hzn := hn.size
  have tlt := h.tlt
  have hrow : ∀ q, bv.ownBlock = some q → tb + 1 ≤ q := fun q hq => (h.row.lt q hq).1
  have fr : Fr tb sb mb bv bv' wa (w2.setCell ⟨tb, 1, none⟩ bv') := by
    refine ⟨by have := hg.size; simp; omega, fun b hlt hb => ?_, ?_, ((Quiet.of_below hn).trans (.of_grown hg)).trans (.setCell _ _ _)⟩
    · rw [Below.heap_setCell _ _ _ _ (fun e => hb.1 (by simpa using e))]
      rw [hg.block b (by omega) (fun e => hb.2.2.2 e.symm)]
      exact hn.block b hlt
    · rcases hat with e | ⟨q, e, hq⟩
      · exact .inl e
      · exact .inr ⟨q, e, by omega⟩
  have old2 : ∀ b, b < wa.heap.size → b ≠ tb → bv.ownBlock ≠ some b → (w2.setCell ⟨tb, 1, none⟩ bv').heap[b]? = wa.heap[b]? := fun b hlt hb hne => by
    rw [Below.heap_setCell _ _ _ _ (fun e => hb (by simpa using e))]
    rw [hg.block b (by omega) (fun e => hne e.symm)]
    exact hn.block b hlt
  have htb : w2.heap[tb]? = wa.heap[tb]? := (hg.block tb (by omega) (fun e => by have := hrow tb e.symm; omega)).trans (hn.block tb tlt)
  have c0 : w2.cell? ⟨tb, 0, none⟩ = some (.pointer (some ⟨sb, 0, none⟩)) := (World.cell?_of_block htb).trans h.t0
  have c1 : w2.cell? ⟨tb, 1, none⟩ = some bv := (World.cell?_of_block htb).trans h.t1
  have f1 : w2.frozen? ⟨tb, 1, none⟩ = false := (World.frozen?_of_block htb).trans h.ft
  have hsb := old2 sb h.sol.lt (fun e => h.ts e.symm) (fun e => by have := hrow sb e; have := h.slt; omega)
  have hmb := old2 mb h.sol.known.lt (fun e => h.tm e.symm) (fun e => by have := hrow mb e; have := h.mlt; omega)
  refine ⟨⟨?_, ?_, ?_, h.ts, h.tm, ⟨?_, ?_, ?_, ?_, ?_⟩, ?_, h.slt, h.mlt, ?_⟩, fr⟩
  · simp [go_sem, c0]
  · simp [go_sem, c1]
  · simp [go_sem, f1]
  · exact (World.cell?_of_block hsb).trans h.sol.c0
  · exact (World.cell?_of_block hsb).trans h.sol.c1
  · exact (World.frozen?_of_block hsb).trans h.sol.f0
  · exact Nat.lt_of_lt_of_le h.sol.lt fr.size
  · obtain ⟨g, hm, hf⟩ := h.sol.known
    refine ⟨g, hm.block hmb, fun x => ?_⟩
    have h9 := hf x
    cases e : kn x with
    | none => rw [e] at h9; exact h9
    | some t => rw [e] at h9; obtain ⟨v, e1, e2⟩ := h9; exact ⟨v, e1, fr.zat e2⟩
  · rw [cellsF_snoc, List.length_append]
    exact ownsRow_setCell_other ho (fun e => by have := (ho.lt tb (by simpa using e)).1; omega) _
  · refine ⟨by simp [h.log.1], fun i a b => ?_⟩
    by_cases hi : i < fs.length
    · have hi' : i < log.length := by rw [← h.log.1]; exact hi
      rw [List.getElem_append_left hi, List.getElem_append_left hi']
      obtain ⟨q1, q2, q3, q4, q5⟩ := h.log.2 i hi hi'
      exact ⟨q1, q2, q3, fun t e => fr.zat (q4 t e), q5⟩
    · have e : i = fs.length := by simp at a; omega
      subst e
      have e1 : (fs ++ [f])[fs.length]'a = f := by simp
      have e2 : (log ++ [(f.n, old)])[fs.length]'b = (f.n, old) := by simp [h.log.1]
      rw [e1, e2]
      exact ⟨rfl, hk, hn1, fun t e => fr.zat (hz t e), h1⟩
/-- What is known of a variable changes. -/
theorem TrAt.store {L : Nat → Prop} {w w' : World} {tb sb mb sz sz' : Nat} {made : Int} {kn : Kn} {bv : Value} {fs : List F5} {log : List (Int × Option Tz)} (h : TrAt L w tb sb mb sz made kn bv fs log) {n : Int} {x : Option Tz} {f : Int → Option Value} {v : Option Value}
    (hf : ∀ y, match kn y with | none => f y = none | some t => ∃ u, f y = some u ∧ ZAt (FL L tb sb mb bv) w t u) (hM : MapI Try.prog 3 w' mb sz' (setF f n v)) (hg : w.grownBy w' (some mb)) (hx : match x with | none => v = none | some t => ∃ u, v = some u ∧ ZAt (FL L tb sb mb bv) w t u) :
    TrAt L w' tb sb mb sz' made (setK kn n x) bv fs log ∧ Fr tb sb mb bv bv w w' := by
  have fr : Fr tb sb mb bv bv w w' := ⟨hg.size, fun b hlt hb => hg.block b hlt (fun e => hb.2.2.1 (by injection e)), .inl rfl, .of_grown hg⟩
  have hsb : w'.heap[sb]? = w.heap[sb]? := hg.block sb h.sol.lt (fun e => by injection e with e; obtain ⟨g, hm, _⟩ := h.sol.known; have := hm.noCell 1; rw [← e, h.sol.c1] at this; cases this)
  have htb : w'.heap[tb]? = w.heap[tb]? := hg.block tb h.tlt (fun e => h.tm (by injection e))
  refine ⟨⟨(World.cell?_of_block htb).trans h.t0, (World.cell?_of_block htb).trans h.t1, (World.frozen?_of_block htb).trans h.ft, h.ts, h.tm, ⟨(World.cell?_of_block hsb).trans h.sol.c0, (World.cell?_of_block hsb).trans h.sol.c1, (World.frozen?_of_block hsb).trans h.sol.f0, Nat.lt_of_lt_of_le h.sol.lt hg.size, ?_⟩, ?_, h.slt, h.mlt, ?_⟩, fr⟩
  · refine ⟨_, hM, fun y => ?_⟩
    by_cases e : y = n
    · subst e
      rw [setK_self]
      cases x with
      | none => rw [setF_self]; exact hx
      | some t => obtain ⟨u, e1, e2⟩ := hx; exact ⟨u, by rw [setF_self]; exact e1, fr.zat e2⟩
    · rw [setK_ne _ _ e]
      have h9 := hf y
      cases e2 : kn y with
      | none => rw [e2] at h9; show setF f n v y = none; rw [setF_ne _ _ e]; exact h9
      | some t => rw [e2] at h9; obtain ⟨u, q1, q2⟩ := h9; exact ⟨u, by rw [setF_ne _ _ e]; exact q1, fr.zat q2⟩
  · refine h.row.kept hg ?_
    cases hv : bv.ownBlock with
    | none => exact .inl rfl
    | some q => exact .inr (fun e => by injection e with e; have := (h.row.lt q hv).1; have := h.mlt; omega)
  · refine ⟨h.log.1, fun i a b => ?_⟩
    obtain ⟨q1, q2, q3, q4, q5⟩ := h.log.2 i a b
    exact ⟨q1, q2, q3, fun t e => fr.zat (q4 t e), q5⟩
theorem ZAt.more {L L' : Nat → Prop} {tb sb mb : Nat} {bv : Value} {w : World} {t : Tz} {v : Value} (h : ZAt (FL L tb sb mb bv) w t v) (hL : ∀ b, L' b → L b ∨ w.heap.size ≤ b) : ZAt (FL L' tb sb mb bv) w t v :=
  h.bound.mono (fun b hb => ⟨hb.1.1, fun h9 => by
    rcases hL b h9 with h8 | h8
    · exact hb.1.2 h8
    · have := hb.2; omega⟩)
/-- Boxes that are new hold no term; nor need those be named that are done with. -/
theorem TrAt.more {L L' : Nat → Prop} {w : World} {tb sb mb sz : Nat} {made : Int} {kn : Kn} {bv : Value} {fs : List F5} {log : List (Int × Option Tz)} (h : TrAt L w tb sb mb sz made kn bv fs log) (hL : ∀ b, L' b → L b ∨ w.heap.size ≤ b) : TrAt L' w tb sb mb sz made kn bv fs log := by
  refine ⟨h.t0, h.t1, h.ft, h.ts, h.tm, ⟨h.sol.c0, h.sol.c1, h.sol.f0, h.sol.lt, ?_⟩, h.row, h.slt, h.mlt, h.log.1, fun i a b => ?_⟩
  · obtain ⟨g, hm, hf⟩ := h.sol.known
    refine ⟨g, hm, fun x => ?_⟩
    have h9 := hf x
    cases e : kn x with
    | none => rw [e] at h9; exact h9
    | some t => rw [e] at h9; obtain ⟨v, e1, e2⟩ := h9; exact ⟨v, e1, e2.more hL⟩
  · obtain ⟨q1, q2, q3, q4, q5⟩ := h.log.2 i a b
    exact ⟨q1, q2, q3, fun t e => (q4 t e).more hL, q5⟩
/-- A store into a box. -/
theorem TrAt.box {L : Nat → Prop} {w : World} {tb sb mb sz : Nat} {made : Int} {kn : Kn} {bv : Value} {fs : List F5} {log : List (Int × Option Tz)} (h : TrAt L w tb sb mb sz made kn bv fs log) {b o : Nat} (hL : L b) (hF : FB tb sb mb bv b) (u : Value) : TrAt L (w.setCell ⟨b, o, none⟩ u) tb sb mb sz made kn bv fs log := by
  have hkp : Keeps (FL L tb sb mb bv) w (w.setCell ⟨b, o, none⟩ u) := .setCell (fun e => e.2 hL) _
  have blk : ∀ x, x ≠ b → (w.setCell ⟨b, o, none⟩ u).heap[x]? = w.heap[x]? := fun x hx => Below.heap_setCell _ _ _ _ (fun e => hx (by simpa using e))
  have htb := blk tb (fun e => hF.1 e.symm)
  have hsb := blk sb (fun e => hF.2.1 e.symm)
  have hmb := blk mb (fun e => hF.2.2.1 e.symm)
  refine ⟨(World.cell?_of_block htb).trans h.t0, (World.cell?_of_block htb).trans h.t1, (World.frozen?_of_block htb).trans h.ft, h.ts, h.tm, ⟨(World.cell?_of_block hsb).trans h.sol.c0, (World.cell?_of_block hsb).trans h.sol.c1, (World.frozen?_of_block hsb).trans h.sol.f0, by have := h.sol.lt; simpa using this, ?_⟩, ownsRow_setCell_other h.row (fun e => hF.2.2.2 e) _, h.slt, h.mlt, h.log.1, fun i a b => ?_⟩
  · obtain ⟨g, hm, hf⟩ := h.sol.known
    refine ⟨g, hm.block hmb, fun x => ?_⟩
    have h9 := hf x
    cases e : kn x with
    | none => rw [e] at h9; exact h9
    | some t => rw [e] at h9; obtain ⟨v, e1, e2⟩ := h9; exact ⟨v, e1, e2.keep hkp⟩
  · obtain ⟨q1, q2, q3, q4, q5⟩ := h.log.2 i a b
    exact ⟨q1, q2, q3, fun t e => (q4 t e).keep hkp, q5⟩
end Go.Proofs.Ytomhojpoaicioaa
