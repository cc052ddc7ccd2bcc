/- The contracts of slices.Backward at types, and of what it hands back, for every body of a loop. No conditions but those that each theorem names. Types in memory (chapter 4): a struct that reads as a type, at every depth. No conditions but those that each theorem names. -/
import Derived.RangeFuncNested
import Derived.RangeFuncBound
import Derived.RangeFuncCalls
import Derived.RangeFuncLeaves
import Derived.RangeFuncBox
import Derived.Shelf.Abstract
import Derived.Shelf.RegionOpen
import Derived.WalkKit
import Derived.OwnWalkIn
import Derived.TacticsInMore
import Derived.LoopNIn
import Derived.LoopIn
import Derived.Test.YtbdfjboojokgdaaDoorProg
import Derived.WalkSpells
import Derived.WalkLawsBesides
import Derived.Lib.Strings
import Derived.Lib.Hide
import Derived.Deep.QuietTactic
import Derived.BigQuiet
import Derived.Deep.RegionWith
import Derived.StillTailTactics
import Derived.Laws.MakeOwn
namespace Go.Proofs.YtbdfjboojokgdaaDoor
open Go.RowKit Go.Shelf
attribute [local go_sem] Oper.semAt_some

/-- The numbers that have come behind so many rounds: from the last on. -/
def dn (len k : Nat) : List Nat := (List.range k).map (fun j => len - 1 - j)
theorem dn_succ (len k : Nat) : dn len (k + 1) = dn len k ++ [len - 1 - k] := by simp [dn, List.range_succ]
theorem dn_length (len k : Nat) : (dn len k).length = k := by simp [dn]
/-- What a round keeps: all below a number, and one box. -/
def KB (n₀ Bs : Nat) (W W' : World) : Prop := Below n₀ W W' ∧ W'.heap[Bs]? = W.heap[Bs]?
theorem KB.refl (n₀ Bs : Nat) (W : World) : KB n₀ Bs W W := ⟨Below.refl _ _, rfl⟩
theorem KB.trans {n₀ Bs : Nat} {A B C : World} (h : KB n₀ Bs A B) (k : KB n₀ Bs B C) : KB n₀ Bs A C := ⟨h.1.trans k.1, k.2.trans h.2⟩
theorem KB.b {n₀ Bs : Nat} {w : World} (hn : n₀ ≤ w.heap.size) (hB : Bs < w.heap.size) (W : World) (l : Nat) (o o' : Obj) (hl : w.heap.size ≤ l) (h : W.heap[l]? = some o) (h1 : o.isCells = false) (h2 : o.isWalk = false) : KB n₀ Bs W (W.putObj l o') :=
  ⟨belowK_b hn W l o o' hl h h1 h2, World.putObj_heap_other (by omega)⟩
/-- Five functions that tell the four cells of each. -/
structure Row4 where
  f : Nat → Int
  n : Nat → Int
  s : Nat → ByteArray
  A : Nat → Option Addr
  l : Nat → Nat
  c : Nat → Nat
def Row4.val (r : Row4) (k : Nat) : Value := .agg #[.int .i64 (r.f k), .int .i64 (r.n k), .string (r.s k), .slice (r.A k) (r.l k) (r.c k)]
def Row4.cells (r : Row4) (W : World) (b off len : Nat) : Prop := ∀ j, j < len → W.cell? ⟨b, off + j * 4, none⟩ = some (.int .i64 (r.f j)) ∧ W.cell? ⟨b, off + j * 4 + 1, none⟩ = some (.int .i64 (r.n j)) ∧ W.cell? ⟨b, off + j * 4 + 2, none⟩ = some (.string (r.s j)) ∧ W.cell? ⟨b, off + j * 4 + 3, none⟩ = some (.slice (r.A j) (r.l j) (r.c j))
set_option maxRecDepth 100000 in
set_option maxHeartbeats 1000000 in
theorem back1_in (F : Fence) (n : Nat) (h70 : F.fn 134) (hro : F.round = none) (hn : 1 ≤ n) (l Bs n₀ b off len cap : Nat) (A : Option Addr) (r : Row4) (hreach : len ≤ 1099511627776) (hb : 0 < len → b < n₀) (hA : len = 0 ∨ A = some ⟨b, off, none⟩) (J Jx : List Nat → World → Prop)
    (hY : ∀ (pre : List Nat) (x : Nat) (W : World), J pre W → pre.length < len → YieldAt F (n - 1) Tryd.prog l #[.int .i64 (x : Int), r.val x] W fun e W' =>
      (e = .returned (.bool true) ∧ J (pre ++ [x]) W' ∧ KB n₀ Bs W W') ∨ (e = .returned (.bool false) ∧ Jx (pre ++ [x]) W'))
    (W : World) (hBs : W.cell? ⟨Bs, 0, none⟩ = some (.slice A len cap)) (hc : r.cells W b off len) (h0 : J [] W) :
    CallsIn F n Tryd.prog 134 #[.func (.yield l) #[] #[], .pointer (some ⟨Bs, 0, none⟩)] W fun e W' => (∃ v, e = .returned v) ∧
      ((∃ ys, ys = dn len len ∧ J ys W') ∨ (∃ pre, (∃ k, k ≤ len ∧ pre = dn len k) ∧ Jx pre W')) := by
  refine callsIn_of_wp Tryd.func134 rfl h70 ?_ hro
  simp only [Tryd.ntmps134, List.size_toArray, List.length_cons, List.length_nil, Nat.reduceAdd, Nat.reduceSub, Array.replicate_succ, Array.replicate_zero, List.push_toArray, List.append_toArray, List.nil_append, List.cons_append]
  gi_wp2
  gi_loopw [3] (fun i wr => ∃ k : Nat, k ≤ len ∧ i = .int .i64 ((len : Int) - 1 - k) ∧ J (dn len k) wr ∧ KB n₀ Bs W wr)
    (fun i _ => (intOf i + 1).toNat)
  case atStart => exact ⟨0, Nat.zero_le _, by simp, h0, KB.refl _ _ _⟩
  case round =>
    obtain ⟨k, hk, rfl, hJs, hnx⟩ := hrel
    have hbs' := (World.cell?_of_block (a := ⟨Bs, 0, none⟩) hnx.2).trans hBs
    by_cases hlt : k < len
    · obtain ⟨m, hm, hm2⟩ : ∃ m : Nat, (len : Int) - 1 - k = m ∧ len - 1 - k = m := ⟨len - 1 - k, by omega, rfl⟩
      have hml : m < len := by omega
      obtain rfl : A = some ⟨b, off, none⟩ := by rcases hA with h | h; omega; exact h
      obtain ⟨c0, c1, c2, c3⟩ := hc m hml
      have c0' := (hnx.1.cell (p := ⟨b, off + m * 4, none⟩) (hb (by omega))).trans c0
      have c1' := (hnx.1.cell (p := ⟨b, off + m * 4 + 1, none⟩) (hb (by omega))).trans c1
      have c2' := (hnx.1.cell (p := ⟨b, off + m * 4 + 2, none⟩) (hb (by omega))).trans c2
      have c3' := (hnx.1.cell (p := ⟨b, off + m * 4 + 3, none⟩) (hb (by omega))).trans c3
      obtain ⟨fn, tmps, assign, body, hy, hR⟩ := hY _ m wr hJs (by rw [dn_length]; exact hlt)
      unfold Row4.val at hy
      rw [hm]
      have hm0 : (0 : Int) ≤ (m : Int) := by omega
      have hmi : (m : Int) < (len : Int) := by omega
      gi_wp2
      refine hR.mono ?_
      rintro e W3 (⟨rfl, hJ3, hk3⟩ | ⟨rfl, hJx3⟩)
      · gi_wp2
        go_roundw
        case rel => exact ⟨k + 1, by omega, by congr 1; omega, by rw [dn_succ, hm2]; exact hJ3, hnx.trans hk3⟩
        case measure => simp [intOf]
      · gi_wp2
        refine bodyPost_ret (results_none rfl _ _ _) rfl ?_
        exact ⟨⟨_, rfl⟩, .inr ⟨_, ⟨k + 1, by omega, by rw [dn_succ, hm2]⟩, hJx3⟩⟩
    · obtain rfl : k = len := by omega
      have e1 : (k : Int) - 1 - k = -1 := by omega
      rw [e1]
      gi_wp2
      go_end0
      exact ⟨⟨_, rfl⟩, .inl ⟨_, rfl, hJs⟩⟩
set_option maxHeartbeats 1000000 in
theorem back_in (F : Fence) (n : Nat) (h44 : F.fn 102) (hro : F.round = none) (v : Value) (w : World) (hv : ∃ A len cap, v = .slice A len cap) :
    CallsIn F n Tryd.prog 102 #[v] w fun e w' => e = .returned (.func (.func 134) #[] #[.pointer (some ⟨w.heap.size, 0, none⟩)]) ∧ w' = w.alloc (.cells #[v] 23) := by
  obtain ⟨A, len, cap, rfl⟩ := hv
  refine callsIn_of_wp Tryd.func102 rfl h44 ?_ hro
  simp only [Tryd.ntmps102, List.size_toArray, List.length_cons, List.length_nil, Nat.reduceAdd, Nat.reduceSub, Array.replicate_succ, Array.replicate_zero, List.push_toArray, List.append_toArray, List.nil_append, List.cons_append]
  gi_wp2
  go_ret
  exact ⟨rfl, rfl⟩
theorem back_stops (F : Fence) (n : Nat) (h70 : F.fn 134) (hro : F.round = none) (hn : 1 ≤ n) (Bs n₀ b off len cap : Nat) (A : Option Addr) (r : Row4) (w : World) (hreach : len ≤ 1099511627776) (hb : 0 < len → b < n₀) (hA : len = 0 ∨ A = some ⟨b, off, none⟩) (hBs : Bs < w.heap.size) (hn₀ : n₀ ≤ w.heap.size)
    (hc : w.cell? ⟨Bs, 0, none⟩ = some (.slice A len cap)) (hr : r.cells w b off len) :
    SeqStopsK F n Tryd.prog 134 #[.pointer (some ⟨Bs, 0, none⟩)] (fun x : Nat => #[Value.int .i64 (x : Int), r.val x]) (KB n₀ Bs) (fun ys => ys = dn len len) (fun pre => ∃ k, k ≤ len ∧ pre = dn len k) len w := fun l J Jx W hW _ _ hY h0 =>
  back1_in F n h70 hro hn l Bs n₀ b off len cap A r hreach hb hA J Jx hY W ((hW.cell (p := ⟨Bs, 0, none⟩) hBs).trans hc) (fun j hj => by
    obtain ⟨c0, c1, c2, c3⟩ := hr j hj
    have hbw : b < w.heap.size := by have := hb (by omega); omega
    exact ⟨(hW.cell (p := ⟨b, _, none⟩) hbw).trans c0, (hW.cell (p := ⟨b, _, none⟩) hbw).trans c1, (hW.cell (p := ⟨b, _, none⟩) hbw).trans c2, (hW.cell (p := ⟨b, _, none⟩) hbw).trans c3⟩) h0
end Go.Proofs.YtbdfjboojokgdaaDoor
namespace Go.Proofs.YtbdfjboojokgdaaDoor
open Go.RowKit

/-- Cells of old blocks of this kind stay as they were. -/
structure Keeps (P : Nat → Prop) (w w' : World) : Prop where
  size : w.heap.size ≤ w'.heap.size
  cell : ∀ b off, P b → b < w.heap.size → w'.cell? ⟨b, off, none⟩ = w.cell? ⟨b, off, none⟩
theorem Keeps.of_below {P : Nat → Prop} {w w' : World} (hb : Below w.heap.size w w') : Keeps P w w' := ⟨hb.size, fun _ _ _ h => hb.cell (p := ⟨_, _, none⟩) h⟩
theorem Keeps.of_belowB {P : Nat → Prop} {B : Nat} {w w' : World} (hPB : ∀ x, P x → x < B) (hb : Below B w w') : Keeps P w w' := ⟨hb.size, fun _ _ hp _ => hb.cell (p := ⟨_, _, none⟩) (hPB _ hp)⟩
theorem Keeps.setCell {P : Nat → Prop} {w : World} {b o : Nat} (h : ¬ P b) (v : Value) : Keeps P w (w.setCell ⟨b, o, none⟩ v) := by
  refine ⟨by simp, fun b' o' hp _ => ?_⟩
  have hne : b' ≠ b := fun e => h (e ▸ hp)
  simp [go_sem]
theorem Keeps.trans {P : Nat → Prop} {a b c : World} (h1 : Keeps P a b) (h2 : Keeps P b c) : Keeps P a c :=
  ⟨Nat.le_trans h1.size h2.size, fun x o hp hx => (h2.cell x o hp (Nat.lt_of_lt_of_le hx h1.size)).trans (h1.cell x o hp hx)⟩
theorem below_new (w : World) (o : Obj) : Below w.heap.size w (w.alloc o) := (Below.refl _ _).alloc (Nat.le_refl _) _

/-- The document's types. -/
inductive Ty
  | hole (n : Int)
  | var (s : ByteArray)
  | con (s : ByteArray)
  | app (a b : Ty)
  | all (s : ByteArray) (a : Ty)
def Ty.form : Ty → Int
  | .hole _ => 1 | .var _ => 2 | .con _ => 3 | .app _ _ => 4 | .all _ _ => 5
def Ty.num : Ty → Int
  | .hole n => n | _ => 0
def Ty.name : Ty → ByteArray
  | .var s => s | .con s => s | .all s _ => s | _ => ⟨#[]⟩
def Ty.args : Ty → List Ty
  | .app a b => [a, b] | .all _ a => [a] | _ => []
/-- How many nodes. -/
def Ty.sz : Ty → Nat
  | .app a b => a.sz + b.sz + 1 | .all _ a => a.sz + 1 | _ => 1
theorem Ty.args_le (t : Ty) : t.args.length ≤ 2 := by cases t <;> simp [Ty.args]
theorem Ty.arg_sz {t x : Ty} (h : x ∈ t.args) : x.sz < t.sz := by
  cases t <;> simp [Ty.args] at h
  · rcases h with rfl | rfl <;> simp [Ty.sz] <;> omega
  · subst h; simp [Ty.sz]
theorem Ty.eq_of (a b : Ty) (h1 : a.form = b.form) (h2 : a.num = b.num) (h3 : a.name = b.name) (h4 : a.args = b.args) : a = b := by
  cases a <;> cases b <;> simp_all [Ty.form, Ty.num, Ty.name, Ty.args]

/-- A struct that reads as a type, in blocks of which P holds. -/
inductive TyAt (P : Nat → Prop) (w : World) : Ty → Value → Prop
  | intro (t : Ty) (A : Option Addr) (c : Nat) (u : Nat → Nat → Value) (hc : t.args.length ≤ c) (hm : c ≤ maxLen)
      (hrow : t.args = [] ∨ ∃ b off, A = some ⟨b, off, none⟩ ∧ P b ∧ b < w.heap.size ∧ ∀ i j, i < t.args.length → j < 4 → w.cell? ⟨b, off + i * 4 + j, none⟩ = some (u i j))
      (hk : ∀ i (h : i < t.args.length), TyAt P w t.args[i] (.agg #[u i 0, u i 1, u i 2, u i 3])) :
      TyAt P w t (.agg #[.int .i64 t.form, .int .i64 t.num, .string t.name, .slice A t.args.length c])
/-- A slice of types. -/
def TysAt (P : Nat → Prop) (w : World) (ts : List Ty) (v : Value) : Prop :=
  ∃ (A : Option Addr) (c : Nat) (u : Nat → Nat → Value), v = .slice A ts.length c ∧ ts.length ≤ c ∧ c ≤ maxLen ∧
    (ts = [] ∨ ∃ b off, A = some ⟨b, off, none⟩ ∧ P b ∧ b < w.heap.size ∧ ∀ i j, i < ts.length → j < 4 → w.cell? ⟨b, off + i * 4 + j, none⟩ = some (u i j)) ∧
    ∀ i (h : i < ts.length), TyAt P w ts[i] (.agg #[u i 0, u i 1, u i 2, u i 3])
theorem TyAt.keep {P : Nat → Prop} {w w' : World} {t : Ty} {v : Value} (h : TyAt P w t v) (hb : Keeps P w w') : TyAt P w' t v := by
  induction h with
  | intro t A c u hc hm hrow _ ih =>
    refine .intro t A c u hc hm ?_ ih
    rcases hrow with h | ⟨b, off, e, hp, hlt, hcell⟩
    · exact .inl h
    · exact .inr ⟨b, off, e, hp, Nat.lt_of_lt_of_le hlt hb.size, fun i j hi hj => (hb.cell b _ hp hlt).trans (hcell i j hi hj)⟩
theorem TyAt.mono {P Q : Nat → Prop} {w : World} {t : Ty} {v : Value} (h : TyAt P w t v) (hpq : ∀ b, P b → Q b) : TyAt Q w t v := by
  induction h with
  | intro t A c u hc hm hrow _ ih =>
    refine .intro t A c u hc hm ?_ ih
    rcases hrow with h | ⟨b, off, e, hp, r⟩
    · exact .inl h
    · exact .inr ⟨b, off, e, hpq b hp, r⟩
theorem TyAt.on {P : Nat → Prop} {w w' : World} {t : Ty} {v : Value} (h : TyAt P w t v) (hb : Below w.heap.size w w') : TyAt P w' t v := h.keep (.of_below hb)
theorem TyAt.bound {P : Nat → Prop} {w : World} {t : Ty} {v : Value} (h : TyAt P w t v) : TyAt (fun b => P b ∧ b < w.heap.size) w t v := by
  induction h with
  | intro t A c u hc hm hrow _ ih =>
    refine .intro t A c u hc hm ?_ ih
    rcases hrow with h | ⟨b, off, e, hp, hlt, r⟩
    · exact .inl h
    · exact .inr ⟨b, off, e, ⟨hp, hlt⟩, hlt, r⟩
theorem TyAt.bound' {P : Nat → Prop} {w : World} {t : Ty} {v : Value} (h : TyAt P w t v) : TyAt (fun b => b < w.heap.size) w t v := h.bound.mono (fun _ h => h.2)
theorem TyAt.tys {P : Nat → Prop} {w : World} {t : Ty} {v : Value} (h : TyAt P w t v) : ∃ sv, v = .agg #[.int .i64 t.form, .int .i64 t.num, .string t.name, sv] ∧ TysAt P w t.args sv := by
  cases h with
  | intro _ A c u hc hm hrow hk => exact ⟨_, rfl, A, c, u, rfl, hc, hm, hrow, hk⟩
theorem TysAt.ty {P : Nat → Prop} {w : World} {t : Ty} {sv : Value} (h : TysAt P w t.args sv) : TyAt P w t (.agg #[.int .i64 t.form, .int .i64 t.num, .string t.name, sv]) := by
  obtain ⟨A, c, u, rfl, hc, hm, hrow, hk⟩ := h
  exact .intro t A c u hc hm hrow hk
theorem TyAt.form {P : Nat → Prop} {w : World} {t : Ty} {v : Value} (h : TyAt P w t v) : ∃ A c, v = .agg #[.int .i64 t.form, .int .i64 t.num, .string t.name, .slice A t.args.length c] ∧ t.args.length ≤ c ∧ c ≤ maxLen := by
  cases h with
  | intro _ A c u hc hm hrow hk => exact ⟨A, c, rfl, hc, hm⟩
/-- The four cells, named. -/
theorem TyAt.flat {P : Nat → Prop} {w : World} {t : Ty} {v : Value} (h : TyAt P w t v) : ∃ (f n : Int) (s : ByteArray) (A : Option Addr) (l c : Nat), v = .agg #[.int .i64 f, .int .i64 n, .string s, .slice A l c] := by
  obtain ⟨A, c, e, _⟩ := h.form; exact ⟨_, _, _, _, _, _, e⟩
theorem TysAt.keep {P : Nat → Prop} {w w' : World} {ts : List Ty} {v : Value} (h : TysAt P w ts v) (hb : Keeps P w w') : TysAt P w' ts v := by
  obtain ⟨A, c, u, e, hc, hm, hrow, hk⟩ := h
  refine ⟨A, c, u, e, hc, hm, ?_, fun i h => (hk i h).keep hb⟩
  rcases hrow with h | ⟨b, off, e, hp, hlt, hcell⟩
  · exact .inl h
  · exact .inr ⟨b, off, e, hp, Nat.lt_of_lt_of_le hlt hb.size, fun i j hi hj => (hb.cell b _ hp hlt).trans (hcell i j hi hj)⟩
theorem TysAt.mono {P Q : Nat → Prop} {w : World} {ts : List Ty} {v : Value} (h : TysAt P w ts v) (hpq : ∀ b, P b → Q b) : TysAt Q w ts v := by
  obtain ⟨A, c, u, e, hc, hm, hrow, hk⟩ := h
  refine ⟨A, c, u, e, hc, hm, ?_, fun i h => (hk i h).mono hpq⟩
  rcases hrow with h | ⟨b, off, e, hp, r⟩
  · exact .inl h
  · exact .inr ⟨b, off, e, hpq b hp, r⟩
theorem TysAt.on {P : Nat → Prop} {w w' : World} {ts : List Ty} {v : Value} (h : TysAt P w ts v) (hb : Below w.heap.size w w') : TysAt P w' ts v := h.keep (.of_below hb)
theorem TysAt.bound {P : Nat → Prop} {w : World} {ts : List Ty} {v : Value} (h : TysAt P w ts v) : TysAt (fun b => P b ∧ b < w.heap.size) w ts v := by
  obtain ⟨A, c, u, e, hc, hm, hrow, hk⟩ := h
  refine ⟨A, c, u, e, hc, hm, ?_, fun i h => (hk i h).bound⟩
  rcases hrow with h | ⟨b, off, e, hp, hlt, r⟩
  · exact .inl h
  · exact .inr ⟨b, off, e, ⟨hp, hlt⟩, hlt, r⟩
theorem TysAt.bound' {P : Nat → Prop} {w : World} {ts : List Ty} {v : Value} (h : TysAt P w ts v) : TysAt (fun b => b < w.heap.size) w ts v := h.bound.mono (fun _ h => h.2)
theorem TysAt.form {P : Nat → Prop} {w : World} {ts : List Ty} {v : Value} (h : TysAt P w ts v) : ∃ A c, v = .slice A ts.length c ∧ ts.length ≤ c ∧ c ≤ maxLen := by
  obtain ⟨A, c, u, e, hc, hm, _⟩ := h; exact ⟨A, c, e, hc, hm⟩
/-- One of a row. -/
theorem TysAt.at {P : Nat → Prop} {w : World} {ts : List Ty} {A : Option Addr} {n c : Nat} (h : TysAt P w ts (.slice A n c)) (i : Nat) (hi : i < ts.length) :
    ∃ b off A' c', A = some ⟨b, off, none⟩ ∧ P b ∧ b < w.heap.size ∧ w.cell? ⟨b, off + i * 4, none⟩ = some (.int .i64 ts[i].form) ∧ w.cell? ⟨b, off + i * 4 + 1, none⟩ = some (.int .i64 ts[i].num) ∧ w.cell? ⟨b, off + i * 4 + 2, none⟩ = some (.string ts[i].name) ∧ w.cell? ⟨b, off + i * 4 + 3, none⟩ = some (.slice A' ts[i].args.length c') ∧
      TyAt P w ts[i] (.agg #[.int .i64 ts[i].form, .int .i64 ts[i].num, .string ts[i].name, .slice A' ts[i].args.length c']) := by
  obtain ⟨A', c', u, e, hc, hm, hrow, hk⟩ := h
  injection e with e1 e2 e3
  subst e1
  rcases hrow with h0 | ⟨b, off, e, hp, hlt, hcell⟩
  · rw [h0] at hi; simp at hi
  · have ht := hk i hi
    obtain ⟨A2, c2, e9, _⟩ := ht.form
    have k0 := hcell i 0 hi (by omega)
    have k1 := hcell i 1 hi (by omega)
    have k2 := hcell i 2 hi (by omega)
    have k3 := hcell i 3 hi (by omega)
    simp only [Value.agg.injEq, Array.mk.injEq, List.cons.injEq, and_true] at e9
    obtain ⟨e0, e1, e2, e3⟩ := e9
    rw [e0] at k0 ht
    rw [e1] at k1 ht
    rw [e2] at k2 ht
    rw [e3] at k3 ht
    exact ⟨b, off, A2, c2, e, hp, hlt, k0, k1, k2, k3, ht⟩
theorem tys_nil (P : Nat → Prop) (w : World) (A : Option Addr) (c : Nat) (hm : c ≤ maxLen) : TysAt P w [] (.slice A 0 c) :=
  ⟨A, c, fun _ _ => .int .i64 0, rfl, Nat.zero_le _, hm, .inl rfl, fun _ h => absurd h (Nat.not_lt_zero _)⟩
theorem ret_bool {a b : Bool} (h : a = b) : Ending.returned (.bool a) = .returned (.bool b) := by rw [h]
theorem ret_i64 {a b : Int} (h : a = b) : Ending.returned (.int .i64 a) = .returned (.int .i64 b) := by rw [h]
theorem info_parts' {P : Program} {t : TypeId} {z : Value} {s b : Nat} (h : (P.info? t).map (fun i => (i.zero, i.size, i.bytes)) = some (some z, s, b)) : ∃ i, P.info? t = some i ∧ i.zero = some z ∧ i.size = s ∧ i.bytes = b := by
  obtain ⟨i, hi, hx⟩ := Option.map_eq_some_iff.1 h
  simp only [Prod.mk.injEq] at hx
  exact ⟨i, hi, hx.1, hx.2.1, hx.2.2⟩
/-- What a call made: a type in new memory. -/
def TyMade (w : World) (t : Ty) (e : Ending) (w' : World) : Prop := ∃ v, e = .returned v ∧ TyAt (fun b => w.heap.size ≤ b) w' t v ∧ Below w.heap.size w w'
def TysMade (w : World) (ts : List Ty) (e : Ending) (w' : World) : Prop := ∃ v, e = .returned v ∧ TysAt (fun b => w.heap.size ≤ b) w' ts v ∧ Below w.heap.size w w'
/-- A box of four cells that a function laid. -/
def Box4 (w : World) (b : Nat) (a0 a1 a2 a3 : Value) : Prop := b < w.heap.size ∧
  w.cell? ⟨b, 0, none⟩ = some a0 ∧ w.cell? ⟨b, 1, none⟩ = some a1 ∧ w.cell? ⟨b, 2, none⟩ = some a2 ∧ w.cell? ⟨b, 3, none⟩ = some a3
    ∧ w.frozen? ⟨b, 0, none⟩ = false ∧ w.frozen? ⟨b, 1, none⟩ = false ∧ w.frozen? ⟨b, 2, none⟩ = false ∧ w.frozen? ⟨b, 3, none⟩ = false
theorem Box4.new (w : World) (a0 a1 a2 a3 : Value) (t : TypeId) : Box4 (w.alloc (.cells #[a0, a1, a2, a3] t)) w.heap.size a0 a1 a2 a3 := by
  refine ⟨by simp, ?_, ?_, ?_, ?_, ?_, ?_, ?_, ?_⟩ <;> simp [go_sem]
theorem Box4.below {w w' : World} {b B : Nat} {a0 a1 a2 a3 : Value} (h : Box4 w b a0 a1 a2 a3) (hb : Below B w w') (hB : b < B) : Box4 w' b a0 a1 a2 a3 := by
  obtain ⟨h0, h1, h2, h3, h4, f1, f2, f3, f4⟩ := h
  exact ⟨Nat.lt_of_lt_of_le h0 hb.size, (hb.cell (p := ⟨b, 0, none⟩) hB).trans h1, (hb.cell (p := ⟨b, 1, none⟩) hB).trans h2, (hb.cell (p := ⟨b, 2, none⟩) hB).trans h3, (hb.cell (p := ⟨b, 3, none⟩) hB).trans h4,
    (hb.frozen (p := ⟨b, 0, none⟩) hB).trans f1, (hb.frozen (p := ⟨b, 1, none⟩) hB).trans f2, (hb.frozen (p := ⟨b, 2, none⟩) hB).trans f3, (hb.frozen (p := ⟨b, 3, none⟩) hB).trans f4⟩
theorem Box4.on {w w' : World} {b : Nat} {a0 a1 a2 a3 : Value} (h : Box4 w b a0 a1 a2 a3) (hb : Below w.heap.size w w') : Box4 w' b a0 a1 a2 a3 := h.below hb h.1
theorem TyAt.all {P : Nat → Prop} {w : World} {t : Ty} {v : Value} (h : TyAt P w t v) : TyAt (fun _ => True) w t v := h.mono (fun _ _ => trivial)
theorem TysAt.all {P : Nat → Prop} {w : World} {t : List Ty} {v : Value} (h : TysAt P w t v) : TysAt (fun _ => True) w t v := h.mono (fun _ _ => trivial)
theorem ty_leaf (P : Nat → Prop) (w : World) (t : Ty) (h : t.args = []) (A : Option Addr) (c : Nat) (hc : c ≤ maxLen) : TyAt P w t (.agg #[.int .i64 t.form, .int .i64 t.num, .string t.name, .slice A 0 c]) := by
  have : TysAt P w t.args (.slice A 0 c) := by rw [h]; exact tys_nil P w A c hc
  exact this.ty
theorem row_new {w : World} {cs : Array Value} {t : TypeId} {j : Nat} {u : Value} (h : cs[j]? = some u) : (w.alloc (.cells cs t)).cell? ⟨w.heap.size, j, none⟩ = some u := by
  rw [World.cell?_alloc_at _ _ _ _ rfl]
  simpa using h
/-- A new row of two. -/
theorem two_new {P : Nat → Prop} {w : World} {a b : Ty} {a0 a1 a2 a3 b0 b1 b2 b3 : Value} (ha : TyAt P w a (.agg #[a0, a1, a2, a3])) (hb : TyAt P w b (.agg #[b0, b1, b2, b3])) (t : TypeId) (c : Nat) (hc : 2 ≤ c) (hm : c ≤ maxLen) :
    TysAt (fun x => P x ∨ x = w.heap.size) (w.alloc (.cells #[a0, a1, a2, a3, b0, b1, b2, b3] t)) [a, b] (.slice (some ⟨w.heap.size, 0, none⟩) 2 c) := by
  have hn := below_new w (.cells #[a0, a1, a2, a3, b0, b1, b2, b3] t)
  refine ⟨_, c, fun i j => (#[a0, a1, a2, a3, b0, b1, b2, b3] : Array Value)[i * 4 + j]?.getD a0, rfl, hc, hm, .inr ⟨_, 0, rfl, .inr rfl, by simp, fun i j hi hj => ?_⟩, fun i hi => ?_⟩
  · have hi' : i = 0 ∨ i = 1 := by simp at hi; omega
    have hj' : j = 0 ∨ j = 1 ∨ j = 2 ∨ j = 3 := by omega
    rw [Nat.zero_add]
    rcases hi' with rfl | rfl <;> rcases hj' with rfl | rfl | rfl | rfl <;> exact row_new rfl
  · have hi' : i = 0 ∨ i = 1 := by simp at hi; omega
    rcases hi' with rfl | rfl
    · exact (ha.on hn).mono (fun _ h => .inl h)
    · exact (hb.on hn).mono (fun _ h => .inl h)
theorem one_new {P : Nat → Prop} {w : World} {a : Ty} {a0 a1 a2 a3 : Value} (ha : TyAt P w a (.agg #[a0, a1, a2, a3])) (t : TypeId) (c : Nat) (hc : 1 ≤ c) (hm : c ≤ maxLen) :
    TysAt (fun x => P x ∨ x = w.heap.size) (w.alloc (.cells #[a0, a1, a2, a3] t)) [a] (.slice (some ⟨w.heap.size, 0, none⟩) 1 c) := by
  have hn := below_new w (.cells #[a0, a1, a2, a3] t)
  refine ⟨_, c, fun i j => (#[a0, a1, a2, a3] : Array Value)[i * 4 + j]?.getD a0, rfl, hc, hm, .inr ⟨_, 0, rfl, .inr rfl, by simp, fun i j hi hj => ?_⟩, fun i hi => ?_⟩
  · have hi' : i = 0 := by simp at hi; omega
    have hj' : j = 0 ∨ j = 1 ∨ j = 2 ∨ j = 3 := by omega
    rw [Nat.zero_add]
    subst hi'
    rcases hj' with rfl | rfl | rfl | rfl <;> exact row_new rfl
  · have hi' : i = 0 := by simp at hi; omega
    subst hi'
    exact (ha.on hn).mono (fun _ h => .inl h)
/-- An application of two, in a new row. -/
theorem app_new {P : Nat → Prop} {w : World} {a b : Ty} {a0 a1 a2 a3 b0 b1 b2 b3 : Value} (ha : TyAt P w a (.agg #[a0, a1, a2, a3])) (hb : TyAt P w b (.agg #[b0, b1, b2, b3])) (t : TypeId) :
    TyAt (fun x => P x ∨ x = w.heap.size) (w.alloc (.cells #[a0, a1, a2, a3, b0, b1, b2, b3] t)) (.app a b) (.agg #[.int .i64 4, .int .i64 0, .string ⟨#[]⟩, .slice (some ⟨w.heap.size, 0, none⟩) 2 2]) :=
  TysAt.ty (t := .app a b) (two_new ha hb t 2 (Nat.le_refl _) (by unfold maxLen; omega))
theorem all_new {P : Nat → Prop} {w : World} {a : Ty} {a0 a1 a2 a3 : Value} (ha : TyAt P w a (.agg #[a0, a1, a2, a3])) (s : ByteArray) (t : TypeId) :
    TyAt (fun x => P x ∨ x = w.heap.size) (w.alloc (.cells #[a0, a1, a2, a3] t)) (.all s a) (.agg #[.int .i64 5, .int .i64 0, .string s, .slice (some ⟨w.heap.size, 0, none⟩) 1 1]) :=
  TysAt.ty (t := .all s a) (one_new ha t 1 (Nat.le_refl _) (by unfold maxLen; omega))
/-- Four stores into a box. -/
theorem Keeps.box {P : Nat → Prop} {w : World} {b : Nat} (h : ¬ P b) (x0 x1 x2 x3 : Value) : Keeps P w ((((w.setCell ⟨b, 0, none⟩ x0).setCell ⟨b, 1, none⟩ x1).setCell ⟨b, 2, none⟩ x2).setCell ⟨b, 3, none⟩ x3) :=
  (((Keeps.setCell h _).trans (.setCell h _)).trans (.setCell h _)).trans (.setCell h _)
theorem below_box {B : Nat} {w w' : World} {b : Nat} (h : Below B w w') (hb : B ≤ b) (x0 x1 x2 x3 : Value) : Below B w ((((w'.setCell ⟨b, 0, none⟩ x0).setCell ⟨b, 1, none⟩ x1).setCell ⟨b, 2, none⟩ x2).setCell ⟨b, 3, none⟩ x3) :=
  (((h.setCell hb _).setCell hb _).setCell hb _).setCell hb _
end Go.Proofs.YtbdfjboojokgdaaDoor
