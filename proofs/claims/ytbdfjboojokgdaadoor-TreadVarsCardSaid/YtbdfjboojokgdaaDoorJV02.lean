/- Types in memory (chapter 4): a struct that reads as a type, at every depth. No conditions but those that each theorem names. The contracts of types.own and types.ownAll. No conditions but those that each theorem names. -/
import Derived.Test.YtbdfjboojokgdaaDoorProg
import Derived.WalkKit
import Derived.WalkSpells
import Derived.WalkLawsBesides
import Derived.Lib.Strings
import Derived.Lib.Hide
import Derived.Deep.QuietTactic
import Derived.BigQuiet
import Derived.Deep.RegionWith
import Derived.StillTailTactics
import Derived.Laws.MakeOwn
import Derived.OwnWalk
import Derived.Deep.CutBlock
import Derived.Deep.RegionHeld3
import Derived.Deep.RegionLaw
import Derived.Deep.AppendLies
import Derived.Maps.AppendAt
namespace Go.Proofs.YtbdfjboojokgdaaDoor
open Go.RowKit

/-- Cells of old blocks of this kind stay as they were. -/
structure Keeps (P : Nat → Prop) (w w' : World) : Prop where
  size : w.heap.size ≤ w'.heap.size
  cell : ∀ b off, P b → b < w.heap.size → w'.cell? ⟨b, off, none⟩ = w.cell? ⟨b, off, none⟩
theorem Keeps.of_below {P : Nat → Prop} {w w' : World} (hb : Below w.heap.size w w') : Keeps P w w' := ⟨hb.size, fun _ _ _ h => hb.cell (p := ⟨_, _, none⟩) h⟩
theorem Keeps.of_belowB {P : Nat → Prop} {B : Nat} {w w' : World} (hPB : ∀ x, P x → x < B) (hb : Below B w w') : Keeps P w w' := ⟨hb.size, fun _ _ hp _ => hb.cell (p := ⟨_, _, none⟩) (hPB _ hp)⟩
theorem Keeps.setCell {P : Nat → Prop} {w : World} {b o : Nat} (h : ¬ P b) (v : Value) : Keeps P w (w.setCell ⟨b, o, none⟩ v) := by
  refine ⟨by simp, fun b' o' hp _ => ?_⟩
  have hne : b' ≠ b := fun e => h (e ▸ hp)
  simp [go_sem]
theorem Keeps.trans {P : Nat → Prop} {a b c : World} (h1 : Keeps P a b) (h2 : Keeps P b c) : Keeps P a c :=
  ⟨Nat.le_trans h1.size h2.size, fun x o hp hx => (h2.cell x o hp (Nat.lt_of_lt_of_le hx h1.size)).trans (h1.cell x o hp hx)⟩
theorem below_new (w : World) (o : Obj) : Below w.heap.size w (w.alloc o) := (Below.refl _ _).alloc (Nat.le_refl _) _

/-- The document's types. -/
inductive Ty
  | hole (n : Int)
  | var (s : ByteArray)
  | con (s : ByteArray)
  | app (a b : Ty)
  | all (s : ByteArray) (a : Ty)
def Ty.form : Ty → Int
  | .hole _ => 1 | .var _ => 2 | .con _ => 3 | .app _ _ => 4 | .all _ _ => 5
def Ty.num : Ty → Int
  | .hole n => n | _ => 0
def Ty.name : Ty → ByteArray
  | .var s => s | .con s => s | .all s _ => s | _ => ⟨#[]⟩
def Ty.args : Ty → List Ty
  | .app a b => [a, b] | .all _ a => [a] | _ => []
/-- How many nodes. -/
def Ty.sz : Ty → Nat
  | .app a b => a.sz + b.sz + 1 | .all _ a => a.sz + 1 | _ => 1
theorem Ty.args_le (t : Ty) : t.args.length ≤ 2 := by cases t <;> simp [Ty.args]
theorem Ty.arg_sz {t x : Ty} (h : x ∈ t.args) : x.sz < t.sz := by
  cases t <;> simp [Ty.args] at h
  · rcases h with rfl | rfl <;> simp [Ty.sz] <;> omega
  · subst h; simp [Ty.sz]
theorem Ty.eq_of (a b : Ty) (h1 : a.form = b.form) (h2 : a.num = b.num) (h3 : a.name = b.name) (h4 : a.args = b.args) : a = b := by
  cases a <;> cases b <;> simp_all [Ty.form, Ty.num, Ty.name, Ty.args]

/-- A struct that reads as a type, in blocks of which P holds. -/
inductive TyAt (P : Nat → Prop) (w : World) : Ty → Value → Prop
  | intro (t : Ty) (A : Option Addr) (c : Nat) (u : Nat → Nat → Value) (hc : t.args.length ≤ c) (hm : c ≤ maxLen)
      (hrow : t.args = [] ∨ ∃ b off, A = some ⟨b, off, none⟩ ∧ P b ∧ b < w.heap.size ∧ ∀ i j, i < t.args.length → j < 4 → w.cell? ⟨b, off + i * 4 + j, none⟩ = some (u i j))
      (hk : ∀ i (h : i < t.args.length), TyAt P w t.args[i] (.agg #[u i 0, u i 1, u i 2, u i 3])) :
      TyAt P w t (.agg #[.int .i64 t.form, .int .i64 t.num, .string t.name, .slice A t.args.length c])
/-- A slice of types. -/
def TysAt (P : Nat → Prop) (w : World) (ts : List Ty) (v : Value) : Prop :=
  ∃ (A : Option Addr) (c : Nat) (u : Nat → Nat → Value), v = .slice A ts.length c ∧ ts.length ≤ c ∧ c ≤ maxLen ∧
    (ts = [] ∨ ∃ b off, A = some ⟨b, off, none⟩ ∧ P b ∧ b < w.heap.size ∧ ∀ i j, i < ts.length → j < 4 → w.cell? ⟨b, off + i * 4 + j, none⟩ = some (u i j)) ∧
    ∀ i (h : i < ts.length), TyAt P w ts[i] (.agg #[u i 0, u i 1, u i 2, u i 3])
theorem TyAt.keep {P : Nat → Prop} {w w' : World} {t : Ty} {v : Value} (h : TyAt P w t v) (hb : Keeps P w w') : TyAt P w' t v := by
  induction h with
  | intro t A c u hc hm hrow _ ih =>
    refine .intro t A c u hc hm ?_ ih
    rcases hrow with h | ⟨b, off, e, hp, hlt, hcell⟩
    · exact .inl h
    · exact .inr ⟨b, off, e, hp, Nat.lt_of_lt_of_le hlt hb.size, fun i j hi hj => (hb.cell b _ hp hlt).trans (hcell i j hi hj)⟩
theorem TyAt.mono {P Q : Nat → Prop} {w : World} {t : Ty} {v : Value} (h : TyAt P w t v) (hpq : ∀ b, P b → Q b) : TyAt Q w t v := by
  induction h with
  | intro t A c u hc hm hrow _ ih =>
    refine .intro t A c u hc hm ?_ ih
    rcases hrow with h | ⟨b, off, e, hp, r⟩
    · exact .inl h
    · exact .inr ⟨b, off, e, hpq b hp, r⟩
theorem TyAt.on {P : Nat → Prop} {w w' : World} {t : Ty} {v : Value} (h : TyAt P w t v) (hb : Below w.heap.size w w') : TyAt P w' t v := h.keep (.of_below hb)
theorem TyAt.bound {P : Nat → Prop} {w : World} {t : Ty} {v : Value} (h : TyAt P w t v) : TyAt (fun b => P b ∧ b < w.heap.size) w t v := by
  induction h with
  | intro t A c u hc hm hrow _ ih =>
    refine .intro t A c u hc hm ?_ ih
    rcases hrow with h | ⟨b, off, e, hp, hlt, r⟩
    · exact .inl h
    · exact .inr ⟨b, off, e, ⟨hp, hlt⟩, hlt, r⟩
theorem TyAt.bound' {P : Nat → Prop} {w : World} {t : Ty} {v : Value} (h : TyAt P w t v) : TyAt (fun b => b < w.heap.size) w t v := h.bound.mono (fun _ h => h.2)
theorem TyAt.tys {P : Nat → Prop} {w : World} {t : Ty} {v : Value} (h : TyAt P w t v) : ∃ sv, v = .agg #[.int .i64 t.form, .int .i64 t.num, .string t.name, sv] ∧ TysAt P w t.args sv := by
  cases h with
  | intro _ A c u hc hm hrow hk => exact ⟨_, rfl, A, c, u, rfl, hc, hm, hrow, hk⟩
theorem TysAt.ty {P : Nat → Prop} {w : World} {t : Ty} {sv : Value} (h : TysAt P w t.args sv) : TyAt P w t (.agg #[.int .i64 t.form, .int .i64 t.num, .string t.name, sv]) := by
  obtain ⟨A, c, u, rfl, hc, hm, hrow, hk⟩ := h
  exact .intro t A c u hc hm hrow hk
theorem TyAt.form {P : Nat → Prop} {w : World} {t : Ty} {v : Value} (h : TyAt P w t v) : ∃ A c, v = .agg #[.int .i64 t.form, .int .i64 t.num, .string t.name, .slice A t.args.length c] ∧ t.args.length ≤ c ∧ c ≤ maxLen := by
  cases h with
  | intro _ A c u hc hm hrow hk => exact ⟨A, c, rfl, hc, hm⟩
/-- The four cells, named. -/
theorem TyAt.flat {P : Nat → Prop} {w : World} {t : Ty} {v : Value} (h : TyAt P w t v) : ∃ (f n : Int) (s : ByteArray) (A : Option Addr) (l c : Nat), v = .agg #[.int .i64 f, .int .i64 n, .string s, .slice A l c] := by
  obtain ⟨A, c, e, _⟩ := h.form; exact ⟨_, _, _, _, _, _, e⟩
theorem TysAt.keep {P : Nat → Prop} {w w' : World} {ts : List Ty} {v : Value} (h : TysAt P w ts v) (hb : Keeps P w w') : TysAt P w' ts v := by
  obtain ⟨A, c, u, e, hc, hm, hrow, hk⟩ := h
  refine ⟨A, c, u, e, hc, hm, ?_, fun i h => (hk i h).keep hb⟩
  rcases hrow with h | ⟨b, off, e, hp, hlt, hcell⟩
  · exact .inl h
  · exact .inr ⟨b, off, e, hp, Nat.lt_of_lt_of_le hlt hb.size, fun i j hi hj => (hb.cell b _ hp hlt).trans (hcell i j hi hj)⟩
theorem TysAt.mono {P Q : Nat → Prop} {w : World} {ts : List Ty} {v : Value} (h : TysAt P w ts v) (hpq : ∀ b, P b → Q b) : TysAt Q w ts v := by
  obtain ⟨A, c, u, e, hc, hm, hrow, hk⟩ := h
  refine ⟨A, c, u, e, hc, hm, ?_, fun i h => (hk i h).mono hpq⟩
  rcases hrow with h | ⟨b, off, e, hp, r⟩
  · exact .inl h
  · exact .inr ⟨b, off, e, hpq b hp, r⟩
theorem TysAt.on {P : Nat → Prop} {w w' : World} {ts : List Ty} {v : Value} (h : TysAt P w ts v) (hb : Below w.heap.size w w') : TysAt P w' ts v := h.keep (.of_below hb)
theorem TysAt.bound {P : Nat → Prop} {w : World} {ts : List Ty} {v : Value} (h : TysAt P w ts v) : TysAt (fun b => P b ∧ b < w.heap.size) w ts v := by
  obtain ⟨A, c, u, e, hc, hm, hrow, hk⟩ := h
  refine ⟨A, c, u, e, hc, hm, ?_, fun i h => (hk i h).bound⟩
  rcases hrow with h | ⟨b, off, e, hp, hlt, r⟩
  · exact .inl h
  · exact .inr ⟨b, off, e, ⟨hp, hlt⟩, hlt, r⟩
theorem TysAt.bound' {P : Nat → Prop} {w : World} {ts : List Ty} {v : Value} (h : TysAt P w ts v) : TysAt (fun b => b < w.heap.size) w ts v := h.bound.mono (fun _ h => h.2)
theorem TysAt.form {P : Nat → Prop} {w : World} {ts : List Ty} {v : Value} (h : TysAt P w ts v) : ∃ A c, v = .slice A ts.length c ∧ ts.length ≤ c ∧ c ≤ maxLen := by
  obtain ⟨A, c, u, e, hc, hm, _⟩ := h; exact ⟨A, c, e, hc, hm⟩
/-- One of a row. -/
theorem TysAt.at {P : Nat → Prop} {w : World} {ts : List Ty} {A : Option Addr} {n c : Nat} (h : TysAt P w ts (.slice A n c)) (i : Nat) (hi : i < ts.length) :
    ∃ b off A' c', A = some ⟨b, off, none⟩ ∧ P b ∧ b < w.heap.size ∧ w.cell? ⟨b, off + i * 4, none⟩ = some (.int .i64 ts[i].form) ∧ w.cell? ⟨b, off + i * 4 + 1, none⟩ = some (.int .i64 ts[i].num) ∧ w.cell? ⟨b, off + i * 4 + 2, none⟩ = some (.string ts[i].name) ∧ w.cell? ⟨b, off + i * 4 + 3, none⟩ = some (.slice A' ts[i].args.length c') ∧
      TyAt P w ts[i] (.agg #[.int .i64 ts[i].form, .int .i64 ts[i].num, .string ts[i].name, .slice A' ts[i].args.length c']) := by
  obtain ⟨A', c', u, e, hc, hm, hrow, hk⟩ := h
  injection e with e1 e2 e3
  subst e1
  rcases hrow with h0 | ⟨b, off, e, hp, hlt, hcell⟩
  · rw [h0] at hi; simp at hi
  · have ht := hk i hi
    obtain ⟨A2, c2, e9, _⟩ := ht.form
    have k0 := hcell i 0 hi (by omega)
    have k1 := hcell i 1 hi (by omega)
    have k2 := hcell i 2 hi (by omega)
    have k3 := hcell i 3 hi (by omega)
    simp only [Value.agg.injEq, Array.mk.injEq, List.cons.injEq, and_true] at e9
    obtain ⟨e0, e1, e2, e3⟩ := e9
    rw [e0] at k0 ht
    rw [e1] at k1 ht
    rw [e2] at k2 ht
    rw [e3] at k3 ht
    exact ⟨b, off, A2, c2, e, hp, hlt, k0, k1, k2, k3, ht⟩
theorem tys_nil (P : Nat → Prop) (w : World) (A : Option Addr) (c : Nat) (hm : c ≤ maxLen) : TysAt P w [] (.slice A 0 c) :=
  ⟨A, c, fun _ _ => .int .i64 0, rfl, Nat.zero_le _, hm, .inl rfl, fun _ h => absurd h (Nat.not_lt_zero _)⟩
theorem ret_bool {a b : Bool} (h : a = b) : Ending.returned (.bool a) = .returned (.bool b) := by rw [h]
theorem ret_i64 {a b : Int} (h : a = b) : Ending.returned (.int .i64 a) = .returned (.int .i64 b) := by rw [h]
theorem info_parts' {P : Program} {t : TypeId} {z : Value} {s b : Nat} (h : (P.info? t).map (fun i => (i.zero, i.size, i.bytes)) = some (some z, s, b)) : ∃ i, P.info? t = some i ∧ i.zero = some z ∧ i.size = s ∧ i.bytes = b := by
  obtain ⟨i, hi, hx⟩ := Option.map_eq_some_iff.1 h
  simp only [Prod.mk.injEq] at hx
  exact ⟨i, hi, hx.1, hx.2.1, hx.2.2⟩
/-- What a call made: a type in new memory. -/
def TyMade (w : World) (t : Ty) (e : Ending) (w' : World) : Prop := ∃ v, e = .returned v ∧ TyAt (fun b => w.heap.size ≤ b) w' t v ∧ Below w.heap.size w w'
def TysMade (w : World) (ts : List Ty) (e : Ending) (w' : World) : Prop := ∃ v, e = .returned v ∧ TysAt (fun b => w.heap.size ≤ b) w' ts v ∧ Below w.heap.size w w'
/-- A box of four cells that a function laid. -/
def Box4 (w : World) (b : Nat) (a0 a1 a2 a3 : Value) : Prop := b < w.heap.size ∧
  w.cell? ⟨b, 0, none⟩ = some a0 ∧ w.cell? ⟨b, 1, none⟩ = some a1 ∧ w.cell? ⟨b, 2, none⟩ = some a2 ∧ w.cell? ⟨b, 3, none⟩ = some a3
    ∧ w.frozen? ⟨b, 0, none⟩ = false ∧ w.frozen? ⟨b, 1, none⟩ = false ∧ w.frozen? ⟨b, 2, none⟩ = false ∧ w.frozen? ⟨b, 3, none⟩ = false
theorem Box4.new (w : World) (a0 a1 a2 a3 : Value) (t : TypeId) : Box4 (w.alloc (.cells #[a0, a1, a2, a3] t)) w.heap.size a0 a1 a2 a3 := by
  refine ⟨by simp, ?_, ?_, ?_, ?_, ?_, ?_, ?_, ?_⟩ <;> simp [go_sem]
theorem Box4.below {w w' : World} {b B : Nat} {a0 a1 a2 a3 : Value} (h : Box4 w b a0 a1 a2 a3) (hb : Below B w w') (hB : b < B) : Box4 w' b a0 a1 a2 a3 := by
  obtain ⟨h0, h1, h2, h3, h4, f1, f2, f3, f4⟩ := h
  exact ⟨Nat.lt_of_lt_of_le h0 hb.size, (hb.cell (p := ⟨b, 0, none⟩) hB).trans h1, (hb.cell (p := ⟨b, 1, none⟩) hB).trans h2, (hb.cell (p := ⟨b, 2, none⟩) hB).trans h3, (hb.cell (p := ⟨b, 3, none⟩) hB).trans h4,
    (hb.frozen (p := ⟨b, 0, none⟩) hB).trans f1, (hb.frozen (p := ⟨b, 1, none⟩) hB).trans f2, (hb.frozen (p := ⟨b, 2, none⟩) hB).trans f3, (hb.frozen (p := ⟨b, 3, none⟩) hB).trans f4⟩
theorem Box4.on {w w' : World} {b : Nat} {a0 a1 a2 a3 : Value} (h : Box4 w b a0 a1 a2 a3) (hb : Below w.heap.size w w') : Box4 w' b a0 a1 a2 a3 := h.below hb h.1
theorem TyAt.all {P : Nat → Prop} {w : World} {t : Ty} {v : Value} (h : TyAt P w t v) : TyAt (fun _ => True) w t v := h.mono (fun _ _ => trivial)
theorem TysAt.all {P : Nat → Prop} {w : World} {t : List Ty} {v : Value} (h : TysAt P w t v) : TysAt (fun _ => True) w t v := h.mono (fun _ _ => trivial)
theorem ty_leaf (P : Nat → Prop) (w : World) (t : Ty) (h : t.args = []) (A : Option Addr) (c : Nat) (hc : c ≤ maxLen) : TyAt P w t (.agg #[.int .i64 t.form, .int .i64 t.num, .string t.name, .slice A 0 c]) := by
  have : TysAt P w t.args (.slice A 0 c) := by rw [h]; exact tys_nil P w A c hc
  exact this.ty
theorem row_new {w : World} {cs : Array Value} {t : TypeId} {j : Nat} {u : Value} (h : cs[j]? = some u) : (w.alloc (.cells cs t)).cell? ⟨w.heap.size, j, none⟩ = some u := by
  rw [World.cell?_alloc_at _ _ _ _ rfl]
  simpa using h
/-- A new row of two. -/
theorem two_new {P : Nat → Prop} {w : World} {a b : Ty} {a0 a1 a2 a3 b0 b1 b2 b3 : Value} (ha : TyAt P w a (.agg #[a0, a1, a2, a3])) (hb : TyAt P w b (.agg #[b0, b1, b2, b3])) (t : TypeId) (c : Nat) (hc : 2 ≤ c) (hm : c ≤ maxLen) :
    TysAt (fun x => P x ∨ x = w.heap.size) (w.alloc (.cells #[a0, a1, a2, a3, b0, b1, b2, b3] t)) [a, b] (.slice (some ⟨w.heap.size, 0, none⟩) 2 c) := by
  have hn := below_new w (.cells #[a0, a1, a2, a3, b0, b1, b2, b3] t)
  refine ⟨_, c, fun i j => (#[a0, a1, a2, a3, b0, b1, b2, b3] : Array Value)[i * 4 + j]?.getD a0, rfl, hc, hm, .inr ⟨_, 0, rfl, .inr rfl, by simp, fun i j hi hj => ?_⟩, fun i hi => ?_⟩
  · have hi' : i = 0 ∨ i = 1 := by simp at hi; omega
    have hj' : j = 0 ∨ j = 1 ∨ j = 2 ∨ j = 3 := by omega
    rw [Nat.zero_add]
    rcases hi' with rfl | rfl <;> rcases hj' with rfl | rfl | rfl | rfl <;> exact row_new rfl
  · have hi' : i = 0 ∨ i = 1 := by simp at hi; omega
    rcases hi' with rfl | rfl
    · exact (ha.on hn).mono (fun _ h => .inl h)
    · exact (hb.on hn).mono (fun _ h => .inl h)
theorem one_new {P : Nat → Prop} {w : World} {a : Ty} {a0 a1 a2 a3 : Value} (ha : TyAt P w a (.agg #[a0, a1, a2, a3])) (t : TypeId) (c : Nat) (hc : 1 ≤ c) (hm : c ≤ maxLen) :
    TysAt (fun x => P x ∨ x = w.heap.size) (w.alloc (.cells #[a0, a1, a2, a3] t)) [a] (.slice (some ⟨w.heap.size, 0, none⟩) 1 c) := by
  have hn := below_new w (.cells #[a0, a1, a2, a3] t)
  refine ⟨_, c, fun i j => (#[a0, a1, a2, a3] : Array Value)[i * 4 + j]?.getD a0, rfl, hc, hm, .inr ⟨_, 0, rfl, .inr rfl, by simp, fun i j hi hj => ?_⟩, fun i hi => ?_⟩
  · have hi' : i = 0 := by simp at hi; omega
    have hj' : j = 0 ∨ j = 1 ∨ j = 2 ∨ j = 3 := by omega
    rw [Nat.zero_add]
    subst hi'
    rcases hj' with rfl | rfl | rfl | rfl <;> exact row_new rfl
  · have hi' : i = 0 := by simp at hi; omega
    subst hi'
    exact (ha.on hn).mono (fun _ h => .inl h)
/-- An application of two, in a new row. -/
theorem app_new {P : Nat → Prop} {w : World} {a b : Ty} {a0 a1 a2 a3 b0 b1 b2 b3 : Value} (ha : TyAt P w a (.agg #[a0, a1, a2, a3])) (hb : TyAt P w b (.agg #[b0, b1, b2, b3])) (t : TypeId) :
    TyAt (fun x => P x ∨ x = w.heap.size) (w.alloc (.cells #[a0, a1, a2, a3, b0, b1, b2, b3] t)) (.app a b) (.agg #[.int .i64 4, .int .i64 0, .string ⟨#[]⟩, .slice (some ⟨w.heap.size, 0, none⟩) 2 2]) :=
  TysAt.ty (t := .app a b) (two_new ha hb t 2 (Nat.le_refl _) (by unfold maxLen; omega))
theorem all_new {P : Nat → Prop} {w : World} {a : Ty} {a0 a1 a2 a3 : Value} (ha : TyAt P w a (.agg #[a0, a1, a2, a3])) (s : ByteArray) (t : TypeId) :
    TyAt (fun x => P x ∨ x = w.heap.size) (w.alloc (.cells #[a0, a1, a2, a3] t)) (.all s a) (.agg #[.int .i64 5, .int .i64 0, .string s, .slice (some ⟨w.heap.size, 0, none⟩) 1 1]) :=
  TysAt.ty (t := .all s a) (one_new ha t 1 (Nat.le_refl _) (by unfold maxLen; omega))
/-- Four stores into a box. -/
theorem Keeps.box {P : Nat → Prop} {w : World} {b : Nat} (h : ¬ P b) (x0 x1 x2 x3 : Value) : Keeps P w ((((w.setCell ⟨b, 0, none⟩ x0).setCell ⟨b, 1, none⟩ x1).setCell ⟨b, 2, none⟩ x2).setCell ⟨b, 3, none⟩ x3) :=
  (((Keeps.setCell h _).trans (.setCell h _)).trans (.setCell h _)).trans (.setCell h _)
theorem below_box {B : Nat} {w w' : World} {b : Nat} (h : Below B w w') (hb : B ≤ b) (x0 x1 x2 x3 : Value) : Below B w ((((w'.setCell ⟨b, 0, none⟩ x0).setCell ⟨b, 1, none⟩ x1).setCell ⟨b, 2, none⟩ x2).setCell ⟨b, 3, none⟩ x3) :=
  (((h.setCell hb _).setCell hb _).setCell hb _).setCell hb _
end Go.Proofs.YtbdfjboojokgdaaDoor
namespace Go.Proofs.YtbdfjboojokgdaaDoor
open Go.RowKit

theorem Tryd.info25 : (Tryd.prog.info? 25).map (fun i => (i.zero, i.size, i.bytes)) = some (some (.agg #[.int .i64 0, .int .i64 0, .string ByteArray.empty, .slice none 0 0]), 4, 56) := by kernel_rfl
/-- A block of cells of so many. -/
def Blk (w : World) (g N : Nat) : Prop := ∃ cur : Array Value, w.heap[g]? = some (.cells cur 25 (0, 0)) ∧ cur.size = N
theorem Blk.lt {w : World} {g N : Nat} (h : Blk w g N) : g < w.heap.size := by
  obtain ⟨cur, h, _⟩ := h
  rcases Nat.lt_or_ge g w.heap.size with h9 | h9
  · exact h9
  · rw [Array.getElem?_eq_none h9] at h; cases h
theorem Blk.cell {w : World} {g N j : Nat} (h : Blk w g N) (hj : j < N) : ∃ v, w.cell? ⟨g, j, none⟩ = some v := by
  obtain ⟨cur, h, hs⟩ := h
  exact ⟨cur[j]'(by omega), by simp [World.cell?, h, hs, hj]⟩
theorem Blk.frozen {w : World} {g N : Nat} (h : Blk w g N) (j : Nat) : w.frozen? ⟨g, j, none⟩ = false := by
  obtain ⟨cur, h, hs⟩ := h
  simp [World.frozen?, h]
theorem Blk.below {w w' : World} {g N B : Nat} (h : Blk w g N) (hb : Below B w w') (hB : g < B) : Blk w' g N := by
  obtain ⟨cur, h, hs⟩ := h
  exact ⟨cur, (hb.block g hB).trans h, hs⟩
theorem Blk.setCell {w : World} {g N : Nat} (h : Blk w g N) (k : Nat) (v : Value) : Blk (w.setCell ⟨g, k, none⟩ v) g N := by
  obtain ⟨cur, h, hs⟩ := h
  refine ⟨cur.setIfInBounds k v, ?_, by simpa using hs⟩
  simp [World.setCell, Array.getElem?_modify, h]
/-- The first so many of a row of types, in new memory beyond the row. -/
def RowN (w : World) (g : Nat) (ts : List Ty) (i : Nat) : Prop :=
  ∀ k (h : k < ts.length), k < i → ∃ x0 x1 x2 x3, w.cell? ⟨g, k * 4, none⟩ = some x0 ∧ w.cell? ⟨g, k * 4 + 1, none⟩ = some x1 ∧ w.cell? ⟨g, k * 4 + 2, none⟩ = some x2 ∧ w.cell? ⟨g, k * 4 + 3, none⟩ = some x3 ∧ TyAt (fun b => g < b) w ts[k] (.agg #[x0, x1, x2, x3])
theorem RowN.on {w w' : World} {g : Nat} {ts : List Ty} {i : Nat} (h : RowN w g ts i) (hb : Below w.heap.size w w') (hg : g < w.heap.size) : RowN w' g ts i := by
  intro k hk hi
  obtain ⟨x0, x1, x2, x3, c0, c1, c2, c3, ht⟩ := h k hk hi
  exact ⟨x0, x1, x2, x3, (hb.cell (p := ⟨g, _, none⟩) hg).trans c0, (hb.cell (p := ⟨g, _, none⟩) hg).trans c1, (hb.cell (p := ⟨g, _, none⟩) hg).trans c2, (hb.cell (p := ⟨g, _, none⟩) hg).trans c3, ht.on hb⟩
theorem cell_set_ne (w : World) (g j k : Nat) (v : Value) (h : j ≠ k) : (w.setCell ⟨g, k, none⟩ v).cell? ⟨g, j, none⟩ = w.cell? ⟨g, j, none⟩ := by
  apply World.cell?_setCell_other; intro e; injection e with _ e; exact h e.symm
theorem RowN.step {wr : World} {g N : Nat} {ts : List Ty} {i : Nat} (hB : Blk wr g N) (hN : (i + 1) * 4 ≤ N) (hi : i < ts.length) (h : RowN wr g ts i) {x0 x1 x2 x3 : Value} (ht : TyAt (fun b => g < b) wr ts[i] (.agg #[x0, x1, x2, x3])) :
    RowN ((((wr.setCell ⟨g, i * 4, none⟩ x0).setCell ⟨g, i * 4 + 1, none⟩ x1).setCell ⟨g, i * 4 + 2, none⟩ x2).setCell ⟨g, i * 4 + 3, none⟩ x3) g ts (i + 1) ∧ Blk ((((wr.setCell ⟨g, i * 4, none⟩ x0).setCell ⟨g, i * 4 + 1, none⟩ x1).setCell ⟨g, i * 4 + 2, none⟩ x2).setCell ⟨g, i * 4 + 3, none⟩ x3) g N := by
  have hself : ∀ (W : World) (k : Nat) (v : Value), Blk W g N → k < N → (W.setCell ⟨g, k, none⟩ v).cell? ⟨g, k, none⟩ = some v := fun W k v hb hk => by
    obtain ⟨u, hu⟩ := hb.cell hk
    exact World.cell?_setCell_same' _ _ _ (by rw [hu]; rfl)
  have hK : Keeps (fun b => g < b) wr ((((wr.setCell ⟨g, i * 4, none⟩ x0).setCell ⟨g, i * 4 + 1, none⟩ x1).setCell ⟨g, i * 4 + 2, none⟩ x2).setCell ⟨g, i * 4 + 3, none⟩ x3) :=
    (((Keeps.setCell (fun e => by omega) _).trans (.setCell (fun e => by omega) _)).trans (.setCell (fun e => by omega) _)).trans (.setCell (fun e => by omega) _)
  have b1 := hB.setCell (i * 4) x0
  have b2 := b1.setCell (i * 4 + 1) x1
  have b3 := b2.setCell (i * 4 + 2) x2
  refine ⟨fun k hk hki => ?_, b3.setCell _ _⟩
  by_cases hik : k = i
  · subst hik
    refine ⟨x0, x1, x2, x3, ?_, ?_, ?_, ?_, ht.keep hK⟩
    · rw [cell_set_ne _ _ _ _ _ (by omega), cell_set_ne _ _ _ _ _ (by omega), cell_set_ne _ _ _ _ _ (by omega)]; exact hself _ _ _ hB (by omega)
    · rw [cell_set_ne _ _ _ _ _ (by omega), cell_set_ne _ _ _ _ _ (by omega)]; exact hself _ _ _ b1 (by omega)
    · rw [cell_set_ne _ _ _ _ _ (by omega)]; exact hself _ _ _ b2 (by omega)
    · exact hself _ _ _ b3 (by omega)
  · obtain ⟨y0, y1, y2, y3, c0, c1, c2, c3, hy⟩ := h k hk (by omega)
    refine ⟨y0, y1, y2, y3, ?_, ?_, ?_, ?_, hy.keep hK⟩
    all_goals rw [cell_set_ne _ _ _ _ _ (by omega), cell_set_ne _ _ _ _ _ (by omega), cell_set_ne _ _ _ _ _ (by omega), cell_set_ne _ _ _ _ _ (by omega)]
    · exact c0
    · exact c1
    · exact c2
    · exact c3
theorem RowN.tys {w : World} {g : Nat} {ts : List Ty} {c : Nat} (h : RowN w g ts ts.length) (hg : g < w.heap.size) (hc : ts.length ≤ c) (hm : c ≤ maxLen) : TysAt (fun b => g ≤ b) w ts (.slice (some ⟨g, 0, none⟩) ts.length c) := by
  have hch : ∀ k, ∃ x : Nat → Value, ∀ (h : k < ts.length), (∀ j, j < 4 → w.cell? ⟨g, 0 + k * 4 + j, none⟩ = some (x j)) ∧ TyAt (fun b => g ≤ b) w ts[k] (.agg #[x 0, x 1, x 2, x 3]) := by
    intro k
    by_cases hk : k < ts.length
    · obtain ⟨y0, y1, y2, y3, c0, c1, c2, c3, hy⟩ := h k hk hk
      refine ⟨fun j => if j = 0 then y0 else if j = 1 then y1 else if j = 2 then y2 else y3, fun _ => ⟨fun j hj => ?_, hy.mono (fun b (hb : g < b) => Nat.le_of_lt hb)⟩⟩
      rw [Nat.zero_add]
      have : j = 0 ∨ j = 1 ∨ j = 2 ∨ j = 3 := by omega
      rcases this with rfl | rfl | rfl | rfl
      · exact c0
      · exact c1
      · exact c2
      · exact c3
    · exact ⟨fun _ => .int .i64 0, fun h => absurd h hk⟩
  obtain ⟨u, hu⟩ : ∃ u : Nat → Nat → Value, ∀ k (h : k < ts.length), (∀ j, j < 4 → w.cell? ⟨g, 0 + k * 4 + j, none⟩ = some (u k j)) ∧ TyAt (fun b => g ≤ b) w ts[k] (.agg #[u k 0, u k 1, u k 2, u k 3]) := ⟨fun k => Classical.choose (hch k), fun k => Classical.choose_spec (hch k)⟩
  exact ⟨_, c, u, rfl, hc, hm, .inr ⟨g, 0, rfl, Nat.le_refl _, hg, fun i j hi hj => (hu i hi).1 j hj⟩, fun i hi => (hu i hi).2⟩
set_option maxRecDepth 100000 in
set_option maxHeartbeats 1000000 in
theorem ownAll_of (ts : List Ty) (hts : ts.length ≤ 1099511627776) (hown : ∀ t ∈ ts, ∀ (P : Nat → Prop) (v : Value) (w : World), TyAt P w t v → Calls Tryd.prog 64 #[v] w (TyMade w t)) (P : Nat → Prop) (v : Value) (w : World) (h : TysAt P w ts v) :
    Calls Tryd.prog 104 #[v] w (TysMade w ts) := by
  obtain ⟨A, c, rfl, hc, hm⟩ := h.form
  unfold maxLen at hm
  obtain ⟨j0, hj, hy0, hy1, hy2⟩ := info_parts' Tryd.info25
  by_cases h0 : ts.length = 0
  · obtain rfl : ts = [] := List.eq_nil_of_length_eq_zero h0
    clear h0 hown hc
    go_enter Tryd.func104, Tryd.ntmps104
    go_wp2
    go_ret
    exact ⟨_, rfl, tys_nil _ _ _ _ (Nat.zero_le _), Below.refl _ _⟩
  · have h0' : ((ts.length : Int) == 0) = false := by rw [beq_eq_false_iff_ne]; omega
    have HB := Lib.hid h.bound'
    have HOWN := Lib.hid hown
    clear h hown h0
    go_enter Tryd.func104, Tryd.ntmps104
    go_upto_region 4 with (at_make; refine wpList_make_full _ rfl _ _ 23 rfl w.heap.size 25 j0 (.agg #[.int .i64 0, .int .i64 0, .string ByteArray.empty, .slice none 0 0]) 4 Tryd.underlying23 hj hy0 hy1 _ _ _ _ ts.length rfl rfl rfl rfl (by rw [hy2]; omega) (by unfold maxLen; omega) (Nat.le_refl _) ?_; intro w2 hown2 hg2)
    obtain ⟨hblk, hz2⟩ : Blk w2 w.heap.size (ts.length * 4) ∧ w.heap.size < w2.heap.size := by
      rcases hown2.2 with ⟨e, _⟩ | ⟨g', cap', cur, hv, _, hh, _, _, hcs, _⟩
      · cases e
      · injection hv with e1 _ e2
        injection e1 with e1
        injection e1 with e1
        subst e1 e2
        exact ⟨⟨cur, hh, hcs⟩, Blk.lt ⟨cur, hh, hcs⟩⟩
    have hb2 : Below w.heap.size w w2 := (Below.refl _ _).grown hg2 (by omega) (fun q hq => by cases hq)
    have HB2 := Lib.hid hb2
    have HBLK := Lib.hid hblk
    clear hb2 hblk hown2 hg2
    generalize hG : w.heap.size = g at *
    have HG := Lib.hid hG
    clear hG
    go_wp2_with fail
    go_loopw [14, 5] (fun i _ wr => ∃ k : Nat, k ≤ ts.length ∧ i = .int .i64 k ∧ RowN wr g ts k ∧ Blk wr g (ts.length * 4) ∧ Below g w wr) (fun i _ _ => ts.length - (intOf i).toNat)
    case atStart => exact ⟨0, Nat.zero_le _, rfl, fun k _ h => absurd h (Nat.not_lt_zero _), HBLK.out, HB2.out⟩
    case round =>
      obtain ⟨k, hk, rfl, hrow, hblk, hb⟩ := hrel
      have HROW := Lib.hid hrow
      have HBR := Lib.hid hblk
      have HW := Lib.hid hb
      clear hrow hblk hb
      by_cases hlt : k < ts.length
      · obtain ⟨b, off, A1, n1, rfl, hpb, hbl, c0, c1, c2, c3, ht⟩ := (HB.out.keep (.of_belowB (fun x h => h) HW.out)).at k hlt
        have hki : (k : Int) < (ts.length : Int) := by omega
        have hk0 : (0 : Int) ≤ (k : Int) := by omega
        have HT := Lib.hid ht
        have HC := Lib.hid (HOWN.out ts[k] (List.getElem_mem hlt))
        have hgl := HBR.out.lt
        clear ht
        generalize ts[k].form = tf, ts[k].num = tn, ts[k].name = ts', ts[k].args.length = tl at *
        go_wp2_with fail
        have b0 := below_new wr (.cells #[.int .i64 tf, .int .i64 tn, .string ts', .slice A1 tl n1] 25)
        refine (HC.out _ _ _ (HT.out.on b0)).mono ?_
        rintro e y1 ⟨v, rfl, hv, b1⟩
        obtain ⟨A2, n2, rfl, _, _⟩ := hv.form
        have b01 : Below wr.heap.size wr y1 := b0.trans (b1.mono b0.size)
        have hblk1 := HBR.out.below b01 hgl
        have hrow1 := HROW.out.on b01 hgl
        have hst := hrow1.step hblk1 (by omega) hlt (hv.mono (fun b (hb : _ ≤ b) => (by have := b0.size; omega : g < b)))
        have HST := Lib.hid hst
        have HB1 := Lib.hid (HW.out.trans (b01.mono (Nat.le_of_lt hgl)))
        obtain ⟨z0, d0⟩ := hblk1.cell (j := k * 4) (by omega)
        obtain ⟨z1, d1⟩ := hblk1.cell (j := k * 4 + 1) (by omega)
        obtain ⟨z2, d2⟩ := hblk1.cell (j := k * 4 + 2) (by omega)
        obtain ⟨z3, d3⟩ := hblk1.cell (j := k * 4 + 3) (by omega)
        have f0 := hblk1.frozen (k * 4)
        have f1 := hblk1.frozen (k * 4 + 1)
        have f2 := hblk1.frozen (k * 4 + 2)
        have f3 := hblk1.frozen (k * 4 + 3)
        clear hv b0 b1 b01 hblk1 hrow1 hst HT HC
        generalize ts[k].form = tf, ts[k].num = tn, ts[k].name = ts', ts[k].args.length = tl at *
        go_wp2
        go_roundw
        case rel => exact ⟨k + 1, by omega, by go_num, HST.out.1, HST.out.2, (((HB1.out.setCell (Nat.le_refl _) _).setCell (Nat.le_refl _) _).setCell (Nat.le_refl _) _).setCell (Nat.le_refl _) _⟩
        case measure => simp [intOf]; omega
      · obtain rfl : k = ts.length := by omega
        have hd : decide (ts.length < ts.length) = false := by simp
        have HF := Lib.hid (HROW.out.tys (c := ts.length) HBR.out.lt (Nat.le_refl _) (by unfold maxLen; omega))
        go_wp2
        go_ret
        exact ⟨_, rfl, by rw [HG.out]; exact HF.out, by rw [HG.out]; exact HW.out⟩
theorem own_any : ∀ (t : Ty) (P : Nat → Prop) (v : Value) (w : World), TyAt P w t v → Calls Tryd.prog 64 #[v] w (TyMade w t) := by
  intro t
  have key : ∀ (n : Nat) (t : Ty), t.sz ≤ n → ∀ (P : Nat → Prop) (v : Value) (w : World), TyAt P w t v → Calls Tryd.prog 64 #[v] w (TyMade w t) := by
    intro n
    induction n with
    | zero => intro t h; cases t <;> simp [Ty.sz] at h
    | succ n ih =>
      intro t hn P v w h
      have hal := ownAll_of t.args (by have := t.args_le; omega) (fun x hx => ih x (by have := Ty.arg_sz hx; omega)) P
      obtain ⟨sv, rfl, hs⟩ := h.tys
      obtain ⟨A, c, rfl, _, _⟩ := hs.form
      have HS := Lib.hid hs
      have HAL := Lib.hid hal
      clear hs hal ih h hn
      have hfin : ∀ (w' : World) (sv : Value), TysAt (fun b => w.heap.size ≤ b) w' t.args sv → TyAt (fun b => w.heap.size ≤ b) w' t (.agg #[.int .i64 t.form, .int .i64 t.num, .string t.name, sv]) := fun _ _ h => h.ty
      have HFIN := Lib.hid hfin
      clear hfin
      generalize t.args = ta at *
      generalize hfo : t.form = tf at *
      generalize t.num = tn, t.name = ts at *
      clear hfo
      go_enter Tryd.func64, Tryd.ntmps64
      go_wp2_with fail
      have q0 := Box4.new w (.int .i64 tf) (.int .i64 tn) (.string ts) (.slice A ta.length c) 25
      have q1 := Box4.new (w.alloc (.cells #[.int .i64 tf, .int .i64 tn, .string ts, .slice A ta.length c] 25)) (.int .i64 0) (.int .i64 0) (.string ⟨#[]⟩) (.slice none 0 0) 25
      have hb1 := below_new w (.cells #[.int .i64 tf, .int .i64 tn, .string ts, .slice A ta.length c] 25)
      have hb2 := below_new (w.alloc (.cells #[.int .i64 tf, .int .i64 tn, .string ts, .slice A ta.length c] 25)) (.cells #[.int .i64 0, .int .i64 0, .string ⟨#[]⟩, .slice none 0 0] 25)
      have hz1 : (w.alloc (.cells #[.int .i64 tf, .int .i64 tn, .string ts, .slice A ta.length c] 25)).heap.size = w.heap.size + 1 := by simp
      have q0' := q0.on hb2
      have hs2 := (HS.out.on hb1).on hb2
      rw [hz1] at q1
      have hbw := hb1.trans (hb2.mono (by omega))
      generalize (w.alloc (.cells #[.int .i64 tf, .int .i64 tn, .string ts, .slice A ta.length c] 25)).alloc (.cells #[.int .i64 0, .int .i64 0, .string ⟨#[]⟩, .slice none 0 0] 25) = w2 at *
      have HBW := Lib.hid hbw
      refine (HAL.out _ _ hs2).mono ?_
      rintro e w3 ⟨sv, rfl, hsv, b3⟩
      obtain ⟨A2, c2, rfl, _, _⟩ := hsv.form
      have Q0 := Lib.hid (q0'.on b3)
      have Q1 := Lib.hid (q1.on b3)
      have hb3 := HBW.out.trans (b3.mono HBW.out.size)
      have HB3 := Lib.hid hb3
      have HSV := Lib.hid (hsv.mono (fun b (hb : _ ≤ b) => (by have := HBW.out.size; have := q1.1; omega : w.heap.size + 2 ≤ b)))
      obtain ⟨l0, c0, c1, c2', c3, f0, f1, f2, f3⟩ := Q0.out
      obtain ⟨m0, d0, d1, d2, d3, g0, g1, g2, g3⟩ := Q1.out
      clear q0 q1 q0' hb1 hb2 hz1 hs2 hbw b3 hsv hb3
      go_wp2
      have hk : Keeps (fun b => w.heap.size + 2 ≤ b) w3 (((((w3.setCell ⟨w.heap.size, 3, none⟩ (.slice A2 ta.length c2)).setCell ⟨w.heap.size + 1, 0, none⟩ (.int .i64 tf)).setCell ⟨w.heap.size + 1, 1, none⟩ (.int .i64 tn)).setCell ⟨w.heap.size + 1, 2, none⟩ (.string ts)).setCell ⟨w.heap.size + 1, 3, none⟩ (.slice A2 ta.length c2)) :=
        ((((Keeps.setCell (fun e => by omega) _).trans (.setCell (fun e => by omega) _)).trans (.setCell (fun e => by omega) _)).trans (.setCell (fun e => by omega) _)).trans (.setCell (fun e => by omega) _)
      have hbb : Below w.heap.size w (((((w3.setCell ⟨w.heap.size, 3, none⟩ (.slice A2 ta.length c2)).setCell ⟨w.heap.size + 1, 0, none⟩ (.int .i64 tf)).setCell ⟨w.heap.size + 1, 1, none⟩ (.int .i64 tn)).setCell ⟨w.heap.size + 1, 2, none⟩ (.string ts)).setCell ⟨w.heap.size + 1, 3, none⟩ (.slice A2 ta.length c2)) :=
        ((((HB3.out.setCell (Nat.le_refl _) _).setCell (Nat.le_succ _) _).setCell (Nat.le_succ _) _).setCell (Nat.le_succ _) _).setCell (Nat.le_succ _) _
      exact bodyPost_ret (v := .agg #[.int .i64 tf, .int .i64 tn, .string ts, .slice A2 ta.length c2]) (by simp [results, Tryd.results64, go_sem, d0, d1, d2, d3]) rfl
        ⟨_, rfl, HFIN.out _ _ ((HSV.out.keep hk).mono (fun b (hb : w.heap.size + 2 ≤ b) => (by omega : w.heap.size ≤ b))), hbb⟩
  exact key t.sz t (Nat.le_refl _)
end Go.Proofs.YtbdfjboojokgdaaDoor
