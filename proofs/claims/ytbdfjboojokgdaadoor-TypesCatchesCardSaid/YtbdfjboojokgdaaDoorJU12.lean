/- Plain mathematics of chapter 4 (P4.3): what the program puts into a type, going through it with what is put where; that it is the document's; and which variables its layout tells to be free in a body. No program, no world. The contract of types.Size (chapter 4). Condition: the type has at most 2^40 nodes. -/
import Derived.Test.YtbdfjboojokgdaaDoorJU11
import Derived.Test.YtbdfjboojokgdaaDoorJU09
import Derived.OneCell
namespace Go.Proofs.YtbdfjboojokgdaaDoor
open Go.RowKit

def updP (P : ByteArray → Option Ty) (s : ByteArray) (u : Option Ty) : ByteArray → Option Ty := fun x => if x = s then u else P x
/-- The program's way: what is put where is a function. -/
def Ty.subC : Ty → (ByteArray → Option Ty) → List (ByteArray × Ty) → Ty
  | .var s, P, _ => (P s).getD (.var s)
  | .app a b, P, τ => .app (a.subC P τ) (b.subC P τ)
  | .all s b, P, τ =>
    if hasB (takenB (intoB s b τ)) s = true then .all (freshB b (intoB s b τ)) (b.subC (updP P s (some (.var (freshB b (intoB s b τ))))) (intoB s b τ ++ [(s, .var (freshB b (intoB s b τ)))]))
    else .all s (b.subC (updP P s none) (intoB s b τ))
  | t, _, _ => t
theorem subC_eq : ∀ (t : Ty) (P : ByteArray → Option Ty) (τ : List (ByteArray × Ty)), (∀ x, t.fv x → P x = lookS τ x) → t.subC P τ = t.sub τ
  | .hole _, _, _, _ => rfl
  | .con _, _, _, _ => rfl
  | .var s, P, τ, h => by simp only [Ty.subC, Ty.sub]; rw [h s rfl]
  | .app a b, P, τ, h => by
    simp only [Ty.subC, Ty.sub]
    rw [subC_eq a P τ (fun x hx => h x (.inl hx)), subC_eq b P τ (fun x hx => h x (.inr hx))]
  | .all s b, P, τ, h => by
    simp only [Ty.subC, Ty.sub]
    by_cases hc : hasB (takenB (intoB s b τ)) s = true
    · rw [if_pos hc, if_pos hc, subC_eq b _ _ (fun x hx => ?_)]
      unfold updP
      by_cases hxs : x = s
      · subst hxs
        rw [if_pos rfl, lookS_append, lookS_into_own]
        simp [lookS]
      · rw [if_neg hxs, h x ⟨hxs, hx⟩, lookS_append, lookS_into hxs hx]
        cases lookS τ x with
        | some u => rfl
        | none => simp [lookS, Ne.symm hxs]
    · rw [if_neg hc, if_neg hc, subC_eq b _ _ (fun x hx => ?_)]
      unfold updP
      by_cases hxs : x = s
      · subst hxs
        rw [if_pos rfl, lookS_into_own]
      · rw [if_neg hxs, h x ⟨hxs, hx⟩, lookS_into hxs hx]
/-! ### The layout tells what is free -/
theorem layV_bnd {x : ByteArray} {k : Int} : ∀ (t : Ty) (g : ByteArray → Int) (d : Int), (x, k) ∈ layV g d t → k = g x ∨ d < k
  | .hole _, _, _, h => by simp [layV] at h
  | .con _, _, _, h => by simp [layV] at h
  | .var s, g, d, h => by simp [layV] at h; obtain ⟨rfl, rfl⟩ := h; exact .inl rfl
  | .app a b, g, d, h => by
    rw [layV, List.mem_append] at h
    exact h.elim (layV_bnd a g d) (layV_bnd b g d)
  | .all s a, g, d, h => by
    rw [layV] at h
    rcases layV_bnd a _ _ h with h9 | h9
    · unfold updG at h9
      by_cases hx : x = s
      · rw [if_pos hx] at h9; exact .inr (by omega)
      · rw [if_neg hx] at h9; exact .inl h9
    · exact .inr (by omega)
theorem layV_fv {x : ByteArray} : ∀ (t : Ty) (g : ByteArray → Int) (d : Int), t.fv x → (x, g x) ∈ layV g d t
  | .hole _, _, _, h => by simp [Ty.fv] at h
  | .con _, _, _, h => by simp [Ty.fv] at h
  | .var s, g, d, h => by simp only [Ty.fv] at h; subst h; simp [layV]
  | .app a b, g, d, h => by
    rw [layV, List.mem_append]
    exact h.imp (layV_fv a g d) (layV_fv b g d)
  | .all s a, g, d, h => by
    rw [layV]
    have := layV_fv a (updG g s (d + 1)) (d + 1) h.2
    unfold updG at this ⊢
    rwa [if_neg h.1] at this
theorem fv_layV {x : ByteArray} {k : Int} : ∀ (t : Ty) (g : ByteArray → Int) (d : Int), (∀ y, g y ≤ d) → (x, k) ∈ layV g d t → k ≤ d → t.fv x
  | .hole _, _, _, _, h, _ => by simp [layV] at h
  | .con _, _, _, _, h, _ => by simp [layV] at h
  | .var s, g, d, _, h, _ => by simp [layV] at h; exact h.1
  | .app a b, g, d, hg, h, hk => by
    rw [layV, List.mem_append] at h
    exact h.imp (fun h => fv_layV a g d hg h hk) (fun h => fv_layV b g d hg h hk)
  | .all s a, g, d, hg, h, hk => by
    rw [layV] at h
    have hg' : ∀ y, updG g s (d + 1) y ≤ d + 1 := fun y => by
      unfold updG
      split
      · omega
      · have := hg y; omega
    refine ⟨fun hx => ?_, fv_layV a _ _ hg' h (by omega)⟩
    rcases layV_bnd a _ _ h with h9 | h9
    · unfold updG at h9
      rw [if_pos hx] at h9
      omega
    · omega
/-- Whether a variable is free in a body, told by the layout: one of its spots is no deeper than the body. -/
def freeQ (L : List (ByteArray × Int)) (n m : Nat) (d : Int) (x : ByteArray) : Bool := ((L.drop n).take (m - n)).any (fun p => decide (p.1 = x) && decide (p.2 ≤ d))
theorem freeQ_is {A C : List (ByteArray × Int)} {g : ByteArray → Int} {d : Int} {b : Ty} {x : ByteArray} (hg : ∀ y, g y ≤ d) : freeQ (A ++ layV g d b ++ C) A.length (A.length + b.vars) d x = hasB b.free x := by
  have e : ((A ++ layV g d b ++ C).drop A.length).take (A.length + b.vars - A.length) = layV g d b := by
    rw [List.append_assoc, List.drop_left, show A.length + b.vars - A.length = (layV g d b).length by rw [layV_len]; omega, List.take_left]
  unfold freeQ
  rw [e]
  have key : ((layV g d b).any (fun p => decide (p.1 = x) && decide (p.2 ≤ d)) = true) ↔ hasB b.free x = true := by
    rw [hasB_mem, free_mem, List.any_eq_true]
    constructor
    · rintro ⟨p, hp, h⟩
      simp only [Bool.and_eq_true, decide_eq_true_eq] at h
      obtain ⟨rfl, h2⟩ := h
      exact fv_layV b g d hg (by cases p; exact hp) h2
    · intro h
      exact ⟨(x, g x), layV_fv b g d h, by simp [hg x]⟩
  cases h1 : (layV g d b).any (fun p => decide (p.1 = x) && decide (p.2 ≤ d)) <;> cases h2 : hasB b.free x <;> simp_all
end Go.Proofs.YtbdfjboojokgdaaDoor
namespace Go.Proofs.YtbdfjboojokgdaaDoor
open Go.RowKit

def cnt (l : List Ty) : Nat := (l.map Ty.own1).sum
theorem cnt_snoc (l : List Ty) (t : Ty) : cnt (l ++ [t]) = cnt l + t.own1 := by simp [cnt]
theorem own1_le (t : Ty) : t.own1 ≤ 1 := by unfold Ty.own1; split <;> omega
theorem cnt_le (l : List Ty) : cnt l ≤ l.length := by
  induction l with
  | nil => simp [cnt]
  | cons a r ih => have := own1_le a; simp [cnt] at *; omega
theorem cnt_append (l r : List Ty) : cnt (l ++ r) = cnt l + cnt r := by simp [cnt]
theorem cnt_nodes : ∀ t : Ty, cnt t.nodes = t.count
  | .app a b => by
    have h1 := cnt_nodes a; have h2 := cnt_nodes b
    rw [Ty.nodes, show (Ty.app a b :: (a.nodes ++ b.nodes)) = [Ty.app a b] ++ (a.nodes ++ b.nodes) from rfl, cnt_append, cnt_append, h1, h2]
    simp [cnt, Ty.own1, Ty.form, Ty.count]
  | .all s a => by
    have h1 := cnt_nodes a
    rw [Ty.nodes, show (Ty.all s a :: a.nodes) = [Ty.all s a] ++ a.nodes from rfl, cnt_append, h1]
    simp [cnt, Ty.own1, Ty.form, Ty.count]
  | .hole _ => by simp [Ty.nodes, cnt, Ty.own1, Ty.form, Ty.count]
  | .var _ => by simp [Ty.nodes, cnt, Ty.own1, Ty.form, Ty.count]
  | .con _ => by simp [Ty.nodes, cnt, Ty.own1, Ty.form, Ty.count]
/-- The counter's box. -/
def SzSt (base nb : Nat) (l : List Ty) (w : World) : Prop := base ≤ nb ∧ w.heap[nb]? = some (.cells #[.int .i64 (cnt l)] 3)
theorem SzSt.lt {base nb : Nat} {l : List Ty} {w : World} (h : SzSt base nb l w) : nb < w.heap.size := by
  rcases Nat.lt_or_ge nb w.heap.size with h9 | h9
  · exact h9
  · have := h.2; rw [Array.getElem?_eq_none h9] at this; cases this
theorem SzSt.on {base nb : Nat} {l : List Ty} {w w' : World} (h : SzSt base nb l w) (hb : Below w.heap.size w w') : SzSt base nb l w' := ⟨h.1, (hb.block nb h.lt).trans h.2⟩
theorem sz_told (base nb : Nat) : Told base (fun _ k => k = nb) (SzSt base nb) where
  new := fun _ w o h => h.on (below_new w o)
  drew := fun _ w h => h.on (Below.refl _ w).drew
  own := fun _ _ _ _ _ h => h
  lt := fun _ _ _ h e => e ▸ h.lt
  base := fun _ _ _ h e => e ▸ h.1
set_option maxRecDepth 100000 in
set_option maxHeartbeats 1000000 in
theorem size1_any (base nb : Nat) (l : List Ty) (t : Ty) (v : Value) (w : World) (hl : l.length < 1099511627776) (hs : SzSt base nb l w) (h : TyAt (fun b => b < base) w t v) :
    Calls Tryd.prog 59 (#[v] ++ #[.pointer (some ⟨nb, 0, none⟩)]) w fun e w' => e = .returned (.tuple #[]) ∧ SzSt base nb (l ++ [t]) w' ∧ FrM (fun _ k => k = nb) w w' := by
  obtain ⟨A, c, rfl, _, _⟩ := h.form
  have hc := cnt_le l
  have HCS := Lib.hid (cnt_snoc l t)
  have hlt := hs.lt
  obtain ⟨W, eW, q1, b1, z1⟩ := one_box w (.int .i64 t.form) (.int .i64 t.num) (.string t.name) (.slice A t.args.length c) 25
  have HSW := Lib.hid (hs.on b1)
  have HEW := Lib.hid eW
  have HB := Lib.hid b1
  obtain ⟨x0, x1, x2, x3, x4, _⟩ := q1
  have hcell : W.cell? ⟨nb, 0, none⟩ = some (.int .i64 (cnt l)) := by have := HSW.out.2; simp [World.cell?, this]
  have hfz : W.frozen? ⟨nb, 0, none⟩ = false := by have := HSW.out.2; simp [World.frozen?, this]
  have hnW := HSW.out.lt
  have hcw : w.cell? ⟨nb, 0, none⟩ = some (.int .i64 (cnt l)) := by have := hs.2; simp [World.cell?, this]
  have hfw : w.frozen? ⟨nb, 0, none⟩ = false := by have := hs.2; simp [World.frozen?, this]
  have HP : Hid (∀ (z : Int) (o : Obj), z = (cnt (l ++ [t]) : Int) → SzSt base nb (l ++ [t]) ((w.setCell ⟨nb, 0, none⟩ (.int .i64 z)).alloc o) ∧ FrM (fun _ k => k = nb) w ((w.setCell ⟨nb, 0, none⟩ (.int .i64 z)).alloc o)) := fun z o hz => by
    subst hz
    have h1 := one_setCell (u := .int .i64 (cnt (l ++ [t]))) hs.2
    have b0 : Below w.heap.size (w.setCell ⟨nb, 0, none⟩ (.int .i64 (cnt (l ++ [t])))) ((w.setCell ⟨nb, 0, none⟩ (.int .i64 (cnt (l ++ [t])))).alloc o) := by
      have h := below_new (w.setCell ⟨nb, 0, none⟩ (.int .i64 (cnt (l ++ [t])))) o
      simpa using h
    have b9 : Below nb w ((w.setCell ⟨nb, 0, none⟩ (.int .i64 (cnt (l ++ [t])))).alloc o) := ((Below.refl nb w).setCell (p := ⟨nb, 0, none⟩) (Nat.le_refl nb) _).trans (b0.mono (by omega))
    refine ⟨⟨hs.1, (b0.block nb hlt).trans h1⟩, ⟨b9.os, b9.tape, b9.output, b9.size, fun k hk hn => ?_, fun _ _ h => h⟩⟩
    exact (b0.block k hk).trans (Below.heap_setCell w ⟨nb, 0, none⟩ _ k hn)
  have HN : Hid (cnt (l ++ [t]) = cnt l → SzSt base nb (l ++ [t]) W ∧ FrM (fun _ k => k = nb) w W) := fun hz => by
    refine ⟨⟨hs.1, ?_⟩, FrM.of_below HB.out (fun _ _ h => h)⟩
    rw [hz]; exact HSW.out.2
  have hfo : (t.form = 4 ∧ t.own1 = 0) ∨ ((t.form = 1 ∨ t.form = 2 ∨ t.form = 3 ∨ t.form = 5) ∧ t.own1 = 1) := by cases t <;> simp [Ty.form, Ty.own1]
  clear eW b1 hs h
  generalize t.form = ff at *
  generalize t.num = nn at *
  generalize t.name = ss at *
  generalize t.own1 = oo at *
  generalize t.args.length = ll at *
  generalize cnt (l ++ [t]) = c2 at *
  generalize cnt l = c1 at *
  rcases hfo with ⟨rfl, rfl⟩ | ⟨rfl | rfl | rfl | rfl, rfl⟩
  · go_enter Tryd.func59, Tryd.ntmps59
    go_wp2_with fail
    rw [HEW.out]
    go_wp2
    go_end0
    exact ⟨rfl, HN.out HCS.out⟩
  all_goals
    go_enter Tryd.func59, Tryd.ntmps59
    go_wp2
    go_end0
    exact ⟨rfl, HP.out _ _ (by rw [HCS.out]; push_cast; rfl)⟩
set_option maxRecDepth 100000 in
set_option maxHeartbeats 1000000 in
theorem size_any (P : Nat → Prop) (t : Ty) (v : Value) (w : World) (h : TyAt P w t v) (hz : t.sz ≤ 1099511627776) :
    Calls Tryd.prog 19 #[v] w fun e w' => e = .returned (.int .i64 t.count) ∧ Below w.heap.size w w' := by
  obtain ⟨f1, n1, s1, A1, l1, c1, rfl⟩ := h.flat
  have hb0 : Below w.heap.size w ((w.alloc (.cells #[.int .i64 f1, .int .i64 n1, .string s1, .slice A1 l1 c1] 25)).alloc (.cells #[.int .i64 0] 3)) := below2 w _ _
  have hst : SzSt w.heap.size (w.heap.size + 1) [] ((w.alloc (.cells #[.int .i64 f1, .int .i64 n1, .string s1, .slice A1 l1 c1] 25)).alloc (.cells #[.int .i64 0] 3)) := by
    refine ⟨by omega, ?_⟩
    have h9 := (MapKept.heap_alloc (w.alloc (.cells #[.int .i64 f1, .int .i64 n1, .string s1, .slice A1 l1 c1] 25)) (.cells #[.int .i64 0] 3)).1
    simp only [World.size_alloc] at h9
    exact h9
  have hzX : ((w.alloc (.cells #[.int .i64 f1, .int .i64 n1, .string s1, .slice A1 l1 c1] 25)).alloc (.cells #[.int .i64 0] 3)).heap.size = w.heap.size + 2 := by simp
  have hcf : ∀ (vs : Array Value) (y : World), (callFunc 59 vs).run Tryd.prog y = .ok (.enter 59 vs) y := fun vs y => by first | kernel_rfl | rfl
  obtain ⟨X, eX⟩ : ∃ X, (w.alloc (.cells #[.int .i64 f1, .int .i64 n1, .string s1, .slice A1 l1 c1] 25)).alloc (.cells #[.int .i64 0] 3) = X := ⟨_, rfl⟩
  rw [eX] at hb0 hst hzX
  have HC := Lib.hid (each_of (fun _ => True) (fun _ _ _ _ => trivial) w.heap.size (fun _ k => k = w.heap.size + 1) (SzSt w.heap.size (w.heap.size + 1)) (sz_told _ _) 59 #[.pointer (some ⟨w.heap.size + 1, 0, none⟩)] 1099511627776 hcf
    (fun l t v y hl _ hs _ h => size1_any _ _ l t v y hl hs h) _ [] t _ X (Nat.le_refl _) (by simpa using hz) trivial hst (by omega) (h.bound'.on hb0))
  have HEX := Lib.hid eX
  have HB := Lib.hid hb0
  have HCN := Lib.hid (cnt_nodes t)
  clear eX hst h hb0
  go_enter Tryd.func19, Tryd.ntmps19
  go_wp2_with fail
  rw [HEX.out]
  (with_reducible refine HC.out.mono ?_)
  rintro e y ⟨rfl, hs, hf⟩
  have hcl : y.cell? ⟨w.heap.size + 1, 0, none⟩ = some (.int .i64 t.count) := by
    have := hs.2
    rw [List.nil_append, HCN.out] at this
    simp [World.cell?, this]
  have HBY := Lib.hid (HB.out.trans (hf.below (by omega) (fun k hk => by omega)))
  clear hs hf
  go_wp2
  go_ret
  exact ⟨rfl, HBY.out⟩
end Go.Proofs.YtbdfjboojokgdaaDoor
