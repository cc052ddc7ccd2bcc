/- The contract of types.Size (chapter 4). Condition: the type has at most 2^40 nodes. -/
import Derived.Test.YtbdfjboojokgdaaDoorJS16
import Derived.OneCell
namespace Go.Proofs.YtbdfjboojokgdaaDoor
open Go.RowKit

def cnt (l : List Ty) : Nat := (l.map Ty.own1).sum
theorem cnt_snoc (l : List Ty) (t : Ty) : cnt (l ++ [t]) = cnt l + t.own1 := by simp [cnt]
theorem own1_le (t : Ty) : t.own1 ≤ 1 := by unfold Ty.own1; split <;> omega
theorem cnt_le (l : List Ty) : cnt l ≤ l.length := by
  induction l with
  | nil => simp [cnt]
  | cons a r ih => have := own1_le a; simp [cnt] at *; omega
theorem cnt_append (l r : List Ty) : cnt (l ++ r) = cnt l + cnt r := by simp [cnt]
theorem cnt_nodes : ∀ t : Ty, cnt t.nodes = t.count
  | .app a b => by
    have h1 := cnt_nodes a; have h2 := cnt_nodes b
    rw [Ty.nodes, show (Ty.app a b :: (a.nodes ++ b.nodes)) = [Ty.app a b] ++ (a.nodes ++ b.nodes) from rfl, cnt_append, cnt_append, h1, h2]
    simp [cnt, Ty.own1, Ty.form, Ty.count]
  | .all s a => by
    have h1 := cnt_nodes a
    rw [Ty.nodes, show (Ty.all s a :: a.nodes) = [Ty.all s a] ++ a.nodes from rfl, cnt_append, h1]
    simp [cnt, Ty.own1, Ty.form, Ty.count]
  | .hole _ => by simp [Ty.nodes, cnt, Ty.own1, Ty.form, Ty.count]
  | .var _ => by simp [Ty.nodes, cnt, Ty.own1, Ty.form, Ty.count]
  | .con _ => by simp [Ty.nodes, cnt, Ty.own1, Ty.form, Ty.count]
/-- The counter's box. -/
def SzSt (base nb : Nat) (l : List Ty) (w : World) : Prop := base ≤ nb ∧ w.heap[nb]? = some (.cells #[.int .i64 (cnt l)] 3)
theorem SzSt.lt {base nb : Nat} {l : List Ty} {w : World} (h : SzSt base nb l w) : nb < w.heap.size := by
  rcases Nat.lt_or_ge nb w.heap.size with h9 | h9
  · exact h9
  · have := h.2; rw [Array.getElem?_eq_none h9] at this; cases this
theorem SzSt.on {base nb : Nat} {l : List Ty} {w w' : World} (h : SzSt base nb l w) (hb : Below w.heap.size w w') : SzSt base nb l w' := ⟨h.1, (hb.block nb h.lt).trans h.2⟩
theorem sz_told (base nb : Nat) : Told base (fun _ k => k = nb) (SzSt base nb) where
  new := fun _ w o h => h.on (below_new w o)
  drew := fun _ w h => h.on (Below.refl _ w).drew
  own := fun _ _ _ _ _ h => h
  lt := fun _ _ _ h e => e ▸ h.lt
  base := fun _ _ _ h e => e ▸ h.1
set_option maxRecDepth 100000 in
set_option maxHeartbeats 1000000 in
theorem size1_any (base nb : Nat) (l : List Ty) (t : Ty) (v : Value) (w : World) (hl : l.length < 1099511627776) (hs : SzSt base nb l w) (h : TyAt (fun b => b < base) w t v) :
    Calls Tryd.prog 59 (#[v] ++ #[.pointer (some ⟨nb, 0, none⟩)]) w fun e w' => e = .returned (.tuple #[]) ∧ SzSt base nb (l ++ [t]) w' ∧ FrM (fun _ k => k = nb) w w' := by
  obtain ⟨A, c, rfl, _, _⟩ := h.form
  have hc := cnt_le l
  have HCS := Lib.hid (cnt_snoc l t)
  have hlt := hs.lt
  obtain ⟨W, eW, q1, b1, z1⟩ := one_box w (.int .i64 t.form) (.int .i64 t.num) (.string t.name) (.slice A t.args.length c) 25
  have HSW := Lib.hid (hs.on b1)
  have HEW := Lib.hid eW
  have HB := Lib.hid b1
  obtain ⟨x0, x1, x2, x3, x4, _⟩ := q1
  have hcell : W.cell? ⟨nb, 0, none⟩ = some (.int .i64 (cnt l)) := by have := HSW.out.2; simp [World.cell?, this]
  have hfz : W.frozen? ⟨nb, 0, none⟩ = false := by have := HSW.out.2; simp [World.frozen?, this]
  have hnW := HSW.out.lt
  have hcw : w.cell? ⟨nb, 0, none⟩ = some (.int .i64 (cnt l)) := by have := hs.2; simp [World.cell?, this]
  have hfw : w.frozen? ⟨nb, 0, none⟩ = false := by have := hs.2; simp [World.frozen?, this]
  have HP : Hid (∀ (z : Int) (o : Obj), z = (cnt (l ++ [t]) : Int) → SzSt base nb (l ++ [t]) ((w.setCell ⟨nb, 0, none⟩ (.int .i64 z)).alloc o) ∧ FrM (fun _ k => k = nb) w ((w.setCell ⟨nb, 0, none⟩ (.int .i64 z)).alloc o)) := fun z o hz => by
    subst hz
    have h1 := one_setCell (u := .int .i64 (cnt (l ++ [t]))) hs.2
    have b0 : Below w.heap.size (w.setCell ⟨nb, 0, none⟩ (.int .i64 (cnt (l ++ [t])))) ((w.setCell ⟨nb, 0, none⟩ (.int .i64 (cnt (l ++ [t])))).alloc o) := by
      have h := below_new (w.setCell ⟨nb, 0, none⟩ (.int .i64 (cnt (l ++ [t])))) o
      simpa using h
    have b9 : Below nb w ((w.setCell ⟨nb, 0, none⟩ (.int .i64 (cnt (l ++ [t])))).alloc o) := ((Below.refl nb w).setCell (p := ⟨nb, 0, none⟩) (Nat.le_refl nb) _).trans (b0.mono (by omega))
    refine ⟨⟨hs.1, (b0.block nb hlt).trans h1⟩, ⟨b9.os, b9.tape, b9.output, b9.size, fun k hk hn => ?_, fun _ _ h => h⟩⟩
    exact (b0.block k hk).trans (Below.heap_setCell w ⟨nb, 0, none⟩ _ k hn)
  have HN : Hid (cnt (l ++ [t]) = cnt l → SzSt base nb (l ++ [t]) W ∧ FrM (fun _ k => k = nb) w W) := fun hz => by
    refine ⟨⟨hs.1, ?_⟩, FrM.of_below HB.out (fun _ _ h => h)⟩
    rw [hz]; exact HSW.out.2
  have hfo : (t.form = 4 ∧ t.own1 = 0) ∨ ((t.form = 1 ∨ t.form = 2 ∨ t.form = 3 ∨ t.form = 5) ∧ t.own1 = 1) := by cases t <;> simp [Ty.form, Ty.own1]
  clear eW b1 hs h
  generalize t.form = ff at *
  generalize t.num = nn at *
  generalize t.name = ss at *
  generalize t.own1 = oo at *
  generalize t.args.length = ll at *
  generalize cnt (l ++ [t]) = c2 at *
  generalize cnt l = c1 at *
  rcases hfo with ⟨rfl, rfl⟩ | ⟨rfl | rfl | rfl | rfl, rfl⟩
  · go_enter Tryd.func59, Tryd.ntmps59
    go_wp2_with fail
    rw [HEW.out]
    go_wp2
    go_end0
    exact ⟨rfl, HN.out HCS.out⟩
  all_goals
    go_enter Tryd.func59, Tryd.ntmps59
    go_wp2
    go_end0
    exact ⟨rfl, HP.out _ _ (by rw [HCS.out]; push_cast; rfl)⟩
set_option maxRecDepth 100000 in
set_option maxHeartbeats 1000000 in
theorem size_any (P : Nat → Prop) (t : Ty) (v : Value) (w : World) (h : TyAt P w t v) (hz : t.sz ≤ 1099511627776) :
    Calls Tryd.prog 19 #[v] w fun e w' => e = .returned (.int .i64 t.count) ∧ Below w.heap.size w w' := by
  obtain ⟨f1, n1, s1, A1, l1, c1, rfl⟩ := h.flat
  have hb0 : Below w.heap.size w ((w.alloc (.cells #[.int .i64 f1, .int .i64 n1, .string s1, .slice A1 l1 c1] 25)).alloc (.cells #[.int .i64 0] 3)) := below2 w _ _
  have hst : SzSt w.heap.size (w.heap.size + 1) [] ((w.alloc (.cells #[.int .i64 f1, .int .i64 n1, .string s1, .slice A1 l1 c1] 25)).alloc (.cells #[.int .i64 0] 3)) := by
    refine ⟨by omega, ?_⟩
    have h9 := (MapKept.heap_alloc (w.alloc (.cells #[.int .i64 f1, .int .i64 n1, .string s1, .slice A1 l1 c1] 25)) (.cells #[.int .i64 0] 3)).1
    simp only [World.size_alloc] at h9
    exact h9
  have hzX : ((w.alloc (.cells #[.int .i64 f1, .int .i64 n1, .string s1, .slice A1 l1 c1] 25)).alloc (.cells #[.int .i64 0] 3)).heap.size = w.heap.size + 2 := by simp
  have hcf : ∀ (vs : Array Value) (y : World), (callFunc 59 vs).run Tryd.prog y = .ok (.enter 59 vs) y := fun vs y => by first | kernel_rfl | rfl
  obtain ⟨X, eX⟩ : ∃ X, (w.alloc (.cells #[.int .i64 f1, .int .i64 n1, .string s1, .slice A1 l1 c1] 25)).alloc (.cells #[.int .i64 0] 3) = X := ⟨_, rfl⟩
  rw [eX] at hb0 hst hzX
  have HC := Lib.hid (each_of (fun _ => True) (fun _ _ _ _ => trivial) w.heap.size (fun _ k => k = w.heap.size + 1) (SzSt w.heap.size (w.heap.size + 1)) (sz_told _ _) 59 #[.pointer (some ⟨w.heap.size + 1, 0, none⟩)] 1099511627776 hcf
    (fun l t v y hl _ hs _ h => size1_any _ _ l t v y hl hs h) _ [] t _ X (Nat.le_refl _) (by simpa using hz) trivial hst (by omega) (h.bound'.on hb0))
  have HEX := Lib.hid eX
  have HB := Lib.hid hb0
  have HCN := Lib.hid (cnt_nodes t)
  clear eX hst h hb0
  go_enter Tryd.func19, Tryd.ntmps19
  go_wp2_with fail
  rw [HEX.out]
  (with_reducible refine HC.out.mono ?_)
  rintro e y ⟨rfl, hs, hf⟩
  have hcl : y.cell? ⟨w.heap.size + 1, 0, none⟩ = some (.int .i64 t.count) := by
    have := hs.2
    rw [List.nil_append, HCN.out] at this
    simp [World.cell?, this]
  have HBY := Lib.hid (HB.out.trans (hf.below (by omega) (fun k hk => by omega)))
  clear hs hf
  go_wp2
  go_ret
  exact ⟨rfl, HBY.out⟩
end Go.Proofs.YtbdfjboojokgdaaDoor
