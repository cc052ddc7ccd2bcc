/- The contracts of types' layoutOf and Free (chapter 4). Condition: names are of at most 2^40 bytes, the type has at most 2^38 nodes. -/
import Derived.Test.YtbdfjboojokgdaaDoorAdd2
namespace Go.Proofs.YtbdfjboojokgdaaDoor
open Go.RowKit

def zeroG : ByteArray → Int := fun _ => 0
theorem MapG.new0 (w : World) : MapG (w.alloc (.map #[] 0)) w.heap.size zeroG 0 := ⟨0, _, MapS.made Tryd.prog 9 w, Nat.le_refl _, fun _ => .inl ⟨rfl, rfl⟩⟩
set_option maxRecDepth 100000 in
set_option maxHeartbeats 1000000 in
theorem layoutOf_any (P : Nat → Prop) (t : Ty) (v : Value) (w : World) (h : TyAt P w t v) (hsh : t.short) (hz : t.sz ≤ 274877906944) :
    Calls Tryd.prog 54 #[v] w fun e w' => e = .returned (.pointer (some ⟨w.heap.size + 1, 0, none⟩)) ∧ LaySt w.heap.size (w.heap.size + 1) (w.heap.size + 1 + 1) zeroG (0 + 2 * t.sz) (layV zeroG 0 t) (layE 0 t) w' ∧ Below w.heap.size w w' := by
  obtain ⟨f1, n1, s1, A1, l1, c1, rfl⟩ := h.flat
  obtain ⟨X, eX, hst, bX, zX⟩ : ∃ X, (((w.alloc (.cells #[.int .i64 f1, .int .i64 n1, .string s1, .slice A1 l1 c1] 25)).alloc (.cells #[.slice none 0 0, .slice none 0 0] 89)).alloc (.map #[] 0)) = X ∧ LaySt w.heap.size (w.heap.size + 1) (w.heap.size + 1 + 1) zeroG 0 [] [] X ∧ Below w.heap.size w X ∧ X.heap.size = w.heap.size + 3 := by
    refine ⟨_, rfl, ?_, below3 w _ _ _, by simp⟩
    obtain ⟨w1, e1⟩ : ∃ w1, w.alloc (.cells #[.int .i64 f1, .int .i64 n1, .string s1, .slice A1 l1 c1] 25) = w1 := ⟨_, rfl⟩
    have z1 : w1.heap.size = w.heap.size + 1 := by rw [← e1]; simp
    rw [e1, ← z1]
    have k2 := (MapKept.heap_alloc w1 (.cells #[.slice none 0 0, .slice none 0 0] 89)).1
    obtain ⟨w2, e2⟩ : ∃ w2, w1.alloc (.cells #[.slice none 0 0, .slice none 0 0] 89) = w2 := ⟨_, rfl⟩
    have z2 : w2.heap.size = w1.heap.size + 1 := by rw [← e2]; simp
    rw [e2] at k2 ⊢
    rw [← z2]
    have k3 := MapG.new0 w2
    have b3 := below_new w2 (.map #[] 0)
    exact ⟨⟨by omega, by omega⟩, k3, .slice none 0 0, .slice none 0 0, (b3.block _ (by omega)).trans k2, World.ownsRow_nil _ _ _ _, OwnI.nil _ _⟩
  have HC := Lib.hid (addIs w.heap.size (w.heap.size + 1) (w.heap.size + 1 + 1) _ t _ zeroG 0 0 [] [] X (Nat.le_refl _) (h.bound'.on bX) hsh hst (by omega) (by omega) (by simp; omega) (by simp; omega) (by omega) (by omega))
  have HM := Lib.hid (fun k (hk : LayM (w.heap.size + 1) (w.heap.size + 1 + 1) X k) => (hst.lt hk).1)
  have HEX := Lib.hid eX
  have HB := Lib.hid bX
  have hmm : ∀ y : World, (Instr.makeMap 105 none).run Tryd.prog y = .ok (.map (some y.heap.size)) (y.alloc (.map #[] 0)) := fun y => run_makeMap 105 y
  clear eX hst h bX
  go_enter Tryd.func54, Tryd.ntmps54
  go_wp2_with fail
  rw [HEX.out]
  (with_reducible refine HC.out.mono ?_)
  rintro e y ⟨rfl, hs, hf⟩
  have HS := Lib.hid hs
  have HBY := Lib.hid (HB.out.trans (hf.below (by omega) HM.out))
  clear hs hf
  go_wp2
  go_ret
  exact ⟨rfl, by simpa using HS.out, HBY.out⟩
/-- What is known of which texts were met. -/
def KnowsS (w : World) (mb : Nat) (zs : List ByteArray) : Prop := ∃ sz f, MapS Tryd.prog 9 w mb sz f ∧ sz ≤ zs.length ∧ ∀ x, f x = if hasB zs x = true then some (.bool true) else none
theorem KnowsS.block {w w' : World} {mb : Nat} {zs : List ByteArray} (h : KnowsS w mb zs) (hb : w'.heap[mb]? = w.heap[mb]?) : KnowsS w' mb zs := by
  obtain ⟨sz, f, h, r⟩ := h; exact ⟨sz, f, h.block hb, r⟩
theorem KnowsS.lt {w : World} {mb : Nat} {zs : List ByteArray} (h : KnowsS w mb zs) : mb < w.heap.size := by obtain ⟨sz, f, h, r⟩ := h; exact h.lt
theorem KnowsS.notCells {w : World} {mb : Nat} {zs : List ByteArray} (h : KnowsS w mb zs) {cs : Array Value} {t : TypeId} {b : Nat} (hb : w.heap[b]? = some (.cells cs t)) : b ≠ mb := fun e => by
  subst e
  obtain ⟨sz, f, ⟨D, ⟨es, clock, hb', _⟩, _⟩, _⟩ := h
  rw [hb] at hb'; cases hb'
theorem KnowsS.look {w : World} {mb : Nat} {zs : List ByteArray} (h : KnowsS w mb zs) {x : ByteArray} (hx : x.size ≤ 1099511627776) : (Instr.lookup 86 (.map (some mb)) (.string x) false).run Tryd.prog w = .ok (.bool (hasB zs x)) w := by
  obtain ⟨sz, f, h, _, hf⟩ := h
  have h9 := h.look (t := 86) (e := 4) Tryd.underlying9 Tryd.underlying86 zero4 (x := x) (by unfold maxLen; omega)
  rw [h9, hf x]
  cases hasB zs x <;> rfl
theorem hasB_snoc (zs : List ByteArray) (x y : ByteArray) : hasB (zs ++ [x]) y = (hasB zs y || decide (x = y)) := by simp [hasB]
theorem KnowsS.store {w : World} {mb : Nat} {zs : List ByteArray} (h : KnowsS w mb zs) {x : ByteArray} (hx : x.size ≤ 1099511627776) (hl : zs.length ≤ 1099511627776) (hn : hasB zs x = false) :
    ∃ w', (Instr.mapUpdate 86 (.map (some mb)) (.string x) (.bool true)).run Tryd.prog w = .ok () w' ∧ KnowsS w' mb (zs ++ [x]) ∧ w.grownBy w' (some mb) := by
  obtain ⟨sz, f, h, hs, hf⟩ := h
  obtain ⟨w', r1, r2, r3⟩ := h.store (t := 86) (e := 4) Tryd.underlying9 Tryd.underlying86 (by unfold maxLen; omega) (.bool true) (x := x) (by unfold maxLen; omega)
  refine ⟨w', r1, ⟨_, _, r2, ?_, fun y => ?_⟩, r3⟩
  · rw [List.length_append]; simp; split <;> omega
  · unfold setS
    rw [hasB_snoc]
    by_cases e : y = x
    · subst e; simp
    · rw [if_neg e, hf y]; simp [Ne.symm e]
theorem spot_at (vs : List (ByteArray × Int)) : ∀ (k : Nat) (h : k < vs.length), (spotCells vs)[k * 2]? = some (.string vs[k].1) ∧ (spotCells vs)[k * 2 + 1]? = some (.int .i64 vs[k].2) := by
  induction vs with
  | nil => intro k h; exact absurd h (Nat.not_lt_zero _)
  | cons p r ih =>
    intro k h
    have e : spotCells (p :: r) = spotC p ++ spotCells r := by simp [spotCells]
    rw [e]
    cases k with
    | zero => exact ⟨rfl, rfl⟩
    | succ k =>
      have h1 := ih k (by simpa using h)
      have hl : (spotC p).length = 2 := rfl
      rw [List.getElem?_append_right (by rw [hl]; omega), List.getElem?_append_right (by rw [hl]; omega), hl, show (k + 1) * 2 - 2 = k * 2 by omega, show (k + 1) * 2 + 1 - 2 = k * 2 + 1 by omega]
      exact h1
theorem OwnV.at {base : Nat} {w : World} {A : Option Addr} {n c : Nat} {vs : List (ByteArray × Int)} (h : OwnV base w (.slice A n c) vs) (k : Nat) (hk : k < vs.length) : ∃ g, A = some ⟨g, 0, none⟩ ∧ g < w.heap.size ∧ w.cell? ⟨g, k * 2, none⟩ = some (.string vs[k].1) ∧ w.cell? ⟨g, k * 2 + 1, none⟩ = some (.int .i64 vs[k].2) := by
  obtain ⟨g, cap, e, _, hg⟩ := World.ownsRow.form h (by omega)
  injection e with e1 e2 e3
  subst e1 e2
  have hs := spot_at vs k hk
  exact ⟨g, rfl, hg, by rw [World.ownsRow.cellAt h _ (by omega)]; exact hs.1, by rw [World.ownsRow.cellAt h _ (by omega)]; exact hs.2⟩
theorem layV_short (g : ByteArray → Int) (d : Int) (t : Ty) (h : t.short) : ∀ p ∈ layV g d t, p.1.size ≤ 1099511627776 := by
  induction t generalizing g d with
  | hole n => intro p hp; simp [layV] at hp
  | con s => intro p hp; simp [layV] at hp
  | var s => intro p hp; simp [layV] at hp; subst hp; exact h
  | app a b iha ihb =>
    intro p hp
    simp only [layV, List.mem_append] at hp
    rcases hp with hp | hp
    · exact iha _ _ h.1 p hp
    · exact ihb _ _ h.2 p hp
  | all s a ih => intro p hp; exact ih _ _ h.2 p hp
end Go.Proofs.YtbdfjboojokgdaaDoor
