/- What is told of the document's Made; small facts. Conditions: those that each theorem names. -/
import Derived.Test.YtjfhncbfbhkhgaaMadA
import Derived.Test.YtjfhncbfbhkhgaaOpen
import Derived.Test.YtjfhncbfbhkhgaaWho
namespace Go.Proofs.Ytjfhncbfbhkhgaa
open Go.RowKit
def MadeRes (w : World) (e : Ending) (w' : World) : Prop :=
  ∃ C I cv iv, e = .returned (.agg #[.slice none 0 0, cv, iv, .slice none 0 0]) ∧ ClassesAt (fun b => b < w'.heap.size) w' cv C ∧ InstsAt (fun b => b < w'.heap.size) w' iv I ∧ (iv = .slice none 0 0 ∨ ∃ ad n c, iv = .slice (some ad) n c) ∧ GoodC C ∧ OkI I ∧ Below w.heap.size w w'
theorem pick_int {P : Nat → Prop} {w : World} {v : Value} {zs : List Int} (h : IntsAt P w v zs) (k : Int) (hk : 0 ≤ k) : Calls Try.prog 30 #[v, .int .i64 k] w (PickRes w) := by
  obtain ⟨k, rfl⟩ := Int.eq_ofNat_of_zero_le hk
  exact pick_any h k
theorem tmod_nat {x m : Int} (hx : 0 ≤ x) (hm : 0 < m) (h5 : m ≤ 5) : ∃ a : Nat, a < 5 ∧ x.tmod m = (a : Int) := by
  have h1 := Int.tmod_nonneg m hx
  have h2 := Int.tmod_lt_of_pos x hm
  obtain ⟨a, ha⟩ := Int.eq_ofNat_of_zero_le h1
  exact ⟨a, by omega, ha⟩
theorem tdiv_both {k m : Int} (hk : 0 ≤ k) (hm : 0 < m) : ∃ d : Int, k.tdiv m = d ∧ k / m = d ∧ 0 ≤ d ∧ d ≤ k :=
  ⟨k / m, Int.tdiv_eq_ediv_of_nonneg hk, rfl, Int.ediv_nonneg hk (by omega), Int.ediv_le_self m hk⟩
theorem tmod_both {x m : Int} (hx : 0 ≤ x) (hm : 0 < m) : ∃ b : Nat, (b : Int) < m ∧ x.tmod m = (b : Int) ∧ x % m = (b : Int) := by
  have h1 := Int.emod_nonneg x (show m ≠ 0 by omega)
  have h2 := Int.emod_lt_of_pos x hm
  obtain ⟨a, ha⟩ := Int.eq_ofNat_of_zero_le h1
  exact ⟨a, by omega, by rw [Int.tmod_eq_emod_of_nonneg hx]; exact ha, ha⟩
theorem new_cells (w : World) (xs : Array Value) (t : TypeId) : ∀ j u, xs.toList[j]? = some u → (w.alloc (.cells xs t)).cell? ((⟨w.heap.size, 0, none⟩ : Addr).add j) = some u :=
  World.news_of_block (by rw [alloc_get, if_pos rfl])
theorem sig_one (m : ByteArray × Int) : ∀ u ∈ sigC m, u.oneCell' = true := by
  intro u hu; simp [sigC] at hu; rcases hu with rfl | rfl | rfl | rfl | rfl | rfl <;> rfl
theorem cls_one (x : Cls × Value × Value) (h1 : x.2.1.oneCell' = true) (h2 : x.2.2.oneCell' = true) : ∀ u ∈ clsC x, u.oneCell' = true := by
  intro u hu; simp [clsC] at hu; rcases hu with rfl | rfl | rfl | rfl | rfl | rfl <;> first | rfl | assumption
theorem cons3_size : ∀ s ∈ cons3, s.size ≤ maxLen := by decide
theorem fin_made {w wr : World} {R N : Nat} {cv v9 : Value} {C : List Cls} {I : List Ins} (hR : wr.heap[R]? = some (.cells #[.slice none 0 0, .slice none 0 0, .slice none 0 0, .slice none 0 0] 28)) (hRN : R < N) (hw : w.heap.size = R) (hb : Below R w wr)
    (hc : ClassesAt (fun b => N < b ∧ b < wr.heap.size) wr cv C) (hi : InstsAt (fun b => R < b) wr v9 I) (hv : v9 = .slice none 0 0 ∨ ∃ ad n c, v9 = .slice (some ad) n c) (hg : GoodC C) (ho : OkI I) :
    MadeRes w (.returned (.agg #[.slice none 0 0, cv, v9, .slice none 0 0])) ((((wr.setCell ⟨R, 0, none⟩ (.slice none 0 0)).setCell ⟨R, 1, none⟩ cv).setCell ⟨R, 2, none⟩ v9).setCell ⟨R, 3, none⟩ (.slice none 0 0)) ∧
      ((((wr.setCell ⟨R, 0, none⟩ (.slice none 0 0)).setCell ⟨R, 1, none⟩ cv).setCell ⟨R, 2, none⟩ v9).setCell ⟨R, 3, none⟩ (.slice none 0 0)).heap[R]? = some (.cells #[.slice none 0 0, cv, v9, .slice none 0 0] 28) := by
  have e1 := heap_setCell_same wr R 0 _ 28 (.slice none 0 0) hR
  have e2 := heap_setCell_same _ R 1 _ 28 cv e1
  have e3 := heap_setCell_same _ R 2 _ 28 v9 e2
  have e4 := heap_setCell_same _ R 3 _ 28 (.slice none 0 0) e3
  have hF := ((((Fr.refl (fun k => k = R) wr).setCell (b := R) (o := 0) rfl (.slice none 0 0)).setCell (b := R) (o := 1) rfl cv).setCell (b := R) (o := 2) rfl v9).setCell (b := R) (o := 3) rfl (.slice none 0 0)
  generalize (((wr.setCell ⟨R, 0, none⟩ (.slice none 0 0)).setCell ⟨R, 1, none⟩ cv).setCell ⟨R, 2, none⟩ v9).setCell ⟨R, 3, none⟩ (.slice none 0 0) = W at *
  have hs := hF.size
  refine ⟨⟨C, I, cv, v9, rfl, (hc.keep hF.size (fun b h hl => hF.block b hl (fun e => by omega))).mono (fun b h => by omega), (hi.keep hF.size (fun b h hl => hF.block b hl (fun e => by omega))).mono (fun b h hl => hl), hv, hg, ho, ?_⟩, e4⟩
  rw [hw]
  exact hb.trans (hF.below (Nat.le_of_lt (lt_of_block hR)) (fun k e => by omega))
end Go.Proofs.Ytjfhncbfbhkhgaa
