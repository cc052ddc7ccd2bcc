/- slices.Reverse at numbers. Conditions: those that each theorem names. -/
import Derived.Test.YtjfhncbfbhkhgaaStp
namespace Go.Proofs.Ytjfhncbfbhkhgaa
open Go.RowKit
/-- A row of numbers that a call owns. -/
def OwnZ (base : Nat) (w : World) (v : Value) (zs : List Nat) : Prop := w.ownsRow base 3 1 v zs.length (zs.map natV)
/-- A row of which so many at each end have changed their places. -/
theorem getD_at (l : List Nat) (k : Nat) (h : k < l.length) : l.getD k 0 = l[k] := by simp [List.getD_eq_getElem?_getD, h]
def revG (l : List Nat) (i k : Nat) : Nat := if k < i ∨ l.length - i ≤ k then l.getD (l.length - 1 - k) 0 else l.getD k 0
def revR (l : List Nat) (i : Nat) : List Nat := (List.range l.length).map (revG l i)
theorem revR_len (l : List Nat) (i : Nat) : (revR l i).length = l.length := by simp [revR]
theorem revR_get (l : List Nat) (i k : Nat) (h : k < l.length) : (revR l i)[k]? = some (revG l i k) := by
  unfold revR; rw [List.getElem?_map, List.getElem?_range h]; rfl
theorem revR_zero (l : List Nat) : revR l 0 = l := by
  refine List.ext_getElem? fun k => ?_
  by_cases h : k < l.length
  · rw [revR_get l 0 k h, List.getElem?_eq_getElem h]
    unfold revG
    rw [if_neg (by omega), getD_at _ _ h]
  · rw [List.getElem?_eq_none (by rw [revR_len]; omega), List.getElem?_eq_none (by omega)]
theorem revR_end (l : List Nat) {i : Nat} (hi : l.length - 1 ≤ i + i) : revR l i = l.reverse := by
  refine List.ext_getElem? fun k => ?_
  by_cases h : k < l.length
  · rw [revR_get l i k h, List.getElem?_reverse h, List.getElem?_eq_getElem (by omega)]
    unfold revG
    by_cases h2 : k < i ∨ l.length - i ≤ k
    · rw [if_pos h2, getD_at _ _ (by omega)]
    · rw [if_neg h2, getD_at _ _ h]
      congr 1
      have : k = l.length - 1 - k := by omega
      congr 1
  · rw [List.getElem?_eq_none (by rw [revR_len]; omega), List.getElem?_eq_none (by simp; omega)]
theorem revR_step (l : List Nat) {i : Nat} (hi : i + i + 1 < l.length) : ((revR l i).set i (revG l i (l.length - 1 - i))).set (l.length - 1 - i) (revG l i i) = revR l (i + 1) := by
  refine List.ext_getElem? fun k => ?_
  by_cases h : k < l.length
  · rw [revR_get l (i + 1) k h]
    by_cases h1 : k = l.length - 1 - i
    · subst h1
      rw [List.getElem?_set_self (by rw [List.length_set, revR_len]; exact h)]
      unfold revG
      rw [if_neg (by omega), if_pos (by omega)]
      congr 2; omega
    · rw [List.getElem?_set_ne (by omega)]
      by_cases h2 : k = i
      · subst h2
        rw [List.getElem?_set_self (by rw [revR_len]; exact h)]
        unfold revG
        rw [if_neg (by omega), if_pos (by omega)]
      · rw [List.getElem?_set_ne (by omega), revR_get l i k h]
        unfold revG
        by_cases h3 : k < i ∨ l.length - i ≤ k
        · rw [if_pos h3, if_pos (by omega)]
        · rw [if_neg h3, if_neg (by omega)]
  · rw [List.getElem?_eq_none (by simp [revR_len]; omega), List.getElem?_eq_none (by rw [revR_len]; omega)]
def RevRes (B : Nat) (v : Value) (l : List Nat) (w : World) (e : Ending) (w' : World) : Prop := e = .returned (.tuple #[]) ∧ OwnZ B w' v l.reverse ∧ Fr (fun k => v.ownBlock = some k) w w'
set_option maxRecDepth 100000 in
set_option maxHeartbeats 2000000 in
theorem reverse_any {B : Nat} {w : World} {v : Value} {l : List Nat} (h : OwnZ B w v l) : Calls Try.prog 59 #[v] w (RevRes B v l w) := by
  obtain ⟨A, c, rfl, hc, hm⟩ := own_form h
  unfold maxLen at hm
  have H0 : Hid (w.ownsRow B 3 1 (.slice A l.length c) l.length ((revR l 0).map natV)) := Lib.hid (by rw [revR_zero]; exact h)
  clear h
  have hb1 : 0 ≤ (l.length : Int) := by omega
  go_enter Try.func59, Try.ntmps59
  go_wp2
  go_loopw [2, 3] (fun i j wr => ∃ k : Nat, k + k ≤ l.length ∧ i = .int .i64 k ∧ j = .int .i64 ((l.length : Int) - 1 - k) ∧ wr.ownsRow B 3 1 (.slice A l.length c) l.length ((revR l k).map natV) ∧ Fr (fun k => (Value.slice A l.length c).ownBlock = some k) w wr) (fun i _ _ => l.length - (intOf i).toNat)
  case atStart => exact ⟨0, Nat.zero_le _, rfl, by simp, H0.out, Fr.refl _ _⟩
  case round =>
    obtain ⟨k, hk, rfl, rfl, ho, hf⟩ := hrel
    by_cases hlt : (k : Int) < (l.length : Int) - 1 - k
    · have hkk : k + k + 1 < l.length := by omega
      obtain ⟨g, c', e, hBg, hg, _, _⟩ := own_some ho (by omega)
      injection e with e1 e2 e3
      subst e1 e3
      clear e2
      have hq : ∀ m, m < l.length → wr.cell? ⟨g, m, none⟩ = some (natV (revG l k m)) := fun m hm => by
        rw [World.ownsRow.cellAt ho m (by omega), List.getElem?_map, revR_get l k m hm]; rfl
      have q1 := hq k (by omega)
      have q2 := hq (l.length - 1 - k) (by omega)
      have f1 := World.ownsRow.frozenAt ho k
      have f2 := World.ownsRow.frozenAt ho (l.length - 1 - k)
      obtain ⟨jj, hjj⟩ : ∃ jj : Nat, l.length - 1 - k = jj := ⟨_, rfl⟩
      have ej : (l.length : Int) - 1 - k = (jj : Int) := by omega
      have estep := revR_step l hkk
      rw [hjj] at q2 f2 estep
      rw [ej] at hlt ⊢
      have hj1 : (jj : Int) < (l.length : Int) := by omega
      have hj0 : (0 : Int) ≤ (jj : Int) := by omega
      have hk1 : (k : Int) < (l.length : Int) := by omega
      have hk0 : (0 : Int) ≤ (k : Int) := by omega
      have hkj : k ≠ jj := by omega
      obtain ⟨a, ha⟩ : ∃ a, revG l k k = a := ⟨_, rfl⟩
      obtain ⟨b, hb⟩ : ∃ b, revG l k jj = b := ⟨_, rfl⟩
      rw [ha] at q1 estep
      rw [hb] at q2 estep
      have q1' : wr.cell? ⟨g, k, none⟩ = some (.int .i64 (a : Int)) := q1
      have q2' : wr.cell? ⟨g, jj, none⟩ = some (.int .i64 (b : Int)) := q2
      have ho2 := own_set (own_set ho k (.int .i64 (b : Int))) jj (.int .i64 (a : Int))
      have T1 : Hid (((wr.setCell ⟨g, k, none⟩ (.int .i64 (b : Int))).setCell ⟨g, jj, none⟩ (.int .i64 (a : Int))).drew.ownsRow B 3 1 (.slice (some ⟨g, 0, none⟩) l.length c) l.length ((revR l (k + 1)).map natV)) := Lib.hid (by
        rw [← estep, List.map_set, List.map_set]; exact ho2)
      have T2 : Hid (Fr (fun k => (Value.slice (some ⟨g, 0, none⟩) l.length c).ownBlock = some k) w ((wr.setCell ⟨g, k, none⟩ (.int .i64 (b : Int))).setCell ⟨g, jj, none⟩ (.int .i64 (a : Int))).drew) := Lib.hid (((hf.setCell (b := g) rfl _).setCell (b := g) rfl _).drew)
      have ejj : (jj : Int) - 1 = (l.length : Int) - 1 - ((k + 1 : Nat) : Int) := by omega
      clear ho hf hq q1 q2 ho2 estep ha hb
      go_wp2_with fail
      go_region
      go_wp2
      go_roundw
      case rel => exact ⟨k + 1, by omega, by go_num, congrArg (Value.int .i64) (by omega), T1.out, T2.out⟩
      case measure => simp [intOf]; omega
    · have HRES : Hid (RevRes B (.slice A l.length c) l w (.returned (.tuple #[])) wr) := Lib.hid ⟨rfl, by unfold OwnZ; rw [← revR_end l (i := k) (by omega), revR_len]; exact ho, hf⟩
      have hd : decide ((k : Int) < (l.length : Int) - 1 - k) = false := decide_eq_false hlt
      clear ho hf
      go_wp2
      go_end0
      exact HRES.out
end Go.Proofs.Ytjfhncbfbhkhgaa
