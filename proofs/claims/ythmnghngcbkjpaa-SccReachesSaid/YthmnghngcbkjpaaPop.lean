/- heap.Push, heap.Pop. No conditions but those that each theorem names. -/
import Derived.Test.YthmnghngcbkjpaaPsh
import Derived.Test.YthmnghngcbkjpaaDown
namespace Go.Proofs.Ythmnghngcbkjpaa
open Go.RowKit
theorem len_any (A : Option Addr) (n c : Nat) (w : World) : Calls Try.prog 27 #[.slice A n c] w fun e w' => e = .returned (.int .i64 n) ∧ w = w' := by
  go_enter Try.func27, Try.ntmps27
  go_wp2
  go_ret
  exact ⟨rfl, rfl⟩
theorem Heap.snoc {a : List Nat} {x : Nat} (h : Heap a a.length) : Heap (a ++ [x]) ((a ++ [x]).length - 1) := by
  intro j h0 h1
  rw [List.length_append, List.length_singleton] at h1
  have hj : j < a.length := by omega
  have hp : par j < a.length := by unfold par; omega
  have := h j h0 hj
  have e : ∀ k, k < a.length → (a ++ [x]).getD k 0 = a.getD k 0 := fun k hk => by
    rw [List.getD_eq_getElem?_getD, List.getD_eq_getElem?_getD, List.getElem?_append_left hk]
  rw [e _ hj, e _ hp]; exact this
set_option maxRecDepth 100000 in
set_option maxHeartbeats 2000000 in
theorem push_any {B ab : Nat} {a : List Nat} {v : Value} {w : World} (h : AskAt B ab a v w) (hh : Heap a a.length) (x : Nat) (ha : a.length ≤ 1000000) (hB : B ≤ w.heap.size) :
    Calls Try.prog 26 #[hv ab, .iface 3 (.int .i64 x)] w (PushRes B ab v (fun a' => a'.Perm (a ++ [x]) ∧ Heap a' a'.length) w) := by
  have hmp := m_push ab w
  have HPM := Lib.hid (pushm_any h x (by omega) hB)
  have HH := Lib.hid hh
  have HA := Lib.hid ha
  clear h hh ha hB
  unfold hv
  go_enter Try.func26, Try.ntmps26
  go_wp2_with fail
  refine HPM.out.mono ?_
  rintro e w1 ⟨rfl, a1, v1, rfl, hA1, hf1, hat1⟩
  have hlen : (a ++ [x]).length = a.length + 1 := by simp
  obtain ⟨g, c, rfl, hg1, hg2, _, _⟩ := own_some hA1.own (by omega)
  have hml := m_len (ab := ab) hA1.cell.1
  have hA1' := hA1
  rw [hlen] at hA1'
  have HU := Lib.hid (up_any (c := c) (g := g) (a0 := a ++ [x]) hA1 a.length (by omega) (by
    have := HH.out.snoc (x := x)
    have := this.up (by omega)
    rw [hlen] at this
    rw [hlen]
    simpa using this) (by rw [hlen]; have := HA.out; omega))
  have HF1 := Lib.hid hf1
  have HAT := Lib.hid hat1
  have HA1 := Lib.hid hA1
  have hal := HA.out
  rw [hlen] at hml
  clear hA1 hA1' hf1 hat1 hmp hg1 hg2
  unfold hv at HU
  go_wp2_with fail
  refine (len_any _ _ _ _).mono ?_
  rintro e w2 ⟨rfl, rfl⟩
  go_wp2_with fail
  refine HU.out.mono ?_
  rintro e w3 ⟨rfl, a3, hp3, hh3, hA3, hf3⟩
  have HRES : Hid (PushRes B ab v (fun a' => a'.Perm (a ++ [x]) ∧ Heap a' a'.length) w (.returned (.tuple #[])) w3) := by
    refine Lib.hid ⟨rfl, a3, _, ⟨hp3, by rw [hp3.length_eq]; exact hh3⟩, hA3, ?_, ?_⟩
    · have h9 := HAT.out
      refine ⟨hf3.os.trans HF1.out.os, hf3.tape.trans HF1.out.tape, hf3.output.trans HF1.out.output, Nat.le_trans HF1.out.size hf3.size, fun k hk hn => ?_⟩
      have hkg : k ≠ g := fun e => by
        rcases h9 with h9 | ⟨q, h9, hq⟩
        · exact hn (.inr (by rw [e, ← h9]; rfl))
        · simp only [Value.ownBlock, Option.some.injEq] at h9; omega
      exact (hf3.block k (by have := HF1.out.size; omega) hkg).trans (HF1.out.block k hk hn)
    · exact HAT.out
  clear hp3 hh3 hA3 hf3
  go_wp2
  go_end0
  exact HRES.out
def PopmRes (B ab g c n : Nat) (a : List Nat) (w : World) (e : Ending) (w' : World) : Prop :=
  e = .returned (.iface 3 (.int .i64 ((a.getD n 0 : Nat) : Int))) ∧ AskAt B ab (a.take n) (.slice (some ⟨g, 0, none⟩) n c) w' ∧ Fr (fun b => b = ab) w w'
set_option maxRecDepth 100000 in
set_option maxHeartbeats 1000000 in
theorem popm_any {B ab g c n : Nat} {a : List Nat} {w : World} (h : AskAt B ab a (.slice (some ⟨g, 0, none⟩) (n + 1) c) w) (hal : a.length = n + 1) (hn : n ≤ 1099511627776) :
    Calls Try.prog 52 #[.pointer (some ⟨ab, 0, none⟩)] w (PopmRes B ab g c n a w) := by
  obtain ⟨c0, f0⟩ := h.cell
  have ho := h.own
  rw [hal] at ho
  have hc := natrow ho n (by omega)
  obtain ⟨g', c', e, _, _, hc1, hc2⟩ := own_some ho (by omega)
  injection e with e1 _ e3
  injection e1 with e1
  injection e1 with e1
  subst e1 e3
  have hc1i : (n : Int) + 1 ≤ (c : Int) := by omega
  have hc1j : (n : Int) ≤ (c : Int) := by omega
  have hnn : (n : Int) < (n : Int) + 1 := by omega
  have hs := own_shorter ho n (by omega) (by omega)
  have HFIN : Hid (PopmRes B ab g c n a w (.returned (.iface 3 (.int .i64 ((a.getD n 0 : Nat) : Int)))) (w.setCell ⟨ab, 0, none⟩ (.slice (some ⟨g, 0, none⟩) n c))) := by
    refine Lib.hid ⟨rfl, ⟨heap_setCell_same w ab 0 _ 52 _ h.box, ?_, h.le⟩, (Fr.refl (fun b => b = ab) w).setCell (M := fun b => b = ab) (b := ab) rfl _⟩
    have e1 : (a.take n).length = n := by rw [List.length_take]; omega
    rw [e1, List.map_take]
    rw [Nat.mul_one] at hs
    exact own_keep hs (fun q hq => Below.heap_setCell _ _ _ _ (fun e => h.ne (by have e9 : q = ab := e; rw [← e9]; exact hq)))
  unfold maxLen at hc2
  clear h ho hs hal
  go_enter Try.func52, Try.ntmps52
  go_wp2
  go_ret
  exact HFIN.out
def PopRes (B ab g c : Nat) (a : List Nat) (w : World) (e : Ending) (w' : World) : Prop :=
  ∃ x a', e = .returned (.iface 3 (.int .i64 ((x : Nat) : Int))) ∧ a.Perm (x :: a') ∧ (∀ y ∈ a, x ≤ y) ∧ Heap a' a'.length ∧ AskAt B ab a' (.slice (some ⟨g, 0, none⟩) a'.length c) w' ∧ Fr (fun b => b = ab ∨ b = g) w w'
set_option maxRecDepth 100000 in
set_option maxHeartbeats 2000000 in
theorem pop_any {B ab g c n : Nat} {a : List Nat} {w : World} (h : AskAt B ab a (.slice (some ⟨g, 0, none⟩) (n + 1) c) w) (hal : a.length = n + 1) (hh : Heap a a.length) (hn : n ≤ 1000000) :
    Calls Try.prog 28 #[hv ab] w (PopRes B ab g c a w) := by
  have hml := m_len (ab := ab) h.cell.1
  have hms := m_swap (ab := ab) h.cell.1
  have hmp := m_pop ab
  have ho := h.own
  rw [hal] at ho hh
  have HSW := Lib.hid (swap_any ho 0 n (by omega) (by omega))
  have HA := Lib.hid h
  have HAL := Lib.hid hal
  have HH := Lib.hid hh
  clear h ho hal hh
  unfold hv
  go_enter Try.func28, Try.ntmps28
  go_wp2_with fail
  refine (len_any _ _ _ _).mono ?_
  rintro e w0 ⟨rfl, rfl⟩
  go_wp2_with fail
  refine HSW.out.mono ?_
  rintro e w1 ⟨rfl, ho1, hf1⟩
  have hal := HAL.out
  have hsl : (swp a 0 n).length = n + 1 := by rw [swp_length, hal]
  have hA1 : AskAt B ab (swp a 0 n) (.slice (some ⟨g, 0, none⟩) (n + 1) c) w1 := ⟨(hf1.block ab (lt_of_block HA.out.box) (fun e => HA.out.ne (by rw [e]; rfl))).trans HA.out.box, by rw [hsl]; exact ho1, HA.out.le⟩
  have hlast : (swp a 0 n).getD n 0 = a.getD 0 0 := by rw [swp_at a (by omega) (by omega), if_pos rfl]
  have HD := Lib.hid (down_any hA1 hsl (HH.out.down hal.symm) (by omega))
  have HF1 := Lib.hid hf1
  have HPE := Lib.hid (swp_perm a (i := 0) (j := n) (by omega) (by omega))
  have HLA := Lib.hid hlast
  have HSL := Lib.hid hsl
  generalize swp a 0 n = a1 at *
  unfold hv at HD
  clear ho1 hf1 hA1 hlast hml hms hal hsl
  go_wp2_with fail
  refine HD.out.mono ?_
  rintro e w2 ⟨⟨q, rfl⟩, a2, hp2, hl2, hh2, hA2, hf2⟩
  have hal2 : a2.length = n + 1 := hp2.length_eq.trans HSL.out
  have HPM := Lib.hid (popm_any hA2 hal2 (by omega))
  have HRES : Hid (∀ w3, AskAt B ab (a2.take n) (.slice (some ⟨g, 0, none⟩) n c) w3 → Fr (fun b => b = ab) w2 w3 → PopRes B ab g c a w (.returned (.iface 3 (.int .i64 ((a2.getD n 0 : Nat) : Int)))) w3) := by
    refine Lib.hid fun w3 h1 h2 => ⟨a2.getD n 0, a2.take n, rfl, ?_, ?_, ?_, ?_, ?_⟩
    · have e1 : a2 = a2.take n ++ [a2.getD n 0] := by
        rw [List.getD_eq_getElem?_getD, List.getElem?_eq_getElem (by omega)]
        show a2 = a2.take n ++ [a2[n]]
        rw [← List.take_succ_eq_append_getElem (by omega), List.take_of_length_le (by omega)]
      have h9 : a2.Perm (a2.getD n 0 :: a2.take n) := by
        have := List.perm_append_singleton (a2.getD n 0) (a2.take n)
        rw [← e1] at this; exact this
      exact (HPE.out.symm.trans hp2.symm).trans h9
    · intro y hy
      rw [hl2, HLA.out]
      obtain ⟨i, hi, rfl⟩ := List.getElem_of_mem hy
      have := HH.out.first i (by have := HAL.out; omega)
      rw [List.getD_eq_getElem?_getD (l := a) (i := i), List.getElem?_eq_getElem hi] at this
      exact this
    · have e1 : (a2.take n).length = n := by rw [List.length_take]; omega
      rw [e1]
      intro j h0 hj
      have := hh2 j h0 hj
      have e : ∀ k, k < n → (a2.take n).getD k 0 = a2.getD k 0 := fun k hk => by
        rw [List.getD_eq_getElem?_getD, List.getD_eq_getElem?_getD, List.getElem?_take_of_lt hk]
      rw [e _ hj, e _ (by unfold par; omega)]; exact this
    · have e1 : (a2.take n).length = n := by rw [List.length_take]; omega
      rw [e1]; exact h1
    · exact ((HF1.out.mono (fun k hk => .inr hk)).trans (hf2.mono (fun k hk => .inr hk))).trans (h2.mono (fun k hk => .inl hk))
  clear hp2 hl2 hh2 hA2 hf2 hal2
  go_wp2_with fail
  refine HPM.out.mono ?_
  rintro e w3 ⟨rfl, h1, h2⟩
  have HR := Lib.hid (HRES.out w3 h1 h2)
  clear h1 h2
  go_wp2
  go_ret
  exact HR.out
end Go.Proofs.Ythmnghngcbkjpaa
