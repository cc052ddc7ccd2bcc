/- The heap that tells the least number first: up. No conditions but those that each theorem names. -/
import Derived.Test.YthmnghngcbkjpaaSwp
import Derived.Deep.LoopGhost
namespace Go.Proofs.Ythmnghngcbkjpaa
open Go.RowKit
theorem info50 : (Try.prog.info? 50).map (fun i => i.size) = some 1 := by kernel_rfl
theorem m_via (s : String) (g : Nat) (hq : ((Try.prog.info? 49).map (fun i => (i.methods.find? (fun m => m.name == s)).map (fun m => (m.path.toList.map (fun s => (s.struct, s.index, s.deref)), m.func)))) = some (some ([(52, 0, true)], some (g, false)))) {ab : Nat} {w : World} {A : Option Addr} {n c : Nat} (h : w.cell? ⟨ab, 0, none⟩ = some (.slice A n c)) : (method 184 49 (.pointer (some ⟨ab, 0, none⟩)) s).run Try.prog w = .ok (g, .slice A n c) w := by
  obtain ⟨i, hi, hq⟩ := Option.map_eq_some_iff.1 hq
  obtain ⟨m, hm, hq⟩ := Option.map_eq_some_iff.1 hq
  simp only [Prod.mk.injEq] at hq
  obtain ⟨hp, hf⟩ := hq
  obtain ⟨st, rest, hpl⟩ : ∃ a b, m.path.toList = a :: b := by
    cases hl : m.path.toList with
    | nil => rw [hl] at hp; simp at hp
    | cons a b => exact ⟨a, b, rfl⟩
  rw [hpl] at hp
  simp at hp
  obtain ⟨⟨h1, h2, h3⟩, h4⟩ := hp
  subst h4
  obtain ⟨i5, hi5, hs5⟩ := Option.map_eq_some_iff.1 info50
  unfold method
  simp [Sem.run_bind, typeInfo, hi, hm, hf, hpl, follow, h1, h2, h3, run_underlying Try.underlying52, run_underlying Try.underlying50, Place.get, receiverAt, fieldPlace, asAddr, sizeOf, loadVar, isAgg, hi5, hs5, Addr.add, load]
  simp [Sem.run, h]
theorem m_len {ab : Nat} {w : World} {A : Option Addr} {n c : Nat} (h : w.cell? ⟨ab, 0, none⟩ = some (.slice A n c)) : (method 184 49 (.pointer (some ⟨ab, 0, none⟩)) "Len").run Try.prog w = .ok (27, .slice A n c) w := m_via "Len" 27 (by kernel_rfl) h
theorem m_less {ab : Nat} {w : World} {A : Option Addr} {n c : Nat} (h : w.cell? ⟨ab, 0, none⟩ = some (.slice A n c)) : (method 184 49 (.pointer (some ⟨ab, 0, none⟩)) "Less").run Try.prog w = .ok (51, .slice A n c) w := m_via "Less" 51 (by kernel_rfl) h
theorem m_swap {ab : Nat} {w : World} {A : Option Addr} {n c : Nat} (h : w.cell? ⟨ab, 0, none⟩ = some (.slice A n c)) : (method 184 49 (.pointer (some ⟨ab, 0, none⟩)) "Swap").run Try.prog w = .ok (55, .slice A n c) w := m_via "Swap" 55 (by kernel_rfl) h
theorem m_push (ab : Nat) (w : World) : (method 184 49 (.pointer (some ⟨ab, 0, none⟩)) "Push").run Try.prog w = .ok (53, .pointer (some ⟨ab, 0, none⟩)) w := by kernel_rfl
theorem m_pop (ab : Nat) (w : World) : (method 184 49 (.pointer (some ⟨ab, 0, none⟩)) "Pop").run Try.prog w = .ok (52, .pointer (some ⟨ab, 0, none⟩)) w := by kernel_rfl
/-- The heap in memory: numbers whose least one comes out first. -/
structure AskAt (B ab : Nat) (a : List Nat) (v : Value) (w : World) : Prop where
  box : w.heap[ab]? = some (.cells #[v] 52)
  own : w.ownsRow B 3 1 v a.length (a.map natV)
  le : B ≤ ab
theorem AskAt.cell {B ab : Nat} {a : List Nat} {v : Value} {w : World} (h : AskAt B ab a v w) : w.cell? ⟨ab, 0, none⟩ = some v ∧ w.frozen? ⟨ab, 0, none⟩ = false := by
  have := h.box
  simp [World.cell?, World.frozen?, this]
theorem AskAt.ne {B ab : Nat} {a : List Nat} {v : Value} {w : World} (h : AskAt B ab a v w) : v.ownBlock ≠ some ab := own_not h.own h.box (by decide)
theorem AskAt.on {B ab : Nat} {a : List Nat} {v : Value} {w w' : World} (h : AskAt B ab a v w) (hb : Below w.heap.size w w') : AskAt B ab a v w' := ⟨(hb.block _ (lt_of_block h.box)).trans h.box, own_on h.own hb, h.le⟩
def hv (ab : Nat) : Value := .iface 49 (.pointer (some ⟨ab, 0, none⟩))
/-- What up knows: where it stands. -/
def UpRel (B ab g c : Nat) (a0 : List Nat) (w : World) (x : Nat) (wr : World) : Prop :=
  ∃ a, a.Perm a0 ∧ UpInv a a0.length x ∧ AskAt B ab a (.slice (some ⟨g, 0, none⟩) a0.length c) wr ∧ Fr (fun b => b = g) w wr
def HeapRes (B ab g c : Nat) (a0 : List Nat) (w : World) (e : Ending) (w' : World) : Prop :=
  e = .returned (.tuple #[]) ∧ ∃ a, a.Perm a0 ∧ Heap a a0.length ∧ AskAt B ab a (.slice (some ⟨g, 0, none⟩) a0.length c) w' ∧ Fr (fun b => b = g) w w'
set_option maxRecDepth 100000 in
set_option maxHeartbeats 2000000 in
theorem up_any {B ab g c : Nat} {a0 : List Nat} {w : World} (h : AskAt B ab a0 (.slice (some ⟨g, 0, none⟩) a0.length c) w) (x : Nat) (hx : x < a0.length) (hu : UpInv a0 a0.length x) (hl : a0.length ≤ 1099511627776) :
    Calls Try.prog 32 #[hv ab, .int .i64 x] w (HeapRes B ab g c a0 w) := by
  have HR0 : Hid (UpRel B ab g c a0 w x w) := Lib.hid ⟨a0, .refl _, hu, h, Fr.refl _ _⟩
  have HL := Lib.hid hl
  clear h hu hl
  unfold hv
  go_enter Try.func32, Try.ntmps32
  go_wp2_with fail
  go_loopw [1] (fun v wr => ∃ x : Nat, v = .int .i64 x ∧ x < a0.length ∧ UpRel B ab g c a0 w x wr) (fun v _ => (intOf v).toNat)
  case atStart => exact ⟨x, rfl, hx, HR0.out⟩
  case round =>
    obtain ⟨j, rfl, hj, a, hp, hu, hA, hf⟩ := hrel
    have hl := HL.out
    have hal : a.length = a0.length := hp.length_eq
    by_cases h0 : j = 0
    · subst h0
      have HFIN : Hid (HeapRes B ab g c a0 w (.returned (.tuple #[])) wr) := Lib.hid ⟨rfl, a, hp, hu.stop (.inl rfl), hA, hf⟩
      clear hp hu hA hf hal
      go_wp2
      all_goals (go_end0; exact HFIN.out)
    · obtain ⟨m, rfl⟩ : ∃ m, j = m + 1 := ⟨j - 1, by omega⟩
      have hpm : par (m + 1) = m / 2 := by unfold par; simp
      have hml := m_less (ab := ab) hA.cell.1
      have hms := m_swap (ab := ab) hA.cell.1
      have hne : ((m : Int) / 2 == (m : Int) + 1) = false := by rw [beq_eq_false_iff_ne]; omega
      have ho := hA.own
      rw [hal] at ho
      by_cases hlt : a.getD (m + 1) 0 < a.getD (m / 2) 0
      · have HLS := Lib.hid (less_any ho (m + 1) (m / 2) hj (by omega))
        have hd : decide (a.getD (m + 1) 0 < a.getD (m / 2) 0) = true := decide_eq_true hlt
        rw [hd] at HLS
        have HNX : Hid (∀ w2, w2.ownsRow B 3 1 (.slice (some ⟨g, 0, none⟩) a0.length c) a0.length ((swp a (m / 2) (m + 1)).map natV) → Fr (fun b => b = g) wr w2 → UpRel B ab g c a0 w (m / 2) w2) := by
          refine Lib.hid fun w2 h1 h2 => ⟨swp a (m / 2) (m + 1), (swp_perm a (by omega) (by omega)).trans hp, ?_, ⟨(h2.block ab (lt_of_block hA.box) (fun e => hA.ne (by rw [e]; rfl))).trans hA.box, ?_, hA.le⟩, hf.trans h2⟩
          · have := hu.swap (by omega) hj (by omega) (by rw [hpm]; exact hlt)
            rw [hpm] at this; exact this
          · rw [swp_length, hal]; exact h1
        have HAO := Lib.hid hA
        have HPL := Lib.hid hal
        clear hp hu hA hf hal hd hlt hpm
        go_wp2_with fail
        refine HLS.out.mono ?_
        rintro e w1 ⟨rfl, hb1⟩
        have hA1 := HAO.out.on hb1
        have hms1 := m_swap (ab := ab) hA1.cell.1
        have ho1 := hA1.own
        rw [HPL.out] at ho1
        have HSW := Lib.hid (swap_any ho1 (m / 2) (m + 1) (by omega) hj)
        have HB1 := Lib.hid hb1
        clear hA1 ho1 ho hb1 hml hms
        go_wp2_with fail
        refine HSW.out.mono ?_
        rintro e w2 ⟨rfl, h1, h2⟩
        have HREL := Lib.hid (HNX.out w2 h1 ((Fr.of_below HB1.out).trans h2))
        clear h1 h2 hms1
        go_wp2
        go_roundw
        case rel => exact ⟨m / 2, by first | rfl | (congr 1), by omega, HREL.out⟩
        case measure => simp [intOf]; omega
      · have HLS := Lib.hid (less_any ho (m + 1) (m / 2) hj (by omega))
        have hd : decide (a.getD (m + 1) 0 < a.getD (m / 2) 0) = false := decide_eq_false hlt
        rw [hd] at HLS
        have HFIN : Hid (∀ w1, Below wr.heap.size wr w1 → HeapRes B ab g c a0 w (.returned (.tuple #[])) w1) := Lib.hid fun w1 h1 => ⟨rfl, a, hp, hu.stop (.inr (by rw [hpm]; omega)), hA.on h1, hf.trans (.of_below h1)⟩
        clear hp hu hA hf hal hd hlt hpm ho
        go_wp2_with fail
        refine HLS.out.mono ?_
        rintro e w1 ⟨rfl, hb1⟩
        have HF := Lib.hid (HFIN.out w1 hb1)
        clear hb1 hml hms
        go_wp2
        all_goals (go_end0; exact HF.out)
end Go.Proofs.Ythmnghngcbkjpaa
