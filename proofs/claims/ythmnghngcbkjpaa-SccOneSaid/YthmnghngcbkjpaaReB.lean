/- scc.Reaches, of any two numbers. Conditions: those that the theorem names. -/
import Derived.Test.YthmnghngcbkjpaaRea
namespace Go.Proofs.Ythmnghngcbkjpaa
open Go.RowKit
set_option maxRecDepth 100000 in
set_option maxHeartbeats 1000000 in
theorem reaches_no (n : Nat) (Au : Option Addr) (lu cu : Nat) (a b : Int) (w : World) (_ha1 : -9223372036854775808 ≤ a) (_ha2 : a ≤ 9223372036854775807) (h : ¬ (0 ≤ a ∧ a < n ∧ 0 ≤ b ∧ b < n)) :
    Calls Try.prog 15 #[.int .i64 n, .slice Au lu cu, .int .i64 a, .int .i64 b] w (BoolB false w) := by
  have hb1 := below_new w (.cells #[.int .i64 n, .slice Au lu cu] 34)
  have hbox : (w.alloc (.cells #[.int .i64 n, .slice Au lu cu] 34)).heap[w.heap.size]? = some (.cells #[.int .i64 n, .slice Au lu cu] 34) := by rw [alloc_get2]; simp
  have HB1 := Lib.hid hb1
  have HBX := Lib.hid hbox
  clear hb1 hbox
  by_cases hz : 0 ≤ a ∧ a < n
  · have HHA := Lib.hid (hasB_true hz.1 hz.2)
    have HHB := Lib.hid (hasB_false (n := n) (z := b) (fun e => h ⟨hz.1, hz.2, e.1, e.2⟩))
    clear h hz
    go_enter Try.func15, Try.ntmps15
    go_wp2_with fail
    refine (has_any n a _ _ _ _).mono ?_
    rintro e w2 ⟨rfl, hb2⟩
    rw [HHA.out]
    have HB2 := Lib.hid (HB1.out.trans (hb2.mono HB1.out.size))
    have hx2 := (hb2.block w.heap.size (by simp)).trans HBX.out
    have y0 : w2.cell? ⟨w.heap.size, 0, none⟩ = some (.int .i64 n) := by simp [World.cell?, hx2]
    have y1 : w2.cell? ⟨w.heap.size, 1, none⟩ = some (.slice Au lu cu) := by simp [World.cell?, hx2]
    clear hb2 hx2
    go_wp2_with fail
    refine (has_any n b _ _ _ _).mono ?_
    rintro e w3 ⟨rfl, hb3⟩
    rw [HHB.out]
    have HB3 := Lib.hid (HB2.out.trans (hb3.mono HB2.out.size))
    clear hb3 y0 y1
    go_wp2
    go_ret
    exact ⟨rfl, HB3.out⟩
  · have HHA := Lib.hid (hasB_false (n := n) (z := a) hz)
    clear h hz
    go_enter Try.func15, Try.ntmps15
    go_wp2_with fail
    refine (has_any n a _ _ _ _).mono ?_
    rintro e w2 ⟨rfl, hb2⟩
    rw [HHA.out]
    have HB2 := Lib.hid (HB1.out.trans (hb2.mono HB1.out.size))
    clear hb2
    go_wp2
    go_ret
    exact ⟨rfl, HB2.out⟩
theorem reaches_any (n : Nat) (uv : Value) (M : List (List Int)) (a b : Int) (w : World) (h : MatAt (fun b => b < w.heap.size) w uv M) (hn : n ≤ 1000) (hM : ∀ i, (useL M i).length ≤ 1000) (ha1 : -9223372036854775808 ≤ a) (ha2 : a ≤ 9223372036854775807) (ld : Nat → Nat → Bool) (hld : LdIs n (useL M) ld) :
    Calls Try.prog 15 #[.int .i64 n, uv, .int .i64 a, .int .i64 b] w (BoolB (reachB n ld a b) w) := by
  by_cases hab : 0 ≤ a ∧ a < n ∧ 0 ≤ b ∧ b < n
  · obtain ⟨h0, h1, h2, h3⟩ := hab
    obtain ⟨x, rfl⟩ := Int.eq_ofNat_of_zero_le h0
    obtain ⟨y, rfl⟩ := Int.eq_ofNat_of_zero_le h2
    rw [reachB_in n ld (by omega) (by omega)]
    exact reaches_in n uv M x y w h hn hM (by omega) (by omega) ld hld
  · rw [reachB_out n ld hab]
    obtain ⟨Au, cu, rfl, _, _⟩ := h.form
    exact reaches_no n Au _ cu a b w ha1 ha2 hab
end Go.Proofs.Ythmnghngcbkjpaa
