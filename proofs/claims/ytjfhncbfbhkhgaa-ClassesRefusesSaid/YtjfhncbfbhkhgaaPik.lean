/- The document's pick and Names. Conditions: those that each theorem names. -/
import Derived.Test.YtjfhncbfbhkhgaaRf4
namespace Go.Proofs.Ytjfhncbfbhkhgaa
open Go.RowKit
def PickRes (w : World) (e : Ending) (w' : World) : Prop := (∃ r : Int, e = .returned (.int .i64 r) ∧ 0 ≤ r ∧ r ≤ 9223372036854775807) ∧ Below w.heap.size w w'
set_option maxRecDepth 100000 in
set_option maxHeartbeats 1000000 in
theorem pick_any {P : Nat → Prop} {w : World} {v : Value} {zs : List Int} (h : IntsAt P w v zs) (k : Nat) :
    Calls Try.prog 30 #[v, .int .i64 k] w (PickRes w) := by
  obtain ⟨A, c, rfl, hc, hm, hz, hr⟩ := h
  unfold maxLen at hm
  by_cases hlt : k < zs.length
  · have hk0 : (0 : Int) ≤ (k : Int) := by omega
    have hki : (k : Int) < (zs.length : Int) := by omega
    rcases hr with h0 | ⟨b, off, rfl, hp, hb, hcell⟩
    · subst h0; simp at hlt
    · obtain ⟨z, hzk⟩ : ∃ z, zs[k]? = some z := ⟨_, List.getElem?_eq_getElem hlt⟩
      have hq : w.cell? ⟨b, off + k, none⟩ = some (.int .i64 z) := by
        have := List.getElem?_eq_getElem hlt
        rw [hzk] at this; injection this with this; rw [this]; exact hcell k hlt
      obtain ⟨hz1, hz2⟩ := hz z (List.mem_of_getElem? hzk)
      clear hcell hzk hz
      by_cases hn : z < 0
      · have hw1 : IntKind.i64.wrap (-(z + 1)) = -(z + 1) := IntWalk.i64_in _ ⟨by omega, by omega⟩
        go_enter Try.func30, Try.ntmps30
        go_wp2
        go_ret
        exact ⟨⟨_, rfl, by omega, by omega⟩, Below.refl _ _⟩
      · go_enter Try.func30, Try.ntmps30
        go_wp2
        go_ret
        exact ⟨⟨z, rfl, by omega, by omega⟩, Below.refl _ _⟩
  · have hge : (zs.length : Int) ≤ (k : Int) := by omega
    clear hr hz
    go_enter Try.func30, Try.ntmps30
    go_wp2
    go_ret
    exact ⟨⟨0, rfl, by omega, by omega⟩, Below.refl _ _⟩
def names5 : List ByteArray := [⟨#[65]⟩, ⟨#[66]⟩, ⟨#[67]⟩, ⟨#[68]⟩, ⟨#[69]⟩]
def cons3 : List ByteArray := [⟨#[73, 110, 116]⟩, ⟨#[66, 111, 111, 108]⟩, ⟨#[76]⟩]
def NamesRes (w : World) (e : Ending) (w' : World) : Prop :=
  (∃ g1 g2, e = .returned (.tuple #[.slice (some ⟨g1, 0, none⟩) 5 5, .slice (some ⟨g2, 0, none⟩) 3 3]) ∧ StrsAt (fun b => w.heap.size ≤ b) w' (.slice (some ⟨g1, 0, none⟩) 5 5) names5 ∧ StrsAt (fun b => w.heap.size ≤ b) w' (.slice (some ⟨g2, 0, none⟩) 3 3) cons3 ∧ w.heap.size ≤ g1 ∧ w.heap.size ≤ g2) ∧ Below w.heap.size w w'
set_option maxRecDepth 100000 in
set_option maxHeartbeats 1000000 in
theorem names_any (w : World) : Calls Try.prog 13 #[] w (NamesRes w) := by
  obtain ⟨V, eV⟩ : ∃ V, V = (w.alloc (.cells #[.string ⟨#[65]⟩, .string ⟨#[66]⟩, .string ⟨#[67]⟩, .string ⟨#[68]⟩, .string ⟨#[69]⟩] 9)).alloc (.cells #[.string ⟨#[73, 110, 116]⟩, .string ⟨#[66, 111, 111, 108]⟩, .string ⟨#[76]⟩] 9) := ⟨_, rfl⟩
  have hBV : Below w.heap.size w V := by rw [eV]; exact (below_new _ _).alloc (by simp) _
  have v0 : V.heap[w.heap.size]? = some (.cells #[.string ⟨#[65]⟩, .string ⟨#[66]⟩, .string ⟨#[67]⟩, .string ⟨#[68]⟩, .string ⟨#[69]⟩] 9) := by rw [eV, alloc_get, if_neg (by simp), alloc_get, if_pos rfl]
  have v1 : V.heap[w.heap.size + 1]? = some (.cells #[.string ⟨#[73, 110, 116]⟩, .string ⟨#[66, 111, 111, 108]⟩, .string ⟨#[76]⟩] 9) := by rw [eV, alloc_get, if_pos (by simp)]
  have HRES : Hid (NamesRes w (.returned (.tuple #[.slice (some ⟨w.heap.size, 0, none⟩) 5 5, .slice (some ⟨w.heap.size + 1, 0, none⟩) 3 3])) V) := Lib.hid
    ⟨⟨_, _, rfl, ⟨_, 5, rfl, Nat.le_refl _, by decide, .inr ⟨_, 0, rfl, Nat.le_refl _, lt_of_block v0, fun i hi => by
      have hi5 : i < 5 := hi
      rcases (by omega : i = 0 ∨ i = 1 ∨ i = 2 ∨ i = 3 ∨ i = 4) with rfl | rfl | rfl | rfl | rfl <;> simp [World.cell?, v0, names5]⟩⟩, ⟨_, 3, rfl, Nat.le_refl _, by decide, .inr ⟨_, 0, rfl, Nat.le_succ _, lt_of_block v1, fun i hi => by
      have hi3 : i < 3 := hi
      rcases (by omega : i = 0 ∨ i = 1 ∨ i = 2) with rfl | rfl | rfl <;> simp [World.cell?, v1, cons3]⟩⟩, Nat.le_refl _, Nat.le_succ _⟩, hBV⟩
  have HEV := Lib.hid eV
  clear eV hBV v0 v1
  go_enter Try.func13, Try.ntmps13
  go_wp2
  go_ret2
  rw [← HEV.out]
  exact HRES.out
end Go.Proofs.Ytjfhncbfbhkhgaa
