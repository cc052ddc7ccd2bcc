/- The contracts of the document's SameInts and SameTexts at rows that are the same. Conditions: those that each theorem names. -/
import Derived.Test.YtbdfjboojokgdaaDoorJS26
import Derived.Test.YtbdfjboojokgdaaDoorJS19
namespace Go.Proofs.YtbdfjboojokgdaaDoor
open Go.RowKit

theorem IntsAt.at {P : Nat → Prop} {w : World} {A : Option Addr} {n c : Nat} {zs : List Int} (h : IntsAt P w (.slice A n c) zs) (k : Nat) (hk : k < zs.length) :
    ∃ b off, A = some ⟨b, off, none⟩ ∧ b < w.heap.size ∧ w.cell? ⟨b, off + k, none⟩ = some (.int .i64 zs[k]) := by
  obtain ⟨A', c', e, _, _, _, hr⟩ := h
  injection e with e1 e2 e3
  subst e1
  rcases hr with h9 | ⟨b, off, e, _, hlt, hc⟩
  · rw [h9] at hk; simp at hk
  · exact ⟨b, off, e, hlt, hc k hk⟩
theorem IntsAt.shape {P : Nat → Prop} {w : World} {v : Value} {zs : List Int} (h : IntsAt P w v zs) : ∃ A c, v = .slice A zs.length c ∧ zs.length ≤ c ∧ c ≤ maxLen := by
  obtain ⟨A, c, e, h1, h2, _⟩ := h; exact ⟨A, c, e, h1, h2⟩
set_option maxRecDepth 100000 in
set_option maxHeartbeats 1000000 in
theorem sameInts_any (P Q : Nat → Prop) (zs : List Int) (v1 v2 : Value) (w : World) (h1 : IntsAt P w v1 zs) (h2 : IntsAt Q w v2 zs) :
    Calls Tryd.prog 16 #[v1, v2] w fun e w' => e = .returned (.bool true) ∧ Below w.heap.size w w' := by
  obtain ⟨A1, c1, rfl, hc1, hm1⟩ := h1.shape
  obtain ⟨A2, c2, rfl, hc2, hm2⟩ := h2.shape
  unfold maxLen at hm1 hm2
  have H1 := Lib.hid h1
  have H2 := Lib.hid h2
  have hlen : zs.length ≤ 9223372036854775807 := by omega
  clear h1 h2
  go_enter Tryd.func16, Tryd.ntmps16
  go_wp2_with fail
  go_loopw [5] (fun i wr => ∃ k : Nat, k ≤ zs.length ∧ i = .int .i64 k ∧ Below w.heap.size w wr) (fun i _ => zs.length - (intOf i).toNat)
  case atStart => exact ⟨0, Nat.zero_le _, rfl, Below.refl _ _⟩
  case round =>
    obtain ⟨k, hk, rfl, hb⟩ := hrel
    have HB := Lib.hid hb
    by_cases hlt : k < zs.length
    · obtain ⟨b1, o1, e1, l1, k1⟩ := (H1.out.on hb).at k hlt
      obtain ⟨b2, o2, e2, l2, k2⟩ := (H2.out.on hb).at k hlt
      subst e1; subst e2
      have hki : (k : Int) < (zs.length : Int) := by omega
      have hk0 : (0 : Int) ≤ (k : Int) := by omega
      have HD := Lib.hid hb.drew
      clear hb
      generalize zs[k] = z at *
      go_wp2_with fail
      go_region
      go_wp2
      go_roundw
      case rel => exact ⟨k + 1, by omega, by go_num, HD.out⟩
      case measure => simp [intOf]; omega
    · have hd : decide (k < zs.length) = false := by simpa using hlt
      clear hb
      go_wp2
      go_ret
      exact ⟨rfl, HB.out⟩
/-- A slice that reads as texts. -/
def StrsAt (P : Nat → Prop) (w : World) (v : Value) (ss : List ByteArray) : Prop :=
  ∃ A c, v = .slice A ss.length c ∧ ss.length ≤ c ∧ c ≤ maxLen ∧ (ss = [] ∨ ∃ b off, A = some ⟨b, off, none⟩ ∧ P b ∧ b < w.heap.size ∧ ∀ i (h : i < ss.length), w.cell? ⟨b, off + i, none⟩ = some (.string ss[i]))
theorem StrsAt.keep {P : Nat → Prop} {w w' : World} {v : Value} {ss : List ByteArray} (h : StrsAt P w v ss) (hb : Keeps P w w') : StrsAt P w' v ss := by
  obtain ⟨A, c, e, h1, h2, hr⟩ := h
  refine ⟨A, c, e, h1, h2, ?_⟩
  rcases hr with h9 | ⟨b, off, e, hp, hlt, hc⟩
  · exact .inl h9
  · exact .inr ⟨b, off, e, hp, Nat.lt_of_lt_of_le hlt hb.size, fun i h => (hb.cell b _ hp hlt).trans (hc i h)⟩
theorem StrsAt.on {P : Nat → Prop} {w w' : World} {v : Value} {ss : List ByteArray} (h : StrsAt P w v ss) (hb : Below w.heap.size w w') : StrsAt P w' v ss := h.keep (.of_below hb)
theorem StrsAt.at {P : Nat → Prop} {w : World} {A : Option Addr} {n c : Nat} {zs : List ByteArray} (h : StrsAt P w (.slice A n c) zs) (k : Nat) (hk : k < zs.length) :
    ∃ b off, A = some ⟨b, off, none⟩ ∧ b < w.heap.size ∧ w.cell? ⟨b, off + k, none⟩ = some (.string zs[k]) := by
  obtain ⟨A', c', e, _, _, hr⟩ := h
  injection e with e1 e2 e3
  subst e1
  rcases hr with h9 | ⟨b, off, e, _, hlt, hc⟩
  · rw [h9] at hk; simp at hk
  · exact ⟨b, off, e, hlt, hc k hk⟩
theorem StrsAt.shape {P : Nat → Prop} {w : World} {v : Value} {zs : List ByteArray} (h : StrsAt P w v zs) : ∃ A c, v = .slice A zs.length c ∧ zs.length ≤ c ∧ c ≤ maxLen := by
  obtain ⟨A, c, e, h1, h2, _⟩ := h; exact ⟨A, c, e, h1, h2⟩
set_option maxRecDepth 100000 in
set_option maxHeartbeats 1000000 in
theorem sameTexts_any (P Q : Nat → Prop) (zs : List ByteArray) (v1 v2 : Value) (w : World) (h1 : StrsAt P w v1 zs) (h2 : StrsAt Q w v2 zs) :
    Calls Tryd.prog 13 #[v1, v2] w fun e w' => e = .returned (.bool true) ∧ Below w.heap.size w w' := by
  obtain ⟨A1, c1, rfl, hc1, hm1⟩ := h1.shape
  obtain ⟨A2, c2, rfl, hc2, hm2⟩ := h2.shape
  unfold maxLen at hm1 hm2
  have H1 := Lib.hid h1
  have H2 := Lib.hid h2
  have hlen : zs.length ≤ 9223372036854775807 := by omega
  clear h1 h2
  go_enter Tryd.func13, Tryd.ntmps13
  go_wp2_with fail
  go_loopw [5] (fun i wr => ∃ k : Nat, k ≤ zs.length ∧ i = .int .i64 k ∧ Below w.heap.size w wr) (fun i _ => zs.length - (intOf i).toNat)
  case atStart => exact ⟨0, Nat.zero_le _, rfl, Below.refl _ _⟩
  case round =>
    obtain ⟨k, hk, rfl, hb⟩ := hrel
    have HB := Lib.hid hb
    by_cases hlt : k < zs.length
    · obtain ⟨b1, o1, e1, l1, k1⟩ := (H1.out.on hb).at k hlt
      obtain ⟨b2, o2, e2, l2, k2⟩ := (H2.out.on hb).at k hlt
      subst e1; subst e2
      have hki : (k : Int) < (zs.length : Int) := by omega
      have hk0 : (0 : Int) ≤ (k : Int) := by omega
      have HD := Lib.hid hb.drew
      clear hb
      generalize zs[k] = z at *
      go_wp2_with fail
      go_region
      go_wp2
      go_roundw
      case rel => exact ⟨k + 1, by omega, by go_num, HD.out⟩
      case measure => simp [intOf]; omega
    · have hd : decide (k < zs.length) = false := by simpa using hlt
      clear hb
      go_wp2
      go_ret
      exact ⟨rfl, HB.out⟩
end Go.Proofs.YtbdfjboojokgdaaDoor
