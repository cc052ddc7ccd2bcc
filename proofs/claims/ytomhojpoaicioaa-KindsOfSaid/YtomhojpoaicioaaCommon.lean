/- Slices of numbers that came in; the document's Around and Ints. Condition: the slices read as numbers. -/
import Derived.Test.YtomhojpoaicioaaKAt
import Derived.Laws.MakeOwn
namespace Go.Proofs.Ytomhojpoaicioaa
open Go.RowKit

def aroundI (n m : Int) : Int := if n < 0 then -((n + 1).tmod m) else n % m
theorem aroundI_bd (n m : Int) (hm : 0 < m) : 0 ≤ aroundI n m ∧ aroundI n m < m := by
  unfold aroundI
  split
  · constructor
    · have h := Int.tmod_nonneg (a := -(n + 1)) m (by omega)
      rw [Int.neg_tmod] at h; exact h
    · have h := Int.tmod_lt_of_pos (-(n + 1)) hm
      rw [Int.neg_tmod] at h; exact h
  · exact ⟨Int.emod_nonneg _ (by omega), Int.emod_lt_of_pos _ hm⟩
theorem ret_i64 {a b : Int} (h : a = b) : Ending.returned (.int .i64 a) = .returned (.int .i64 b) := by rw [h]
set_option maxHeartbeats 400000 in
theorem around_is (n m : Int) (w : World) (h1 : -9223372036854775808 ≤ n) (h2 : n ≤ 9223372036854775807) (hm : 0 < m) (hm' : m ≤ 9223372036854775807) :
    Calls Try.prog 16 #[.int .i64 n, .int .i64 m] w fun e w' => e = .returned (.int .i64 (aroundI n m)) ∧ w = w' := by
  by_cases hn : n < 0
  · have HE : Hid (aroundI n m = -((n + 1).tmod m)) := by show _ = _; unfold aroundI; rw [if_pos hn]
    go_enter Try.func16, Try.ntmps16
    go_wp2
    go_ret
    exact ⟨ret_i64 HE.out.symm, rfl⟩
  · have HE : Hid (aroundI n m = n % m) := by show _ = _; unfold aroundI; rw [if_neg hn]
    have hn0 : 0 ≤ n := by omega
    go_enter Try.func16, Try.ntmps16
    go_wp2
    go_ret
    exact ⟨ret_i64 HE.out.symm, rfl⟩

/-- A slice of numbers that came in: it lies below block B. -/
def IntRow (B : Nat) (w : World) (A : Option Addr) (len : Nat) : Prop :=
  len = 0 ∨ ∃ b off, A = some ⟨b, off, none⟩ ∧ b < B ∧ ∀ i, i < len → ∃ z : Int, -9223372036854775808 ≤ z ∧ z ≤ 9223372036854775807 ∧ w.cell? ⟨b, off + i, none⟩ = some (.int .i64 z)
/-- A slice of these numbers, in a block of which P holds. -/
def IntsAt (P : Nat → Prop) (w : World) (v : Value) (zs : List Int) : Prop :=
  ∃ A c, v = .slice A zs.length c ∧ zs.length ≤ c ∧ c ≤ maxLen ∧ (∀ z ∈ zs, -9223372036854775808 ≤ z ∧ z ≤ 9223372036854775807) ∧
    (zs = [] ∨ ∃ b off, A = some ⟨b, off, none⟩ ∧ P b ∧ b < w.heap.size ∧ ∀ i (h : i < zs.length), w.cell? ⟨b, off + i, none⟩ = some (.int .i64 zs[i]))
theorem IntsAt.keep {P : Nat → Prop} {w w' : World} {v : Value} {zs : List Int} (h : IntsAt P w v zs) (hb : Keeps P w w') : IntsAt P w' v zs := by
  obtain ⟨A, c, e, h1, h2, h3, hr⟩ := h
  refine ⟨A, c, e, h1, h2, h3, ?_⟩
  rcases hr with hr | ⟨b, off, e, hp, hlt, hc⟩
  · exact .inl hr
  · exact .inr ⟨b, off, e, hp, Nat.lt_of_lt_of_le hlt hb.size, fun i hi => (hb.cell b (off + i) hp hlt).trans (hc i hi)⟩
theorem IntsAt.on {P : Nat → Prop} {w w' : World} {v : Value} {zs : List Int} (h : IntsAt P w v zs) (hb : Below w.heap.size w w') : IntsAt P w' v zs := h.keep (.of_below hb)
theorem IntsAt.mono {P Q : Nat → Prop} {w : World} {v : Value} {zs : List Int} (h : IntsAt P w v zs) (hpq : ∀ b, P b → Q b) : IntsAt Q w v zs := by
  obtain ⟨A, c, e, h1, h2, h3, hr⟩ := h
  refine ⟨A, c, e, h1, h2, h3, ?_⟩
  rcases hr with hr | ⟨b, off, e, hp, r⟩
  · exact .inl hr
  · exact .inr ⟨b, off, e, hpq b hp, r⟩
theorem Try.info3 : (Try.prog.info? 3).map (fun i => (i.zero, i.size, i.bytes)) = some (some (.int .i64 0), 1, 8) := by kernel_rfl
theorem info_parts' {P : Program} {t : TypeId} {z : Value} {s b : Nat} (h : (P.info? t).map (fun i => (i.zero, i.size, i.bytes)) = some (some z, s, b)) : ∃ i, P.info? t = some i ∧ i.zero = some z ∧ i.size = s ∧ i.bytes = b := by
  obtain ⟨i, hi, hx⟩ := Option.map_eq_some_iff.1 h
  simp only [Prod.mk.injEq] at hx
  exact ⟨i, hi, hx.1, hx.2.1, hx.2.2⟩

/-- What Ints made: the first so many numbers. -/
def IntsMade (w : World) (zs : List Int) (e : Ending) (w' : World) : Prop := ∃ v, e = .returned v ∧ IntsAt (fun b => w.heap.size ≤ b) w' v zs ∧ Below w.heap.size w w'
set_option maxRecDepth 100000 in
set_option maxHeartbeats 1000000 in
theorem ints_any (P : Nat → Prop) (v : Value) (zs : List Int) (most : Nat) (w : World) (h : IntsAt P w v zs) (hm0 : 1 ≤ most) (hm : most ≤ 1000) :
    Calls Try.prog 35 #[v, .int .i64 most] w (IntsMade w (zs.take most)) := by
  obtain ⟨A, c, rfl, hc, hcm, hbd, hr⟩ := h
  obtain ⟨i0, hi, hz0, hz1, hz2⟩ := info_parts' Try.info3
  have hcm' := hcm
  unfold maxLen at hcm
  have hbd' : ∀ z ∈ zs.take most, -9223372036854775808 ≤ z ∧ z ≤ 9223372036854775807 := fun z hz => hbd z (List.mem_of_mem_take hz)
  have HBD := Lib.hid hbd'
  clear hbd hbd'
  rcases Nat.eq_zero_or_pos zs.length with h0 | hpos
  · obtain rfl : zs = [] := List.eq_nil_of_length_eq_zero h0
    clear hr h0 hc
    have HE : Hid (([] : List Int).take most = []) := List.take_nil
    cases A with
    | none =>
      go_enter Try.func35, Try.ntmps35
      go_wp2_with fail
      go_ret
      exact ⟨_, rfl, by rw [HE.out]; exact ⟨none, 0, rfl, Nat.le_refl _, Nat.zero_le _, fun z hz => absurd hz (by simp), .inl rfl⟩, Below.refl _ _⟩
    | some a =>
      go_enter Try.func35, Try.ntmps35
      go_wp2_with fail
      go_ret
      exact ⟨_, rfl, by rw [HE.out]; exact ⟨none, 0, rfl, Nat.le_refl _, Nat.zero_le _, fun z hz => absurd hz (by simp), .inl rfl⟩, Below.refl _ _⟩
  · obtain ⟨b, off, rfl, hlt, hcell⟩ : ∃ b off, A = some ⟨b, off, none⟩ ∧ b < w.heap.size ∧ ∀ i (h : i < zs.length), w.cell? ⟨b, off + i, none⟩ = some (.int .i64 zs[i]) := by
      rcases hr with h9 | ⟨b, off, e, _, r⟩
      · rw [h9] at hpos; simp at hpos
      · exact ⟨b, off, e, r⟩
    have hcells : ∀ (m : Nat) (_ : m ≤ zs.length) j u, ((zs.take m).map (fun z => Value.int .i64 z))[j]? = some u → w.cell? ((⟨b, off, none⟩ : Addr).add j) = some u := by
      intro m hmm j u h
      rw [List.getElem?_map] at h
      obtain ⟨z, hz, rfl⟩ := Option.map_eq_some_iff.1 h
      have hj : j < (zs.take m).length := (List.getElem?_eq_some_iff.1 hz).1
      have hj2 : j < zs.length := by rw [List.length_take] at hj; omega
      rw [Go.WideShapes.add_plain, hcell j hj2]
      rw [List.getElem?_eq_getElem hj] at hz
      have := Option.some.inj hz
      rw [← this, List.getElem_take]
    have hone : ∀ m, ∀ u ∈ (zs.take m).map (fun z => Value.int .i64 z), u.oneCell' = true := by
      intro m u hu
      obtain ⟨z, _, rfl⟩ := List.mem_map.1 hu
      rfl
    have HC := Lib.hid hcells
    have HO := Lib.hid hone
    clear hr hcell hcells hone
    have fin : ∀ (m : Nat) (v' : Value) (w2 : World), m = (zs.take most).length → w2.ownsRow w.heap.size 3 1 v' (0 + m) ([] ++ (zs.take most).map (fun z => Value.int .i64 z)) → IntsAt (fun b => w.heap.size ≤ b) w2 v' (zs.take most) := by
      intro m v' w2 hm9 ho
      rw [Nat.zero_add, hm9] at ho
      rcases ho.2 with ⟨hv, hz⟩ | ⟨g, cap, cur, hv, hg, hh, hcap, hcm2, _, _⟩
      · have he : zs.take most = [] := List.eq_nil_of_length_eq_zero hz
        rw [he]
        exact ⟨none, 0, hv, Nat.le_refl _, Nat.zero_le _, fun z hz => absurd hz (by simp), .inl rfl⟩
      · refine ⟨_, cap, hv, hcap, hcm2, HBD.out, .inr ⟨g, 0, rfl, hg, ?_, fun i hi => ?_⟩⟩
        · rcases Nat.lt_or_ge g w2.heap.size with h9 | h9
          · exact h9
          · rw [Array.getElem?_eq_none h9] at hh; cases hh
        · subst hv
          rw [Nat.zero_add, ho.cellAt i (by omega)]
          rw [List.nil_append, List.getElem?_map, List.getElem?_eq_getElem hi]; rfl
    have FIN := Lib.hid fin
    clear fin
    by_cases hlm : most < zs.length
    · have hlm' : (most : Int) < (zs.length : Int) := by omega
      have hmc : most ≤ c := by omega
      have hmci : (most : Int) ≤ (c : Int) := by omega
      have HTL : Hid (most = (zs.take most).length) := by show _ = _; rw [List.length_take]; omega
      have hmm : min (zs.length : Int) (most : Int) = (most : Int) := by omega
      go_enter Try.func35, Try.ntmps35
      go_wp2_with (at_builtin; refine wpList_append_own _ rfl (.tmp 6) (.tmp 12) 22 rfl w.heap.size 3 i0 (.int .i64 0) 1 8 Try.underlying22 hi hz0 hz1 hz2 rfl (by decide) _ _ _ rfl (World.ownsRow_nil w w.heap.size 3 1) ⟨b, off, none⟩ most c ((zs.take most).map (fun z => Value.int .i64 z)) rfl (by rw [List.length_map, ← HTL.out, Nat.mul_one]) (HC.out most (by omega)) (HO.out most) (by unfold maxLen; omega) (by omega) (by omega) ?_; intro v' w2 hown2 hg2 _)
      go_ret
      exact ⟨v', rfl, FIN.out _ v' w2 HTL.out hown2, (Below.refl _ _).grown (row := Value.ownBlock (.slice none 0 0)) hg2 (Nat.le_refl _) (fun q hq => by cases hq)⟩
    · have htk : zs.take most = zs := List.take_of_length_le (by omega)
      have hlm' : ¬ (most : Int) < (zs.length : Int) := by omega
      have hmci : (zs.length : Int) ≤ (c : Int) := by omega
      have HTL : Hid (zs.length = (zs.take most).length) := by show _ = _; rw [htk]
      have hmm : min (zs.length : Int) (most : Int) = (zs.length : Int) := by omega
      have hl1000 : zs.length ≤ 1000 := by omega
      have HC2 : Hid (∀ j u, ((zs.take most).map (fun z => Value.int .i64 z))[j]? = some u → w.cell? ((⟨b, off, none⟩ : Addr).add j) = some u) := by
        rw [htk]
        have h9 := HC.out zs.length (Nat.le_refl _)
        rw [List.take_of_length_le (Nat.le_refl _)] at h9
        exact h9
      clear htk
      go_enter Try.func35, Try.ntmps35
      go_wp2_with (at_builtin; refine wpList_append_own _ rfl (.tmp 6) (.tmp 12) 22 rfl w.heap.size 3 i0 (.int .i64 0) 1 8 Try.underlying22 hi hz0 hz1 hz2 rfl (by decide) _ _ _ rfl (World.ownsRow_nil w w.heap.size 3 1) ⟨b, off, none⟩ zs.length c ((zs.take most).map (fun z => Value.int .i64 z)) rfl (by rw [List.length_map, ← HTL.out, Nat.mul_one]) (HC2.out) (HO.out most) (by unfold maxLen; omega) (by omega) (by omega) ?_; intro v' w2 hown2 hg2 _)
      go_ret
      exact ⟨v', rfl, FIN.out _ v' w2 HTL.out hown2, (Below.refl _ _).grown (row := Value.ownBlock (.slice none 0 0)) hg2 (Nat.le_refl _) (fun q hq => by cases hq)⟩
end Go.Proofs.Ytomhojpoaicioaa
