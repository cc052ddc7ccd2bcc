/- At, and the small functions of the law and of the document. Conditions: those that each theorem names. -/
import Derived.Test.YtjfhncbfbhkhgaaNew
namespace Go.Proofs.Ytjfhncbfbhkhgaa
open Go.RowKit
theorem results_cell1 {fn : Func} {p : Tmp} {ty : TypeId} (h : fn.results = #[.cell p ty]) (tmps : Array Value) (P : Program) (w : World) :
    (results fn tmps).run P w =
      ((asAddr (tmps.getD p undef)).run P w).andThen fun a w₁ => ((loadVar ty a).run P w₁) := by
  simp only [results, h]
  simp [Sem.run_bind, Result.andThen]
theorem results_row1 {fn : Func} {p : Tmp} {ty : TypeId} (h : fn.results = #[.cell p ty]) (tmps : Array Value) (w : World) (g : Nat) (t : TypeId) (cs : Array Value) (fr : Nat × Nat) (fs : Array Field)
    (hp : tmps.getD p undef = .pointer (some ⟨g, 0, none⟩)) (hg : w.heap[g]? = some (.cells cs t fr))
    (hu : Try.prog.underlying ty = some (.struct fs)) (hi : (Try.prog.info? ty).map (·.size) = some cs.size) :
    (results fn tmps).run Try.prog w = .ok (.agg cs) w := by
  rw [results_cell1 h, hp]
  simp [asAddr, run_loadVar_row w g t ty cs fr (.struct fs) hg hu rfl hi, Result.andThen]
def zIns : Ins := ⟨⟨#[]⟩, ⟨#[]⟩, 0⟩
/-- The instance of a number. -/
def atI (I : List Ins) (n : Int) : Ins := if 0 ≤ n then (I[n.toNat]?).getD zIns else zIns
set_option maxRecDepth 100000 in
set_option maxHeartbeats 1000000 in
theorem at_any {Q : Nat → Prop} {C : List Cls} {M : ByteArray → Option (ByteArray × Nat)} {I : List Ins} {H : HKey → Option Nat} {eb cb mb pb : Nat} {iv : Value} {w : World} (h : EnvAt Q C M I H eb cb mb pb iv w) (n : Int) :
    Calls Try.prog 28 #[.pointer (some ⟨eb, 0, none⟩), .int .i64 n] w fun e w' => e = .returned (insV (atI I n)) ∧ Below w.heap.size w w' := by
  obtain ⟨_, _, c2, _⟩ := h.cells
  have hins := h.ins
  have hl1 := h.lts.1
  have hc := fun o => ((below_new w o).cell (p := ⟨eb, 2, none⟩) hl1).trans c2
  obtain ⟨A, c, rfl, hlc, hcm, _⟩ := id hins
  have HINS := Lib.hid hins
  unfold maxLen at hcm
  clear h hins hl1
  have hfin : ∀ (x : Ins) (W : World), W.heap[w.heap.size]? = some (.cells #[.string x.cls, .int .i64 x.atp, .string x.con, .slice none 0 0, .slice none 0 0, .slice none 0 0] 70) → ∀ tmps : Array Value, tmps.getD 4 undef = .pointer (some ⟨w.heap.size, 0, none⟩) → (results Try.f28 tmps).run Try.prog W = .ok (insV x) W := fun x W hg tmps hp =>
    results_row1 rfl tmps W w.heap.size 70 #[.string x.cls, .int .i64 x.atp, .string x.con, .slice none 0 0, .slice none 0 0, .slice none 0 0] (0, 0) _ hp hg Try.underlying70 Try.size70
  by_cases h0 : n < 0
  · have hat : Hid (atI I n = zIns) := Lib.hid (by unfold atI; rw [if_neg (by omega)])
    go_enter Try.func28, Try.ntmps28
    go_wp2
    refine ⟨rfl, _, hfin zIns _ ?_ _ rfl, by rw [hat.out], ?_⟩
    · rw [alloc_get, if_pos rfl]; rfl
    · exact below_new _ _
  · by_cases h1 : n < I.length
    · obtain ⟨k, rfl⟩ := Int.eq_ofNat_of_zero_le (show 0 ≤ n by omega)
      have hk : k < I.length := by omega
      obtain ⟨x, hx⟩ : ∃ x, I[k]? = some x := ⟨_, List.getElem?_eq_getElem hk⟩
      have hat : Hid (atI I k = x) := Lib.hid (by unfold atI; rw [if_pos (by omega)]; simp [hx])
      obtain ⟨b, e0, hb, q0, q1, q2, q3, q4, q5⟩ := HINS.out.at hx
      subst e0
      have t := fun o (j : Nat) (u : Value) (hq : w.cell? ⟨b, j, none⟩ = some u) => ((below_new w o).cell (p := ⟨b, j, none⟩) hb).trans hq
      have r0 := fun o => t o _ _ q0
      have r1 := fun o => t o _ _ q1
      have r2 := fun o => t o _ _ q2
      have r3 := fun o => t o _ _ q3
      have r4 := fun o => t o _ _ q4
      have r5 := fun o => t o _ _ q5
      clear t q0 q1 q2 q3 q4 q5
      have hk0 : (0 : Int) ≤ (k : Int) := by omega
      go_enter Try.func28, Try.ntmps28
      go_wp2
      refine ⟨rfl, _, hfin x _ ?_ _ rfl, by rw [hat.out], ?_⟩
      · rw [alloc_get, if_pos rfl]
      · exact below_new _ _
    · have hat : Hid (atI I n = zIns) := Lib.hid (by unfold atI; rw [if_pos (by omega), List.getElem?_eq_none (by omega)]; rfl)
      go_enter Try.func28, Try.ntmps28
      go_wp2
      refine ⟨rfl, _, hfin zIns _ ?_ _ rfl, by rw [hat.out], ?_⟩
      · rw [alloc_get, if_pos rfl]; rfl
      · exact below_new _ _
theorem emod_of_tmod {n m : Int} (hm : 0 < m) : n % m = if n.tmod m < 0 then n.tmod m + m else n.tmod m := by
  rw [Int.tmod_eq_emod]
  have h1 := Int.emod_nonneg n (show m ≠ 0 by omega)
  have h2 := Int.emod_lt_of_pos n hm
  have h3 : (m.natAbs : Int) = m := by omega
  split <;> split <;> omega
set_option maxRecDepth 100000 in
set_option maxHeartbeats 1000000 in
theorem mod_any {n m : Int} (hn : -9223372036854775808 ≤ n ∧ n ≤ 9223372036854775807) (hm : 0 < m ∧ m ≤ 4611686018427387904) (w : World) :
    Calls Try.prog 14 #[.int .i64 n, .int .i64 m] w fun e w' => e = .returned (.int .i64 (n % m)) ∧ Below w.heap.size w w' := by
  obtain ⟨hn1, hn2⟩ := hn
  obtain ⟨hm1, hm2⟩ := hm
  have he := emod_of_tmod (n := n) hm1
  rw [he]
  have hne : (m == 0) = false := by rw [beq_eq_false_iff_ne]; omega
  have hb1 : -m < n.tmod m := by have := Int.lt_tmod_of_pos n hm1; omega
  have hb2 : n.tmod m < m := Int.tmod_lt_of_pos n hm1
  clear he
  by_cases h0 : n.tmod m < 0
  · rw [if_pos h0]
    go_enter Try.func14, Try.ntmps14
    go_wp2
    go_ret
    exact ⟨rfl, Below.refl _ _⟩
  · rw [if_neg h0]
    go_enter Try.func14, Try.ntmps14
    go_wp2
    go_ret
    exact ⟨rfl, Below.refl _ _⟩
set_option maxRecDepth 100000 in
set_option maxHeartbeats 1000000 in
theorem texts_any {P Q : Nat → Prop} {w : World} {u v : Value} {a b : List ByteArray} (ha : StrsAt P w u a) (hb : StrsAt Q w v b) :
    Calls Try.prog 18 #[u, v] w fun e w' => e = .returned (.bool (decide (a = b))) ∧ Below w.heap.size w w' := by
  have HA := Lib.hid ha
  have HB := Lib.hid hb
  obtain ⟨A, c, rfl, hc, hm⟩ := ha.form
  obtain ⟨A', c', rfl, hc', hm'⟩ := hb.form
  unfold maxLen at hm hm'
  clear ha hb
  by_cases hl : a.length = b.length
  · have hne : ((a.length : Int) != (b.length : Int)) = false := by simp [hl]
    go_enter Try.func18, Try.ntmps18
    go_wp2_with fail
    go_loopw [5] (fun i wr => ∃ k : Nat, k ≤ a.length ∧ i = .int .i64 k ∧ a.take k = b.take k ∧ Below w.heap.size w wr) (fun i _ => a.length - (intOf i).toNat)
    case atStart => exact ⟨0, Nat.zero_le _, rfl, rfl, Below.refl _ _⟩
    case round =>
      obtain ⟨k, hk, rfl, hno, hb⟩ := hrel
      have HBW := Lib.hid hb
      have HNO := Lib.hid hno
      by_cases hlt : k < a.length
      · obtain ⟨b1, o1, e1, l1, k1⟩ := (HA.out.on hb).at k hlt
        obtain ⟨b2, o2, e2, l2, k2⟩ := (HB.out.on hb).at k (by omega)
        subst e1 e2
        have hki : (k : Int) < (a.length : Int) := by omega
        have hki2 : (k : Int) < (b.length : Int) := by omega
        have hk0 : (0 : Int) ≤ (k : Int) := by omega
        obtain ⟨x, hx⟩ : ∃ x, a[k]? = some x := ⟨_, List.getElem?_eq_getElem hlt⟩
        obtain ⟨y, hy⟩ : ∃ y, b[k]? = some y := ⟨_, List.getElem?_eq_getElem (by omega)⟩
        have k1' : wr.cell? ⟨b1, o1 + k, none⟩ = some (.string x) := by
          have := List.getElem?_eq_getElem hlt
          rw [hx] at this; injection this with this; rw [this]; exact k1
        have k2' : wr.cell? ⟨b2, o2 + k, none⟩ = some (.string y) := by
          have := List.getElem?_eq_getElem (l := b) (i := k) (by omega)
          rw [hy] at this; injection this with this; rw [this]; exact k2
        clear k1 k2 hb hno
        by_cases he : x = y
        · subst he
          have HT : Hid (a.take (k + 1) = b.take (k + 1)) := Lib.hid (by rw [List.take_add_one, List.take_add_one, HNO.out, hx, hy])
          have HDR : Hid (Below w.heap.size w wr.drew) := Lib.hid HBW.out.drew
          clear hx hy
          go_wp2_with fail
          go_region
          go_wp2
          go_roundw
          case rel => exact ⟨k + 1, by omega, by go_num, HT.out, HDR.out⟩
          case measure => simp [intOf]; omega
        · have HX : Hid (decide (a = b) = false) := Lib.hid (decide_eq_false (fun e => he (by rw [e, hy] at hx; injection hx with hx; exact hx.symm)))
          have hne2 : (x.toList == y.toList) = false := by rw [← beq_toListBytes, beq_eq_false_iff_ne]; exact he
          have HDR : Hid (Below w.heap.size w wr.drew) := Lib.hid HBW.out.drew
          clear hx hy
          go_wp2_with fail
          go_region
          go_wp2
          go_ret
          exact ⟨by rw [HX.out]; rfl, HDR.out⟩
      · have hke : k = a.length := by omega
        subst hke
        have HX : Hid (decide (a = b) = true) := Lib.hid (decide_eq_true (by
          rw [List.take_of_length_le (Nat.le_refl _), List.take_of_length_le (by omega)] at hno; exact hno))
        have hd : decide (a.length < a.length) = false := by simp
        clear hb hno
        go_wp2
        go_ret
        exact ⟨by rw [HX.out]; rfl, HBW.out⟩
  · have hne : ((a.length : Int) != (b.length : Int)) = true := by simp; omega
    have HX : Hid (decide (a = b) = false) := Lib.hid (decide_eq_false (fun e => hl (by rw [e])))
    go_enter Try.func18, Try.ntmps18
    go_wp2_with fail
    go_ret
    exact ⟨by rw [HX.out]; rfl, Below.refl _ _⟩
end Go.Proofs.Ytjfhncbfbhkhgaa
