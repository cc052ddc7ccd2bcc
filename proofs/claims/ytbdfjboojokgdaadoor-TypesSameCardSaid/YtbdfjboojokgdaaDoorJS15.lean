/- The contracts of types.Same and what it calls (chapter 4). Conditions: names are of at most 2^40 bytes, types of at most 2^40 nodes. -/
import Derived.Test.YtbdfjboojokgdaaDoorJS13
namespace Go.Proofs.YtbdfjboojokgdaaDoor
open Go.RowKit

def Two (ma mb k : Nat) : Prop := k = ma ∨ k = mb
/-- What same told. -/
def SameRes (ma mb : Nat) (fa fb : ByteArray → Int) (N : Nat) (q : Bool) (w : World) (e : Ending) (w' : World) : Prop := e = .returned (.bool q) ∧ MapG w' ma fa N ∧ MapG w' mb fb N ∧ Fr (Two ma mb) w w'
def SameIs (ma mb n : Nat) : Prop := ∀ (a b : Ty) (P Q : Nat → Prop) (va vb : Value) (fa fb : ByteArray → Int) (d : Int) (N : Nat) (w : World), a.sz ≤ n → TyAt P w a va → TyAt Q w b vb → a.short → b.short → MapG w ma fa N → MapG w mb fb N → N + 2 * a.sz ≤ 1099511627776 → 0 ≤ d → d + a.sz ≤ 1099511627776 →
    Calls Tryd.prog 68 #[.agg #[.map (some ma), .map (some mb)], va, vb, .int .i64 d] w (SameRes ma mb fa fb (N + 2 * a.sz) (sameT fa fb d a b) w)
def sumSz (l : List Ty) : Nat := (l.map Ty.sz).sum
theorem sumSz_args (t : Ty) : sumSz t.args + 1 ≤ t.sz := by cases t <;> simp [sumSz, Ty.args, Ty.sz]
theorem sumSz_take {l : List Ty} {k : Nat} (h : k < l.length) : sumSz (l.take (k + 1)) = sumSz (l.take k) + l[k].sz := by
  rw [List.take_succ_eq_append_getElem h]; unfold sumSz; rw [List.map_append, List.sum_append]; simp
theorem sumSz_le (l : List Ty) (k : Nat) : sumSz (l.take k) ≤ sumSz l := by
  have : sumSz l = sumSz (l.take k) + sumSz (l.drop k) := by
    unfold sumSz; rw [← List.sum_append, ← List.map_append, List.take_append_drop]
  omega
theorem sumSz_one {l : List Ty} {k : Nat} (h : k < l.length) : sumSz (l.take k) + l[k].sz ≤ sumSz l := by
  rw [← sumSz_take h]; exact sumSz_le l _
theorem sameL_all {fa fb : ByteArray → Int} {d : Int} : ∀ {l r : List Ty}, l.length = r.length → (∀ j (h : j < l.length) (h' : j < r.length), sameT fa fb d l[j] r[j] = true) → sameL fa fb d l r = true
  | [], [], _, _ => rfl
  | a :: l, b :: r, hl, h => by
    have h0 := h 0 (by simp) (by simp)
    simp only [List.getElem_cons_zero] at h0
    rw [sameL, h0, sameL_all (by simpa using hl) (fun j h1 h2 => by have := h (j + 1) (by simpa using h1) (by simpa using h2); simpa using this)]; rfl
  | [], b :: r, hl, _ => by simp at hl
  | a :: l, [], hl, _ => by simp at hl
theorem sameL_none {fa fb : ByteArray → Int} {d : Int} : ∀ {l r : List Ty} (k : Nat) (h : k < l.length) (h' : k < r.length), sameT fa fb d l[k] r[k] = false → sameL fa fb d l r = false
  | [], _, k, h, _, _ => absurd h (Nat.not_lt_zero _)
  | _ :: _, [], k, _, h', _ => absurd h' (Nat.not_lt_zero _)
  | a :: l, b :: r, 0, _, _, hk => by simp only [List.getElem_cons_zero] at hk; rw [sameL, hk]; rfl
  | a :: l, b :: r, k + 1, h, h', hk => by
    simp only [List.getElem_cons_succ] at hk
    rw [sameL, sameL_none k (by simpa using h) (by simpa using h') hk]; simp
theorem box2 (w : World) (a0 a1 : Value) (t : TypeId) : ∃ W, w.alloc (.cells #[a0, a1] t) = W ∧ W.heap[w.heap.size]? = some (.cells #[a0, a1] t) ∧ Below w.heap.size w W ∧ W.heap.size = w.heap.size + 1 :=
  ⟨_, rfl, (MapKept.heap_alloc w _).1, below_new w _, by simp⟩
set_option maxRecDepth 100000 in
set_option maxHeartbeats 1000000 in
theorem sameAll_of (ma mb n : Nat) (hne : ma ≠ mb) (ih : SameIs ma mb n) (la lb : List Ty) (P Q : Nat → Prop) (va vb : Value) (fa fb : ByteArray → Int) (d : Int) (N : Nat) (w : World) (hn : ∀ x ∈ la, x.sz ≤ n) (ha : TysAt P w la va) (hb : TysAt Q w lb vb) (hsa : ∀ x ∈ la, x.short) (hsb : ∀ x ∈ lb, x.short)
    (hma : MapG w ma fa N) (hmb : MapG w mb fb N) (hN : N + 2 * sumSz la ≤ 1099511627776) (hd0 : 0 ≤ d) (hd : d + sumSz la ≤ 1099511627776) (hll : la.length = lb.length) (hl2 : la.length ≤ 2) :
    Calls Tryd.prog 105 #[.agg #[.map (some ma), .map (some mb)], va, vb, .int .i64 d] w (SameRes ma mb fa fb (N + 2 * sumSz la) (sameL fa fb d la lb) w) := by
  obtain ⟨A1, c1, rfl, hc1, hm1⟩ := ha.form
  obtain ⟨A2, c2, rfl, hc2, hm2⟩ := hb.form
  have HA := Lib.hid ha.bound'
  have HB := Lib.hid hb.bound'
  have HMA := Lib.hid hma
  have HMB := Lib.hid hmb
  have HIH := Lib.hid ih
  have HN := Lib.hid hn
  have HSA := Lib.hid hsa
  have HSB := Lib.hid hsb
  have HLL := Lib.hid hll
  have hla := hma.lt
  have hlb := hmb.lt
  clear ha hb hma hmb ih hn hsa hsb
  clear hll
  obtain ⟨W, eW, bx, bW, zW⟩ := box2 w (.map (some ma)) (.map (some mb)) 107
  have HEW := Lib.hid eW
  have HBX := Lib.hid bx
  have HBW := Lib.hid bW
  clear eW bx bW
  go_enter Tryd.func105, Tryd.ntmps105
  go_wp2_with fail
  rw [HEW.out]
  have hNC : ∀ (y : World), MapG y ma fa (N + 2 * sumSz la) → MapG y mb fb (N + 2 * sumSz la) → ∀ k, Two ma mb k → ∀ o, y.cell? ⟨k, o, none⟩ = none := fun _ h1 h2 k hk o => by
    rcases hk with rfl | rfl
    · exact h1.noCell o
    · exact h2.noCell o
  have HNC := Lib.hid hNC
  have HAW := Lib.hid (HA.out.on HBW.out)
  have HBW2 := Lib.hid (HB.out.on HBW.out)
  clear hNC
  go_loopw [12, 9] (fun i _ wr => ∃ k : Nat, k ≤ la.length ∧ i = .int .i64 k ∧ Hid (∀ j (h : j < la.length) (h' : j < lb.length), j < k → sameT fa fb d la[j] lb[j] = true) ∧ MapG wr ma fa (N + 2 * sumSz (la.take k)) ∧ MapG wr mb fb (N + 2 * sumSz (la.take k)) ∧ Fr (Two ma mb) W wr) (fun i _ _ => la.length - (intOf i).toNat)
  case atStart => exact ⟨0, Nat.zero_le _, rfl, fun j _ _ h => absurd h (Nat.not_lt_zero _), (HMA.out.on HBW.out).more (by omega), (HMB.out.on HBW.out).more (by omega), Fr.refl _ _⟩
  case round =>
    obtain ⟨k, hk, rfl, heq, hma, hmb, hfr⟩ := hrel
    have HMA1 := Lib.hid hma
    have HMB1 := Lib.hid hmb
    have HFR := Lib.hid hfr
    have hbk : wr.heap[w.heap.size]? = some (.cells #[.map (some ma), .map (some mb)] 107) := (hfr.block w.heap.size (by omega) (fun h => by rcases h with h | h <;> omega)).trans HBX.out
    have hzr := hfr.size
    have x0 : wr.cell? ⟨w.heap.size, 0, none⟩ = some (.map (some ma)) := by simp [World.cell?, hbk]
    have x1 : wr.cell? ⟨w.heap.size, 1, none⟩ = some (.map (some mb)) := by simp [World.cell?, hbk]
    have xl : w.heap.size < wr.heap.size := by omega
    have hNCW : ∀ k, Two ma mb k → ∀ o, W.cell? ⟨k, o, none⟩ = none := HNC.out _ ((HMA.out.on HBW.out).more (by omega)) ((HMB.out.on HBW.out).more (by omega))
    have HA1 := Lib.hid (HAW.out.fr hfr hNCW)
    have HB1 := Lib.hid (HBW2.out.fr hfr hNCW)
    clear hma hmb hfr hbk hNCW
    by_cases hlt : k < la.length
    · have hlr : k < lb.length := by rw [← HLL.out]; exact hlt
      obtain ⟨b1, o1, A3, c3, e1, _, hb1, d0, d1, d2, d3, ht1⟩ := HA1.out.at k hlt
      obtain ⟨b2, o2, A4, c4, e2, _, hb2, g0, g1, g2, g3, ht2⟩ := HB1.out.at k hlr
      subst e1 e2
      have hki : (k : Int) < (la.length : Int) := by omega
      have hkj : (k : Int) < (lb.length : Int) := by omega
      have hk0 : (0 : Int) ≤ (k : Int) := by omega
      have hso := sumSz_one hlt
      have htk := sumSz_take hlt
      have hcal := HIH.out la[k] lb[k] _ _ _ _ fa fb d (N + 2 * sumSz (la.take k)) wr.drew (HN.out _ (List.getElem_mem hlt)) (ht1.on (Below.refl _ _).drew) (ht2.on (Below.refl _ _).drew) (HSA.out _ (List.getElem_mem hlt)) (HSB.out _ (List.getElem_mem hlr)) (HMA1.out.on (Below.refl _ _).drew) (HMB1.out.on (Below.refl _ _).drew) (by omega) hd0 (by omega)
      have HCAL := Lib.hid hcal
      have HST : Hid (sameT fa fb d la[k] lb[k] = true ∨ sameT fa fb d la[k] lb[k] = false) := by
        cases h : sameT fa fb d la[k] lb[k]
        · exact .inr rfl
        · exact .inl rfl
      have hle9 := sumSz_le la (k + 1)
      have HTK := Lib.hid htk
      clear hcal ht1 ht2 htk
      generalize hla : la[k] = ea at *
      generalize hlb : lb[k] = eb at *
      have HLA := Lib.hid hla
      have HLB := Lib.hid hlb
      clear hla hlb
      generalize ea.form = e1, ea.num = e2, ea.name = e3, ea.args.length = e4 at *
      generalize eb.form = j1, eb.num = j2, eb.name = j3, eb.args.length = j4 at *
      go_wp2_with fail
      go_still_tail 10, (by kernel_rfl)
      go_wp2_with fail
      refine HCAL.out.mono ?_
      rintro e w1 ⟨rfl, hma1, hmb1, hfr1⟩
      have HFR1 := Lib.hid (HFR.out.drew.trans hfr1)
      have HMA2 : Hid (MapG w1 ma fa (N + 2 * sumSz (la.take (k + 1)))) := by show MapG _ _ _ _; rw [HTK.out, Nat.mul_add, ← Nat.add_assoc]; exact hma1
      have HMB2 : Hid (MapG w1 mb fb (N + 2 * sumSz (la.take (k + 1)))) := by show MapG _ _ _ _; rw [HTK.out, Nat.mul_add, ← Nat.add_assoc]; exact hmb1
      clear hma1 hmb1 hfr1
      rcases HST.out with he | he
      · rw [he]
        have HR : Hid (∀ j (h : j < la.length) (h' : j < lb.length), j < k + 1 → sameT fa fb d la[j] lb[j] = true) := fun j h h' hj => by
          by_cases hjk : j = k
          · subst hjk; rw [HLA.out, HLB.out]; exact he
          · exact heq.out j h h' (by omega)
        clear he
        go_wp2
        go_roundw
        case rel => exact ⟨k + 1, by omega, by go_num, HR, HMA2.out, HMB2.out, HFR1.out⟩
        case measure => simp [intOf]; omega
      · rw [he]
        have HE : Hid (sameL fa fb d la lb = false) := sameL_none k hlt hlr (by rw [HLA.out, HLB.out]; exact he)
        clear he
        go_wp2
        go_ret
        exact ⟨ret_bool HE.out.symm, HMA2.out.more (by omega), HMB2.out.more (by omega), (Fr.of_below HBW.out).trans HFR1.out⟩
    · have hd : decide (k < la.length) = false := by simpa using hlt
      have hkl : k = la.length := by omega
      have HE : Hid (sameL fa fb d la lb = true) := sameL_all HLL.out (fun j h h' => heq.out j h h' (by omega))
      have hle9 := sumSz_le la k
      go_wp2
      go_ret
      exact ⟨ret_bool HE.out.symm, HMA1.out.more (by omega), HMB1.out.more (by omega), (Fr.of_below HBW.out).trans HFR.out⟩
end Go.Proofs.YtbdfjboojokgdaaDoor
