/- The contracts of types.Same and what it calls (chapter 4). Conditions: names are of at most 2^40 bytes, types of at most 2^40 nodes. The contract of types.each (chapter 4), for whatever function is told of each part. Conditions: those that each theorem names. -/
import Derived.Test.YtbdfjboojokgdaaDoorJU08
namespace Go.Proofs.YtbdfjboojokgdaaDoor
open Go.RowKit

def Two (ma mb k : Nat) : Prop := k = ma ∨ k = mb
/-- What same told. -/
def SameRes (ma mb : Nat) (fa fb : ByteArray → Int) (N : Nat) (q : Bool) (w : World) (e : Ending) (w' : World) : Prop := e = .returned (.bool q) ∧ MapG w' ma fa N ∧ MapG w' mb fb N ∧ Fr (Two ma mb) w w'
def SameIs (ma mb n : Nat) : Prop := ∀ (a b : Ty) (P Q : Nat → Prop) (va vb : Value) (fa fb : ByteArray → Int) (d : Int) (N : Nat) (w : World), a.sz ≤ n → TyAt P w a va → TyAt Q w b vb → a.short → b.short → MapG w ma fa N → MapG w mb fb N → N + 2 * a.sz ≤ 1099511627776 → 0 ≤ d → d + a.sz ≤ 1099511627776 →
    Calls Tryd.prog 68 #[.agg #[.map (some ma), .map (some mb)], va, vb, .int .i64 d] w (SameRes ma mb fa fb (N + 2 * a.sz) (sameT fa fb d a b) w)
def sumSz (l : List Ty) : Nat := (l.map Ty.sz).sum
theorem sumSz_args (t : Ty) : sumSz t.args + 1 ≤ t.sz := by cases t <;> simp [sumSz, Ty.args, Ty.sz]
theorem sumSz_take {l : List Ty} {k : Nat} (h : k < l.length) : sumSz (l.take (k + 1)) = sumSz (l.take k) + l[k].sz := by
  rw [List.take_succ_eq_append_getElem h]; unfold sumSz; rw [List.map_append, List.sum_append]; simp
theorem sumSz_le (l : List Ty) (k : Nat) : sumSz (l.take k) ≤ sumSz l := by
  have : sumSz l = sumSz (l.take k) + sumSz (l.drop k) := by
    unfold sumSz; rw [← List.sum_append, ← List.map_append, List.take_append_drop]
  omega
theorem sumSz_one {l : List Ty} {k : Nat} (h : k < l.length) : sumSz (l.take k) + l[k].sz ≤ sumSz l := by
  rw [← sumSz_take h]; exact sumSz_le l _
theorem sameL_all {fa fb : ByteArray → Int} {d : Int} : ∀ {l r : List Ty}, l.length = r.length → (∀ j (h : j < l.length) (h' : j < r.length), sameT fa fb d l[j] r[j] = true) → sameL fa fb d l r = true
  | [], [], _, _ => rfl
  | a :: l, b :: r, hl, h => by
    have h0 := h 0 (by simp) (by simp)
    simp only [List.getElem_cons_zero] at h0
    rw [sameL, h0, sameL_all (by simpa using hl) (fun j h1 h2 => by have := h (j + 1) (by simpa using h1) (by simpa using h2); simpa using this)]; rfl
  | [], b :: r, hl, _ => by simp at hl
  | a :: l, [], hl, _ => by simp at hl
theorem sameL_none {fa fb : ByteArray → Int} {d : Int} : ∀ {l r : List Ty} (k : Nat) (h : k < l.length) (h' : k < r.length), sameT fa fb d l[k] r[k] = false → sameL fa fb d l r = false
  | [], _, k, h, _, _ => absurd h (Nat.not_lt_zero _)
  | _ :: _, [], k, _, h', _ => absurd h' (Nat.not_lt_zero _)
  | a :: l, b :: r, 0, _, _, hk => by simp only [List.getElem_cons_zero] at hk; rw [sameL, hk]; rfl
  | a :: l, b :: r, k + 1, h, h', hk => by
    simp only [List.getElem_cons_succ] at hk
    rw [sameL, sameL_none k (by simpa using h) (by simpa using h') hk]; simp
theorem box2 (w : World) (a0 a1 : Value) (t : TypeId) : ∃ W, w.alloc (.cells #[a0, a1] t) = W ∧ W.heap[w.heap.size]? = some (.cells #[a0, a1] t) ∧ Below w.heap.size w W ∧ W.heap.size = w.heap.size + 1 :=
  ⟨_, rfl, (MapKept.heap_alloc w _).1, below_new w _, by simp⟩
set_option maxRecDepth 100000 in
set_option maxHeartbeats 1000000 in
theorem sameAll_of (ma mb n : Nat) (hne : ma ≠ mb) (ih : SameIs ma mb n) (la lb : List Ty) (P Q : Nat → Prop) (va vb : Value) (fa fb : ByteArray → Int) (d : Int) (N : Nat) (w : World) (hn : ∀ x ∈ la, x.sz ≤ n) (ha : TysAt P w la va) (hb : TysAt Q w lb vb) (hsa : ∀ x ∈ la, x.short) (hsb : ∀ x ∈ lb, x.short)
    (hma : MapG w ma fa N) (hmb : MapG w mb fb N) (hN : N + 2 * sumSz la ≤ 1099511627776) (hd0 : 0 ≤ d) (hd : d + sumSz la ≤ 1099511627776) (hll : la.length = lb.length) (hl2 : la.length ≤ 2) :
    Calls Tryd.prog 105 #[.agg #[.map (some ma), .map (some mb)], va, vb, .int .i64 d] w (SameRes ma mb fa fb (N + 2 * sumSz la) (sameL fa fb d la lb) w) := by
  obtain ⟨A1, c1, rfl, hc1, hm1⟩ := ha.form
  obtain ⟨A2, c2, rfl, hc2, hm2⟩ := hb.form
  have HA := Lib.hid ha.bound'
  have HB := Lib.hid hb.bound'
  have HMA := Lib.hid hma
  have HMB := Lib.hid hmb
  have HIH := Lib.hid ih
  have HN := Lib.hid hn
  have HSA := Lib.hid hsa
  have HSB := Lib.hid hsb
  have HLL := Lib.hid hll
  have hla := hma.lt
  have hlb := hmb.lt
  clear ha hb hma hmb ih hn hsa hsb
  clear hll
  obtain ⟨W, eW, bx, bW, zW⟩ := box2 w (.map (some ma)) (.map (some mb)) 107
  have HEW := Lib.hid eW
  have HBX := Lib.hid bx
  have HBW := Lib.hid bW
  clear eW bx bW
  go_enter Tryd.func105, Tryd.ntmps105
  go_wp2_with fail
  rw [HEW.out]
  have hNC : ∀ (y : World), MapG y ma fa (N + 2 * sumSz la) → MapG y mb fb (N + 2 * sumSz la) → ∀ k, Two ma mb k → ∀ o, y.cell? ⟨k, o, none⟩ = none := fun _ h1 h2 k hk o => by
    rcases hk with rfl | rfl
    · exact h1.noCell o
    · exact h2.noCell o
  have HNC := Lib.hid hNC
  have HAW := Lib.hid (HA.out.on HBW.out)
  have HBW2 := Lib.hid (HB.out.on HBW.out)
  clear hNC
  go_loopw [12, 9] (fun i _ wr => ∃ k : Nat, k ≤ la.length ∧ i = .int .i64 k ∧ Hid (∀ j (h : j < la.length) (h' : j < lb.length), j < k → sameT fa fb d la[j] lb[j] = true) ∧ MapG wr ma fa (N + 2 * sumSz (la.take k)) ∧ MapG wr mb fb (N + 2 * sumSz (la.take k)) ∧ Fr (Two ma mb) W wr) (fun i _ _ => la.length - (intOf i).toNat)
  case atStart => exact ⟨0, Nat.zero_le _, rfl, fun j _ _ h => absurd h (Nat.not_lt_zero _), (HMA.out.on HBW.out).more (by omega), (HMB.out.on HBW.out).more (by omega), Fr.refl _ _⟩
  case round =>
    obtain ⟨k, hk, rfl, heq, hma, hmb, hfr⟩ := hrel
    have HMA1 := Lib.hid hma
    have HMB1 := Lib.hid hmb
    have HFR := Lib.hid hfr
    have hbk : wr.heap[w.heap.size]? = some (.cells #[.map (some ma), .map (some mb)] 107) := (hfr.block w.heap.size (by omega) (fun h => by rcases h with h | h <;> omega)).trans HBX.out
    have hzr := hfr.size
    have x0 : wr.cell? ⟨w.heap.size, 0, none⟩ = some (.map (some ma)) := by simp [World.cell?, hbk]
    have x1 : wr.cell? ⟨w.heap.size, 1, none⟩ = some (.map (some mb)) := by simp [World.cell?, hbk]
    have xl : w.heap.size < wr.heap.size := by omega
    have hNCW : ∀ k, Two ma mb k → ∀ o, W.cell? ⟨k, o, none⟩ = none := HNC.out _ ((HMA.out.on HBW.out).more (by omega)) ((HMB.out.on HBW.out).more (by omega))
    have HA1 := Lib.hid (HAW.out.fr hfr hNCW)
    have HB1 := Lib.hid (HBW2.out.fr hfr hNCW)
    clear hma hmb hfr hbk hNCW
    by_cases hlt : k < la.length
    · have hlr : k < lb.length := by rw [← HLL.out]; exact hlt
      obtain ⟨b1, o1, A3, c3, e1, _, hb1, d0, d1, d2, d3, ht1⟩ := HA1.out.at k hlt
      obtain ⟨b2, o2, A4, c4, e2, _, hb2, g0, g1, g2, g3, ht2⟩ := HB1.out.at k hlr
      subst e1 e2
      have hki : (k : Int) < (la.length : Int) := by omega
      have hkj : (k : Int) < (lb.length : Int) := by omega
      have hk0 : (0 : Int) ≤ (k : Int) := by omega
      have hso := sumSz_one hlt
      have htk := sumSz_take hlt
      have hcal := HIH.out la[k] lb[k] _ _ _ _ fa fb d (N + 2 * sumSz (la.take k)) wr.drew (HN.out _ (List.getElem_mem hlt)) (ht1.on (Below.refl _ _).drew) (ht2.on (Below.refl _ _).drew) (HSA.out _ (List.getElem_mem hlt)) (HSB.out _ (List.getElem_mem hlr)) (HMA1.out.on (Below.refl _ _).drew) (HMB1.out.on (Below.refl _ _).drew) (by omega) hd0 (by omega)
      have HCAL := Lib.hid hcal
      have HST : Hid (sameT fa fb d la[k] lb[k] = true ∨ sameT fa fb d la[k] lb[k] = false) := by
        cases h : sameT fa fb d la[k] lb[k]
        · exact .inr rfl
        · exact .inl rfl
      have hle9 := sumSz_le la (k + 1)
      have HTK := Lib.hid htk
      clear hcal ht1 ht2 htk
      generalize hla : la[k] = ea at *
      generalize hlb : lb[k] = eb at *
      have HLA := Lib.hid hla
      have HLB := Lib.hid hlb
      clear hla hlb
      generalize ea.form = e1, ea.num = e2, ea.name = e3, ea.args.length = e4 at *
      generalize eb.form = j1, eb.num = j2, eb.name = j3, eb.args.length = j4 at *
      go_wp2_with fail
      go_still_tail 10, (by kernel_rfl)
      go_wp2_with fail
      refine HCAL.out.mono ?_
      rintro e w1 ⟨rfl, hma1, hmb1, hfr1⟩
      have HFR1 := Lib.hid (HFR.out.drew.trans hfr1)
      have HMA2 : Hid (MapG w1 ma fa (N + 2 * sumSz (la.take (k + 1)))) := by show MapG _ _ _ _; rw [HTK.out, Nat.mul_add, ← Nat.add_assoc]; exact hma1
      have HMB2 : Hid (MapG w1 mb fb (N + 2 * sumSz (la.take (k + 1)))) := by show MapG _ _ _ _; rw [HTK.out, Nat.mul_add, ← Nat.add_assoc]; exact hmb1
      clear hma1 hmb1 hfr1
      rcases HST.out with he | he
      · rw [he]
        have HR : Hid (∀ j (h : j < la.length) (h' : j < lb.length), j < k + 1 → sameT fa fb d la[j] lb[j] = true) := fun j h h' hj => by
          by_cases hjk : j = k
          · subst hjk; rw [HLA.out, HLB.out]; exact he
          · exact heq.out j h h' (by omega)
        clear he
        go_wp2
        go_roundw
        case rel => exact ⟨k + 1, by omega, by go_num, HR, HMA2.out, HMB2.out, HFR1.out⟩
        case measure => simp [intOf]; omega
      · rw [he]
        have HE : Hid (sameL fa fb d la lb = false) := sameL_none k hlt hlr (by rw [HLA.out, HLB.out]; exact he)
        clear he
        go_wp2
        go_ret
        exact ⟨ret_bool HE.out.symm, HMA2.out.more (by omega), HMB2.out.more (by omega), (Fr.of_below HBW.out).trans HFR1.out⟩
    · have hd : decide (k < la.length) = false := by simpa using hlt
      have hkl : k = la.length := by omega
      have HE : Hid (sameL fa fb d la lb = true) := sameL_all HLL.out (fun j h h' => heq.out j h h' (by omega))
      have hle9 := sumSz_le la k
      go_wp2
      go_ret
      exact ⟨ret_bool HE.out.symm, HMA1.out.more (by omega), HMB1.out.more (by omega), (Fr.of_below HBW.out).trans HFR.out⟩
end Go.Proofs.YtbdfjboojokgdaaDoor
namespace Go.Proofs.YtbdfjboojokgdaaDoor
open Go.RowKit

/-- A type and all that stands in it, from the outside and the left. -/
def Ty.nodes : Ty → List Ty
  | .app a b => .app a b :: (a.nodes ++ b.nodes)
  | .all s a => .all s a :: a.nodes
  | t => [t]
def nodesL (l : List Ty) : List Ty := (l.map Ty.nodes).flatten
theorem nodes_args (t : Ty) : t.nodes = t :: nodesL t.args := by
  cases t <;> simp [Ty.nodes, nodesL, Ty.args]
theorem nodesL_take {l : List Ty} {k : Nat} (h : k < l.length) : nodesL (l.take (k + 1)) = nodesL (l.take k) ++ l[k].nodes := by
  unfold nodesL; rw [List.take_succ_eq_append_getElem h, List.map_append, List.flatten_append]; simp
theorem nodes_len : ∀ t : Ty, t.nodes.length = t.sz
  | .app a b => by simp [Ty.nodes, Ty.sz, nodes_len a, nodes_len b]
  | .all _ a => by simp [Ty.nodes, Ty.sz, nodes_len a]
  | .hole _ => rfl
  | .var _ => rfl
  | .con _ => rfl
theorem nodesL_len (l : List Ty) : (nodesL l).length = sumSz l := by
  induction l with
  | nil => rfl
  | cons a r ih => unfold nodesL sumSz at *; simp [ih, nodes_len]
/-- Blocks other than those that a state owns stay; it comes to own new ones alone. -/
structure FrM (M : World → Nat → Prop) (w w' : World) : Prop where
  os : w'.os = w.os
  tape : w'.tape = w.tape
  output : w'.output = w.output
  size : w.heap.size ≤ w'.heap.size
  block : ∀ k, k < w.heap.size → ¬ M w k → w'.heap[k]? = w.heap[k]?
  own : ∀ k, k < w.heap.size → M w' k → M w k
theorem FrM.trans {M : World → Nat → Prop} {a b c : World} (h : FrM M a b) (g : FrM M b c) : FrM M a c :=
  ⟨g.os.trans h.os, g.tape.trans h.tape, g.output.trans h.output, Nat.le_trans h.size g.size,
    fun k hk hn => (g.block k (Nat.lt_of_lt_of_le hk h.size) (fun hm => hn (h.own k hk hm))).trans (h.block k hk hn),
    fun k hk hm => h.own k hk (g.own k (Nat.lt_of_lt_of_le hk h.size) hm)⟩
theorem FrM.of_below {M : World → Nat → Prop} {w w' : World} (h : Below w.heap.size w w') (ho : ∀ k, k < w.heap.size → M w' k → M w k) : FrM M w w' :=
  ⟨h.os, h.tape, h.output, h.size, fun k hk _ => h.block k hk, ho⟩
theorem FrM.below {M : World → Nat → Prop} {w w' : World} {B : Nat} (h : FrM M w w') (hB : B ≤ w.heap.size) (hM : ∀ k, M w k → B ≤ k) : Below B w w' :=
  ⟨h.os, h.tape, h.output, h.size, fun k hk => h.block k (by omega) (fun hm => by have := hM k hm; omega)⟩
/-- What a function that is told of each part keeps: a state that hangs on the parts that were told. -/
structure Told (base : Nat) (M : World → Nat → Prop) (St : List Ty → World → Prop) : Prop where
  new : ∀ l w o, St l w → St l (w.alloc o)
  drew : ∀ l w, St l w → St l w.drew
  own : ∀ l w o k, St l w → M (w.alloc o) k → M w k
  lt : ∀ l w k, St l w → M w k → k < w.heap.size
  base : ∀ l w k, St l w → M w k → base ≤ k
theorem Told.keeps {base : Nat} {M : World → Nat → Prop} {St : List Ty → World → Prop} (hT : Told base M St) {l : List Ty} {w w' : World} (hs : St l w) (h : FrM M w w') : Keeps (fun b => b < base) w w' :=
  ⟨h.size, fun b off hb hlt => World.cell?_of_block (a := ⟨b, off, none⟩) (h.block b hlt (fun hm => by have := hT.base l w b hs hm; omega))⟩
/-- A box that the state does not own stays. -/
theorem Box4.frM {M : World → Nat → Prop} {w w' : World} {b : Nat} {a0 a1 a2 a3 : Value} (h : Box4 w b a0 a1 a2 a3) (hf : FrM M w w') (hn : ¬ M w b) : Box4 w' b a0 a1 a2 a3 := by
  obtain ⟨h0, h1, h2, h3, h4, f1, f2, f3, f4⟩ := h
  have hb := hf.block b h0 hn
  have hc : ∀ o, w'.cell? ⟨b, o, none⟩ = w.cell? ⟨b, o, none⟩ := fun o => World.cell?_of_block (a := ⟨b, o, none⟩) hb
  have hz : ∀ o, w'.frozen? ⟨b, o, none⟩ = w.frozen? ⟨b, o, none⟩ := fun o => by simp [World.frozen?, hb]
  exact ⟨Nat.lt_of_lt_of_le h0 hf.size, (hc 0).trans h1, (hc 1).trans h2, (hc 2).trans h3, (hc 3).trans h4, (hz 0).trans f1, (hz 1).trans f2, (hz 2).trans f3, (hz 3).trans f4⟩
set_option maxRecDepth 100000 in
set_option maxHeartbeats 1000000 in
theorem each_of (Ok : Ty → Prop) (hok : ∀ t x, Ok t → x ∈ t.args → Ok x) (base : Nat) (M : World → Nat → Prop) (St : List Ty → World → Prop) (hT : Told base M St) (gf : FuncId) (cap : Array Value) (Bd : Nat) (hcf : ∀ (vs : Array Value) (y : World), (callFunc gf vs).run Tryd.prog y = .ok (.enter gf vs) y)
    (hf : ∀ (l : List Ty) (t : Ty) (v : Value) (w : World), l.length < Bd → Ok t → St l w → base ≤ w.heap.size → TyAt (fun b => b < base) w t v → Calls Tryd.prog gf (#[v] ++ cap) w fun e w' => e = .returned (.tuple #[]) ∧ St (l ++ [t]) w' ∧ FrM M w w') :
    ∀ (n : Nat) (l : List Ty) (t : Ty) (v : Value) (w : World), t.sz ≤ n → l.length + t.sz ≤ Bd → Ok t → St l w → base ≤ w.heap.size → TyAt (fun b => b < base) w t v →
    Calls Tryd.prog 56 #[v, .func (.func gf) #[] cap] w fun e w' => e = .returned (.tuple #[]) ∧ St (l ++ t.nodes) w' ∧ FrM M w w'
  | 0, _, t, _, _, hn, _, _, _, _, _ => by cases t <;> simp [Ty.sz] at hn
  | n + 1, l, t, v, w, hn, hbd, hokt, hst, hba, h => by
    have hpos : 1 ≤ t.sz := by cases t <;> simp [Ty.sz]
    obtain ⟨sv, rfl, hs⟩ := h.tys
    obtain ⟨A, c, rfl, hc, hm⟩ := hs.form
    have IH := Lib.hid (fun (l : List Ty) (x : Ty) (hx : x ∈ t.args) (v : Value) (y : World) (hb9 : l.length + x.sz ≤ Bd) => each_of Ok hok base M St hT gf cap Bd hcf hf n l x v y (by have := Ty.arg_sz hx; omega) hb9 (hok t x hokt hx))
    obtain ⟨W, eW, q1, b1, z1⟩ := one_box w (.int .i64 t.form) (.int .i64 t.num) (.string t.name) (.slice A t.args.length c) 25
    have hstW : St l W := by rw [← eW]; exact hT.new _ _ _ hst
    have hnW : ∀ k, M W k → M w k := by rw [← eW]; exact fun k hk => hT.own l w _ k hst hk
    have HFW := Lib.hid (FrM.of_below (M := M) b1 (fun k _ hk => hnW k hk))
    have hbox : ¬ M W w.heap.size := fun hk => by have := hT.lt l w _ hst (hnW _ hk); omega
    have HF := Lib.hid (hf l t _ W (by omega) hokt hstW (by omega) (h.on b1))
    have HQ := Lib.hid q1
    have HEW := Lib.hid eW
    have HSW := Lib.hid (hs.on b1)
    obtain ⟨x0, x1, x2, x3, x4, _⟩ := q1
    clear eW b1 h hs hf
    go_enter Tryd.func56, Tryd.ntmps56
    go_wp2_with fail
    rw [HEW.out]
    go_wp2_with fail
    refine HF.out.mono ?_
    rintro e w1 ⟨rfl, hs1, hf1⟩
    have HS1 := Lib.hid hs1
    have HF1 := Lib.hid hf1
    have HKW := Lib.hid (HSW.out.keep (hT.keeps hstW hf1))
    obtain ⟨y0, y1, y2, y3, y4, _⟩ := HQ.out.frM hf1 hbox
    have hbox1 : ¬ M w1 w.heap.size := fun hk => hbox (hf1.own _ (by omega) hk)
    have hw1 := hf1.size
    have hl2 := t.args_le
    clear hs1 hf1
    go_wp2_with fail
    clear y0 y1 y2 y3 y4 x0 x1 x2 x3 x4
    go_loopw [12] (fun i wr => ∃ k : Nat, k ≤ t.args.length ∧ i = .int .i64 k ∧ St (l ++ [t] ++ nodesL (t.args.take k)) wr ∧ FrM M w1 wr) (fun i _ => t.args.length - (intOf i).toNat)
    case atStart => exact ⟨0, Nat.zero_le _, rfl, by simpa [nodesL] using HS1.out, ⟨rfl, rfl, rfl, Nat.le_refl _, fun _ _ _ => rfl, fun _ _ h => h⟩⟩
    case round =>
      obtain ⟨k, hk, rfl, hsk, hfk⟩ := hrel
      have HSK := Lib.hid hsk
      have HFK := Lib.hid hfk
      have hzk := hfk.size
      by_cases hlt : k < t.args.length
      · obtain ⟨g, off, A3, c3, e3, hgb, hg, m0, m1, m2, m3, hx⟩ := (HKW.out.keep (hT.keeps HS1.out hfk)).at k hlt
        subst e3
        have hmem : t.args[k] ∈ t.args := List.getElem_mem hlt
        obtain ⟨V, eV, q2, b2, z2⟩ := one_box wr (.int .i64 t.args[k].form) (.int .i64 t.args[k].num) (.string t.args[k].name) (.slice A3 t.args[k].args.length c3) 25
        have hsV : St (l ++ [t] ++ nodesL (t.args.take k)) V := by rw [← eV]; exact hT.new _ _ _ hsk
        have hnV : ∀ k', M V k' → M wr k' := by rw [← eV]; exact fun k' hk' => hT.own _ wr _ k' hsk hk'
        have HFV := Lib.hid (FrM.of_below (M := M) b2 (fun k' _ hk' => hnV k' hk'))
        have hsl := sumSz_le t.args (k + 1)
        have hst := sumSz_take hlt
        have hsa := sumSz_args t
        have HC := Lib.hid (IH.out _ _ hmem _ V (by simp only [List.length_append, List.length_cons, List.length_nil, nodesL_len]; omega) hsV (by omega) (hx.on b2))
        have HTK := Lib.hid (nodesL_take hlt)
        have HEV := Lib.hid eV
        have hki : (k : Int) < (t.args.length : Int) := by omega
        have hk0 : (0 : Int) ≤ (k : Int) := by omega
        obtain ⟨u0, u1, u2, u3, u4, _⟩ := q2
        clear hx hsk hfk eV b2 hsV hnV
        generalize hxx : t.args[k] = x at *
        generalize x.form = xf, x.num = xn, x.name = xs, x.args.length = xl at *
        go_wp2_with fail
        rw [HEV.out]
        refine HC.out.mono ?_
        rintro e w2 ⟨rfl, hs2, hf2⟩
        have HS2 := Lib.hid hs2
        have HF2 := Lib.hid (HFK.out.trans (HFV.out.trans hf2))
        clear hs2 hf2
        go_wp2
        go_roundw
        case rel => exact ⟨k + 1, by omega, by go_num, by rw [HTK.out, ← List.append_assoc]; exact HS2.out, HF2.out⟩
        case measure => simp [intOf]; omega
      · have hd : decide (k < t.args.length) = false := by simpa using hlt
        have hkl : t.args.take k = t.args := List.take_of_length_le (by omega)
        rw [hkl] at HSK
        clear hkl hsk hfk
        go_wp2
        go_end0
        exact ⟨rfl, by rw [nodes_args]; simpa using HSK.out, HFW.out.trans (HF1.out.trans HFK.out)⟩
end Go.Proofs.YtbdfjboojokgdaaDoor
