/- The contract of types.each (chapter 4), for whatever function is told of each part. Conditions: those that each theorem names. -/
import Derived.Test.YtbdfjboojokgdaaDoorJS14
import Derived.Test.YtbdfjboojokgdaaDoorJS15
namespace Go.Proofs.YtbdfjboojokgdaaDoor
open Go.RowKit

/-- A type and all that stands in it, from the outside and the left. -/
def Ty.nodes : Ty → List Ty
  | .app a b => .app a b :: (a.nodes ++ b.nodes)
  | .all s a => .all s a :: a.nodes
  | t => [t]
def nodesL (l : List Ty) : List Ty := (l.map Ty.nodes).flatten
theorem nodes_args (t : Ty) : t.nodes = t :: nodesL t.args := by
  cases t <;> simp [Ty.nodes, nodesL, Ty.args]
theorem nodesL_take {l : List Ty} {k : Nat} (h : k < l.length) : nodesL (l.take (k + 1)) = nodesL (l.take k) ++ l[k].nodes := by
  unfold nodesL; rw [List.take_succ_eq_append_getElem h, List.map_append, List.flatten_append]; simp
theorem nodes_len : ∀ t : Ty, t.nodes.length = t.sz
  | .app a b => by simp [Ty.nodes, Ty.sz, nodes_len a, nodes_len b]
  | .all _ a => by simp [Ty.nodes, Ty.sz, nodes_len a]
  | .hole _ => rfl
  | .var _ => rfl
  | .con _ => rfl
theorem nodesL_len (l : List Ty) : (nodesL l).length = sumSz l := by
  induction l with
  | nil => rfl
  | cons a r ih => unfold nodesL sumSz at *; simp [ih, nodes_len]
/-- Blocks other than those that a state owns stay; it comes to own new ones alone. -/
structure FrM (M : World → Nat → Prop) (w w' : World) : Prop where
  os : w'.os = w.os
  tape : w'.tape = w.tape
  output : w'.output = w.output
  size : w.heap.size ≤ w'.heap.size
  block : ∀ k, k < w.heap.size → ¬ M w k → w'.heap[k]? = w.heap[k]?
  own : ∀ k, k < w.heap.size → M w' k → M w k
theorem FrM.trans {M : World → Nat → Prop} {a b c : World} (h : FrM M a b) (g : FrM M b c) : FrM M a c :=
  ⟨g.os.trans h.os, g.tape.trans h.tape, g.output.trans h.output, Nat.le_trans h.size g.size,
    fun k hk hn => (g.block k (Nat.lt_of_lt_of_le hk h.size) (fun hm => hn (h.own k hk hm))).trans (h.block k hk hn),
    fun k hk hm => h.own k hk (g.own k (Nat.lt_of_lt_of_le hk h.size) hm)⟩
theorem FrM.of_below {M : World → Nat → Prop} {w w' : World} (h : Below w.heap.size w w') (ho : ∀ k, k < w.heap.size → M w' k → M w k) : FrM M w w' :=
  ⟨h.os, h.tape, h.output, h.size, fun k hk _ => h.block k hk, ho⟩
theorem FrM.below {M : World → Nat → Prop} {w w' : World} {B : Nat} (h : FrM M w w') (hB : B ≤ w.heap.size) (hM : ∀ k, M w k → B ≤ k) : Below B w w' :=
  ⟨h.os, h.tape, h.output, h.size, fun k hk => h.block k (by omega) (fun hm => by have := hM k hm; omega)⟩
/-- What a function that is told of each part keeps: a state that hangs on the parts that were told. -/
structure Told (base : Nat) (M : World → Nat → Prop) (St : List Ty → World → Prop) : Prop where
  new : ∀ l w o, St l w → St l (w.alloc o)
  drew : ∀ l w, St l w → St l w.drew
  own : ∀ l w o k, St l w → M (w.alloc o) k → M w k
  lt : ∀ l w k, St l w → M w k → k < w.heap.size
  base : ∀ l w k, St l w → M w k → base ≤ k
theorem Told.keeps {base : Nat} {M : World → Nat → Prop} {St : List Ty → World → Prop} (hT : Told base M St) {l : List Ty} {w w' : World} (hs : St l w) (h : FrM M w w') : Keeps (fun b => b < base) w w' :=
  ⟨h.size, fun b off hb hlt => World.cell?_of_block (a := ⟨b, off, none⟩) (h.block b hlt (fun hm => by have := hT.base l w b hs hm; omega))⟩
/-- A box that the state does not own stays. -/
theorem Box4.frM {M : World → Nat → Prop} {w w' : World} {b : Nat} {a0 a1 a2 a3 : Value} (h : Box4 w b a0 a1 a2 a3) (hf : FrM M w w') (hn : ¬ M w b) : Box4 w' b a0 a1 a2 a3 := by
  obtain ⟨h0, h1, h2, h3, h4, f1, f2, f3, f4⟩ := h
  have hb := hf.block b h0 hn
  have hc : ∀ o, w'.cell? ⟨b, o, none⟩ = w.cell? ⟨b, o, none⟩ := fun o => World.cell?_of_block (a := ⟨b, o, none⟩) hb
  have hz : ∀ o, w'.frozen? ⟨b, o, none⟩ = w.frozen? ⟨b, o, none⟩ := fun o => by simp [World.frozen?, hb]
  exact ⟨Nat.lt_of_lt_of_le h0 hf.size, (hc 0).trans h1, (hc 1).trans h2, (hc 2).trans h3, (hc 3).trans h4, (hz 0).trans f1, (hz 1).trans f2, (hz 2).trans f3, (hz 3).trans f4⟩
set_option maxRecDepth 100000 in
set_option maxHeartbeats 1000000 in
theorem each_of (Ok : Ty → Prop) (hok : ∀ t x, Ok t → x ∈ t.args → Ok x) (base : Nat) (M : World → Nat → Prop) (St : List Ty → World → Prop) (hT : Told base M St) (gf : FuncId) (cap : Array Value) (Bd : Nat) (hcf : ∀ (vs : Array Value) (y : World), (callFunc gf vs).run Tryd.prog y = .ok (.enter gf vs) y)
    (hf : ∀ (l : List Ty) (t : Ty) (v : Value) (w : World), l.length < Bd → Ok t → St l w → base ≤ w.heap.size → TyAt (fun b => b < base) w t v → Calls Tryd.prog gf (#[v] ++ cap) w fun e w' => e = .returned (.tuple #[]) ∧ St (l ++ [t]) w' ∧ FrM M w w') :
    ∀ (n : Nat) (l : List Ty) (t : Ty) (v : Value) (w : World), t.sz ≤ n → l.length + t.sz ≤ Bd → Ok t → St l w → base ≤ w.heap.size → TyAt (fun b => b < base) w t v →
    Calls Tryd.prog 56 #[v, .func (.func gf) #[] cap] w fun e w' => e = .returned (.tuple #[]) ∧ St (l ++ t.nodes) w' ∧ FrM M w w'
  | 0, _, t, _, _, hn, _, _, _, _, _ => by cases t <;> simp [Ty.sz] at hn
  | n + 1, l, t, v, w, hn, hbd, hokt, hst, hba, h => by
    have hpos : 1 ≤ t.sz := by cases t <;> simp [Ty.sz]
    obtain ⟨sv, rfl, hs⟩ := h.tys
    obtain ⟨A, c, rfl, hc, hm⟩ := hs.form
    have IH := Lib.hid (fun (l : List Ty) (x : Ty) (hx : x ∈ t.args) (v : Value) (y : World) (hb9 : l.length + x.sz ≤ Bd) => each_of Ok hok base M St hT gf cap Bd hcf hf n l x v y (by have := Ty.arg_sz hx; omega) hb9 (hok t x hokt hx))
    obtain ⟨W, eW, q1, b1, z1⟩ := one_box w (.int .i64 t.form) (.int .i64 t.num) (.string t.name) (.slice A t.args.length c) 25
    have hstW : St l W := by rw [← eW]; exact hT.new _ _ _ hst
    have hnW : ∀ k, M W k → M w k := by rw [← eW]; exact fun k hk => hT.own l w _ k hst hk
    have HFW := Lib.hid (FrM.of_below (M := M) b1 (fun k _ hk => hnW k hk))
    have hbox : ¬ M W w.heap.size := fun hk => by have := hT.lt l w _ hst (hnW _ hk); omega
    have HF := Lib.hid (hf l t _ W (by omega) hokt hstW (by omega) (h.on b1))
    have HQ := Lib.hid q1
    have HEW := Lib.hid eW
    have HSW := Lib.hid (hs.on b1)
    obtain ⟨x0, x1, x2, x3, x4, _⟩ := q1
    clear eW b1 h hs hf
    go_enter Tryd.func56, Tryd.ntmps56
    go_wp2_with fail
    rw [HEW.out]
    go_wp2_with fail
    refine HF.out.mono ?_
    rintro e w1 ⟨rfl, hs1, hf1⟩
    have HS1 := Lib.hid hs1
    have HF1 := Lib.hid hf1
    have HKW := Lib.hid (HSW.out.keep (hT.keeps hstW hf1))
    obtain ⟨y0, y1, y2, y3, y4, _⟩ := HQ.out.frM hf1 hbox
    have hbox1 : ¬ M w1 w.heap.size := fun hk => hbox (hf1.own _ (by omega) hk)
    have hw1 := hf1.size
    have hl2 := t.args_le
    clear hs1 hf1
    go_wp2_with fail
    clear y0 y1 y2 y3 y4 x0 x1 x2 x3 x4
    go_loopw [12] (fun i wr => ∃ k : Nat, k ≤ t.args.length ∧ i = .int .i64 k ∧ St (l ++ [t] ++ nodesL (t.args.take k)) wr ∧ FrM M w1 wr) (fun i _ => t.args.length - (intOf i).toNat)
    case atStart => exact ⟨0, Nat.zero_le _, rfl, by simpa [nodesL] using HS1.out, ⟨rfl, rfl, rfl, Nat.le_refl _, fun _ _ _ => rfl, fun _ _ h => h⟩⟩
    case round =>
      obtain ⟨k, hk, rfl, hsk, hfk⟩ := hrel
      have HSK := Lib.hid hsk
      have HFK := Lib.hid hfk
      have hzk := hfk.size
      by_cases hlt : k < t.args.length
      · obtain ⟨g, off, A3, c3, e3, hgb, hg, m0, m1, m2, m3, hx⟩ := (HKW.out.keep (hT.keeps HS1.out hfk)).at k hlt
        subst e3
        have hmem : t.args[k] ∈ t.args := List.getElem_mem hlt
        obtain ⟨V, eV, q2, b2, z2⟩ := one_box wr (.int .i64 t.args[k].form) (.int .i64 t.args[k].num) (.string t.args[k].name) (.slice A3 t.args[k].args.length c3) 25
        have hsV : St (l ++ [t] ++ nodesL (t.args.take k)) V := by rw [← eV]; exact hT.new _ _ _ hsk
        have hnV : ∀ k', M V k' → M wr k' := by rw [← eV]; exact fun k' hk' => hT.own _ wr _ k' hsk hk'
        have HFV := Lib.hid (FrM.of_below (M := M) b2 (fun k' _ hk' => hnV k' hk'))
        have hsl := sumSz_le t.args (k + 1)
        have hst := sumSz_take hlt
        have hsa := sumSz_args t
        have HC := Lib.hid (IH.out _ _ hmem _ V (by simp only [List.length_append, List.length_cons, List.length_nil, nodesL_len]; omega) hsV (by omega) (hx.on b2))
        have HTK := Lib.hid (nodesL_take hlt)
        have HEV := Lib.hid eV
        have hki : (k : Int) < (t.args.length : Int) := by omega
        have hk0 : (0 : Int) ≤ (k : Int) := by omega
        obtain ⟨u0, u1, u2, u3, u4, _⟩ := q2
        clear hx hsk hfk eV b2 hsV hnV
        generalize hxx : t.args[k] = x at *
        generalize x.form = xf, x.num = xn, x.name = xs, x.args.length = xl at *
        go_wp2_with fail
        rw [HEV.out]
        refine HC.out.mono ?_
        rintro e w2 ⟨rfl, hs2, hf2⟩
        have HS2 := Lib.hid hs2
        have HF2 := Lib.hid (HFK.out.trans (HFV.out.trans hf2))
        clear hs2 hf2
        go_wp2
        go_roundw
        case rel => exact ⟨k + 1, by omega, by go_num, by rw [HTK.out, ← List.append_assoc]; exact HS2.out, HF2.out⟩
        case measure => simp [intOf]; omega
      · have hd : decide (k < t.args.length) = false := by simpa using hlt
        have hkl : t.args.take k = t.args := List.take_of_length_le (by omega)
        rw [hkl] at HSK
        clear hkl hsk hfk
        go_wp2
        go_end0
        exact ⟨rfl, by rw [nodes_args]; simpa using HSK.out, HFW.out.trans (HF1.out.trans HFK.out)⟩
end Go.Proofs.YtbdfjboojokgdaaDoor
