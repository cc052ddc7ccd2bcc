/- The contracts of slices.Clone, DeleteFunc at rows of puts (types.Subst, chapter 4). Condition: what the function tells of each. -/
import Derived.Test.YtbdfjboojokgdaaDoorJU23
import Derived.Lib.SliceRun
namespace Go.Proofs.YtbdfjboojokgdaaDoor
open Go.RowKit

/-- The first of a row. -/
theorem row_cut {B : Nat} {w : World} {e : TypeId} {A : Option Addr} {n c : Nat} {xs : List Value} (h : w.ownsRow B e 1 (.slice A n c) n xs) (i : Nat) (hi : i ≤ n) : w.ownsRow B e 1 (.slice A i c) i (xs.take i) := by
  refine ⟨by rw [List.length_take, h.1]; omega, ?_⟩
  rcases h.2 with ⟨h1, h2⟩ | ⟨g, cap, cur, h1, h2, h3, h4, h5, h6, h7⟩
  · injection h1 with e1 e2 e3
    subst e1; subst e3
    obtain rfl : i = 0 := by omega
    exact .inl ⟨rfl, rfl⟩
  · injection h1 with e1 e2 e3
    subst e1; subst e3
    refine .inr ⟨g, c, cur, rfl, h2, h3, by omega, h5, h6, ?_⟩
    rw [← h7, List.take_take]
    congr 1; omega
theorem setCells_row {B : Nat} {e : TypeId} {g n c : Nat} : ∀ (us : List Value) (o : Nat) (w : World) (xs : List Value), w.ownsRow B e 1 (.slice (some ⟨g, 0, none⟩) n c) n xs → ∃ ys, (w.setCells g o us).ownsRow B e 1 (.slice (some ⟨g, 0, none⟩) n c) n ys ∧ ys.take o = xs.take o ∧ w.grownBy (w.setCells g o us) (some g)
  | [], o, w, xs, h => ⟨xs, h, rfl, ⟨rfl, rfl, rfl, Nat.le_refl _, fun _ _ _ => rfl⟩⟩
  | u :: r, o, w, xs, h => by
    obtain ⟨h1, h2⟩ := World.ownsRow.stored h o u
    obtain ⟨ys, h3, h4, h5⟩ := setCells_row r (o + 1) _ _ h1
    refine ⟨ys, h3, ?_, h2.trans h5⟩
    have e1 : ys.take o = (ys.take (o + 1)).take o := by rw [List.take_take]; congr 1; omega
    rw [e1, h4, List.take_take, List.take_set_of_le (by omega), show min o (o + 1) = o by omega]
theorem Tryd.info113 : (Tryd.prog.info? 113).map (fun i => (i.zero, i.size, i.bytes)) = some (some (.pointer none), 1, 8) := by kernel_rfl
theorem zero113 (y : World) : (zeroValue 113).run Tryd.prog y = .ok (.pointer none) y := Tryd.zeroValue113 y
set_option maxRecDepth 100000 in
set_option maxHeartbeats 1000000 in
theorem cloneF_any {B : Nat} {w : World} {v : Value} {l : List PutI} (hrow : w.ownsRow B 113 1 v l.length (ptrs l)) (hB : B ≤ w.heap.size) (hl : l.length ≤ 1099511627776) (h0 : 0 < l.length) :
    Calls Tryd.prog 139 #[v] w fun e w' => (∃ g c, e = .returned (.slice (some ⟨g, 0, none⟩) l.length c) ∧ w.heap.size ≤ g ∧ w'.ownsRow B 113 1 (.slice (some ⟨g, 0, none⟩) l.length c) l.length (ptrs l)) ∧ Below w.heap.size w w' := by
  obtain ⟨i0, hi, hz0, hzs, hzb⟩ := info_parts' Tryd.info113
  obtain ⟨g, c, rfl, _, hg⟩ := World.ownsRow.form hrow h0
  have hcs := World.ownsRow.cells hrow (g := g) rfl
  obtain ⟨W, eW, hW, bW, zW⟩ : ∃ W, w.alloc (.cells #[] 113) = W ∧ W.ownsRow B 113 1 (.slice (some ⟨w.heap.size, 0, none⟩) 0 0) 0 [] ∧ Below w.heap.size w W ∧ W.heap.size = w.heap.size + 1 :=
    ⟨_, rfl, ⟨rfl, .inr ⟨w.heap.size, 0, #[], rfl, hB, (MapKept.heap_alloc w _).1, Nat.le_refl _, Nat.zero_le _, rfl, rfl⟩⟩, below_new w _, by simp⟩
  have HNEW : Hid (∀ (j : Nat) (u : Value), (ptrs l)[j]? = some u → W.cell? ((⟨g, 0, none⟩ : Addr).add j) = some u) := fun j u hu => by
    have h9 := hcs j u hu
    rw [add_g0] at h9 ⊢
    exact (bW.cell (p := ⟨g, j, none⟩) hg).trans h9
  have HONE : Hid (∀ u ∈ ptrs l, u.oneCell' = true) := fun u hu => by
    obtain ⟨p, _, rfl⟩ := List.mem_map.1 hu; rfl
  have HLEN : Hid ((ptrs l).length = l.length * 1) := by show _ = _; simp [ptrs]
  have HOWN := Lib.hid hW
  have HEW := Lib.hid eW
  have HBW := Lib.hid bW
  have HZW := Lib.hid zW
  have hne : (binOp .eql 112 (.slice (some ⟨g, 0, none⟩) l.length c) (.slice none 0 0)).run Tryd.prog w = .ok (.bool false) w := Lib.run_eql_slice_nil w 112 113 _ _ _ _ _ Tryd.underlying112
  clear hcs eW hW bW zW hrow
  go_enter Tryd.func139, Tryd.ntmps139
  generalize hptl : ptrs l = pl at *
  go_wp2_with (at_builtin; rw [HEW.out]; refine wpList_append_lies _ rfl (.tmp 5) (.tmp 6) 112 rfl B 113 i0 (.pointer none) 1 8 Tryd.underlying112 hi hz0 hzs hzb rfl (by decide) (.slice (some ⟨w.heap.size, 0, none⟩) 0 0) 0 [] rfl HOWN.out ⟨g, 0, none⟩ l.length c pl rfl HLEN.out HNEW.out HONE.out h0 (by unfold maxLen; omega) (by omega) (by have := HBW.out.size; omega) (w.heap.size + 1) HZW.out ?_; intro g2 cap w2 h2 hg2 hat _; have H2 := Lib.hid h2; have HAT := Lib.hid hat; have HB2 := Lib.hid (HBW.out.grown hg2 HBW.out.size (fun k e => by injection e with e; subst e; exact Nat.le_refl _)); clear h2 hg2 hat)
  go_ret
  refine ⟨⟨g2, cap, by simp, ?_, by simpa using H2.out⟩, HB2.out⟩
  have h9 := HBW.out.size
  have h8 := HZW.out
  rcases HAT.out with h | h
  · have : w.heap.size = g2 := by simpa [Value.ownBlock] using h
    omega
  · omega
/-! ### DeleteFunc -/
def keptP (p : PutI → Bool) (l : List PutI) (j : Nat) : List PutI := (l.take j).filter (fun x => !p x)
theorem kept_yes {p : PutI → Bool} {l : List PutI} {j : Nat} (h : j < l.length) (hp : p l[j] = true) : keptP p l (j + 1) = keptP p l j := by
  unfold keptP; rw [List.take_succ_eq_append_getElem h, List.filter_append]; simp [hp]
theorem kept_no {p : PutI → Bool} {l : List PutI} {j : Nat} (h : j < l.length) (hp : p l[j] = false) : keptP p l (j + 1) = keptP p l j ++ [l[j]] := by
  unfold keptP; rw [List.take_succ_eq_append_getElem h, List.filter_append]; simp [hp]
theorem kept_start {p : PutI → Bool} {l : List PutI} {k : Nat} (h : k < l.length) (hp : p l[k] = true) (hno : ∀ j (h : j < l.length), j < k → p l[j] = false) : keptP p l (k + 1) = l.take k := by
  rw [kept_yes h hp]
  unfold keptP
  rw [List.filter_eq_self]
  intro x hx
  obtain ⟨j, hj, rfl⟩ := List.mem_iff_getElem.1 hx
  rw [List.length_take] at hj
  rw [List.getElem_take, hno j (by omega) (by omega)]; rfl
theorem kept_none {p : PutI → Bool} {l : List PutI} (h : ∀ x ∈ l, p x = false) : l.filter (fun x => !p x) = l := by
  rw [List.filter_eq_self]; intro x hx; rw [h x hx]; rfl
/-- How a row stands while some of it is struck. -/
structure DelSt (B g c : Nat) (p : PutI → Bool) (l : List PutI) (j : Nat) (w : World) : Prop where
  lt : (keptP p l j).length < j
  row : ∃ ys, w.ownsRow B 113 1 (.slice (some ⟨g, 0, none⟩) l.length c) l.length ys ∧ ys.take (keptP p l j).length = ptrs (keptP p l j) ∧ ys.drop j = ptrs (l.drop j)
theorem DelSt.on {B g c : Nat} {p : PutI → Bool} {l : List PutI} {j : Nat} {w w' : World} (h : DelSt B g c p l j w) (hb : Below w.heap.size w w') : DelSt B g c p l j w' := by
  obtain ⟨h1, ys, h2, h3⟩ := h
  exact ⟨h1, ys, own_below h2 hb, h3⟩
theorem DelSt.cell {B g c : Nat} {p : PutI → Bool} {l : List PutI} {j : Nat} {w : World} (h : DelSt B g c p l j w) (hj : j < l.length) : g < w.heap.size ∧ w.cell? ⟨g, j, none⟩ = some (ptrV l[j].1) ∧ (w.cell? ⟨g, (keptP p l j).length, none⟩).isSome = true ∧ w.frozen? ⟨g, (keptP p l j).length, none⟩ = false := by
  obtain ⟨h1, ys, h2, h3, h4⟩ := h
  have hl : ys.length = l.length * 1 := h2.1
  have hc := World.ownsRow.cells h2 (g := g) rfl
  refine ⟨(World.ownsRow.lt h2 g rfl).2, ?_, ?_, World.ownsRow.frozenAt h2 _⟩
  · have h9 := hc j (ptrV l[j].1) (by
      have : (ys.drop j)[0]? = (ptrs (l.drop j))[0]? := by rw [h4]
      rw [List.getElem?_drop] at this
      simp only [Nat.add_zero] at this
      rw [this]
      simp [ptrs, hj])
    rwa [add_g0] at h9
  · have h9 := hc (keptP p l j).length ys[(keptP p l j).length] (by simp)
    rw [add_g0] at h9
    rw [h9]; rfl
theorem DelSt.skip {B g c : Nat} {p : PutI → Bool} {l : List PutI} {j : Nat} {w : World} (h : DelSt B g c p l j w) (hj : j < l.length) (hp : p l[j] = true) : DelSt B g c p l (j + 1) w := by
  obtain ⟨h1, ys, h2, h3, h4⟩ := h
  refine ⟨by rw [kept_yes hj hp]; omega, ys, h2, by rw [kept_yes hj hp]; exact h3, ?_⟩
  rw [← List.drop_drop, h4]
  simp [ptrs]
theorem DelSt.put {B g c : Nat} {p : PutI → Bool} {l : List PutI} {j : Nat} {w : World} (h : DelSt B g c p l j w) (hj : j < l.length) (hp : p l[j] = false) : DelSt B g c p l (j + 1) (w.setCell ⟨g, (keptP p l j).length, none⟩ (ptrV l[j].1)) := by
  obtain ⟨h1, ys, h2, h3, h4⟩ := h
  have hl : ys.length = l.length * 1 := h2.1
  refine ⟨by rw [kept_no hj hp, List.length_append]; simp; omega, ys.set (keptP p l j).length (ptrV l[j].1), (World.ownsRow.stored h2 _ _).1, ?_, ?_⟩
  · rw [kept_no hj hp, List.length_append]
    simp only [List.length_cons, List.length_nil, Nat.zero_add]
    rw [List.take_succ_eq_append_getElem (by rw [List.length_set]; omega), List.take_set_of_le (Nat.le_refl _), h3]
    simp [ptrs]
  · rw [List.drop_set_of_lt (by omega), ← List.drop_drop, h4]
    simp [ptrs]
set_option maxRecDepth 100000 in
set_option maxHeartbeats 1000000 in
theorem deleteF_any {B g c : Nat} {w : World} {l : List PutI} {gf : FuncId} {cap : Array Value} {R : World → Prop} {p : PutI → Bool} (hrow : w.ownsRow B 113 1 (.slice (some ⟨g, 0, none⟩) l.length c) l.length (ptrs l)) (hp : PredF gf cap R l p) (hR : R w) (hRs : ∀ y i u, R y → R (y.setCell ⟨g, i, none⟩ u)) (hl : l.length ≤ 1099511627776) :
    Calls Tryd.prog 138 #[.slice (some ⟨g, 0, none⟩) l.length c, .func (.func gf) #[] cap] w fun e w' => e = .returned (.slice (some ⟨g, 0, none⟩) (l.filter (fun x => !p x)).length c) ∧ w'.ownsRow B 113 1 (.slice (some ⟨g, 0, none⟩) (l.filter (fun x => !p x)).length c) (l.filter (fun x => !p x)).length (ptrs (l.filter (fun x => !p x))) ∧ w.grownBy w' (some g) := by
  have HI := Lib.hid (indexF_any hrow hp hR hl)
  have hcf := hp.cf
  have HP := Lib.hid hp
  have HROW := Lib.hid hrow
  have HR := Lib.hid hR
  have HRS := Lib.hid hRs
  obtain ⟨A', c', e9, hlc, hcm⟩ := own_cap hrow
  injection e9 with e7 _ e9
  subst e7; subst e9
  unfold maxLen at hcm
  clear hrow hp hR hRs
  go_enter Tryd.func138, Tryd.ntmps138
  go_wp2_with fail
  (with_reducible refine HI.out.mono ?_)
  rintro e y ⟨⟨k, hk, rfl, hpk, hno⟩ | ⟨rfl, hno⟩, hb⟩
  · have HB := Lib.hid hb
    have hne : ((k : Int) == -1) = false := beq_eq_false_iff_ne.2 (by omega)
    have hks := kept_start hk hpk hno
    have hkl : (keptP p l (k + 1)).length = k := by rw [hks, List.length_take]; omega
    have HS : Hid (DelSt B g c p l (k + 1) y) := ⟨by omega, ptrs l, own_below HROW.out hb, by rw [hkl, hks]; simp [ptrs], by simp [ptrs]⟩
    have HG : Hid (w.grownBy y (some g)) := ⟨hb.os, hb.tape, hb.output, hb.size, fun i hi _ => hb.block i hi⟩
    have HRY := Lib.hid (HP.out.on _ _ HR.out hb)
    have HKL := Lib.hid hkl
    clear hb hpk hno hks hkl HI
    go_wp2
    go_loopw [5, 6] (fun s5 s6 wr => ∃ j : Nat, j ≤ l.length ∧ s5 = .int .i64 ((keptP p l j).length : Nat) ∧ s6 = .int .i64 j ∧ DelSt B g c p l j wr ∧ w.grownBy wr (some g) ∧ R wr) (fun _ s6 _ => l.length - (intOf s6).toNat)
    case atStart => exact ⟨k + 1, by omega, by rw [HKL.out], by go_num, HS.out, HG.out, HRY.out⟩
    case round =>
      obtain ⟨j, hj, rfl, rfl, hs, hg, hr⟩ := hrel
      have HSJ := Lib.hid hs
      have HGJ := Lib.hid hg
      have HRJ := Lib.hid hr
      have hcl := hs.lt
      have hmi : (0 : Int) ≤ ((keptP p l j).length : Int) := by omega
      by_cases hlt : j < l.length
      · obtain ⟨hgw, k0, k1, k2⟩ := hs.cell hlt
        have hji : (j : Int) < (l.length : Int) := by omega
        have hj0 : (0 : Int) ≤ (j : Int) := by omega
        have hci : ((keptP p l j).length : Int) < (l.length : Int) := by omega
        have HC := Lib.hid (HP.out.tell l[j] (List.getElem_mem hlt) wr hr)
        have HK1 := Lib.hid k1
        have HK2 := Lib.hid k2
        clear hs hg hr k1 k2
        go_wp2_with fail
        (with_reducible refine HC.out.mono ?_)
        rintro e q ⟨rfl, hbq⟩
        have HQ := Lib.hid (HSJ.out.on hbq)
        have HGQ : Hid (w.grownBy q (some g)) := HGJ.out.trans ⟨hbq.os, hbq.tape, hbq.output, hbq.size, fun i hi _ => hbq.block i hi⟩
        have HRQ := Lib.hid (HP.out.on _ _ HRJ.out hbq)
        clear hbq k0
        cases hq : p l[j] with
        | true =>
          rw [hq] at HC
          have HN := Lib.hid (HQ.out.skip hlt hq)
          have HE := Lib.hid (congrArg List.length (kept_yes hlt hq))
          go_wp2
          go_roundw
          case rel => exact ⟨j + 1, by omega, by rw [HE.out], by go_num, HN.out, HGQ.out, HRQ.out⟩
          case measure => simp [intOf]; omega
        | false =>
          rw [hq] at HC
          obtain ⟨hgq, _, c1, c2⟩ := HQ.out.cell hlt
          obtain ⟨cv, c3⟩ := Option.isSome_iff_exists.1 c1
          have HN := Lib.hid (HQ.out.put hlt hq)
          have HE : Hid ((keptP p l (j + 1)).length = (keptP p l j).length + 1) := by rw [kept_no hlt hq, List.length_append]; exact rfl
          have HGN : Hid (w.grownBy (q.setCell ⟨g, (keptP p l j).length, none⟩ (ptrV l[j].1)) (some g)) := by
            obtain ⟨ys, h2, _⟩ := HQ.out.row
            exact HGQ.out.trans (World.ownsRow.stored h2 _ _).2
          have HRN := Lib.hid (HRS.out q (keptP p l j).length (ptrV l[j].1) HRQ.out)
          unfold ptrV at *
          generalize hkp : (keptP p l j).length = kp at *
          clear c1
          go_wp2
          go_roundw
          case rel => exact ⟨j + 1, by omega, by rw [HE.out]; go_num, by go_num, HN.out, HGN.out, HRN.out⟩
          case measure => simp [intOf]; omega
      · obtain rfl : j = l.length := by omega
        have hkf : keptP p l l.length = l.filter (fun x => !p x) := by unfold keptP; rw [List.take_length]
        obtain ⟨ys, h2, h3, _⟩ := hs.row
        rw [hkf] at h3 hcl
        have HKF := Lib.hid hkf
        obtain ⟨zs, z1, z2, z3⟩ := setCells_row (List.replicate (l.length - (l.filter (fun x => !p x)).length) (.pointer none)) (l.filter (fun x => !p x)).length wr ys h2
        have hclr : ∀ ty, (Builtin.clear_ #[112] ty #[.slice (some ⟨g, (l.filter (fun x => !p x)).length, none⟩) (l.length - (l.filter (fun x => !p x)).length) (c - (l.filter (fun x => !p x)).length)]).run Tryd.prog wr = .ok (.tuple #[]) (wr.setCells g (l.filter (fun x => !p x)).length (List.replicate (l.length - (l.filter (fun x => !p x)).length) (.pointer none))) := fun ty => by
          have hyl : ys.length = l.length * 1 := h2.1
          have hc9 := World.ownsRow.cells h2 (g := g) rfl
          refine Lib.run_clear_slice wr 112 113 ty (.pointer none) Tryd.underlying112 zero113 rfl rfl g _ _ _ (by omega) (fun i hi => ?_) (fun i _ => World.ownsRow.frozenAt h2 _)
          have h8 := hc9 ((l.filter (fun x => !p x)).length + i) ys[(l.filter (fun x => !p x)).length + i] (by simp)
          rw [add_g0] at h8
          rw [h8]; rfl
        have HZ1 := Lib.hid (row_cut z1 (l.filter (fun x => !p x)).length (by omega))
        have HZ2 : Hid (zs.take (l.filter (fun x => !p x)).length = ptrs (l.filter (fun x => !p x))) := z2.trans h3
        have HZ3 := Lib.hid (hg.trans z3)
        rw [hkf]
        have hfn : (0 : Int) ≤ ((l.filter (fun x => !p x)).length : Int) := by omega
        have hfc : ¬ c = (l.filter (fun x => !p x)).length := by omega
        clear hs hg hr h2 h3 z1 z2 z3 hkf hmi
        generalize hfle : (l.filter (fun x => !p x)).length = fl at *
        have HFL := Lib.hid hfle
        clear hfle
        generalize wr.setCells g fl (List.replicate (l.length - fl) (.pointer none)) = X at *
        have hjj : ¬ ((l.length : Nat) : Int) < (l.length : Int) := by omega
        have hfl1 : (fl : Int) ≤ (l.length : Int) := by omega
        have hfl2 : (fl : Int) ≤ (c : Int) := by omega
        go_wp2
        go_ret
        rw [HFL.out]
        exact ⟨rfl, by have h9 := HZ1.out; rw [HZ2.out] at h9; exact h9, HZ3.out⟩
  · have hne : ((-1 : Int) == -1) = true := rfl
    have HE : Hid (l.filter (fun x => !p x) = l) := kept_none hno
    have HRW : Hid (y.ownsRow B 113 1 (.slice (some ⟨g, 0, none⟩) l.length c) l.length (ptrs l)) := own_below HROW.out hb
    have HG : Hid (w.grownBy y (some g)) := ⟨hb.os, hb.tape, hb.output, hb.size, fun i hi _ => hb.block i hi⟩
    clear hb hno
    go_wp2
    go_ret
    rw [HE.out]
    exact ⟨rfl, HRW.out, HG.out⟩
end Go.Proofs.YtbdfjboojokgdaaDoor
