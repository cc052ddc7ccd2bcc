/- Slices of numbers, as a call is handed them. No conditions but those that each theorem names. The walk of TreadVars (chapter 5): it tells true for every slice of numbers and every number. Condition: the list of symbols stands in memory as the program's text lays it. -/
import Derived.Test.YtbdfjboojokgdaaDoorJV16
import Derived.ProofKit
import Derived.OpenShut
import Derived.Test.YtbdfjboojokgdaaDoorJV35
import Derived.Test.YtbdfjboojokgdaaDoorJV47
import Derived.Test.YtbdfjboojokgdaaDoorJV48
namespace Go.Proofs.YtbdfjboojokgdaaDoor
open Go.RowKit

/-- A slice that reads as some numbers. -/
def SomeInts (w : World) (v : Value) : Prop := ∃ zs, IntsAt (fun b => b < w.heap.size) w v zs
theorem ints_of_cells {W : World} (x : Addr) (len cap : Nat) (zs : List Int) (hl : len ≤ cap) (hm : cap ≤ maxLen) (hz : zs.length = cap) (hcell : ∀ i, i < zs.length → W.cell? (x.add i) = some (.int .i64 (zs.getD i 0))) (hwz : ∀ n ∈ zs, (Lit.int .i64 n).wf = true) :
    IntsAt (fun b => b < W.heap.size) W (.slice (some x) len cap) (zs.take len) := by
  have hlen : (zs.take len).length = len := by rw [List.length_take]; omega
  refine ⟨some x, cap, by rw [hlen], by omega, hm, fun z hz => ?_, ?_⟩
  · have := Go.bounds_i64 (hwz z (List.mem_of_mem_take hz)); omega
  · rcases Nat.eq_zero_or_pos len with h0 | h0
    · subst h0; exact .inl (by simp)
    · obtain ⟨b, off, spot⟩ := x
      have hc := hcell 0 (by omega)
      have hspot : spot = none := by simpa [Addr.add] using World.cell?_spot hc
      subst hspot
      have hb : b < W.heap.size := by
        have := World.block_lt_of_cell? W _ hc
        simpa [Addr.add] using this
      refine .inr ⟨b, off, rfl, hb, hb, fun i hi => ?_⟩
      have h9 := hcell i (by omega)
      rw [Go.WideShapes.add_plain] at h9
      rw [h9, List.getD_eq_getElem?_getD, List.getElem?_eq_getElem (by omega)]
      simp
theorem ints_nil (W : World) : SomeInts W (.slice none 0 0) := ⟨[], none, 0, rfl, Nat.le_refl _, Nat.zero_le _, fun z hz => absurd hz (by simp), .inl rfl⟩
end Go.Proofs.YtbdfjboojokgdaaDoor
namespace Go.Proofs.YtbdfjboojokgdaaDoor
open Go.RowKit Lx

theorem seven_cV {w : World} {b : Nat} {v0 v1 v2 v3 v4 v5 v6 : Value} {t : TypeId} (h : w.heap[b]? = some (.cells #[v0, v1, v2, v3, v4, v5, v6] t)) : w.cell? ⟨b, 0, none⟩ = some v0 ∧ w.cell? ⟨b, 2, none⟩ = some v2 ∧ b < w.heap.size :=
  ⟨by simp [World.cell?, h], by simp [World.cell?, h], lt_of_block h⟩
theorem retV {w X Y : World} (h : Below w.heap.size w X) (h2 : Below X.heap.size X Y) : TrueB w (.returned (.bool true)) Y := ⟨rfl, h.trans (h2.mono h.size)⟩
/-- A place in an own row of texts. -/
theorem OwnS.at {base : Nat} {w : World} {A : Option Addr} {n c : Nat} {l : List ByteArray} (h : OwnS base w (.slice A n c) l) {i : Nat} (hi : i < l.length) : n = l.length ∧ ∃ b o, A = some ⟨b, o, none⟩ ∧ ∀ q, Below w.heap.size w q → q.cell? ⟨b, o + i, none⟩ = some (.string l[i]) := by
  obtain ⟨A', c', e, _, _, hr⟩ := h.strs
  injection e with e1 e2 e3
  subst e1; subst e2; subst e3
  refine ⟨rfl, ?_⟩
  rcases hr with h9 | ⟨b, o, rfl, _, hlt, hc⟩
  · rw [h9] at hi; simp at hi
  · exact ⟨b, o, rfl, fun q hq => (hq.cell (p := ⟨b, o + i, none⟩) hlt).trans (hc i hi)⟩
theorem StrsAt.len {P : Nat → Prop} {w : World} {A : Option Addr} {n c : Nat} {l : List ByteArray} (h : StrsAt P w (.slice A n c) l) : n = l.length := by
  obtain ⟨A', c', e, _⟩ := h
  injection e
theorem StrsAt.most {P : Nat → Prop} {w : World} {v : Value} {l : List ByteArray} (h : StrsAt P w v l) : l.length ≤ 9223372036854775807 := by
  obtain ⟨A', c', e, h1, h2, _⟩ := h
  unfold maxLen at h2
  omega
theorem has_yes {P : Nat → Prop} {l : List ByteArray} {x : ByteArray} {v : Value} {q : World} (h : StrsAt P q v l) (hx : x ∈ l) : Calls Tryd.prog 30 #[v, .string x] q fun e q1 => e = .returned (.bool true) ∧ Below q.heap.size q q1 := (has_any _ l x v q h).mono (by
  rintro e q1 ⟨rfl, rfl⟩
  rw [hasB_mem.2 hx]
  exact ⟨rfl, Below.refl _ _⟩)
theorem has_not {P : Nat → Prop} {l : List ByteArray} {x : ByteArray} {v : Value} {q : World} (h : StrsAt P q v l) (hx : x ∉ l) : Calls Tryd.prog 30 #[v, .string x] q fun e q1 => e = .returned (.bool false) ∧ Below q.heap.size q q1 := (has_any _ l x v q h).mono (by
  rintro e q1 ⟨rfl, rfl⟩
  have : hasB l x = false := by cases hq : hasB l x with
    | false => rfl
    | true => exact absurd (hasB_mem.1 hq) hx
  rw [this]
  exact ⟨rfl, Below.refl _ _⟩)
theorem StrsAt.place {P : Nat → Prop} {w : World} {A : Option Addr} {n c : Nat} {l : List ByteArray} (h : StrsAt P w (.slice A n c) l) {i : Nat} (hi : i < l.length) : n = l.length ∧ n ≤ c ∧ ∃ b o, A = some ⟨b, o, none⟩ ∧ ∀ q, Below w.heap.size w q → q.cell? ⟨b, o + i, none⟩ = some (.string l[i]) ∧ StrsAt (fun _ => True) q (.slice (some ⟨b, o, none⟩) i c) (l.take i) := by
  obtain ⟨A', c', e, h1, h2, hr⟩ := h
  injection e with e1 e2 e3
  subst e1; subst e2; subst e3
  refine ⟨rfl, h1, ?_⟩
  rcases hr with h9 | ⟨b, o, rfl, _, hlt, hc⟩
  · rw [h9] at hi; simp at hi
  · have hk : ∀ q, Below w.heap.size w q → ∀ j (hj : j < l.length), q.cell? ⟨b, o + j, none⟩ = some (.string l[j]) := fun q hq j hj => (hq.cell (p := ⟨b, o + j, none⟩) hlt).trans (hc j hj)
    have hl : (l.take i).length = i := by rw [List.length_take]; omega
    refine ⟨b, o, rfl, fun q hq => ⟨hk q hq i hi, some ⟨b, o, none⟩, c, by rw [hl], by omega, h2, .inr ⟨b, o, rfl, trivial, Nat.lt_of_lt_of_le hlt hq.size, fun j hj => ?_⟩⟩⟩
    rw [List.getElem_take]
    exact hk q hq j (by omega)
theorem PsP.at {P : Nat → Prop} {w : World} {ps : List (ByteArray × Ty)} {A : Option Addr} {n c : Nat} (h : PsP P w ps (.slice A n c)) {i : Nat} (hi : i < ps.length) : ∃ b f m s A' l' c', A = some ⟨b, 0, none⟩ ∧ b < w.heap.size ∧ w.cell? ⟨b, i * 5 + 1, none⟩ = some (.int .i64 f) ∧ w.cell? ⟨b, i * 5 + 2, none⟩ = some (.int .i64 m) ∧ w.cell? ⟨b, i * 5 + 3, none⟩ = some (.string s) ∧ w.cell? ⟨b, i * 5 + 4, none⟩ = some (.slice A' l' c') ∧ TyAt P w ps[i].2 (.agg #[.int .i64 f, .int .i64 m, .string s, .slice A' l' c']) := by
  obtain ⟨A', c', e, hr⟩ := h
  injection e with e1 e2 e3
  subst e1
  rcases hr with h9 | ⟨b, rfl, hlt, _, hc⟩
  · rw [h9] at hi; simp at hi
  · obtain ⟨f, m, s, A2, l2, c2, k0, k1, k2, k3, k4, ht⟩ := hc i hi
    exact ⟨b, f, m, s, A2, l2, c2, rfl, hlt, k1, k2, k3, k4, ht⟩
theorem wantK_len : ∀ {ps : List (ByteArray × Ty)}, (∀ p ∈ ps, ∃ s : ByteArray, s.size ≤ 8 ∧ p.2 = .var s) → (wantK ps).length = ps.length
  | [], _ => rfl
  | p :: r, h => by
    obtain ⟨s, _, e⟩ := h p (List.mem_cons_self ..)
    have ih := wantK_len (fun x hx => h x (List.mem_cons_of_mem _ hx))
    have e2 : wantK (p :: r) = p.2.free ++ wantK r := by simp [wantK]
    rw [e2, e, free_var, List.length_append, ih]
    simp; omega
set_option maxRecDepth 100000 in
set_option maxHeartbeats 4000000 in
theorem treadVars_law (A : Option Addr) (len cap : Nat) (many : Int) (w : World) (hl : SomeInts w (.slice A len cap)) (hS : SymsIn w) (hm1 : -9223372036854775808 ≤ many) (hm2 : many ≤ 9223372036854775807) : Calls Tryd.prog 11 #[.slice A len cap, .int .i64 many] w (TrueB w) := by
  obtain ⟨zs, hz⟩ := hl
  have HA := Lib.hid (fun W => around_is many 5 W hm1 hm2 (by omega) (by omega))
  have hbd := aroundI_bd many 5 (by omega)
  obtain ⟨k, hk⟩ : ∃ k : Nat, aroundI many 5 = k := ⟨(aroundI many 5).toNat, by omega⟩
  rw [hk] at HA hbd
  have hk4 : k ≤ 4 := by omega
  have HG := Lib.hid (goodT_any _ _ zs w hz)
  obtain ⟨hG, hGs, hGd⟩ := goodZ_good zs
  have hsm := good_small hG
  have hsh := good_short hG
  have hpl := hG.pr_len
  have hfl := free_len (goodZ zs)
  have hcz := ctxS_size zs k
  have hplen := pairsZ_len zs k
  have hpv := pairs_var zs k
  have HBK := Lib.hid (fun q (hS : SymsIn q) => scheme_back (goodZ zs) zs k hG (by omega) (by omega) hk4 q hS)
  have HCT := Lib.hid (fun (q : World) (hb : Below w.heap.size w q) => context_any _ zs _ k q (hz.on hb) (by omega))
  have hmem := vars_mem (psL (pairsZ zs k)) (goodZ zs)
  have hnd := vars_nodup (psL (pairsZ zs k)) (goodZ zs)
  have hpsl : (psL (pairsZ zs k)).length = k := by rw [psL_len, pairsZ_len]
  have hadd : ∀ q : World, (Op.stringOp .add (ctxS zs k) ⟨(goodZ zs).pr.toArray⟩).run Tryd.prog q = .ok (.string (ctxS zs k ++ ⟨(goodZ zs).pr.toArray⟩)) q := fun q => run_string_add_sum q _ _ (by
    have : (⟨(goodZ zs).pr.toArray⟩ : ByteArray).size = (goodZ zs).pr.length := by show (goodZ zs).pr.toArray.size = _; simp
    rw [this]; omega)
  clear hk hplen hz hGd hG
  generalize hfr : (funs ((psL (pairsZ zs k)).map (·.2)) (goodZ zs)).free = fr at *
  generalize psL (pairsZ zs k) = ps at *
  generalize ctxS zs k = C at *
  generalize goodZ zs = t at *
  obtain rfl : k = ps.length := hpsl.symm
  have heq := eq_at
  have hgd := guard_at
  go_enter Tryd.func11, Tryd.ntmps11
  go_wp2_with fail
  (with_reducible refine (HA.out _).mono ?_)
  rintro e0 w0 ⟨rfl, rfl⟩
  go_wp2_with fail
  (with_reducible refine HG.out.mono ?_)
  rintro e y1 ⟨tv, rfl, ht, hb1⟩
  obtain ⟨f1, n1, s1, A1, l1, c1, rfl⟩ := ht.flat
  obtain ⟨V, eV, q1, b1, z1⟩ := one_box y1 (.int .i64 f1) (.int .i64 n1) (.string s1) (.slice A1 l1 c1) 25
  have hbV := hb1.trans (b1.mono hb1.size)
  have HQ := Lib.hid q1
  have HTV := Lib.hid (ht.all.on b1)
  have HEV := Lib.hid eV
  have HBV := Lib.hid hbV
  have HSV := Lib.hid (hS.on hbV)
  clear ht hb1 eV q1 b1 z1
  have HC : Hid (∀ q, Below V.heap.size V q → Calls Tryd.prog 50 #[.slice A len cap, .int .i64 ps.length] q fun e q1 => e = .returned (.string C) ∧ Below q.heap.size q q1) := fun q hq => HCT.out q (hbV.trans (hq.mono hbV.size))
  have HP : Hid (∀ q, Below V.heap.size V q → Calls Tryd.prog 31 #[.agg #[.int .i64 f1, .int .i64 n1, .string s1, .slice A1 l1 c1]] q fun e q1 => e = .returned (.string ⟨t.pr.toArray⟩) ∧ Below q.heap.size q q1) := fun q hq => print_any _ t _ q (HTV.out.on hq) hsm (by omega)
  have HR : Hid (∀ q, Below V.heap.size V q → Calls Tryd.prog 49 #[.string (C ++ ⟨t.pr.toArray⟩)] q fun e q1 => (∃ u, e = .returned (.tuple #[u, e00]) ∧ SchP fr ps (fun b => q.heap.size ≤ b) q1 u) ∧ Below q.heap.size q q1) := fun q hq => HBK.out q (HSV.out.on hq)
  clear hbV HCT HBK
  go_upto_region 3 with (fail)
  rw [HEV.out]
  clear HEV
  refine tvars_reg3 HQ HC HP hadd HR ?_
  rintro x0 x1 x2 x3 x4 x5 x6 x7 x8 x9 x10 x11 Y ⟨g, g2, Av, nv, cv, Ap, cp, f, n, s, A', l, c, rfl, rfl, hc1, hc2, hfv, hps, hbY⟩
  generalize y1.heap.size = g1 at *
  have HQY := Lib.hid (HQ.out.on hbY)
  have HTY := Lib.hid (HTV.out.on hbY)
  have HSY := Lib.hid (HSV.out.on hbY)
  have HBY := Lib.hid (HBV.out.trans (hbY.mono HBV.out.size))
  obtain ⟨a0, a2, hgY⟩ := seven_cV hc1
  obtain ⟨d0, d1, _, _, hg2Y⟩ := pair_cells hc2
  have HFV := Lib.hid hfv
  have HPS := Lib.hid hps
  have HA2 := Lib.hid a2
  have HA0 := Lib.hid a0
  have hple : ps.length ≤ 4 := hk4
  clear hc1 hc2 hfv hps hbY HC HP HR HQ HTV HSV HBV HA HG hm1 hm2 hcz hbd
  have HWL := Lib.hid (fun j => wantK_len (ps := ps.take j) (fun p hp => hpv p (List.mem_of_mem_take hp)))
  go_wp2
  go_loopw [9, 10] (fun v i wr => ∃ j : Nat, j ≤ ps.length ∧ i = .int .i64 j ∧ OwnS Y.heap.size wr v (wantK (ps.take j)) ∧ Below Y.heap.size Y wr) (fun _ i _ => ps.length - (intOf i).toNat)
  case atStart => exact ⟨0, Nat.zero_le _, rfl, OwnS.nil _ _, Below.refl _ _⟩
  case round =>
    obtain ⟨j, hj, rfl, ho, hb⟩ := hrel
    obtain ⟨Ao, co, rfl⟩ := own_form ho
    have HO := Lib.hid ho
    have HB := Lib.hid hb
    have hwl := HWL.out j
    rw [List.length_take] at hwl
    by_cases hlt : j < ps.length
    · obtain ⟨b, f', m', s', A2, l2, c2, rfl, hbl, k1, k2, k3, k4, hT⟩ := HPS.out.at hlt
      obtain ⟨sv, hsv, esv⟩ := hpv _ (List.getElem_mem hlt)
      have HF := Lib.hid (free_any _ ps[j].2 _ wr (hT.on hb) (by rw [esv]; show sv.size ≤ _; omega) (by rw [esv]; show 1 ≤ _; omega))
      have e0 := (hb.cell (p := ⟨g, 2, none⟩) hgY).trans HA2.out
      have e1 := (hb.cell (p := ⟨b, j * 5 + 1, none⟩) hbl).trans k1
      have e2 := (hb.cell (p := ⟨b, j * 5 + 2, none⟩) hbl).trans k2
      have e3 := (hb.cell (p := ⟨b, j * 5 + 3, none⟩) hbl).trans k3
      have e4 := (hb.cell (p := ⟨b, j * 5 + 4, none⟩) hbl).trans k4
      have HLW : Hid ((wantK (ps.take j)).length + ps[j].2.free.length ≤ 1048576) := by
        have : ps[j].2.free.length = 1 := by rw [esv, free_var]; rfl
        show _ ≤ _; omega
      have HWT := Lib.hid (wantK_take hlt)
      have hji : (j : Int) < (ps.length : Int) := by omega
      have hj0 : (0 : Int) ≤ (j : Int) := by omega
      clear k1 k2 k3 k4 hT ho hb hwl
      generalize ps[j].2.free = fj at *
      generalize wantK (List.take j ps) = wj at *
      go_wp2_with fail
      (with_reducible refine HF.out.mono ?_)
      rintro e x1 ⟨⟨u, rfl, hou⟩, hbu⟩
      have HO1 : Hid (OwnS Y.heap.size x1 (.slice Ao wj.length co) wj) := own_keep HO.out (fun g hg => hbu.block g (World.ownsRow.lt HO.out g hg).2)
      have HU := Lib.hid hou.src
      have HB1 := Lib.hid (HB.out.trans (hbu.mono HB.out.size))
      clear hou hbu
      go_wp2_with (at_builtin; refine wpList_append_strs rfl (.tmp 42) (.tmp 49) rfl Y.heap.size (.slice Ao wj.length co) u wj fj rfl rfl HO1.out HU.out HLW.out HB1.out.size ?_; intro v' w' hO2 hG2; have HO2 := Lib.hid hO2; have HB2 := Lib.hid (HB1.out.grown hG2 HB1.out.size (fun g hg => (World.ownsRow.lt HO1.out g hg).1)); clear hO2 hG2)
      go_roundw
      case rel => exact ⟨j + 1, by omega, by go_num, by rw [HWT.out]; exact HO2.out, HB2.out⟩
      case measure => simp [intOf]; omega
    · obtain rfl : j = ps.length := by omega
      rw [List.take_length] at HO hwl ⊢
      have HLW : Hid ((wantK ps).length + t.free.length ≤ 1048576) := by show _ ≤ _; omega
      have HF := Lib.hid (free_any _ t _ wr (HTY.out.on hb) hsh (by omega))
      obtain ⟨_, q0, q1, q2, q3, _⟩ := HQY.out.on hb
      clear hwl HWL ho hb
      generalize wantK ps = wp at *
      go_wp2_with fail
      (with_reducible refine HF.out.mono ?_)
      rintro e x1 ⟨⟨u, rfl, hou⟩, hbu⟩
      have HO1 : Hid (OwnS Y.heap.size x1 (.slice Ao wp.length co) wp) := own_keep HO.out (fun g hg => hbu.block g (World.ownsRow.lt HO.out g hg).2)
      have HU := Lib.hid hou.src
      have HB1 := Lib.hid (HB.out.trans (hbu.mono HB.out.size))
      clear hou hbu q0 q1 q2 q3
      go_wp2_with (at_builtin; refine wpList_append_strs rfl (.tmp 51) (.tmp 53) rfl Y.heap.size (.slice Ao wp.length co) u wp t.free rfl rfl HO1.out HU.out HLW.out HB1.out.size ?_; intro v' Z hO2 hG2; have HO2 := Lib.hid hO2; have HB2 := Lib.hid (HB1.out.grown hG2 HB1.out.size (fun g hg => (World.ownsRow.lt HO1.out g hg).1)); clear hO2 hG2)
      obtain ⟨Aw, cw, rfl⟩ := own_form HO2.out
      have hWl : (wp ++ t.free).length ≤ 1048576 := by rw [List.length_append]; exact HLW.out
      have hfl9 := HFV.out.most
      generalize wp ++ t.free = W0 at *
      obtain rfl := HFV.out.len
      clear HO1 HU HB1 HF HO HB
      go_loopw [11] (fun i wq => ∃ j : Nat, j ≤ W0.length ∧ i = .int .i64 j ∧ Below Z.heap.size Z wq) (fun i _ => W0.length - (intOf i).toNat)
      case atStart => exact ⟨0, Nat.zero_le _, rfl, Below.refl _ _⟩
      case round =>
        obtain ⟨j, hj, rfl, hb⟩ := hrel
        have HBq := Lib.hid hb
        by_cases hlt : j < W0.length
        · obtain ⟨_, bw, ow, rfl, hwc⟩ := HO2.out.at hlt
          have HV : Hid (∀ q, Below wr.heap.size wr q → q.cell? ⟨g, 0, none⟩ = some (.slice Av fr.length cv)) := fun q hq => ((HB2.out.trans ((hb.trans (hq.mono hb.size)).mono HB2.out.size)).cell (p := ⟨g, 0, none⟩) hgY).trans HA0.out
          have HW : Hid (∀ q, Below wr.heap.size wr q → q.cell? ⟨bw, ow + j, none⟩ = some (.string W0[j])) := fun q hq => hwc q (hb.trans (hq.mono hb.size))
          have HH : Hid (∀ q, Below wr.heap.size wr q → Calls Tryd.prog 30 #[.slice Av fr.length cv, .string W0[j]] q fun e q1 => e = .returned (.bool true) ∧ Below q.heap.size q q1) := fun q hq => has_yes (HFV.out.keep (.of_below (HB2.out.trans ((hb.trans (hq.mono hb.size)).mono HB2.out.size)))) ((hmem _).2 (List.getElem_mem hlt))
          have hji : (j : Int) < (W0.length : Int) := by omega
          clear hb hwc
          go_upto_region 15 with (fail)
          refine tvars_reg15 hlt HV HW HH ?_
          rintro y0 y1 y2 y3 y4 y5 y6 q hq
          have HBx := Lib.hid (HBq.out.trans (hq.mono HBq.out.size))
          clear HV HW HH hq
          go_wp2_with fail
          go_roundw
          case rel => exact ⟨j + 1, by omega, by go_num, HBx.out⟩
          case measure => simp [intOf]; omega
        · have hji : ¬ (j : Int) < (W0.length : Int) := by omega
          clear hb
          go_wp2
          go_loopw [12] (fun i wq => ∃ j : Nat, j ≤ fr.length ∧ i = .int .i64 j ∧ Below Z.heap.size Z wq) (fun i _ => fr.length - (intOf i).toNat)
          case atStart => exact ⟨0, Nat.zero_le _, rfl, HBq.out⟩
          case round =>
            obtain ⟨i, hi, rfl, hb3⟩ := hrel
            have HB3 := Lib.hid hb3
            have hYw := HB2.out.trans (hb3.mono HB2.out.size)
            have HYW := Lib.hid hYw
            have e0 := (hYw.cell (p := ⟨g, 0, none⟩) hgY).trans HA0.out
            by_cases hlt3 : i < fr.length
            · obtain ⟨_, hcv, bv, ov, rfl, hfc⟩ := HFV.out.place hlt3
              have HV : Hid (∀ q, Below wr.heap.size wr q → q.cell? ⟨g, 0, none⟩ = some (.slice (some ⟨bv, ov, none⟩) fr.length cv)) := fun q hq => ((hYw.trans (hq.mono hYw.size)).cell (p := ⟨g, 0, none⟩) hgY).trans HA0.out
              have HW : Hid (∀ q, Below wr.heap.size wr q → q.cell? ⟨bv, ov + i, none⟩ = some (.string fr[i])) := fun q hq => (hfc q (hYw.trans (hq.mono hYw.size))).1
              have HH : Hid (∀ q, Below wr.heap.size wr q → Calls Tryd.prog 30 #[.slice Aw W0.length cw, .string fr[i]] q fun e q1 => e = .returned (.bool true) ∧ Below q.heap.size q q1) := fun q hq => has_yes (HO2.out.strs.keep (.of_below (hb3.trans (hq.mono hb3.size)))) ((hmem _).1 (List.getElem_mem hlt3))
              have HN : Hid (∀ q, Below wr.heap.size wr q → Calls Tryd.prog 30 #[.slice (some ⟨bv, ov, none⟩) i cv, .string fr[i]] q fun e q1 => e = .returned (.bool false) ∧ Below q.heap.size q q1) := fun q hq => has_not (hfc q (hYw.trans (hq.mono hYw.size))).2 (nodup_take hnd i hlt3)
              have hji3 : (i : Int) < (fr.length : Int) := by omega
              clear hb3 hYw hfc
              go_upto_region 20 with (fail)
              refine tvars_reg20 hlt3 hcv HV HW HH HN ?_
              rintro y0 y1 y2 y3 y4 y5 y6 y7 y8 y9 y10 y11 y12 y13 y14 y15 y16 y17 y18 q hq
              have HBx := Lib.hid (HB3.out.trans (hq.mono HB3.out.size))
              clear HV HW HH HN hq
              go_wp2_with fail
              go_roundw
              case rel => exact ⟨i + 1, by omega, by go_num, HBx.out⟩
              case measure => simp [intOf]; omega
            · have hji3 : ¬ (i : Int) < (fr.length : Int) := by omega
              have HL := Lib.hid (livesT_any wr (HSY.out.on hYw))
              clear hb3 hYw
              go_wp2_with (go_at_call 47; (with_reducible refine HL.out.mono ?_); rintro e q ⟨rfl, hq⟩)
              go_ret
              exact retV (HBY.out.trans (HYW.out.mono HBY.out.size)) hq
theorem treadVars_walk (A : Option Addr) (len cap : Nat) (many : Int) (w : World) (hl : SomeInts w (.slice A len cap)) (hm1 : -9223372036854775808 ≤ many) (hm2 : many ≤ 9223372036854775807) (hS : SymsIn w) : Calls Tryd.prog 11 #[.slice A len cap, .int .i64 many] w (TrueB w) := treadVars_law A len cap many w hl hS hm1 hm2
end Go.Proofs.YtbdfjboojokgdaaDoor
