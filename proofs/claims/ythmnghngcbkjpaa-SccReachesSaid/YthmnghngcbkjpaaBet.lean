/- between: which other groups each group uses. No conditions but those that each theorem names. -/
import Derived.Test.YthmnghngcbkjpaaNumb
import Derived.Test.YthmnghngcbkjpaaSea
namespace Go.Proofs.Ythmnghngcbkjpaa
open Go.RowKit
def pick (n : Nat) (inn : Nat → Nat) (g : Nat) (z : Int) : List Nat := if 0 ≤ z ∧ z < n ∧ inn z.toNat ≠ g then [inn z.toNat] else []
def usedOf (n : Nat) (L : Nat → List Int) (inn : Nat → Nat) (g : Nat) (l : List Nat) : List Nat := l.flatMap (fun t => (L t).flatMap (pick n inn g))
theorem pick_le (n : Nat) (inn : Nat → Nat) (g : Nat) (l : List Int) : (l.flatMap (pick n inn g)).length ≤ l.length := by
  induction l with
  | nil => simp
  | cons z l ih =>
    rw [List.flatMap_cons, List.length_append, List.length_cons]
    have : (pick n inn g z).length ≤ 1 := by unfold pick; split <;> simp
    omega
theorem usedOf_le (n : Nat) (L : Nat → List Int) (inn : Nat → Nat) (g : Nat) (l : List Nat) (h : ∀ i, (L i).length ≤ 1000) : (usedOf n L inn g l).length ≤ l.length * 1000 := by
  induction l with
  | nil => simp [usedOf]
  | cons t l ih =>
    have e : usedOf n L inn g (t :: l) = (L t).flatMap (pick n inn g) ++ usedOf n L inn g l := by simp [usedOf]
    rw [e, List.length_append, List.length_cons]
    have := pick_le n inn g (L t)
    have := h t
    omega
/-- Rows, of which those below g are done, and g is under way. -/
def rowsU (m : Nat) (full : Nat → List Nat) (g : Nat) (cur : List Nat) : List (List Nat) := (List.range m).map (fun j => if j < g then full j else if j = g then cur else [])
theorem rowsU_length (m : Nat) (full : Nat → List Nat) (g : Nat) (cur : List Nat) : (rowsU m full g cur).length = m := by simp [rowsU]
theorem rowsU_get (m : Nat) (full : Nat → List Nat) (g : Nat) (cur : List Nat) (h : g < m) : (rowsU m full g cur)[g]'(by rw [rowsU_length]; exact h) = cur := by simp [rowsU]
theorem rowsU_set (m : Nat) (full : Nat → List Nat) (g : Nat) (cur cur' : List Nat) : (rowsU m full g cur).set g cur' = rowsU m full g cur' := by
  apply List.ext_getElem
  · simp [rowsU]
  · intro i h1 h2
    rw [List.getElem_set]
    by_cases e : g = i
    · subst e; simp [rowsU]
    · rw [if_neg e]
      have e2 : ¬ i = g := fun e' => e e'.symm
      simp [rowsU, e2]
theorem rowsU_next (m : Nat) (full : Nat → List Nat) (g : Nat) : rowsU m full g (full g) = rowsU m full (g + 1) [] := by
  apply List.map_congr_left
  intro j hj
  by_cases e1 : j < g
  · rw [if_pos e1, if_pos (by omega)]
  · by_cases e2 : j = g
    · rw [if_neg e1, if_pos e2, if_pos (by omega), e2]
    · rw [if_neg e1, if_neg e2, if_neg (by omega)]; split <;> rfl
theorem rowsU_start (m : Nat) (full : Nat → List Nat) : toI (rowsU m full 0 []) = List.replicate m [] := by
  apply List.ext_getElem
  · simp [toI, rowsU]
  · intro i h1 h2
    simp [toI, rowsU]
theorem make_rows (m : Nat) (hm : m ≤ 1099511627776) (W : World) : (Instr.makeSlice 22 (.int .i64 (m : Int)) (.int .i64 (m : Int))).run Try.prog W = .ok (.slice (some ⟨W.heap.size, 0, none⟩) m m) (W.alloc (.cells (rowA m (fun _ => .slice none 0 0)) 30)) := by
  have h := run_make_row' (P := Try.prog) 22 30 (.slice none 0 0) 24 Try.underlying22 Try.info30 rfl .i64 .i64 m (by omega) (by omega) W
  rw [made_row] at h
  exact h
/-- What between knows. -/
def BetRel (n : Nat) (uv : Value) (m ub : Nat) (full : Nat → List Nat) (w : World) (g : Nat) (cur : List Nat) (wr : World) : Prop :=
  ∃ vs, OMat w.heap.size (fun b => b ≠ w.heap.size) wr (.slice (some ⟨ub, 0, none⟩) m m) (toI (rowsU m full g cur)) vs ∧ wr.heap[w.heap.size]? = some (.cells #[.int .i64 n, uv] 34) ∧ Below w.heap.size w wr
theorem IntsAt.move {B : Nat} {w w' : World} {v : Value} {zs : List Int} (h : IntsAt (fun b => b < B) w v zs) (hB : B ≤ w'.heap.size) (hb : ∀ b, b < B → w'.heap[b]? = w.heap[b]?) : IntsAt (fun b => b < B) w' v zs := by
  obtain ⟨A, c, e, h1, h2, h3, hr⟩ := h
  refine ⟨A, c, e, h1, h2, h3, ?_⟩
  rcases hr with hr | ⟨b, off, e, hp, hlt, hc⟩
  · exact .inl hr
  · exact .inr ⟨b, off, e, hp, by omega, fun i hi => (World.cell?_of_block (a := ⟨b, off + i, none⟩) (hb b hp)).trans (hc i hi)⟩
theorem one_int (x : Int) : ∀ u ∈ [Value.int .i64 x], u.oneCell' = true := by simp [Value.oneCell']
def BetRes (m : Nat) (full : Nat → List Nat) (w : World) (e : Ending) (w' : World) : Prop :=
  ∃ v vs, e = .returned v ∧ OMat w.heap.size (fun _ => True) w' v (toI ((List.range m).map full)) vs ∧ Below w.heap.size w w'
theorem BetRel.on {n : Nat} {uv : Value} {m ub : Nat} {full : Nat → List Nat} {w : World} {g : Nat} {cur : List Nat} {wr w' : World} (h : BetRel n uv m ub full w g cur wr) (hb : Below wr.heap.size wr w') : BetRel n uv m ub full w g cur w' := by
  obtain ⟨vs, h1, h2, h3⟩ := h
  exact ⟨vs, h1.on hb, (hb.block _ (lt_of_block h2)).trans h2, h3.trans (hb.mono h3.size)⟩
set_option maxRecDepth 100000 in
set_option maxHeartbeats 4000000 in
theorem between_any (n : Nat) (uv gv : Value) (M : List (List Int)) (gs : List (List Nat)) (ib : Nat) (inn : Nat → Nat) (w : World) (h : MatAt (fun b => b < w.heap.size) w uv M) (hg : MatAt (fun b => b < w.heap.size) w gv (toI gs)) (hi : RowAt w ib 3 n (fun i => natV (inn i)))
    (hn : n ≤ 1000) (hM : ∀ i, (useL M i).length ≤ 1000) (hlt : ∀ r ∈ gs, ∀ x ∈ r, x < n) (hm : gs.length ≤ n) (hr : ∀ r ∈ gs, r.length ≤ n) (hin : ∀ i, i < n → inn i < gs.length) :
    Calls Try.prog 21 #[.agg #[.int .i64 n, uv], gv, .slice (some ⟨ib, 0, none⟩) n n] w (BetRes gs.length (fun g => usedOf n (useL M) inn g (gs.getD g [])) w) := by
  obtain ⟨Au, cu, rfl, _, _⟩ := h.form
  obtain ⟨Ag, cg, eg, hg1, hg2⟩ := hg.form
  rw [toI_length] at eg hg1
  subst eg
  generalize hml : M.length = ml at *
  obtain ⟨i3, hi3, hz3, hs3, hb3⟩ := info_parts Try.info3
  have hmk := make_rows gs.length (by omega)
  generalize hfull : (fun g => usedOf n (useL M) inn g (gs.getD g [])) = full
  have HFU := Lib.hid hfull
  have H := Lib.hid h
  have HG := Lib.hid hg
  have HI := Lib.hid hi
  have HM := Lib.hid hM
  have HLT := Lib.hid hlt
  have HMG := Lib.hid hm
  have HRL := Lib.hid hr
  have HN := Lib.hid hn
  have HIN := Lib.hid hin
  generalize hgl : gs.length = m at *
  have hm1000 : m ≤ 1000 := by omega
  have HGL := Lib.hid hgl
  have HR0 : Hid (BetRel n (.slice Au ml cu) m (w.heap.size + 1) full w 0 [] ((w.alloc (.cells #[.int .i64 n, .slice Au ml cu] 34)).alloc (.cells (rowA m fun _ => .slice none 0 0) 30))) := by
    refine Lib.hid ⟨List.replicate m (.slice none 0 0), ?_, ?_, (below_new w _).trans ((below_new _ _).mono (by simp))⟩
    · rw [rowsU_start]
      exact omat_made (by rw [alloc_get]; simp) (by omega) (by unfold maxLen; omega) (by omega)
    · rw [alloc_get, alloc_get]; simp
  clear h hg hi hM hlt hm hr hin hg1 hg2 hgl hml hfull hn
  go_enter Try.func21, Try.ntmps21
  go_wp2_with fail
  clear hmk
  go_loopw [19] (fun v wr => ∃ g : Nat, v = .int .i64 g ∧ g ≤ m ∧ BetRel n (.slice Au ml cu) m (w.heap.size + 1) full w g [] wr) (fun v _ => m - (intOf v).toNat)
  case atStart => exact ⟨0, rfl, Nat.zero_le _, HR0.out⟩
  case round =>
    obtain ⟨g, rfl, hgm, hrel⟩ := hrel
    by_cases hlt : g < m
    · have hgi : (g : Int) < (m : Int) := by omega
      have hgl : g < gs.length := by rw [HGL.out]; exact hlt
      have hgI : g < (toI gs).length := by rw [toI_length]; exact hgl
      obtain ⟨bg, og, Ar, cr, rfl, hbg, hcellg, hrowg⟩ := HG.out.at g hgI
      have erow : (toI gs)[g] = gs[g].map (fun x : Nat => (x : Int)) := toI_get gs g hgl
      rw [erow] at hcellg hrowg
      rw [List.length_map] at hcellg hrowg
      have hgd : gs.getD g [] = gs[g] := by rw [List.getD_eq_getElem?_getD, List.getElem?_eq_getElem hgl]; rfl
      have hfu : full g = usedOf n (useL M) inn g gs[g] := by rw [← HFU.out, ← hgd]
      have hlr : gs[g].length ≤ n := HRL.out _ (List.getElem_mem hgl)
      have hxlt : ∀ x ∈ gs[g], x < n := HLT.out _ (List.getElem_mem hgl)
      generalize gs[g] = r at *
      have hn := HN.out
      have hr1000 : r.length ≤ 1000 := by omega
      have hbel : Below w.heap.size w wr := by obtain ⟨_, _, _, h9⟩ := hrel; exact h9
      have hcg := (hbel.cell (p := ⟨bg, og + g, none⟩) hbg).trans hcellg
      have HR1 : Hid (BetRel n (.slice Au ml cu) m (w.heap.size + 1) full w g (usedOf n (useL M) inn g (r.take 0)) wr) := Lib.hid (by rw [List.take_zero]; exact hrel)
      have HRG := Lib.hid hrowg
      have HXL := Lib.hid hxlt
      have HF2 := Lib.hid hfu
      clear hrel hbel hrowg hxlt hfu hgd erow hcellg hgl hgI
      go_wp2_with fail
      clear hcg
      go_loopw [26] (fun v wr => ∃ a : Nat, v = .int .i64 a ∧ a ≤ r.length ∧ BetRel n (.slice Au ml cu) m (w.heap.size + 1) full w g (usedOf n (useL M) inn g (r.take a)) wr) (fun v _ => r.length - (intOf v).toNat)
      case atStart => exact ⟨0, rfl, Nat.zero_le _, HR1.out⟩
      case round =>
        obtain ⟨a, rfl, ha, hrel⟩ := hrel
        by_cases hal : a < r.length
        · have hai : (a : Int) < (r.length : Int) := by omega
          obtain ⟨er1, er2, _, er4⟩ := HRG.out.at
          rw [List.length_map] at er1
          obtain ⟨b2, o2, rfl, hb2, hb2w, hcells⟩ := er4 (by omega)
          have hcx := hcells a (by rw [List.length_map]; exact hal)
          rw [List.getElem_map] at hcx
          have hxt := HXL.out _ (List.getElem_mem hal)
          have htake : r.take (a + 1) = r.take a ++ [r[a]] := List.take_succ_eq_append_getElem hal
          generalize r[a] = t at *
          have hbel : Below w.heap.size w wr := by obtain ⟨_, _, _, h9⟩ := hrel; exact h9
          have hbox : wr.heap[w.heap.size]? = some (.cells #[.int .i64 n, .slice Au ml cu] 34) := by obtain ⟨_, _, h9, _⟩ := hrel; exact h9
          have hcw := (hbel.cell (p := ⟨b2, o2 + a, none⟩) hb2w).trans hcx
          have hx0 : wr.cell? ⟨w.heap.size, 0, none⟩ = some (.int .i64 n) := by simp [World.cell?, hbox]
          have hx1 : wr.cell? ⟨w.heap.size, 1, none⟩ = some (.slice Au ml cu) := by simp [World.cell?, hbox]
          have HL := Lib.hid (list_any _ n t _ M wr (H.out.on (w' := wr) (hbel)))
          have HRL2 := Lib.hid hrel
          have HBL := Lib.hid hbel
          have HTK := Lib.hid htake
          have hMt := HM.out t
          clear hrel hbel hbox hcx hcells er1 er2 er4 htake
          go_wp2_with fail
          refine HL.out.mono ?_
          rintro e w1 ⟨⟨lv, rfl, hlv⟩, hb1⟩
          have hlw := hlv.move (w' := w) (Nat.le_refl _) (fun b hb => ((hb1.block b (by have := HBL.out.size; omega)).trans (HBL.out.block b hb)).symm)
          have hrel1 := HRL2.out.on hb1
          obtain ⟨Al, cl, rfl, _⟩ := hlw.form
          have HLW := Lib.hid hlw
          have HR2 : Hid (BetRel n (.slice Au ml cu) m (w.heap.size + 1) full w g (usedOf n (useL M) inn g (r.take a) ++ ((useL M t).take 0).flatMap (pick n inn g)) w1) := Lib.hid (by rw [List.take_zero, List.flatMap_nil, List.append_nil]; exact hrel1)
          clear hlv hb1 hlw hrel1 hx0 hx1 hcw
          go_wp2_with fail
          go_loopw [34] (fun v wr => ∃ b : Nat, v = .int .i64 b ∧ b ≤ (useL M t).length ∧ BetRel n (.slice Au ml cu) m (w.heap.size + 1) full w g (usedOf n (useL M) inn g (r.take a) ++ ((useL M t).take b).flatMap (pick n inn g)) wr) (fun v _ => (useL M t).length - (intOf v).toNat)
          case atStart => exact ⟨0, rfl, Nat.zero_le _, HR2.out⟩
          case round =>
            obtain ⟨b, rfl, hbl, hrel⟩ := hrel
            by_cases hbt : b < (useL M t).length
            · have hbi : (b : Int) < ((useL M t).length : Int) := by omega
              obtain ⟨_, _, hzb, hr4⟩ : True ∧ True ∧ (∀ z ∈ useL M t, -9223372036854775808 ≤ z ∧ z ≤ 9223372036854775807) ∧ (∃ b off, Al = some ⟨b, off, none⟩ ∧ b < w.heap.size ∧ ∀ i (h : i < (useL M t).length), w.cell? ⟨b, off + i, none⟩ = some (.int .i64 (useL M t)[i])) := by
                obtain ⟨A', c', e', f1, f2, f3, f4⟩ := HLW.out
                injection e' with e1 _ _
                refine ⟨trivial, trivial, f3, ?_⟩
                rcases f4 with f4 | ⟨b', off', g1, g2, g3, g4⟩
                · rw [f4] at hbt; simp at hbt
                · exact ⟨b', off', by rw [e1]; exact g1, g3, g4⟩
              obtain ⟨b3, o3, rfl, hb3w, hcz⟩ := hr4
              have hcz := hcz b hbt
              have hzz := hzb _ (List.getElem_mem hbt)
              have htake : (useL M t).take (b + 1) = (useL M t).take b ++ [(useL M t)[b]] := List.take_succ_eq_append_getElem hbt
              generalize hzg : (useL M t)[b] = z at *
              have hbel : Below w.heap.size w wr := by obtain ⟨_, _, _, h9⟩ := hrel; exact h9
              have hbox : wr.heap[w.heap.size]? = some (.cells #[.int .i64 n, .slice Au ml cu] 34) := by obtain ⟨_, _, h9, _⟩ := hrel; exact h9
              have hcw := (hbel.cell (p := ⟨b3, o3 + b, none⟩) hb3w).trans hcz
              have hx0 : wr.cell? ⟨w.heap.size, 0, none⟩ = some (.int .i64 n) := by simp [World.cell?, hbox]
              have hx1 : wr.cell? ⟨w.heap.size, 1, none⟩ = some (.slice Au ml cu) := by simp [World.cell?, hbox]
              have HRL3 := Lib.hid hrel
              have HBL3 := Lib.hid hbel
              have HTK3 := Lib.hid htake
              have hz1 := hzz.1
              have hz2 := hzz.2
              clear hrel hbel hbox hcz hzb htake hzz hzg
              by_cases hz : 0 ≤ z ∧ z < n
              · have HHB := Lib.hid (hasB_true hz.1 hz.2)
                obtain ⟨hzA, hzB⟩ := hz
                obtain ⟨zn, rfl⟩ := Int.eq_ofNat_of_zero_le hzA
                have hzn : zn < n := by omega
                by_cases hne : inn zn = g
                · have hpk : pick n inn g (zn : Int) = [] := if_neg (fun e => e.2.2 (by simpa using hne))
                  have HPK := Lib.hid hpk
                  have hne2 : ((inn zn : Int) != (g : Int)) = false := by rw [hne]; simp
                  have hcin := HI.out.cell hzn
                  have hzi : (zn : Int) < (n : Int) := hzB
                  unfold natV at hcin
                  clear hpk hne
                  go_wp2_with fail
                  refine (has_any n zn _ _ _ _).mono ?_
                  rintro e w2 ⟨rfl, hb2⟩
                  rw [HHB.out]
                  have hcin2 := ((HBL3.out.trans (hb2.mono HBL3.out.size)).cell (p := ⟨ib, zn, none⟩) HI.out.lt).trans hcin
                  have HREL : Hid (BetRel n (.slice Au ml cu) m (w.heap.size + 1) full w g (usedOf n (useL M) inn g (r.take a) ++ ((useL M t).take (b + 1)).flatMap (pick n inn g)) w2) := Lib.hid (by
                    rw [HTK3.out, List.flatMap_append, List.flatMap_singleton, HPK.out, List.append_nil]
                    exact HRL3.out.on hb2)
                  clear hb2 hx0 hx1 hcw hcin
                  go_wp2
                  go_roundw
                  case rel => exact ⟨b + 1, by go_num, by omega, HREL.out⟩
                  case measure => simp [intOf]; omega
                · have hpk : pick n inn g (zn : Int) = [inn zn] := if_pos ⟨hzA, hzB, by simpa using hne⟩
                  have HPK := Lib.hid hpk
                  have hne2 : ((inn zn : Int) != (g : Int)) = true := by rw [bne_iff_ne]; omega
                  have hcin := HI.out.cell hzn
                  have hzi : (zn : Int) < (n : Int) := hzB
                  unfold natV at hcin
                  clear hpk hne
                  have hcur : (usedOf n (useL M) inn g (r.take a) ++ ((useL M t).take b).flatMap (pick n inn g)).length ≤ 2000000 := by
                    rw [List.length_append]
                    have q1 := usedOf_le n (useL M) inn g (r.take a) HM.out
                    have q2 := pick_le n inn g ((useL M t).take b)
                    rw [List.length_take] at q1 q2
                    have : min a r.length * 1000 ≤ 1000 * 1000 := Nat.mul_le_mul_right _ (by omega)
                    omega
                  go_wp2_with fail
                  refine (has_any n zn _ _ _ _).mono ?_
                  rintro e w2 ⟨rfl, hb2⟩
                  rw [HHB.out]
                  have hcin2 := ((HBL3.out.trans (hb2.mono HBL3.out.size)).cell (p := ⟨ib, zn, none⟩) HI.out.lt).trans hcin
                  have hrel2 := HRL3.out.on hb2
                  have hbel2 := HBL3.out.trans (hb2.mono HBL3.out.size)
                  clear hb2 hx0 hx1 hcw hcin
                  generalize hcg : usedOf n (useL M) inn g (r.take a) ++ ((useL M t).take b).flatMap (pick n inn g) = cur at *
                  have HCG := Lib.hid hcg
                  clear hcg
                  have hgI : g < (toI (rowsU m full g cur)).length := by rw [toI_length, rowsU_length]; exact hlt
                  obtain ⟨vs, hom, hbox, _⟩ := hrel2
                  obtain ⟨g0, cg0, A, c2, ev, hB0, hg0, hF0, hcg1, hcg2, hvs, hc21, hc22, hcell, hfree⟩ := hom.at g hgI
                  injection ev with ev1 ev2 ev3
                  injection ev1 with ev1
                  injection ev1 with ev1
                  subst ev1
                  have hvl : g < vs.length := by have := hom.len; omega
                  have hrow := hom.rows g hvl hgI
                  have erow : (toI (rowsU m full g cur))[g] = cur.map (fun x : Nat => (x : Int)) := by
                    rw [toI_get _ g (by rw [rowsU_length]; exact hlt), rowsU_get m full g cur hlt]
                  have elen : (toI (rowsU m full g cur))[g].length = cur.length := by rw [erow, List.length_map]
                  have elen0 : (toI (rowsU m full g cur)).length = m := by rw [toI_length, rowsU_length]
                  rw [hvs, elen] at hrow
                  rw [elen] at hcell
                  have HOWN := Lib.hid hrow
                  have HMX := Lib.hid (show cur.length + 1 ≤ maxLen by unfold maxLen; omega)
                  have HBY := Lib.hid (show (cur.length + 1) * 8 ≤ 140737488355328 by omega)
                  have HBS := Lib.hid hbel2.size
                  have hf0 := hfree g
                  have HTU : Hid (∀ W, W = w2.drew → ∀ gg cap w3, w3.ownsRow w.heap.size 3 1 (.slice (some ⟨gg, 0, none⟩) (cur.length + 1) cap) (cur.length + 1) ((toI (rowsU m full g cur))[g].map intV ++ [.int .i64 (inn zn : Int)]) → (W.alloc (.cells #[.int .i64 (inn zn : Int)] 3)).grownBy w3 (Value.slice A cur.length c2).ownBlock → ((Value.slice A cur.length c2).ownBlock = some gg ∨ gg = w2.heap.size + 1) →
                      w3.cell? ⟨w.heap.size + 1, g, none⟩ = some (.slice A cur.length c2) ∧ w3.frozen? ⟨w.heap.size + 1, g, none⟩ = false ∧
                      BetRel n (.slice Au ml cu) m (w.heap.size + 1) full w g (cur ++ [inn zn]) (w3.setCell ⟨w.heap.size + 1, g, none⟩ (.slice (some ⟨gg, 0, none⟩) (cur.length + 1) cap))) := by
                    refine Lib.hid ?_
                    rintro W rfl gg cap w3 h1 h2 h3
                    have hba : Below w2.heap.size w2 (w2.drew.alloc (.cells #[.int .i64 (inn zn : Int)] 3)) := ((Below.refl _ _).drew).trans (below_new w2.drew _)
                    have hma := hom.on hba
                    have hg2 : (w2.drew.alloc (.cells #[.int .i64 (inn zn : Int)] 3)).grownBy w3 vs[g].ownBlock := by rw [hvs, elen]; exact h2
                    have hat2 : (Value.slice (some ⟨gg, 0, none⟩) (cur.length + 1) cap).ownBlock = vs[g].ownBlock ∨ (Value.slice (some ⟨gg, 0, none⟩) (cur.length + 1) cap).ownBlock = none ∨ ∃ q, (Value.slice (some ⟨gg, 0, none⟩) (cur.length + 1) cap).ownBlock = some q ∧ (w2.drew.alloc (.cells #[.int .i64 (inn zn : Int)] 3)).heap.size ≤ q := by
                      rcases h3 with h3 | h3
                      · rw [hvs, elen]; exact .inl h3.symm
                      · exact .inr (.inr ⟨gg, rfl, by simp; show w2.heap.size + 1 ≤ gg; omega⟩)
                    have hneb : vs[g].ownBlock ≠ some (w.heap.size + 1) := by
                      have h9 := hom.rows g hvl hgI
                      exact fun e => own_apart h9 hom.own (by decide) _ e rfl
                    have hbl : w3.heap[w.heap.size + 1]? = w2.heap[w.heap.size + 1]? := (hg2.block _ (by simp; omega) (fun e => hneb e.symm)).trans (hba.block _ hg0)
                    have ht := hma.turn (w' := w3) (g0 := w.heap.size + 1) (c := m) (by rw [elen0]) g hgI hvl (u' := .slice (some ⟨gg, 0, none⟩) (cur.length + 1) cap) (r := (toI (rowsU m full g cur))[g] ++ [(inn zn : Int)]) (by rw [List.length_append, List.length_singleton, elen, List.map_append]; exact h1) hg2 hat2 (fun b hb => by simp at hb; have : w2.heap.size + 1 ≤ b := hb; have := HBS.out; omega)
                    have htB := hma.turnB (w' := w3) (g0 := w.heap.size + 1) (c := m) (by rw [elen0]) g hvl (u' := .slice (some ⟨gg, 0, none⟩) (cur.length + 1) cap) hg2
                    refine ⟨(World.cell?_of_block (a := ⟨w.heap.size + 1, g, none⟩) hbl).trans hcell, (World.frozen?_of_block (a := ⟨w.heap.size + 1, g, none⟩) hbl).trans hf0, vs.set g (.slice (some ⟨gg, 0, none⟩) (cur.length + 1) cap), ?_, ?_, ?_⟩
                    · have e5 : toI (rowsU m full g (cur ++ [inn zn])) = (toI (rowsU m full g cur)).set g ((toI (rowsU m full g cur))[g] ++ [(inn zn : Int)]) := by
                        rw [erow, ← rowsU_set m full g cur (cur ++ [inn zn]), toI_set, List.map_append]; rfl
                      rw [e5]
                      exact ht
                    · have hlt9 := lt_of_block hbox
                      exact ((htB _ (by simp; show w.heap.size < w2.heap.size + 1; omega) (fun e => e rfl)).trans (hba.block _ hlt9)).trans hbox
                    · exact ((hbel2.trans (hba.mono hbel2.size)).grown h2 (by simp; show w.heap.size ≤ w2.heap.size + 1; have := hbel2.size; omega) (fun q hq => (hrow.lt q hq).1)).setCell (by simp) _
                  have HREL : Hid (∀ W, BetRel n (.slice Au ml cu) m (w.heap.size + 1) full w g (cur ++ [inn zn]) W → BetRel n (.slice Au ml cu) m (w.heap.size + 1) full w g (usedOf n (useL M) inn g (r.take a) ++ ((useL M t).take (b + 1)).flatMap (pick n inn g)) W) := Lib.hid (fun W hW => by
                    rw [HTK3.out, List.flatMap_append, List.flatMap_singleton, HPK.out, ← List.append_assoc, HCG.out]
                    exact hW)
                  generalize (toI (rowsU m full g cur))[g].map intV = xs at *
                  clear hom hbox hrow erow elen elen0 hvs hc21 hc22 hcg1 hcg2 hB0 hF0 hfree hbel2 hvl hgI ev2 ev3 hcur
                  go_wp2_with fail
                  go_region_law ((refine step_append_lies _ rfl (.tmp 54) (.tmp 59) 30 rfl w.heap.size 3 i3 (.int .i64 0) 1 8 Try.underlying30 hi3 hz3 hs3 hb3 rfl (by decide) (.slice A cur.length c2) cur.length xs rfl (HOWN.out.alloc _) ⟨w2.heap.size, 0, none⟩ 1 1 [.int .i64 (inn zn : Int)] rfl rfl (one_new _ _ 3) (one_int _) (by decide) HMX.out HBY.out (by have := HBS.out; simp; omega) (w2.heap.size + 1) (by simp) ?_; intro gg cap w3 h2 g2 hat _; obtain ⟨q1, q2, q3⟩ := HTU.out _ rfl gg cap w3 h2 g2 hat; have Q3 := Lib.hid (HREL.out _ q3); clear q3 h2 g2 hat))
                  all_goals
                    clear q1 q2
                    go_wp2
                    go_roundw
                    case rel => exact ⟨b + 1, by go_num, by omega, by first | exact Q3.out | exact BetRel.on Q3.out ((Below.refl _ _).drew)⟩
                    case measure => simp [intOf]; omega
              · have HHB := Lib.hid (hasB_false hz)
                have hpk : pick n inn g z = [] := if_neg (fun e => hz ⟨e.1, e.2.1⟩)
                have HPK := Lib.hid hpk
                clear hz hpk
                go_wp2_with fail
                refine (has_any n z _ _ _ _).mono ?_
                rintro e w2 ⟨rfl, hb2⟩
                rw [HHB.out]
                have HREL : Hid (BetRel n (.slice Au ml cu) m (w.heap.size + 1) full w g (usedOf n (useL M) inn g (r.take a) ++ ((useL M t).take (b + 1)).flatMap (pick n inn g)) w2) := Lib.hid (by
                  rw [HTK3.out, List.flatMap_append, List.flatMap_singleton, HPK.out, List.append_nil]
                  exact HRL3.out.on hb2)
                clear hb2 hx0 hx1 hcw
                go_wp2
                go_roundw
                case rel => exact ⟨b + 1, by go_num, by omega, HREL.out⟩
                case measure => simp [intOf]; omega
            · have ek : b = (useL M t).length := by omega
              subst ek
              have hki : ¬ ((useL M t).length : Int) < ((useL M t).length : Int) := by omega
              have HREL : Hid (BetRel n (.slice Au ml cu) m (w.heap.size + 1) full w g (usedOf n (useL M) inn g (r.take (a + 1))) wr) := Lib.hid (by
                rw [HTK.out]
                have e : usedOf n (useL M) inn g (r.take a ++ [t]) = usedOf n (useL M) inn g (r.take a) ++ (useL M t).flatMap (pick n inn g) := by simp [usedOf]
                rw [e]
                rw [List.take_length] at hrel
                exact hrel)
              clear hrel
              go_wp2
              go_roundw
              case rel => exact ⟨a + 1, by go_num, by omega, HREL.out⟩
              case measure => simp [intOf]; omega
        · have ek : a = r.length := by omega
          subst ek
          have hki : ¬ (r.length : Int) < (r.length : Int) := by omega
          have HREL : Hid (BetRel n (.slice Au ml cu) m (w.heap.size + 1) full w (g + 1) [] wr) := Lib.hid (by
            obtain ⟨vs, h1, h2, h3⟩ := hrel
            rw [List.take_length, ← HF2.out, rowsU_next] at h1
            exact ⟨vs, h1, h2, h3⟩)
          clear hrel
          go_wp2
          go_roundw
          case rel => exact ⟨g + 1, by go_num, by omega, HREL.out⟩
          case measure => simp [intOf]; omega
    · have ek : g = m := by omega
      subst ek
      have hki : ¬ (g : Int) < (g : Int) := by omega
      have HFIN : Hid (BetRes g full w (.returned (.slice (some ⟨w.heap.size + 1, 0, none⟩) g g)) wr) := by
        obtain ⟨vs, h1, h2, h3⟩ := hrel
        refine Lib.hid ⟨_, vs, rfl, ?_, h3⟩
        have e : rowsU g full g [] = (List.range g).map full := by
          apply List.map_congr_left
          intro j hj
          rw [if_pos (List.mem_range.1 hj)]
        rw [← e]
        exact h1.mono (fun _ _ _ => trivial)
      clear hrel
      go_wp2
      go_ret
      exact HFIN.out
end Go.Proofs.Ythmnghngcbkjpaa
