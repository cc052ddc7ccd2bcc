/- Has a group's time come? No conditions but those that each theorem names. -/
import Derived.Test.YthmnghngcbkjpaaRme
namespace Go.Proofs.Ythmnghngcbkjpaa
open Go.RowKit
def ComeRel (B m ub uo cu tb tr wb wo : Nat) (Fu Fw : Nat → Prop) (left wait : Nat → List Nat) (told : Nat → Bool) (wvs : List Value) (g : Nat) (w : World) (k : Nat) (wr : World) : Prop :=
  ∃ l d uvs, left g = d ++ l ∧ (∀ x ∈ d, told x = true) ∧ l.length = k ∧ RowMem B m ub uo cu tb tr wb wo Fu Fw (upd left g l) wait told uvs wvs wr ∧ Fr (fun b => b = uo ∨ Fw b) w wr
def ComeRes (B m ub uo cu tb tr wb wo : Nat) (Fu Fw : Nat → Prop) (left wait : Nat → List Nat) (told : Nat → Bool) (g : Nat) (w : World) (e : Ending) (w' : World) : Prop :=
  ∃ q left' wait' uvs wvs, e = .returned (.bool q) ∧ RowMem B m ub uo cu tb tr wb wo Fu Fw left' wait' told uvs wvs w' ∧ Fr (fun b => b = uo ∨ Fw b) w w' ∧
    ((q = true ∧ wait' = wait ∧ left' = upd left g [] ∧ ∀ x ∈ left g, told x = true) ∨
     (q = false ∧ ∃ d o l, left g = d ++ o :: l ∧ (∀ x ∈ d, told x = true) ∧ told o = false ∧ left' = upd left g (o :: l) ∧ wait' = upd wait o (wait o ++ [g])))
theorem upd_self {α : Type} (f : Nat → α) (i : Nat) : upd f i (f i) = f := by
  funext j
  unfold upd
  split
  · rename_i h; rw [h]
  · rfl
theorem upd_twice {α : Type} (f : Nat → α) (i : Nat) (u v : α) : upd (upd f i u) i v = upd f i v := by
  funext j
  unfold upd
  split <;> rfl
set_option maxRecDepth 100000 in
set_option maxHeartbeats 4000000 in
theorem come_any {B m ub uo cu tb tr wb wo : Nat} {Fu Fw : Nat → Prop} {left wait : Nat → List Nat} {told : Nat → Bool} {uvs wvs : List Value} {w : World} (h : RowMem B m ub uo cu tb tr wb wo Fu Fw left wait told uvs wvs w) (g : Nat) (hg : g < m) (hm : m ≤ 1000000) (hlt : ∀ x ∈ left g, x < m) (hwl : ∀ o, (wait o).length ≤ 1000000) (hF : ∀ b, w.heap.size ≤ b → Fw b) (hB : B ≤ w.heap.size) :
    Calls Try.prog 25 #[.int .i64 g, .pointer (some ⟨ub, 0, none⟩), .pointer (some ⟨tb, 0, none⟩), .pointer (some ⟨wb, 0, none⟩)] w (ComeRes B m ub uo cu tb tr wb wo Fu Fw left wait told g w) := by
  obtain ⟨i3, hi3, hz3, hs3, hb3⟩ := info_parts Try.info3
  have HR0 : Hid (ComeRel B m ub uo cu tb tr wb wo Fu Fw left wait told wvs g w (left g).length w) := Lib.hid ⟨left g, [], uvs, rfl, by simp, rfl, by rw [upd_self]; exact h, Fr.refl _ _⟩
  have HLT := Lib.hid hlt
  have HWL := Lib.hid hwl
  have HF := Lib.hid hF
  have HB := Lib.hid hB
  have HM := Lib.hid hm
  clear h hlt hwl hF hB uvs
  go_enter Try.func25, Try.ntmps25
  go_wp2_with fail
  go_loopg [] (left g).length (fun k wr => ComeRel B m ub uo cu tb tr wb wo Fu Fw left wait told wvs g w k wr)
  case atStart => exact HR0.out
  case round =>
    obtain ⟨l, d, uvs, hl, hd, hk, hR, hf⟩ := hrel
    obtain ⟨c1, c2, c3⟩ := hR.cells
    have hgi : (g : Int) < (m : Int) := by omega
    have hul := hR.ulen
    have hm := HM.out
    have hur := hR.urows g (by omega)
    rw [upd_same] at hur
    obtain ⟨Au, cu2, eu, _⟩ := hur.form
    have hln : (natL l).length = l.length := by simp [natL]
    have hcu : wr.cell? ⟨uo, g, none⟩ = some (.slice Au l.length cu2) := by
      rw [hR.uown.cellAt g (by omega), List.getElem?_eq_getElem (by omega), eu, hln]
    have hfu := hR.uown.frozenAt g
    cases l with
    | nil =>
      have HFIN : Hid (ComeRes B m ub uo cu tb tr wb wo Fu Fw left wait told g w (.returned (.bool true)) wr) := Lib.hid ⟨true, _, _, uvs, wvs, rfl, hR, hf, .inl ⟨rfl, rfl, rfl, by rw [hl]; simpa using hd⟩⟩
      simp only [List.length_nil] at hcu
      clear hl hd hk hR hf hur eu hln hfu
      go_wp2
      go_ret
      exact HFIN.out
    | cons o l =>
      have hol : o < m := HLT.out o (by rw [hl]; simp)
      have hoi : (o : Int) < (m : Int) := by omega
      have hto := hR.trow.cell hol
      have e2 : natL (o :: l) = (o : Int) :: natL l := rfl
      rw [e2] at hur
      obtain ⟨ub2, uo2, uc, ev, huc1, huc2, hub2, hcz, _, A9, hA9, hu9⟩ := ints_tail hur
      have hln2 : (natL l).length = l.length := by simp [natL]
      rw [hln2] at ev huc1 hu9
      have ev2 := eu.symm.trans ev
      rw [hln] at ev2
      injection ev2 with f1 f2 f3
      subst f1 f3
      simp only [List.length_cons] at hcu
      unfold maxLen at huc2
      have hl0 : (0 : Int) < (l.length : Int) + 1 := by omega
      have hl2 : (l.length : Int) + 1 ≤ (cu2 : Int) := by omega
      clear eu ev hln hln2 e2 f2
      cases ht : told o with
      | true =>
        rw [ht] at hto
        have hs := hR.cut g hu9
        rw [upd_twice] at hs
        have HREL : Hid (∀ W, Below (wr.setCell ⟨uo, g, none⟩ (.slice (some A9) l.length (cu2 - 1))).heap.size (wr.setCell ⟨uo, g, none⟩ (.slice (some A9) l.length (cu2 - 1))) W → ComeRel B m ub uo cu tb tr wb wo Fu Fw left wait told wvs g w l.length W) :=
          Lib.hid fun W hW => ⟨l, d ++ [o], _, by rw [hl]; simp, fun x hx => by
            rcases List.mem_append.1 hx with hx | hx
            · exact hd x hx
            · rw [List.mem_singleton.1 hx]; exact ht, rfl, hs.on hW, (hf.setCell (.inl rfl) _).trans (.of_below hW)⟩
        have hkl : l.length < gk := by rw [← hk]; simp
        clear hl hd hk hR hf hur hu9 hs ht
        go_wp2
        go_region
        all_goals
          have HR2 := Lib.hid (HREL.out _ ((Below.refl _ _).drew))
          go_wp2
          go_roundg l.length
          case rel => exact HR2.out
          case measure => exact hkl
      | false =>
        rw [ht] at hto
        have hwlen : ((List.range m).map (fun j => natL (wait j))).length = m := by simp
        have how : o < ((List.range m).map (fun j => natL (wait j))).length := by rw [hwlen]; exact hol
        obtain ⟨g0, cg0, A, c5, ev, hB0, hg0, hF0, _, _, hvs, hc21, hc22, hcell, hfree⟩ := hR.wmat.at o how
        injection ev with ev1 ev2 ev3
        injection ev1 with ev1
        injection ev1 with ev1
        subst ev1
        have hvl : o < wvs.length := by have := hR.wmat.len; omega
        have hrow := hR.wmat.rows o hvl how
        have erow : ((List.range m).map (fun j => natL (wait j)))[o] = natL (wait o) := by simp
        have elen : ((List.range m).map (fun j => natL (wait j)))[o].length = (wait o).length := by rw [erow]; simp [natL]
        rw [hvs, elen, erow] at hrow
        rw [elen] at hcell hvs
        have hwo := HWL.out o
        have HOWN := Lib.hid hrow
        have HMX := Lib.hid (show (wait o).length + 1 ≤ maxLen by unfold maxLen; omega)
        have HBY := Lib.hid (show ((wait o).length + 1) * 8 ≤ 140737488355328 by omega)
        have hbs : B ≤ wr.heap.size := Nat.le_trans HB.out hf.size
        have HBS := Lib.hid hbs
        have hf0 := hfree o
        have HTU : Hid (∀ W : World, W.heap = (wr.alloc (.cells #[.int .i64 (g : Int)] 3)).heap ∧ W.os = wr.os ∧ W.tape = wr.tape ∧ W.output = wr.output → ∀ (gg cap : Nat) (w3 : World), w3.ownsRow B 3 1 (.slice (some ⟨gg, 0, none⟩) ((wait o).length + 1) cap) ((wait o).length + 1) ((natL (wait o)).map intV ++ [.int .i64 (g : Int)]) → W.grownBy w3 (Value.slice A (wait o).length c5).ownBlock → ((Value.slice A (wait o).length c5).ownBlock = some gg ∨ gg = wr.heap.size + 1) →
            w3.cell? ⟨wo, o, none⟩ = some (.slice A (wait o).length c5) ∧ w3.frozen? ⟨wo, o, none⟩ = false ∧ w3.cell? ⟨wb, 0, none⟩ = some (.slice (some ⟨wo, 0, none⟩) m m) ∧
            ∀ W2, Below (w3.setCell ⟨wo, o, none⟩ (.slice (some ⟨gg, 0, none⟩) ((wait o).length + 1) cap)).heap.size (w3.setCell ⟨wo, o, none⟩ (.slice (some ⟨gg, 0, none⟩) ((wait o).length + 1) cap)) W2 → ComeRes B m ub uo cu tb tr wb wo Fu Fw left wait told g w (.returned (.bool false)) W2) := by
          refine Lib.hid ?_
          rintro W ⟨e1, e2, e3, e4⟩ gg cap w3 h1 h2 h3
          have hBW : Below wr.heap.size wr W := ⟨e2, e3, e4, by simp [e1], fun k hk => by rw [e1]; exact Below.heap_alloc wr (.cells #[.int .i64 (g : Int)] 3) k hk⟩
          have hzW : W.heap.size = wr.heap.size + 1 := by simp [e1]
          have hRW := hR.on hBW
          have hg2 : W.grownBy w3 wvs[o].ownBlock := by rw [hvs]; exact h2
          have hat2 : (Value.slice (some ⟨gg, 0, none⟩) ((wait o).length + 1) cap).ownBlock = wvs[o].ownBlock ∨ (Value.slice (some ⟨gg, 0, none⟩) ((wait o).length + 1) cap).ownBlock = none ∨ ∃ q, (Value.slice (some ⟨gg, 0, none⟩) ((wait o).length + 1) cap).ownBlock = some q ∧ W.heap.size ≤ q := by
            rcases h3 with h3 | h3
            · rw [hvs]; exact .inl h3.symm
            · exact .inr (.inr ⟨gg, rfl, by omega⟩)
          have hneb : wvs[o].ownBlock ≠ some wo := by
            have h9 := hR.wmat.rows o hvl how
            exact fun e => own_apart h9 hR.wmat.own (by decide) _ e rfl
          have hbl : w3.heap[wo]? = wr.heap[wo]? := (hg2.block _ (by omega) (fun e => hneb e.symm)).trans (hBW.block _ hg0)
          have hA := hRW.await (w' := w3) o g hol hvl (u' := .slice (some ⟨gg, 0, none⟩) ((wait o).length + 1) cap) h1 hg2 hat2 (fun b hb => HF.out b (by have := hf.size; omega))
          have hBt := hRW.wmat.turnB (w' := w3) (g0 := wo) (c := m) (by rw [hwlen]) o hvl (u' := .slice (some ⟨gg, 0, none⟩) ((wait o).length + 1) cap) hg2
          have hfr : Fr (fun b => b = uo ∨ Fw b) wr (w3.setCell ⟨wo, o, none⟩ (.slice (some ⟨gg, 0, none⟩) ((wait o).length + 1) cap)) :=
            ⟨h2.os.trans e2, h2.tape.trans e3, h2.output.trans e4, by have := h2.size; simp; omega, fun k hk hn => (hBt k (by omega) (fun e => hn (.inr e))).trans (hBW.block k hk)⟩
          have hbw : w3.heap[wb]? = wr.heap[wb]? := (hg2.block _ (by have := lt_of_block hR.wbox; omega) (fun e => hR.sep.2.2.2.2.2.2.1 (hR.wmat.foots o hvl _ e.symm))).trans (hBW.block _ (lt_of_block hR.wbox))
          refine ⟨(World.cell?_of_block (a := ⟨wo, o, none⟩) hbl).trans hcell, (World.frozen?_of_block (a := ⟨wo, o, none⟩) hbl).trans hf0, (World.cell?_of_block (a := ⟨wb, 0, none⟩) hbw).trans c3, fun W2 hW2 => ?_⟩
          exact ⟨false, _, _, _, _, rfl, hA.on hW2, (hf.trans hfr).trans (.of_below hW2), .inr ⟨rfl, d, o, l, hl, hd, ht, rfl, rfl⟩⟩
        have hwbl := lt_of_block hR.wbox
        generalize (natL (wait o)).map intV = xs at *
        clear hl hd hk hR hf hur hu9 ht hrow erow elen hvs hc21 hc22 hB0 hF0 hfree ev2 ev3 hbs hwlen how hvl
        go_wp2
        go_region_law ((refine step_append_lies _ rfl (.tmp 37) (.tmp 39) 30 rfl B 3 i3 (.int .i64 0) 1 8 Try.underlying30 hi3 hz3 hs3 hb3 rfl (by decide) (.slice A (wait o).length c5) (wait o).length xs rfl ((own_keep HOWN.out (fun _ _ => rfl)).alloc _) ⟨wr.heap.size, 0, none⟩ 1 1 [.int .i64 (g : Int)] rfl rfl (one_new _ _ 3) (one_int _) (by decide) HMX.out HBY.out (by have := HBS.out; simp; omega) (wr.heap.size + 1) (by simp) ?_; intro gg cap w3 h2 g2 hat _; (first | obtain ⟨q1, q2, q4, q3⟩ := HTU.out ((wr.drew.alloc (.cells #[.int .i64 (g : Int)] 3))) ⟨rfl, rfl, rfl, rfl⟩ gg cap w3 h2 g2 hat | obtain ⟨q1, q2, q4, q3⟩ := HTU.out ((wr.alloc (.cells #[.int .i64 (g : Int)] 3)).drew) ⟨rfl, rfl, rfl, rfl⟩ gg cap w3 h2 g2 hat); have Q3 := Lib.hid q3; clear q3 h2 g2 hat))
        all_goals
          have hfin1 := Lib.hid (Q3.out _ (Below.refl _ _))
          have hfin2 := Lib.hid (Q3.out _ ((Below.refl _ _).drew))
          clear q1 q2 q4
          go_wp2
          go_ret
          first | exact hfin1.out | exact hfin2.out
end Go.Proofs.Ythmnghngcbkjpaa
