/- numbered: things into groups by their roots. No conditions but those that each theorem names. -/
import Derived.Test.YthmnghngcbkjpaaOMa
import Derived.Test.YthmnghngcbkjpaaRtA
namespace Go.Proofs.Ythmnghngcbkjpaa
open Go.RowKit
def toI (gs : List (List Nat)) : List (List Int) := gs.map (fun g => g.map (fun x : Nat => (x : Int)))
theorem toI_length (gs : List (List Nat)) : (toI gs).length = gs.length := by simp [toI]
theorem toI_get (gs : List (List Nat)) (g : Nat) (h : g < gs.length) : (toI gs)[g]'(by rw [toI_length]; exact h) = gs[g].map (fun x : Nat => (x : Int)) := by simp [toI]
theorem toI_snoc (gs : List (List Nat)) (l : List Nat) : toI (gs ++ [l]) = toI gs ++ [l.map (fun x : Nat => (x : Int))] := by simp [toI]
theorem toI_set (gs : List (List Nat)) (g : Nat) (l : List Nat) : toI (gs.set g l) = (toI gs).set g (l.map (fun x : Nat => (x : Int))) := by simp [toI, List.map_set]
/-- What numbered knows behind k things. -/
def NumRel (R : Nat → Nat) (n nb ib : Nat) (w : World) (k : Nat) (gv : Value) (wr : World) : Prop :=
  ∃ gs num inn vs, NumOk R k gs num inn ∧ OMat w.heap.size (fun b => b ≠ nb ∧ b ≠ ib) wr gv (toI gs) vs ∧ RowAt wr nb 3 n (fun i => natV (num i)) ∧ RowAt wr ib 3 n (fun i => natV (inn i)) ∧ Below w.heap.size w wr
/-- What numbered answers. -/
def NumRes (R : Nat → Nat) (n : Nat) (w : World) (e : Ending) (w' : World) : Prop :=
  ∃ gs num inn vs gv ib, e = .returned (.tuple #[gv, .slice (some ⟨ib, 0, none⟩) n n]) ∧ NumOk R n gs num inn ∧ OMat w.heap.size (fun b => b ≠ ib) w' gv (toI gs) vs ∧ RowAt w' ib 3 n (fun i => natV (inn i)) ∧ w.heap.size ≤ ib ∧ Below w.heap.size w w'
theorem NumOk.lenle {R : Nat → Nat} {k : Nat} {gs : List (List Nat)} {num inn : Nat → Nat} (h : NumOk R k gs num inn) : gs.length ≤ k := by
  have := nodup_le (List.range gs.length) ((List.range k).map inn) (nodup_range _) (fun x hx => by
    obtain ⟨j, a, b⟩ := h.some x (List.mem_range.1 hx)
    exact List.mem_map.2 ⟨j, List.mem_range.2 a, b⟩)
  simpa using this
theorem NumOk.grple {R : Nat → Nat} {k : Nat} {gs : List (List Nat)} {num inn : Nat → Nat} (h : NumOk R k gs num inn) {g : Nat} (hg : g < gs.length) : gs[g].length ≤ k := by
  rw [h.is g hg]
  have := List.length_filter_le (fun j => inn j == g) (List.range k)
  rw [List.length_range] at this; exact this
/-- A thing's group is known, in the midst of a round. -/
def MidRel (R : Nat → Nat) (n nb ib : Nat) (w : World) (k : Nat) (gv : Value) (wx : World) : Prop :=
  ∃ gs num inn vs g, ∃ (hg : g < gs.length), num (R k) = g + 1 ∧ NumOk R (k + 1) (gs.set g (gs[g] ++ [k])) num (upd inn k g) ∧ gs.length ≤ n ∧ gs[g].length ≤ n ∧ OMat w.heap.size (fun b => b ≠ nb ∧ b ≠ ib) wx gv (toI gs) vs ∧ RowAt wx nb 3 n (fun i => natV (num i)) ∧ RowAt wx ib 3 n (fun i => natV (inn i)) ∧ Below w.heap.size w wx
set_option maxRecDepth 100000 in
set_option maxHeartbeats 4000000 in
theorem numbered_any (n b : Nat) (R : Nat → Nat) (w : World) (h : RowAt w b 3 n (fun i => natV (R i))) (hR : ∀ i, i < n → R i < n) (hn : n ≤ 1099511627776) :
    Calls Try.prog 18 #[.slice (some ⟨b, 0, none⟩) n n] w (NumRes R n w) := by
  obtain ⟨i3, hi3, hz3, hs3, hb3⟩ := info_parts Try.info3
  obtain ⟨i30, hi30, hz30, hs30, hb30⟩ := info_parts Try.info30
  have hmk := make_ints n hn
  have HN := Lib.hid hn
  have HR := Lib.hid hR
  have H := Lib.hid h
  have hr1 : RowAt ((w.alloc (.cells (rowA n fun _ => natV 0) 3)).alloc (.cells (rowA n fun _ => natV 0) 3)) w.heap.size 3 n (fun _ => natV 0) := by
    show _ = _
    rw [alloc_get, alloc_get]; simp
  have hr2 : RowAt ((w.alloc (.cells (rowA n fun _ => natV 0) 3)).alloc (.cells (rowA n fun _ => natV 0) 3)) (w.heap.size + 1) 3 n (fun _ => natV 0) := by
    show _ = _
    rw [alloc_get]; simp
  have hb0 : Below w.heap.size w ((w.alloc (.cells (rowA n fun _ => natV 0) 3)).alloc (.cells (rowA n fun _ => natV 0) 3)) := (below_new w _).trans ((below_new _ _).mono (by simp))
  have HR0 : Hid (NumRel R n w.heap.size (w.heap.size + 1) w 0 (.slice none 0 0) ((w.alloc (.cells (rowA n fun _ => natV 0) 3)).alloc (.cells (rowA n fun _ => natV 0) 3))) :=
    Lib.hid ⟨[], fun _ => 0, fun _ => 0, [], NumOk.start R _, omat_nil _ _ _, hr1, hr2, hb0⟩
  clear hR h hr1 hr2 hb0
  go_enter Try.func18, Try.ntmps18
  go_wp2_with fail
  clear hmk
  go_loopw [4, 18] (fun gv v wr => ∃ k : Nat, v = .int .i64 k ∧ k ≤ n ∧ NumRel R n w.heap.size (w.heap.size + 1) w k gv wr) (fun _ v _ => n - (intOf v).toNat)
  case atStart => exact ⟨0, rfl, Nat.zero_le _, HR0.out⟩
  case round =>
    obtain ⟨k, rfl, hk, gs, num, inn, vs, hok, hom, hnb, hib, hb⟩ := hrel
    have hn := HN.out
    obtain ⟨Ag, cg, rfl, hgc, hgm⟩ := own_form hom.own
    by_cases hlt : k < n
    · have hki : (k : Int) < (n : Int) := by omega
      have hrk := HR.out k hlt
      have hcr := (hb.cell (p := ⟨b, k, none⟩) H.out.lt).trans (H.out.cell hlt)
      have hcn := hnb.cell hrk
      have hri : (R k : Int) < (n : Int) := by omega
      unfold natV at hcr hcn
      go_upto_if 27 with (fail)
      go_cut [4] (fun gv wx => MidRel R n w.heap.size (w.heap.size + 1) w k gv wx)
      case first =>
        by_cases h0 : num (R k) = 0
        · have hnew := hok.new h0
          have hll := hok.lenle
          have hbw := hb.size
          have hzw : w.heap.size + 1 < wr.heap.size := hib.lt
          have how := hom.own
          have htl := toI_length gs
          rw [h0]
          have HOW := Lib.hid (how.alloc (.cells #[.slice none 0 0] 30))
          have HNW := Lib.hid (one_new wr (.slice none 0 0) 30)
          have HPU : Hid (∀ v' w2, w2.ownsRow w.heap.size 30 1 v' ((toI gs).length + 1) (vs ++ [.slice none 0 0]) → (wr.alloc (.cells #[.slice none 0 0] 30)).grownBy w2 (Value.slice Ag (toI gs).length cg).ownBlock → (v'.ownBlock = (Value.slice Ag (toI gs).length cg).ownBlock ∨ v'.ownBlock = some (wr.alloc (.cells #[.slice none 0 0] 30)).heap.size) →
              OMat w.heap.size (fun b => b ≠ w.heap.size ∧ b ≠ w.heap.size + 1) w2 v' (toI (gs ++ [[]])) (vs ++ [.slice none 0 0]) ∧ RowAt w2 w.heap.size 3 n (fun i => natV (num i)) ∧ RowAt w2 (w.heap.size + 1) 3 n (fun i => natV (inn i)) ∧ Below w.heap.size w w2) := by
            refine Lib.hid fun v' w2 h1 h2 h3 => ?_
            have hba := below_new wr (.cells #[.slice none 0 0] 30)
            have hfoot : ∀ g, (Value.slice Ag (toI gs).length cg).ownBlock = some g → g ≠ w.heap.size ∧ g ≠ w.heap.size + 1 := hom.foot
            have hbl : ∀ g, g < wr.heap.size → (Value.slice Ag (toI gs).length cg).ownBlock ≠ some g → w2.heap[g]? = wr.heap[g]? := fun g hg hne => (h2.block g (by simp; omega) (fun e => hne e.symm)).trans (hba.block g hg)
            refine ⟨?_, hnb.block (hbl _ hnb.lt (fun e => (hfoot _ e).1 rfl)), hib.block (hbl _ hib.lt (fun e => (hfoot _ e).2 rfl)), ?_⟩
            · have h9 := (hom.on hba).push (w' := w2) (v' := v') h1 h2 (h3.imp id (fun e => ⟨_, e, Nat.le_refl _⟩)) (fun b hb => by simp at hb; omega)
              rw [toI_snoc]; exact h9
            · exact (hb.alloc hbw _).grown h2 (by simp; omega) (fun g hg => (how.lt g hg).1)
          have hs0 : gs.length + 1 ≤ 1099511627776 := by omega
          have hmx : (toI gs).length + 1 ≤ maxLen := by rw [htl]; unfold maxLen; omega
          have HMX := Lib.hid hmx
          have HBY := Lib.hid (show ((toI gs).length + 1) * 24 ≤ 140737488355328 by rw [htl]; omega)
          have HBS := Lib.hid (show w.heap.size ≤ (wr.alloc (.cells #[.slice none 0 0] 30)).heap.size by simp; omega)
          have HMID : Hid (∀ gv wx, OMat w.heap.size (fun b => b ≠ w.heap.size ∧ b ≠ w.heap.size + 1) wx gv (toI (gs ++ [[]])) (vs ++ [.slice none 0 0]) → RowAt wx w.heap.size 3 n (fun i => natV (upd num (R k) (gs.length + 1) i)) → RowAt wx (w.heap.size + 1) 3 n (fun i => natV (inn i)) → Below w.heap.size w wx → MidRel R n w.heap.size (w.heap.size + 1) w k gv wx) := by
            refine Lib.hid fun gv wx h1 h2 h3 h4 => ⟨gs ++ [[]], upd num (R k) (gs.length + 1), inn, _, gs.length, by simp, upd_same _ _ _, ?_, by simp; omega, by simp, h1, h2, h3, h4⟩
            have e1 : (gs ++ [[]])[gs.length]'(by simp) = ([] : List Nat) := by simp
            rw [e1]
            have e2 : (gs ++ [[]]).set gs.length ([] ++ [k]) = gs ++ [[k]] := by
              rw [List.set_append_right _ _ (Nat.le_refl _)]; simp
            rw [e2]
            exact hnew
          have hgl : ((toI gs).length : Int) = (gs.length : Int) := by rw [htl]
          clear hok hom hnb hib hb how hnew hcr h0 hgc hgm htl
          go_wp2_with (at_builtin; refine wpList_append_own_at _ rfl (.tmp 28) (.tmp 29) 22 rfl w.heap.size 30 i30 (.slice none 0 0) 1 24 Try.underlying22 hi30 hz30 hs30 hb30 rfl (by decide) _ (toI gs).length vs rfl HOW.out ⟨wr.heap.size, 0, none⟩ 1 1 [.slice none 0 0] rfl rfl HNW.out (by intro u hu; rw [List.mem_singleton.1 hu]; rfl) HMX.out HBY.out HBS.out ?_; intro v' w2 hown2 hg2 _ hat2; obtain ⟨p1, p2, p3, p4⟩ := HPU.out v' w2 hown2 hg2 hat2; obtain ⟨A3, c3, rfl, _⟩ := own_form hown2; have P1 := Lib.hid p1; have P3 := Lib.hid p3; have P4 := Lib.hid p4; have q2 := p2.cell hrk; have q3 := p2.free (R k); have P2 := Lib.hid p2; clear p1 p2 p3 p4 hown2 hg2 hat2; unfold natV at q2)
          go_meet
          have hst := P2.out.set (R k) (natV (gs.length + 1))
          refine HMID.out _ _ (P1.out.keep (fun b hb _ => Below.heap_setCell _ _ _ _ hb.1)) ?_ (P3.out.block (Below.heap_setCell _ _ _ _ (by simp))) (P4.out.setCell (Nat.le_refl _) _)
          rw [upd_comp]
          exact hst
        · have h1 : num (R k) = (num (R k) - 1) + 1 := by omega
          have hg : num (R k) - 1 < gs.length := by have := hok.le (R k); omega
          have hll := hok.lenle
          have hgl := hok.grple hg
          have hci : ((num (R k) : Int) == 0) = false := by rw [beq_eq_false_iff_ne]; omega
          have HMID : Hid (MidRel R n w.heap.size (w.heap.size + 1) w k (.slice Ag (toI gs).length cg) wr) := Lib.hid ⟨gs, num, inn, vs, num (R k) - 1, hg, h1, hok.old h1 hg, by omega, by omega, hom, hnb, hib, hb⟩
          clear hok hom hnb hib hb h1 hg hll hgl h0 hcr
          go_wp2
          go_meet
          exact HMID.out
      case rest =>
        obtain ⟨gs2, num2, inn2, vs2, g, hg, hnum, hok2, hll, hgl, hom2, hnb2, hib2, hb2⟩ := hcut
        clear hok hom hnb hib hb hcr hcn hgc hgm
        have hgI : g < (toI gs2).length := by rw [toI_length]; exact hg
        have hgi : (g : Int) < ((toI gs2).length : Int) := by omega
        have hll2 : gs2.length ≤ 1099511627776 := by omega
        obtain ⟨g0, cg2, A, c2, rfl, hB0, hg0, hF0, hcg1, hcg2, hvs, hc21, hc22, hcell, hfree⟩ := hom2.at g hgI
        have hvl : g < vs2.length := by have := hom2.len; omega
        have hrow := hom2.rows g hvl hgI
        have erow : (toI gs2)[g] = gs2[g].map (fun x : Nat => (x : Int)) := toI_get gs2 g hg
        have elen : (toI gs2)[g].length = gs2[g].length := by rw [erow, List.length_map]
        rw [hvs, elen] at hrow
        rw [elen] at hcell
        have hbw := hb2.size
        have hck := hnb2.cell hrk
        have ecn : natV (num2 (R k)) = .int .i64 ((g : Int) + 1) := by rw [hnum]; rfl
        rw [ecn] at hck
        have HOW := Lib.hid (hrow.alloc (.cells #[.int .i64 (k : Int)] 3))
        have HNW := Lib.hid (one_new wc (.int .i64 (k : Int)) 3)
        have HMX := Lib.hid (show gs2[g].length + 1 ≤ maxLen by unfold maxLen; omega)
        have HBY := Lib.hid (show (gs2[g].length + 1) * 8 ≤ 140737488355328 by omega)
        have HBS := Lib.hid (show w.heap.size ≤ (wc.alloc (.cells #[.int .i64 (k : Int)] 3)).heap.size by simp; omega)
        have HTU : Hid (∀ u' w2, w2.ownsRow w.heap.size 3 1 u' (gs2[g].length + 1) ((toI gs2)[g].map intV ++ [.int .i64 (k : Int)]) → (wc.alloc (.cells #[.int .i64 (k : Int)] 3)).grownBy w2 (Value.slice A gs2[g].length c2).ownBlock → (u'.ownBlock = (Value.slice A gs2[g].length c2).ownBlock ∨ u'.ownBlock = some (wc.alloc (.cells #[.int .i64 (k : Int)] 3)).heap.size) →
            w2.cell? ⟨g0, g, none⟩ = some (.slice A gs2[g].length c2) ∧ w2.frozen? ⟨g0, g, none⟩ = false ∧
            OMat w.heap.size (fun b => b ≠ w.heap.size ∧ b ≠ w.heap.size + 1) (w2.setCell ⟨g0, g, none⟩ u') (.slice (some ⟨g0, 0, none⟩) (toI gs2).length cg2) (toI (gs2.set g (gs2[g] ++ [k]))) (vs2.set g u') ∧ RowAt (w2.setCell ⟨g0, g, none⟩ u') w.heap.size 3 n (fun i => natV (num2 i)) ∧ RowAt (w2.setCell ⟨g0, g, none⟩ u') (w.heap.size + 1) 3 n (fun i => natV (inn2 i)) ∧ Below w.heap.size w (w2.setCell ⟨g0, g, none⟩ u')) := by
          refine Lib.hid fun u' w2 h1 h2 h3 => ?_
          have hba := below_new wc (.cells #[.int .i64 (k : Int)] 3)
          have hma := hom2.on hba
          have hg2 : (wc.alloc (.cells #[.int .i64 (k : Int)] 3)).grownBy w2 vs2[g].ownBlock := by rw [hvs, elen]; exact h2
          have hat2 : u'.ownBlock = vs2[g].ownBlock ∨ u'.ownBlock = none ∨ ∃ q, u'.ownBlock = some q ∧ (wc.alloc (.cells #[.int .i64 (k : Int)] 3)).heap.size ≤ q := by
            rcases h3 with h3 | h3
            · rw [hvs, elen]; exact .inl h3
            · exact .inr (.inr ⟨_, h3, Nat.le_refl _⟩)
          have hne : vs2[g].ownBlock ≠ some g0 := by
            have h9 := hom2.rows g hvl hgI
            exact fun e => own_apart h9 hom2.own (by decide) g0 e rfl
          have hbl : w2.heap[g0]? = wc.heap[g0]? := (hg2.block g0 (by simp; omega) (fun e => hne e.symm)).trans (hba.block g0 hg0)
          have ht := hma.turn (w' := w2) (g0 := g0) (c := cg2) rfl g hgI hvl (u' := u') (r := (toI gs2)[g] ++ [(k : Int)]) (by rw [List.length_append, List.length_singleton, elen, List.map_append]; exact h1) hg2 hat2 (fun b hb => by simp at hb; omega)
          have htB := hma.turnB (w' := w2) (g0 := g0) (c := cg2) rfl g hvl (u' := u') hg2
          have hb3 : ∀ b, b < wc.heap.size → ¬ (b ≠ w.heap.size ∧ b ≠ w.heap.size + 1) → (w2.setCell ⟨g0, g, none⟩ u').heap[b]? = wc.heap[b]? := fun b hb hF => (htB b (by simp; omega) hF).trans (hba.block b hb)
          refine ⟨(World.cell?_of_block (a := ⟨g0, g, none⟩) hbl).trans hcell, (World.frozen?_of_block (a := ⟨g0, g, none⟩) hbl).trans (hfree g), ?_, hnb2.block (hb3 _ hnb2.lt (fun e => e.1 rfl)), hib2.block (hb3 _ hib2.lt (fun e => e.2 rfl)), ?_⟩
          · rw [toI_set, List.map_append, ← erow]
            exact ht
          · exact ((hb2.alloc hbw _).grown h2 (by simp; omega) (fun q hq => (hrow.lt q hq).1)).setCell hB0 _
        have hz1 : (0 : Int) ≤ (g : Int) := by omega
        have hwr : IntKind.i64.wrap ((g : Int) + 1 - 1) = (g : Int) := by rw [Int.add_sub_cancel]; exact IntWalk.i64_in _ (by omega)
        have HOK := Lib.hid hok2
        have HTL := Lib.hid (toI_length (gs2.set g (gs2[g] ++ [k])))
        have elen3 : (toI (gs2.set g (gs2[g] ++ [k]))).length = (toI gs2).length := by rw [toI_length, toI_length, List.length_set]
        have HL3 := Lib.hid elen3
        generalize gs2[g].length = lg at *
        clear hom2 hnb2 hib2 hb2 hrow hbw hB0 hF0 hcg1 hcg2 hvs hc21 hc22 hfree erow elen elen3 ecn hnum hok2 hll hgl
        go_wp2_with (at_builtin; refine wpList_append_own_at _ rfl (.tmp 46) (.tmp 48) 30 rfl w.heap.size 3 i3 (.int .i64 0) 1 8 Try.underlying30 hi3 hz3 hs3 hb3 rfl (by decide) _ lg ((toI gs2)[g].map intV) rfl HOW.out ⟨wc.heap.size, 0, none⟩ 1 1 [.int .i64 (k : Int)] rfl rfl HNW.out (by intro u hu; rw [List.mem_singleton.1 hu]; rfl) HMX.out HBY.out HBS.out ?_; intro v' w2 hown2 hg2 _ hat2; obtain ⟨p0, p0f, p1, p2, p3, p4⟩ := HTU.out v' w2 hown2 hg2 hat2; obtain ⟨A3, c3, rfl, _⟩ := own_form hown2; have P1 := Lib.hid p1; have P3 := Lib.hid p3; have P4 := Lib.hid p4; have P2 := Lib.hid p2; have q3 := p3.free k; have q4 := p3.cell hlt; clear p1 p2 p3 p4 hown2 hg2 hat2; unfold natV at q4)
        have HREL : Hid (NumRel R n w.heap.size (w.heap.size + 1) w (k + 1) (.slice (some ⟨g0, 0, none⟩) (toI gs2).length cg2) ((w2.setCell ⟨g0, g, none⟩ (.slice A3 (lg + 1) c3)).setCell ⟨w.heap.size + 1, k, none⟩ (.int .i64 (g : Int)))) := by
          refine Lib.hid ⟨_, num2, upd inn2 k g, _, HOK.out, P1.out.keep (fun b hb _ => Below.heap_setCell _ _ _ _ hb.2), P2.out.block (Below.heap_setCell _ _ _ _ (by simp)), ?_, P4.out.setCell (by simp) _⟩
          rw [upd_comp]
          exact P3.out.set k (natV g)
        clear P1 P2 P3 P4 q3 q4 p0 p0f
        go_roundw
        case rel => exact ⟨k + 1, by go_num, by omega, HREL.out⟩
        case measure => simp [intOf]; omega
    · have ek : k = n := by omega
      subst ek
      have hki : ¬ (k : Int) < (k : Int) := by omega
      have HFIN : Hid (NumRes R k w (.returned (.tuple #[.slice Ag (toI gs).length cg, .slice (some ⟨w.heap.size + 1, 0, none⟩) k k])) wr) := Lib.hid ⟨gs, num, inn, vs, _, _, rfl, hok, hom.mono (fun b hb _ => hb.2), hib, by omega, hb⟩
      clear hok hom hnb hib hb
      go_wp2
      go_ret2
      exact HFIN.out
end Go.Proofs.Ythmnghngcbkjpaa
