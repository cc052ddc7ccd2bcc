/- The contract of the law's same: a program's term and the document's, where they are the same. Conditions: those that each theorem names. -/
import Derived.Test.YtomhojpoaicioaaUnify
import Derived.Test.YtomhojpoaicioaaOf
namespace Go.Proofs.Ytomhojpoaicioaa
open Go.RowKit Tm

def YesRes (w : World) (e : Ending) (w' : World) : Prop := e = .returned (.bool true) ∧ Below w.heap.size w w'
theorem six_boxes (w : World) (F G : Int) (A B : Option Addr) (n c d : Nat) : ∃ W, W = (w.alloc (.cells #[.int .i64 F, .int .i64 G, .slice A n c] 49)).alloc (.cells #[.int .i64 F, .int .i64 G, .slice B n d] 54) ∧ Below w.heap.size w W ∧ w.heap.size + 1 < W.heap.size ∧
    W.cell? ⟨w.heap.size, 0, none⟩ = some (.int .i64 F) ∧ W.cell? ⟨w.heap.size, 1, none⟩ = some (.int .i64 G) ∧ W.cell? ⟨w.heap.size, 2, none⟩ = some (.slice A n c) ∧
    W.cell? ⟨w.heap.size + 1, 0, none⟩ = some (.int .i64 F) ∧ W.cell? ⟨w.heap.size + 1, 1, none⟩ = some (.int .i64 G) ∧ W.cell? ⟨w.heap.size + 1, 2, none⟩ = some (.slice B n d) := by
  refine ⟨_, rfl, (below_new w _).trans ((below_new _ _).mono (by simp)), by simp, ?_, ?_, ?_, ?_, ?_, ?_⟩
  all_goals simp [go_sem]
set_option maxRecDepth 100000 in
set_option maxHeartbeats 2000000 in
theorem lsame_leaf (F G : Int) (A B : Option Addr) (c d : Nat) (w : World) : Calls Try.prog 24 #[.agg #[.int .i64 F, .int .i64 G, .slice A 0 c], .agg #[.int .i64 F, .int .i64 G, .slice B 0 d]] w (YesRes w) := by
  obtain ⟨W, eW, bW, zW, k0, k1, k2, l0, l1, l2⟩ := six_boxes w F G A B 0 c d
  have HW := Lib.hid eW
  have HB := Lib.hid bW
  clear eW bW
  go_enter Try.func24, Try.ntmps24
  go_upto_region 1 with (fail)
  rw [← HW.out]
  go_wp2_with fail
  go_loopw [5] (fun i wr => i = .int .i64 0 ∧ wr = W) (fun _ _ => 0)
  case atStart => exact ⟨rfl, rfl⟩
  case round =>
    obtain ⟨rfl, rfl⟩ := hrel
    go_wp2
    go_ret
    exact ⟨rfl, HB.out⟩
set_option maxRecDepth 100000 in
set_option maxHeartbeats 2000000 in
theorem lsame_any (P Q : Nat → Prop) : ∀ (t : Tm) (va vb : Value) (w : World), ZAt P w (emb t) va → TAt Q w t vb → Calls Try.prog 24 #[va, vb] w (YesRes w)
  | .var n, va, vb, w, h1, h2 => by
    obtain ⟨A, c, rfl⟩ := h1.form
    obtain ⟨B, d, rfl⟩ := h2.form
    exact lsame_leaf 1 n A B c d w
  | .star, va, vb, w, h1, h2 => by
    obtain ⟨A, c, rfl⟩ := h1.form
    obtain ⟨B, d, rfl⟩ := h2.form
    exact lsame_leaf 2 0 A B c d w
  | .arr ta tb, va, vb, w, h1, h2 => by
    obtain ⟨A, c, rfl⟩ := h1.form
    obtain ⟨B, d, rfl⟩ := h2.form
    change Calls Try.prog 24 #[.agg #[.int .i64 3, .int .i64 0, .slice A 2 c], .agg #[.int .i64 3, .int .i64 0, .slice B 2 d]] w _
    have I1 := Lib.hid (lsame_any P Q ta)
    have I2 := Lib.hid (lsame_any P Q tb)
    change ZAt P w (.arr (emb ta) (emb tb)) (.agg #[.int .i64 3, .int .i64 0, .slice A 2 c]) at h1
    change TAt Q w (.arr ta tb) (.agg #[.int .i64 3, .int .i64 0, .slice B 2 d]) at h2
    obtain ⟨g, off, Aa, ca, Ab, cb, rfl, p0, p1, p2, p3, p4, p5, qa, qb⟩ := h1.args
    obtain ⟨g', off', Ba, da, Bb, db, rfl, _, s0, s1, s2, s3, s4, s5, ra, rb⟩ := h2.args
    obtain ⟨W, eW, bW, zW, k0, k1, k2, l0, l1, l2⟩ := six_boxes w 3 0 (some ⟨g, off, none⟩) (some ⟨g', off', none⟩) 2 c d
    have hg := World.block_lt_of_cell? w _ p0
    have hg' := World.block_lt_of_cell? w _ s0
    have HP : Hid (W.cell? ⟨g, off, none⟩ = some (.int .i64 (formZ (emb ta))) ∧ W.cell? ⟨g, off + 1, none⟩ = some (.int .i64 (numZ (emb ta))) ∧ W.cell? ⟨g, off + 2, none⟩ = some (.slice Aa (argsZ (emb ta)) ca) ∧ W.cell? ⟨g, off + 3, none⟩ = some (.int .i64 (formZ (emb tb))) ∧ W.cell? ⟨g, off + 4, none⟩ = some (.int .i64 (numZ (emb tb))) ∧ W.cell? ⟨g, off + 5, none⟩ = some (.slice Ab (argsZ (emb tb)) cb)) :=
      ⟨(bW.cell (p := ⟨g, off, none⟩) hg).trans p0, (bW.cell (p := ⟨g, off + 1, none⟩) hg).trans p1, (bW.cell (p := ⟨g, off + 2, none⟩) hg).trans p2, (bW.cell (p := ⟨g, off + 3, none⟩) hg).trans p3, (bW.cell (p := ⟨g, off + 4, none⟩) hg).trans p4, (bW.cell (p := ⟨g, off + 5, none⟩) hg).trans p5⟩
    have HS : Hid (W.cell? ⟨g', off', none⟩ = some (.int .i64 (formT ta)) ∧ W.cell? ⟨g', off' + 1, none⟩ = some (.int .i64 (numT ta)) ∧ W.cell? ⟨g', off' + 2, none⟩ = some (.slice Ba (argsT ta) da) ∧ W.cell? ⟨g', off' + 3, none⟩ = some (.int .i64 (formT tb)) ∧ W.cell? ⟨g', off' + 4, none⟩ = some (.int .i64 (numT tb)) ∧ W.cell? ⟨g', off' + 5, none⟩ = some (.slice Bb (argsT tb) db)) :=
      ⟨(bW.cell (p := ⟨g', off', none⟩) hg').trans s0, (bW.cell (p := ⟨g', off' + 1, none⟩) hg').trans s1, (bW.cell (p := ⟨g', off' + 2, none⟩) hg').trans s2, (bW.cell (p := ⟨g', off' + 3, none⟩) hg').trans s3, (bW.cell (p := ⟨g', off' + 4, none⟩) hg').trans s4, (bW.cell (p := ⟨g', off' + 5, none⟩) hg').trans s5⟩
    have QA := Lib.hid (qa.on bW)
    have QB := Lib.hid (qb.on bW)
    have RA := Lib.hid (ra.on bW)
    have RB := Lib.hid (rb.on bW)
    have hgW : g < W.heap.size := Nat.lt_of_lt_of_le hg bW.size
    have hgW' : g' < W.heap.size := Nat.lt_of_lt_of_le hg' bW.size
    have HK : Hid (W.cell? ⟨w.heap.size, 2, none⟩ = some (.slice (some ⟨g, off, none⟩) 2 c) ∧ W.cell? ⟨w.heap.size + 1, 2, none⟩ = some (.slice (some ⟨g', off', none⟩) 2 d)) := ⟨k2, l2⟩
    have HW := Lib.hid eW
    have HB := Lib.hid bW
    have HZ := Lib.hid zW
    have hzw := bW.size
    clear eW bW h1 h2 qa qb ra rb p0 p1 p2 p3 p4 p5 s0 s1 s2 s3 s4 s5 zW
    go_enter Try.func24, Try.ntmps24
    go_upto_region 1 with (fail)
    rw [← HW.out]
    go_wp2_with fail
    clear k0 k1 k2 l0 l1 l2
    go_loopw [5] (fun i wr => (i = .int .i64 0 ∨ i = .int .i64 1 ∨ i = .int .i64 2) ∧ Below W.heap.size W wr) (fun i _ => 2 - (intOf i).toNat)
    case atStart => exact ⟨.inl rfl, Below.refl _ _⟩
    case round =>
      obtain ⟨hcase, hb⟩ := hrel
      have hz1 : w.heap.size + 1 < W.heap.size := HZ.out
      have k2 := (hb.cell (p := ⟨w.heap.size, 2, none⟩) (Nat.lt_of_succ_lt hz1)).trans HK.out.1
      have l2 := (hb.cell (p := ⟨w.heap.size + 1, 2, none⟩) hz1).trans HK.out.2
      have hzr := hb.size
      have hbd : Below W.heap.size W wr.drew := hb.drew
      have HBR := Lib.hid hb
      have p0 := (hb.cell (p := ⟨g, off, none⟩) hgW).trans HP.out.1
      have p1 := (hb.cell (p := ⟨g, off + 1, none⟩) hgW).trans HP.out.2.1
      have p2 := (hb.cell (p := ⟨g, off + 2, none⟩) hgW).trans HP.out.2.2.1
      have p3 := (hb.cell (p := ⟨g, off + 3, none⟩) hgW).trans HP.out.2.2.2.1
      have p4 := (hb.cell (p := ⟨g, off + 4, none⟩) hgW).trans HP.out.2.2.2.2.1
      have p5 := (hb.cell (p := ⟨g, off + 5, none⟩) hgW).trans HP.out.2.2.2.2.2
      have s0 := (hb.cell (p := ⟨g', off', none⟩) hgW').trans HS.out.1
      have s1 := (hb.cell (p := ⟨g', off' + 1, none⟩) hgW').trans HS.out.2.1
      have s2 := (hb.cell (p := ⟨g', off' + 2, none⟩) hgW').trans HS.out.2.2.1
      have s3 := (hb.cell (p := ⟨g', off' + 3, none⟩) hgW').trans HS.out.2.2.2.1
      have s4 := (hb.cell (p := ⟨g', off' + 4, none⟩) hgW').trans HS.out.2.2.2.2.1
      have s5 := (hb.cell (p := ⟨g', off' + 5, none⟩) hgW').trans HS.out.2.2.2.2.2
      have HC1 := Lib.hid (I1.out _ _ wr.drew (QA.out.on hbd) (RA.out.on hbd))
      have HC2 := Lib.hid (I2.out _ _ wr.drew (QB.out.on hbd) (RB.out.on hbd))
      clear hb hbd
      rcases hcase with rfl | rfl | rfl
      · go_upto_region 6 with (fail)
        go_region_law (go_simp; go_at_call 24; (with_reducible refine HC1.out.mono ?_); rintro e w1 ⟨rfl, b1⟩; have hb1 : Below W.heap.size W w1 := HBR.out.trans (((Below.refl _ wr).drew.trans b1).mono hzr))
        all_goals
          clear p0 p1 p2 p3 p4 p5 s0 s1 s2 s3 s4 s5 b1
          go_wp2
          refine ⟨⟨.inr (.inl rfl), hb1⟩, by simp only [intOf]; omega⟩
      · go_upto_region 6 with (fail)
        go_region_law (go_simp; go_at_call 24; (with_reducible refine HC2.out.mono ?_); rintro e w1 ⟨rfl, b1⟩; have hb1 : Below W.heap.size W w1 := HBR.out.trans (((Below.refl _ wr).drew.trans b1).mono hzr))
        all_goals
          clear p0 p1 p2 p3 p4 p5 s0 s1 s2 s3 s4 s5 b1
          go_wp2
          refine ⟨⟨.inr (.inr rfl), hb1⟩, by simp only [intOf]; omega⟩
      · clear p0 p1 p2 p3 p4 p5 s0 s1 s2 s3 s4 s5
        go_wp2
        go_ret
        exact ⟨rfl, HB.out.trans (HBR.out.mono hzw)⟩
end Go.Proofs.Ytomhojpoaicioaa
