/- The contracts of types.own and types.ownAll. No conditions but those that each theorem names. -/
import Derived.Test.YtbdfjboojokgdaaDoorJU01
import Derived.OwnWalk
import Derived.Deep.CutBlock
import Derived.Deep.RegionHeld3
import Derived.Deep.RegionLaw
import Derived.Deep.AppendLies
import Derived.Maps.AppendAt
namespace Go.Proofs.YtbdfjboojokgdaaDoor
open Go.RowKit

theorem Tryd.info25 : (Tryd.prog.info? 25).map (fun i => (i.zero, i.size, i.bytes)) = some (some (.agg #[.int .i64 0, .int .i64 0, .string ByteArray.empty, .slice none 0 0]), 4, 56) := by kernel_rfl
/-- A block of cells of so many. -/
def Blk (w : World) (g N : Nat) : Prop := ∃ cur : Array Value, w.heap[g]? = some (.cells cur 25 (0, 0)) ∧ cur.size = N
theorem Blk.lt {w : World} {g N : Nat} (h : Blk w g N) : g < w.heap.size := by
  obtain ⟨cur, h, _⟩ := h
  rcases Nat.lt_or_ge g w.heap.size with h9 | h9
  · exact h9
  · rw [Array.getElem?_eq_none h9] at h; cases h
theorem Blk.cell {w : World} {g N j : Nat} (h : Blk w g N) (hj : j < N) : ∃ v, w.cell? ⟨g, j, none⟩ = some v := by
  obtain ⟨cur, h, hs⟩ := h
  exact ⟨cur[j]'(by omega), by simp [World.cell?, h, hs, hj]⟩
theorem Blk.frozen {w : World} {g N : Nat} (h : Blk w g N) (j : Nat) : w.frozen? ⟨g, j, none⟩ = false := by
  obtain ⟨cur, h, hs⟩ := h
  simp [World.frozen?, h]
theorem Blk.below {w w' : World} {g N B : Nat} (h : Blk w g N) (hb : Below B w w') (hB : g < B) : Blk w' g N := by
  obtain ⟨cur, h, hs⟩ := h
  exact ⟨cur, (hb.block g hB).trans h, hs⟩
theorem Blk.setCell {w : World} {g N : Nat} (h : Blk w g N) (k : Nat) (v : Value) : Blk (w.setCell ⟨g, k, none⟩ v) g N := by
  obtain ⟨cur, h, hs⟩ := h
  refine ⟨cur.setIfInBounds k v, ?_, by simpa using hs⟩
  simp [World.setCell, Array.getElem?_modify, h]
/-- The first so many of a row of types, in new memory beyond the row. -/
def RowN (w : World) (g : Nat) (ts : List Ty) (i : Nat) : Prop :=
  ∀ k (h : k < ts.length), k < i → ∃ x0 x1 x2 x3, w.cell? ⟨g, k * 4, none⟩ = some x0 ∧ w.cell? ⟨g, k * 4 + 1, none⟩ = some x1 ∧ w.cell? ⟨g, k * 4 + 2, none⟩ = some x2 ∧ w.cell? ⟨g, k * 4 + 3, none⟩ = some x3 ∧ TyAt (fun b => g < b) w ts[k] (.agg #[x0, x1, x2, x3])
theorem RowN.on {w w' : World} {g : Nat} {ts : List Ty} {i : Nat} (h : RowN w g ts i) (hb : Below w.heap.size w w') (hg : g < w.heap.size) : RowN w' g ts i := by
  intro k hk hi
  obtain ⟨x0, x1, x2, x3, c0, c1, c2, c3, ht⟩ := h k hk hi
  exact ⟨x0, x1, x2, x3, (hb.cell (p := ⟨g, _, none⟩) hg).trans c0, (hb.cell (p := ⟨g, _, none⟩) hg).trans c1, (hb.cell (p := ⟨g, _, none⟩) hg).trans c2, (hb.cell (p := ⟨g, _, none⟩) hg).trans c3, ht.on hb⟩
theorem cell_set_ne (w : World) (g j k : Nat) (v : Value) (h : j ≠ k) : (w.setCell ⟨g, k, none⟩ v).cell? ⟨g, j, none⟩ = w.cell? ⟨g, j, none⟩ := by
  apply World.cell?_setCell_other; intro e; injection e with _ e; exact h e.symm
theorem RowN.step {wr : World} {g N : Nat} {ts : List Ty} {i : Nat} (hB : Blk wr g N) (hN : (i + 1) * 4 ≤ N) (hi : i < ts.length) (h : RowN wr g ts i) {x0 x1 x2 x3 : Value} (ht : TyAt (fun b => g < b) wr ts[i] (.agg #[x0, x1, x2, x3])) :
    RowN ((((wr.setCell ⟨g, i * 4, none⟩ x0).setCell ⟨g, i * 4 + 1, none⟩ x1).setCell ⟨g, i * 4 + 2, none⟩ x2).setCell ⟨g, i * 4 + 3, none⟩ x3) g ts (i + 1) ∧ Blk ((((wr.setCell ⟨g, i * 4, none⟩ x0).setCell ⟨g, i * 4 + 1, none⟩ x1).setCell ⟨g, i * 4 + 2, none⟩ x2).setCell ⟨g, i * 4 + 3, none⟩ x3) g N := by
  have hself : ∀ (W : World) (k : Nat) (v : Value), Blk W g N → k < N → (W.setCell ⟨g, k, none⟩ v).cell? ⟨g, k, none⟩ = some v := fun W k v hb hk => by
    obtain ⟨u, hu⟩ := hb.cell hk
    exact World.cell?_setCell_same' _ _ _ (by rw [hu]; rfl)
  have hK : Keeps (fun b => g < b) wr ((((wr.setCell ⟨g, i * 4, none⟩ x0).setCell ⟨g, i * 4 + 1, none⟩ x1).setCell ⟨g, i * 4 + 2, none⟩ x2).setCell ⟨g, i * 4 + 3, none⟩ x3) :=
    (((Keeps.setCell (fun e => by omega) _).trans (.setCell (fun e => by omega) _)).trans (.setCell (fun e => by omega) _)).trans (.setCell (fun e => by omega) _)
  have b1 := hB.setCell (i * 4) x0
  have b2 := b1.setCell (i * 4 + 1) x1
  have b3 := b2.setCell (i * 4 + 2) x2
  refine ⟨fun k hk hki => ?_, b3.setCell _ _⟩
  by_cases hik : k = i
  · subst hik
    refine ⟨x0, x1, x2, x3, ?_, ?_, ?_, ?_, ht.keep hK⟩
    · rw [cell_set_ne _ _ _ _ _ (by omega), cell_set_ne _ _ _ _ _ (by omega), cell_set_ne _ _ _ _ _ (by omega)]; exact hself _ _ _ hB (by omega)
    · rw [cell_set_ne _ _ _ _ _ (by omega), cell_set_ne _ _ _ _ _ (by omega)]; exact hself _ _ _ b1 (by omega)
    · rw [cell_set_ne _ _ _ _ _ (by omega)]; exact hself _ _ _ b2 (by omega)
    · exact hself _ _ _ b3 (by omega)
  · obtain ⟨y0, y1, y2, y3, c0, c1, c2, c3, hy⟩ := h k hk (by omega)
    refine ⟨y0, y1, y2, y3, ?_, ?_, ?_, ?_, hy.keep hK⟩
    all_goals rw [cell_set_ne _ _ _ _ _ (by omega), cell_set_ne _ _ _ _ _ (by omega), cell_set_ne _ _ _ _ _ (by omega), cell_set_ne _ _ _ _ _ (by omega)]
    · exact c0
    · exact c1
    · exact c2
    · exact c3
theorem RowN.tys {w : World} {g : Nat} {ts : List Ty} {c : Nat} (h : RowN w g ts ts.length) (hg : g < w.heap.size) (hc : ts.length ≤ c) (hm : c ≤ maxLen) : TysAt (fun b => g ≤ b) w ts (.slice (some ⟨g, 0, none⟩) ts.length c) := by
  have hch : ∀ k, ∃ x : Nat → Value, ∀ (h : k < ts.length), (∀ j, j < 4 → w.cell? ⟨g, 0 + k * 4 + j, none⟩ = some (x j)) ∧ TyAt (fun b => g ≤ b) w ts[k] (.agg #[x 0, x 1, x 2, x 3]) := by
    intro k
    by_cases hk : k < ts.length
    · obtain ⟨y0, y1, y2, y3, c0, c1, c2, c3, hy⟩ := h k hk hk
      refine ⟨fun j => if j = 0 then y0 else if j = 1 then y1 else if j = 2 then y2 else y3, fun _ => ⟨fun j hj => ?_, hy.mono (fun b (hb : g < b) => Nat.le_of_lt hb)⟩⟩
      rw [Nat.zero_add]
      have : j = 0 ∨ j = 1 ∨ j = 2 ∨ j = 3 := by omega
      rcases this with rfl | rfl | rfl | rfl
      · exact c0
      · exact c1
      · exact c2
      · exact c3
    · exact ⟨fun _ => .int .i64 0, fun h => absurd h hk⟩
  obtain ⟨u, hu⟩ : ∃ u : Nat → Nat → Value, ∀ k (h : k < ts.length), (∀ j, j < 4 → w.cell? ⟨g, 0 + k * 4 + j, none⟩ = some (u k j)) ∧ TyAt (fun b => g ≤ b) w ts[k] (.agg #[u k 0, u k 1, u k 2, u k 3]) := ⟨fun k => Classical.choose (hch k), fun k => Classical.choose_spec (hch k)⟩
  exact ⟨_, c, u, rfl, hc, hm, .inr ⟨g, 0, rfl, Nat.le_refl _, hg, fun i j hi hj => (hu i hi).1 j hj⟩, fun i hi => (hu i hi).2⟩
set_option maxRecDepth 100000 in
set_option maxHeartbeats 1000000 in
theorem ownAll_of (ts : List Ty) (hts : ts.length ≤ 1099511627776) (hown : ∀ t ∈ ts, ∀ (P : Nat → Prop) (v : Value) (w : World), TyAt P w t v → Calls Tryd.prog 64 #[v] w (TyMade w t)) (P : Nat → Prop) (v : Value) (w : World) (h : TysAt P w ts v) :
    Calls Tryd.prog 104 #[v] w (TysMade w ts) := by
  obtain ⟨A, c, rfl, hc, hm⟩ := h.form
  unfold maxLen at hm
  obtain ⟨j0, hj, hy0, hy1, hy2⟩ := info_parts' Tryd.info25
  by_cases h0 : ts.length = 0
  · obtain rfl : ts = [] := List.eq_nil_of_length_eq_zero h0
    clear h0 hown hc
    go_enter Tryd.func104, Tryd.ntmps104
    go_wp2
    go_ret
    exact ⟨_, rfl, tys_nil _ _ _ _ (Nat.zero_le _), Below.refl _ _⟩
  · have h0' : ((ts.length : Int) == 0) = false := by rw [beq_eq_false_iff_ne]; omega
    have HB := Lib.hid h.bound'
    have HOWN := Lib.hid hown
    clear h hown h0
    go_enter Tryd.func104, Tryd.ntmps104
    go_upto_region 4 with (at_make; refine wpList_make_full _ rfl _ _ 23 rfl w.heap.size 25 j0 (.agg #[.int .i64 0, .int .i64 0, .string ByteArray.empty, .slice none 0 0]) 4 Tryd.underlying23 hj hy0 hy1 _ _ _ _ ts.length rfl rfl rfl rfl (by rw [hy2]; omega) (by unfold maxLen; omega) (Nat.le_refl _) ?_; intro w2 hown2 hg2)
    obtain ⟨hblk, hz2⟩ : Blk w2 w.heap.size (ts.length * 4) ∧ w.heap.size < w2.heap.size := by
      rcases hown2.2 with ⟨e, _⟩ | ⟨g', cap', cur, hv, _, hh, _, _, hcs, _⟩
      · cases e
      · injection hv with e1 _ e2
        injection e1 with e1
        injection e1 with e1
        subst e1 e2
        exact ⟨⟨cur, hh, hcs⟩, Blk.lt ⟨cur, hh, hcs⟩⟩
    have hb2 : Below w.heap.size w w2 := (Below.refl _ _).grown hg2 (by omega) (fun q hq => by cases hq)
    have HB2 := Lib.hid hb2
    have HBLK := Lib.hid hblk
    clear hb2 hblk hown2 hg2
    generalize hG : w.heap.size = g at *
    have HG := Lib.hid hG
    clear hG
    go_wp2_with fail
    go_loopw [14, 5] (fun i _ wr => ∃ k : Nat, k ≤ ts.length ∧ i = .int .i64 k ∧ RowN wr g ts k ∧ Blk wr g (ts.length * 4) ∧ Below g w wr) (fun i _ _ => ts.length - (intOf i).toNat)
    case atStart => exact ⟨0, Nat.zero_le _, rfl, fun k _ h => absurd h (Nat.not_lt_zero _), HBLK.out, HB2.out⟩
    case round =>
      obtain ⟨k, hk, rfl, hrow, hblk, hb⟩ := hrel
      have HROW := Lib.hid hrow
      have HBR := Lib.hid hblk
      have HW := Lib.hid hb
      clear hrow hblk hb
      by_cases hlt : k < ts.length
      · obtain ⟨b, off, A1, n1, rfl, hpb, hbl, c0, c1, c2, c3, ht⟩ := (HB.out.keep (.of_belowB (fun x h => h) HW.out)).at k hlt
        have hki : (k : Int) < (ts.length : Int) := by omega
        have hk0 : (0 : Int) ≤ (k : Int) := by omega
        have HT := Lib.hid ht
        have HC := Lib.hid (HOWN.out ts[k] (List.getElem_mem hlt))
        have hgl := HBR.out.lt
        clear ht
        generalize ts[k].form = tf, ts[k].num = tn, ts[k].name = ts', ts[k].args.length = tl at *
        go_wp2_with fail
        have b0 := below_new wr (.cells #[.int .i64 tf, .int .i64 tn, .string ts', .slice A1 tl n1] 25)
        refine (HC.out _ _ _ (HT.out.on b0)).mono ?_
        rintro e y1 ⟨v, rfl, hv, b1⟩
        obtain ⟨A2, n2, rfl, _, _⟩ := hv.form
        have b01 : Below wr.heap.size wr y1 := b0.trans (b1.mono b0.size)
        have hblk1 := HBR.out.below b01 hgl
        have hrow1 := HROW.out.on b01 hgl
        have hst := hrow1.step hblk1 (by omega) hlt (hv.mono (fun b (hb : _ ≤ b) => (by have := b0.size; omega : g < b)))
        have HST := Lib.hid hst
        have HB1 := Lib.hid (HW.out.trans (b01.mono (Nat.le_of_lt hgl)))
        obtain ⟨z0, d0⟩ := hblk1.cell (j := k * 4) (by omega)
        obtain ⟨z1, d1⟩ := hblk1.cell (j := k * 4 + 1) (by omega)
        obtain ⟨z2, d2⟩ := hblk1.cell (j := k * 4 + 2) (by omega)
        obtain ⟨z3, d3⟩ := hblk1.cell (j := k * 4 + 3) (by omega)
        have f0 := hblk1.frozen (k * 4)
        have f1 := hblk1.frozen (k * 4 + 1)
        have f2 := hblk1.frozen (k * 4 + 2)
        have f3 := hblk1.frozen (k * 4 + 3)
        clear hv b0 b1 b01 hblk1 hrow1 hst HT HC
        generalize ts[k].form = tf, ts[k].num = tn, ts[k].name = ts', ts[k].args.length = tl at *
        go_wp2
        go_roundw
        case rel => exact ⟨k + 1, by omega, by go_num, HST.out.1, HST.out.2, (((HB1.out.setCell (Nat.le_refl _) _).setCell (Nat.le_refl _) _).setCell (Nat.le_refl _) _).setCell (Nat.le_refl _) _⟩
        case measure => simp [intOf]; omega
      · obtain rfl : k = ts.length := by omega
        have hd : decide (ts.length < ts.length) = false := by simp
        have HF := Lib.hid (HROW.out.tys (c := ts.length) HBR.out.lt (Nat.le_refl _) (by unfold maxLen; omega))
        go_wp2
        go_ret
        exact ⟨_, rfl, by rw [HG.out]; exact HF.out, by rw [HG.out]; exact HW.out⟩
theorem own_any : ∀ (t : Ty) (P : Nat → Prop) (v : Value) (w : World), TyAt P w t v → Calls Tryd.prog 64 #[v] w (TyMade w t) := by
  intro t
  have key : ∀ (n : Nat) (t : Ty), t.sz ≤ n → ∀ (P : Nat → Prop) (v : Value) (w : World), TyAt P w t v → Calls Tryd.prog 64 #[v] w (TyMade w t) := by
    intro n
    induction n with
    | zero => intro t h; cases t <;> simp [Ty.sz] at h
    | succ n ih =>
      intro t hn P v w h
      have hal := ownAll_of t.args (by have := t.args_le; omega) (fun x hx => ih x (by have := Ty.arg_sz hx; omega)) P
      obtain ⟨sv, rfl, hs⟩ := h.tys
      obtain ⟨A, c, rfl, _, _⟩ := hs.form
      have HS := Lib.hid hs
      have HAL := Lib.hid hal
      clear hs hal ih h hn
      have hfin : ∀ (w' : World) (sv : Value), TysAt (fun b => w.heap.size ≤ b) w' t.args sv → TyAt (fun b => w.heap.size ≤ b) w' t (.agg #[.int .i64 t.form, .int .i64 t.num, .string t.name, sv]) := fun _ _ h => h.ty
      have HFIN := Lib.hid hfin
      clear hfin
      generalize t.args = ta at *
      generalize hfo : t.form = tf at *
      generalize t.num = tn, t.name = ts at *
      clear hfo
      go_enter Tryd.func64, Tryd.ntmps64
      go_wp2_with fail
      have q0 := Box4.new w (.int .i64 tf) (.int .i64 tn) (.string ts) (.slice A ta.length c) 25
      have q1 := Box4.new (w.alloc (.cells #[.int .i64 tf, .int .i64 tn, .string ts, .slice A ta.length c] 25)) (.int .i64 0) (.int .i64 0) (.string ⟨#[]⟩) (.slice none 0 0) 25
      have hb1 := below_new w (.cells #[.int .i64 tf, .int .i64 tn, .string ts, .slice A ta.length c] 25)
      have hb2 := below_new (w.alloc (.cells #[.int .i64 tf, .int .i64 tn, .string ts, .slice A ta.length c] 25)) (.cells #[.int .i64 0, .int .i64 0, .string ⟨#[]⟩, .slice none 0 0] 25)
      have hz1 : (w.alloc (.cells #[.int .i64 tf, .int .i64 tn, .string ts, .slice A ta.length c] 25)).heap.size = w.heap.size + 1 := by simp
      have q0' := q0.on hb2
      have hs2 := (HS.out.on hb1).on hb2
      rw [hz1] at q1
      have hbw := hb1.trans (hb2.mono (by omega))
      generalize (w.alloc (.cells #[.int .i64 tf, .int .i64 tn, .string ts, .slice A ta.length c] 25)).alloc (.cells #[.int .i64 0, .int .i64 0, .string ⟨#[]⟩, .slice none 0 0] 25) = w2 at *
      have HBW := Lib.hid hbw
      refine (HAL.out _ _ hs2).mono ?_
      rintro e w3 ⟨sv, rfl, hsv, b3⟩
      obtain ⟨A2, c2, rfl, _, _⟩ := hsv.form
      have Q0 := Lib.hid (q0'.on b3)
      have Q1 := Lib.hid (q1.on b3)
      have hb3 := HBW.out.trans (b3.mono HBW.out.size)
      have HB3 := Lib.hid hb3
      have HSV := Lib.hid (hsv.mono (fun b (hb : _ ≤ b) => (by have := HBW.out.size; have := q1.1; omega : w.heap.size + 2 ≤ b)))
      obtain ⟨l0, c0, c1, c2', c3, f0, f1, f2, f3⟩ := Q0.out
      obtain ⟨m0, d0, d1, d2, d3, g0, g1, g2, g3⟩ := Q1.out
      clear q0 q1 q0' hb1 hb2 hz1 hs2 hbw b3 hsv hb3
      go_wp2
      have hk : Keeps (fun b => w.heap.size + 2 ≤ b) w3 (((((w3.setCell ⟨w.heap.size, 3, none⟩ (.slice A2 ta.length c2)).setCell ⟨w.heap.size + 1, 0, none⟩ (.int .i64 tf)).setCell ⟨w.heap.size + 1, 1, none⟩ (.int .i64 tn)).setCell ⟨w.heap.size + 1, 2, none⟩ (.string ts)).setCell ⟨w.heap.size + 1, 3, none⟩ (.slice A2 ta.length c2)) :=
        ((((Keeps.setCell (fun e => by omega) _).trans (.setCell (fun e => by omega) _)).trans (.setCell (fun e => by omega) _)).trans (.setCell (fun e => by omega) _)).trans (.setCell (fun e => by omega) _)
      have hbb : Below w.heap.size w (((((w3.setCell ⟨w.heap.size, 3, none⟩ (.slice A2 ta.length c2)).setCell ⟨w.heap.size + 1, 0, none⟩ (.int .i64 tf)).setCell ⟨w.heap.size + 1, 1, none⟩ (.int .i64 tn)).setCell ⟨w.heap.size + 1, 2, none⟩ (.string ts)).setCell ⟨w.heap.size + 1, 3, none⟩ (.slice A2 ta.length c2)) :=
        ((((HB3.out.setCell (Nat.le_refl _) _).setCell (Nat.le_succ _) _).setCell (Nat.le_succ _) _).setCell (Nat.le_succ _) _).setCell (Nat.le_succ _) _
      exact bodyPost_ret (v := .agg #[.int .i64 tf, .int .i64 tn, .string ts, .slice A2 ta.length c2]) (by simp [results, Tryd.results64, go_sem, d0, d1, d2, d3]) rfl
        ⟨_, rfl, HFIN.out _ _ ((HSV.out.keep hk).mono (fun b (hb : w.heap.size + 2 ≤ b) => (by omega : w.heap.size ≤ b))), hbb⟩
  exact key t.sz t (Nat.le_refl _)
end Go.Proofs.YtbdfjboojokgdaaDoor
