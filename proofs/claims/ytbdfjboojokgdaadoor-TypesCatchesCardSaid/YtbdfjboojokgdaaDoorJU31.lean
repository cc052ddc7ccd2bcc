/- The contract of types' (*subst).inEach (chapter 4), where that of in holds of each. Condition: the library's table of powers of ten reads as the program's text lays it. -/
import Derived.Test.YtbdfjboojokgdaaDoorJU30
namespace Go.Proofs.YtbdfjboojokgdaaDoor
open Go.RowKit

/-- Where a type stands in the layout. -/
structure LayCx (vs : List (ByteArray × Int)) (es : List Int) (n op : Nat) (d : Int) (g : ByteArray → Int) (t : Ty) : Prop where
  v : ∃ A C, vs = A ++ layV g d t ++ C ∧ A.length = n
  e : ∃ A C, es = A ++ layE n t ++ C ∧ A.length = op
  g : ∀ y, g y ≤ d
structure LayCxL (vs : List (ByteArray × Int)) (es : List Int) (n op : Nat) (d : Int) (g : ByteArray → Int) (ts : List Ty) : Prop where
  v : ∃ A C, vs = A ++ layVL g d ts ++ C ∧ A.length = n
  e : ∃ A C, es = A ++ layEL n ts ++ C ∧ A.length = op
  g : ∀ y, g y ≤ d
theorem split_at (ts : List Ty) (k : Nat) : ts = ts.take (k + 1) ++ ts.drop (k + 1) := (List.take_append_drop _ _).symm
theorem layVL_app (g : ByteArray → Int) (d : Int) (a b : List Ty) : layVL g d (a ++ b) = layVL g d a ++ layVL g d b := by unfold layVL; rw [List.map_append, List.flatten_append]
theorem LayCxL.at {vs : List (ByteArray × Int)} {es : List Int} {n op : Nat} {d : Int} {g : ByteArray → Int} {ts : List Ty} (h : LayCxL vs es n op d g ts) {k : Nat} (hk : k < ts.length) : LayCx vs es (n + varsL (ts.take k)) (op + (layEL n (ts.take k)).length) d g ts[k] := by
  obtain ⟨A, C, hv, hn⟩ := h.v
  obtain ⟨A2, C2, he, ho⟩ := h.e
  have e1 : layVL g d ts = layVL g d (ts.take k) ++ layV g d ts[k] ++ layVL g d (ts.drop (k + 1)) := by
    conv => lhs; rw [split_at ts k]
    rw [layVL_app, layVL_take hk]
  have e2 : layEL n ts = layEL n (ts.take k) ++ layE (n + varsL (ts.take k)) ts[k] ++ layEL (n + varsL (ts.take (k + 1))) (ts.drop (k + 1)) := by
    conv => lhs; rw [split_at ts k]
    rw [layEL_append, layEL_take hk]
  refine ⟨⟨A ++ layVL g d (ts.take k), layVL g d (ts.drop (k + 1)) ++ C, ?_, ?_⟩, ⟨A2 ++ layEL n (ts.take k), layEL (n + varsL (ts.take (k + 1))) (ts.drop (k + 1)) ++ C2, ?_, ?_⟩, h.g⟩
  · rw [hv, e1]; simp only [List.append_assoc]
  · rw [List.length_append, hn, layVL_len]
  · rw [he, e2]; simp only [List.append_assoc]
  · rw [List.length_append, ho]
def TabB (B : Nat) (w : World) : Prop := ∀ w', Below B w w' → TabW w'
theorem TabB.on {B : Nat} {w w' : World} (h : TabB B w) (hb : Below B w w') : TabB B w' := fun x hx => h x (hb.trans hx)
theorem TabB.tab {B : Nat} {w : World} (h : TabB B w) : TabW w := h w (Below.refl _ _)
theorem FrSb.keeps {sb ub : Nat} {g : Option Nat} {w w' : World} {G : Nat} (h : FrSb sb ub g w w') (h1 : sb < G) (h2 : ub < G) (h3 : ∀ k, g = some k → k < G) : Keeps (fun b => G ≤ b) w w' :=
  ⟨h.size, fun b off hb hlt => World.cell?_of_block (a := ⟨b, off, none⟩) (h.block b hlt (by omega) (by omega) (fun e => by have := h3 b e; omega))⟩
theorem FrSb.blk {sb ub : Nat} {g : Option Nat} {w w' : World} (h : FrSb sb ub g w w') {b N : Nat} (hB : Blk w b N) (h1 : b ≠ sb) (h2 : b ≠ ub) (h3 : g ≠ some b) : Blk w' b N := by
  obtain ⟨cur, hc, hs⟩ := hB
  exact ⟨cur, (h.block b (lt_of_block hc) h1 h2 h3).trans hc, hs⟩
theorem RowN.keep {w w' : World} {g : Nat} {ts : List Ty} {i : Nat} (h : RowN w g ts i) (hk : Keeps (fun b => g ≤ b) w w') (hg : g < w.heap.size) : RowN w' g ts i := by
  intro k hk2 hi
  obtain ⟨x0, x1, x2, x3, c0, c1, c2, c3, ht⟩ := h k hk2 hi
  exact ⟨x0, x1, x2, x3, (hk.cell g _ (Nat.le_refl _) hg).trans c0, (hk.cell g _ (Nat.le_refl _) hg).trans c1, (hk.cell g _ (Nat.le_refl _) hg).trans c2, (hk.cell g _ (Nat.le_refl _) hg).trans c3, ht.keep ⟨hk.size, fun b off hb hlt => hk.cell b off (Nat.le_of_lt hb) hlt⟩⟩
/-- What in tells of a type. -/
def SubIn (f : Nat) (B sb lb pb ub : Nat) (vs : List (ByteArray × Int)) (es : List Int) (t : Ty) : Prop :=
  ∀ (P : ByteArray → Option Ty) (N n op : Nat) (d : Int) (g : ByteArray → Int) (v : Value) (l : List PutI) (tv : Value) (w : World),
    SbSt B sb lb pb ub vs es P N n op d w → IntoAt B ub w v l → TyAt (fun b => b < B) w t tv → LayCx vs es n op d g t → t.short → 0 ≤ d → d + t.sz ≤ 1048576 → N + 3 * t.sz ≤ 1099511627776 → l.length + t.sz ≤ 1048576 → (takenB (l.map (·.2))).length + t.sz ≤ 1048576 → TabB B w →
    Calls Tryd.prog f #[.pointer (some ⟨sb, 0, none⟩), tv, v] w fun e w' => ∃ rv, e = .returned rv ∧ TyAt (fun b => w.heap.size ≤ b) w' (t.subC P (l.map (·.2))) rv ∧ SbSt B sb lb pb ub vs es P (N + 3 * t.sz) (n + t.vars : Nat) (op + (layE n t).length : Nat) d w' ∧ IntoAt B ub w' v l ∧ FrSb sb ub v.ownBlock w w'
def SubEach (B sb lb pb ub : Nat) (vs : List (ByteArray × Int)) (es : List Int) (ts : List Ty) : Prop :=
  ∀ (P : ByteArray → Option Ty) (N n op : Nat) (d : Int) (g : ByteArray → Int) (v : Value) (l : List PutI) (sv : Value) (w : World),
    SbSt B sb lb pb ub vs es P N n op d w → IntoAt B ub w v l → TysAt (fun b => b < B) w ts sv → LayCxL vs es n op d g ts → (∀ t ∈ ts, t.short) → 0 ≤ d → d + sumSz ts ≤ 1048576 → N + 3 * sumSz ts ≤ 1099511627776 → l.length + sumSz ts ≤ 1048576 → (takenB (l.map (·.2))).length + sumSz ts ≤ 1048576 → TabB B w →
    Calls Tryd.prog 107 #[.pointer (some ⟨sb, 0, none⟩), sv, v] w fun e w' => ∃ rv, e = .returned rv ∧ TysAt (fun b => w.heap.size ≤ b) w' (ts.map (fun t => t.subC P (l.map (·.2)))) rv ∧ SbSt B sb lb pb ub vs es P (N + 3 * sumSz ts) (n + varsL ts : Nat) (op + (layEL n ts).length : Nat) d w' ∧ IntoAt B ub w' v l ∧ FrSb sb ub v.ownBlock w w'
theorem SbSt.more {B sb lb pb ub : Nat} {vs : List (ByteArray × Int)} {es : List Int} {P : ByteArray → Option Ty} {N N' : Nat} {bh op dp : Int} {w : World} (h : SbSt B sb lb pb ub vs es P N bh op dp w) (hN : N ≤ N') : SbSt B sb lb pb ub vs es P N' bh op dp w := by
  obtain ⟨sz, f, h1, h2, h3⟩ := h.puts
  exact ⟨h.hB, h.ne, h.lay, h.pl, h.cell, sz, f, h1, by omega, h3⟩
/-! ### A store into a box of a type -/
section
variable {B g' : Nat} {w : World} (hg : ∃ cs, w.heap[g']? = some (.cells cs 25)) (hB : B ≤ g') (o : Nat) (u : Value)
include hg
theorem set_cells {b : Nat} {cs : Array Value} {t : TypeId} (hb : w.heap[b]? = some (.cells cs t)) (ht : t ≠ 25) : (w.setCell ⟨g', o, none⟩ u).heap[b]? = some (.cells cs t) := by
  refine (Below.heap_setCell _ _ _ _ (fun e => ?_)).trans hb
  simp only at e
  subst e
  obtain ⟨cs', h⟩ := hg
  rw [h] at hb; injection hb with hb; injection hb with _ hb; exact ht hb.symm
theorem set_map {b : Nat} (hn : ∀ cs t, w.heap[b]? ≠ some (.cells cs t)) : (w.setCell ⟨g', o, none⟩ u).heap[b]? = w.heap[b]? := by
  refine Below.heap_setCell _ _ _ _ (fun e => ?_)
  simp only at e
  subst e
  obtain ⟨cs', h⟩ := hg
  exact hn _ _ h
theorem set_own {base : Nat} {e : TypeId} {size : Nat} {v : Value} {n : Nat} {xs : List Value} (ho : w.ownsRow base e size v n xs) (he : e ≠ 25) : (w.setCell ⟨g', o, none⟩ u).ownsRow base e size v n xs :=
  own_keep ho (fun k hk => by
    obtain ⟨cur, hc⟩ := own_type ho hk
    rw [set_cells hg o u hc he, hc])
include hB
theorem PutAt.set {ub b : Nat} {s : ByteArray} {t : Ty} (h : PutAt B ub w b s t) : PutAt B ub (w.setCell ⟨g', o, none⟩ u) b s t := by
  obtain ⟨h0, f, n, m, A, l, c, mb, h1, h2, h3, h4⟩ := h
  exact ⟨h0, f, n, m, A, l, c, mb, set_cells hg o u h1 (by decide), h2.keep (Keeps.setCell (fun e => by omega) _), h3.block (set_map hg o u h3.noCells), h4⟩
theorem IntoAt.set {ub : Nat} {v : Value} {l : List PutI} (h : IntoAt B ub w v l) : IntoAt B ub (w.setCell ⟨g', o, none⟩ u) v l :=
  ⟨set_own hg o u h.1 (by decide), fun p hp => (h.2 p hp).set hg hB o u⟩
theorem SbSt.set {sb lb pb ub : Nat} {vs : List (ByteArray × Int)} {es : List Int} {P : ByteArray → Option Ty} {N : Nat} {bh op dp : Int} (h : SbSt B sb lb pb ub vs es P N bh op dp w) : SbSt B sb lb pb ub vs es P N bh op dp (w.setCell ⟨g', o, none⟩ u) := by
  obtain ⟨v1, v2, h1, h2, h3⟩ := h.lay
  obtain ⟨sz, F, p1, p2, p3, p4, p5⟩ := h.pl
  obtain ⟨sz', f, m1, m2, m3⟩ := h.puts
  refine ⟨⟨h.hB.1, h.hB.2.1, h.hB.2.2.1, h.hB.2.2.2.1, by simpa using h.hB.2.2.2.2⟩, h.ne, ⟨v1, v2, set_cells hg o u h1 (by decide), set_own hg o u h2 (by decide), set_own hg o u h3 (by decide)⟩, ⟨sz, F, p1.block (set_map hg o u p1.notCells), p2, p3, fun x v e => ⟨set_own hg o u (p4 x v e).1 (by decide), (p4 x v e).2⟩, p5⟩, set_cells hg o u h.cell (by decide), sz', f, m1.block (set_map hg o u m1.notCells), m2, fun x => (m3 x).map (fun b s t hp => hp.set hg hB o u)⟩
end
theorem FrSb.set {sb ub : Nat} {g : Option Nat} {a w : World} (h : FrSb sb ub g a w) {b : Nat} (hb : a.heap.size ≤ b) (o : Nat) (u : Value) : FrSb sb ub g a (w.setCell ⟨b, o, none⟩ u) :=
  ⟨h.os, h.tape, h.output, by simpa using h.size, fun k hk h1 h2 h3 => (Below.heap_setCell _ _ _ _ (by simp only; omega)).trans (h.block k hk h1 h2 h3)⟩
theorem Blk.cells {w : World} {g N : Nat} (h : Blk w g N) : ∃ cs, w.heap[g]? = some (.cells cs 25) := by obtain ⟨cur, h, _⟩ := h; exact ⟨cur, h⟩
theorem sumSz_app (a b : List Ty) : sumSz (a ++ b) = sumSz a + sumSz b := by unfold sumSz; rw [List.map_append, List.sum_append]
theorem varsL_app (a b : List Ty) : varsL (a ++ b) = varsL a + varsL b := by unfold varsL; rw [List.map_append, List.sum_append]
theorem sumSz_step {ts : List Ty} {k : Nat} (h : k < ts.length) : sumSz (ts.take (k + 1)) = sumSz (ts.take k) + ts[k].sz := by
  rw [List.take_succ_eq_append_getElem h, sumSz_app]; simp [sumSz]
theorem varsL_step {ts : List Ty} {k : Nat} (h : k < ts.length) : varsL (ts.take (k + 1)) = varsL (ts.take k) + ts[k].vars := by
  rw [List.take_succ_eq_append_getElem h, varsL_app]; simp [varsL]
theorem sumSz_take_le (ts : List Ty) (k : Nat) : sumSz (ts.take k) ≤ sumSz ts := by
  have : sumSz ts = sumSz (ts.take k) + sumSz (ts.drop k) := by
    rw [← sumSz_app, List.take_append_drop]
  omega
set_option maxRecDepth 100000 in
set_option maxHeartbeats 2000000 in
theorem each_in (B sb lb pb ub : Nat) (vs : List (ByteArray × Int)) (es : List Int) (ts : List Ty) (hin : ∀ t ∈ ts, SubIn 72 B sb lb pb ub vs es t) : SubEach B sb lb pb ub vs es ts := by
  intro P N n op d g v l sv w h hi hs hly hsh hd0 hd hN hl ht htab
  obtain ⟨A, c, rfl, hc, hm⟩ := hs.form
  unfold maxLen at hm
  obtain ⟨j0, hj, hy0, hy1, hy2⟩ := info_parts' Tryd.info25
  obtain ⟨A2, c2, rfl⟩ := own_form hi.1
  by_cases h0 : ts.length = 0
  · obtain rfl : ts = [] := List.eq_nil_of_length_eq_zero h0
    have HS := Lib.hid h
    have HI := Lib.hid hi
    clear h0 hin hc h hi hs hly hsh
    go_enter Tryd.func107, Tryd.ntmps107
    go_wp2
    go_ret
    exact ⟨_, rfl, tys_nil _ _ _ _ (Nat.zero_le _), by simpa [sumSz, varsL, layEL] using HS.out, HI.out, FrSb.refl _ _ _ _⟩
  · have h0' : ((ts.length : Int) == 0) = false := by rw [beq_eq_false_iff_ne]; omega
    have HS := Lib.hid h
    have HI := Lib.hid hi
    have HTS := Lib.hid hs
    have HLY := Lib.hid hly
    have HIN := Lib.hid hin
    have HSH := Lib.hid hsh
    have HTAB := Lib.hid htab
    have htl : ts.length ≤ sumSz ts := by
      have : ∀ l : List Ty, l.length ≤ sumSz l := fun l => by
        induction l with
        | nil => simp [sumSz]
        | cons a r ih => have : 1 ≤ a.sz := by cases a <;> simp [Ty.sz]
                         simp only [sumSz, List.map_cons, List.sum_cons, List.length_cons] at *; omega
      exact this ts
    have hBw := h.hB.2.2.2.2
    have hsbw : sb < w.heap.size := lt_of_block h.cell
    have hubw : ub < w.heap.size := by obtain ⟨sz, f, m1, _⟩ := h.puts; exact m1.lt
    have hown : ∀ k, (Value.slice A2 l.length c2).ownBlock = some k → k < w.heap.size := fun k hk => (World.ownsRow.lt hi.1 k hk).2
    have hownB : ∀ k, (Value.slice A2 l.length c2).ownBlock = some k → B ≤ k := fun k hk => (World.ownsRow.lt hi.1 k hk).1
    have HOWN := Lib.hid hown
    have HOWNB := Lib.hid hownB
    have hsB := h.hB.1
    have huB := h.hB.2.2.2.1
    clear h hi hs hly hin hsh htab hown hownB h0
    go_enter Tryd.func107, Tryd.ntmps107
    go_upto_region 4 with (at_make; refine wpList_make_full _ rfl _ _ 23 rfl w.heap.size 25 j0 (.agg #[.int .i64 0, .int .i64 0, .string ByteArray.empty, .slice none 0 0]) 4 Tryd.underlying23 hj hy0 hy1 _ _ _ _ ts.length rfl rfl rfl rfl (by rw [hy2]; omega) (by unfold maxLen; omega) (Nat.le_refl _) ?_; intro w2 hown2 hg2)
    obtain ⟨hblk, hz2⟩ : Blk w2 w.heap.size (ts.length * 4) ∧ w.heap.size < w2.heap.size := by
      rcases hown2.2 with ⟨e, _⟩ | ⟨g', cap', cur, hv, _, hh, _, _, hcs, _⟩
      · cases e
      · injection hv with e1 _ e2
        injection e1 with e1
        injection e1 with e1
        subst e1 e2
        exact ⟨⟨cur, hh, hcs⟩, Blk.lt ⟨cur, hh, hcs⟩⟩
    have hb2 : Below w.heap.size w w2 := (Below.refl _ _).grown hg2 (by omega) (fun q hq => by cases hq)
    have HS2 := Lib.hid (HS.out.on hb2)
    have HI2 := Lib.hid (HI.out.on HS.out hb2)
    have HF2 : Hid (FrSb sb ub (Value.slice A2 l.length c2).ownBlock w w2) := FrSb.of_below hb2
    have HBLK := Lib.hid hblk
    clear hb2 hblk hown2 hg2
    generalize hG : w.heap.size = G at *
    have HG := Lib.hid hG
    clear hG
    go_wp2_with fail
    go_loopw [18] (fun i wr => ∃ k : Nat, k ≤ ts.length ∧ i = .int .i64 k ∧ RowN wr G (ts.map (fun t => t.subC P (l.map (·.2)))) k ∧ Blk wr G (ts.length * 4) ∧ SbSt B sb lb pb ub vs es P (N + 3 * sumSz (ts.take k)) (n + varsL (ts.take k) : Nat) (op + (layEL n (ts.take k)).length : Nat) d wr ∧ IntoAt B ub wr (.slice A2 l.length c2) l ∧ FrSb sb ub (Value.slice A2 l.length c2).ownBlock w wr) (fun i _ => ts.length - (intOf i).toNat)
    case atStart => exact ⟨0, Nat.zero_le _, rfl, fun k _ h => absurd h (Nat.not_lt_zero _), HBLK.out, by simpa [sumSz, varsL, layEL] using HS2.out, HI2.out, HF2.out⟩
    case round =>
      obtain ⟨k, hk, rfl, hrow, hblk, hst, hin, hfr⟩ := hrel
      have HROW := Lib.hid hrow
      have HBR := Lib.hid hblk
      have HST := Lib.hid hst
      have HII := Lib.hid hin
      have HFR := Lib.hid hfr
      have hsk := sumSz_take_le ts k
      clear hrow hblk hst hin hfr
      by_cases hlt : k < ts.length
      · obtain ⟨b, off, A1, n1, rfl, hpb, hbl, c0, c1, c2', c3, ht⟩ := (HTS.out.keep (.of_belowB (fun _ h => h) (HFR.out.below hsB huB HOWNB.out (by rw [HG.out]; exact hBw)))).at k hlt
        have hki : (k : Int) < (ts.length : Int) := by omega
        have hk0 : (0 : Int) ≤ (k : Int) := by omega
        have hstep := sumSz_step hlt
        have hsk1 := sumSz_take_le ts (k + 1)
        have b0 := below_new wr (.cells #[.int .i64 ts[k].form, .int .i64 ts[k].num, .string ts[k].name, .slice A1 ts[k].args.length n1] 25)
        have hbw := HFR.out.below hsB huB HOWNB.out (by rw [HG.out]; exact hBw)
        have HC := Lib.hid (HIN.out ts[k] (List.getElem_mem hlt) P (N + 3 * sumSz (ts.take k)) (n + varsL (ts.take k)) (op + (layEL n (ts.take k)).length) d g _ l _ _ (HST.out.on b0) (HII.out.on HST.out b0) (ht.on b0) (HLY.out.at hlt) (HSH.out _ (List.getElem_mem hlt)) hd0 (by omega) (by omega) (by omega) (by omega) ((HTAB.out.on hbw).on (b0.mono (by have := HST.out.hB.2.2.2.2; omega))))
        have HB0 := Lib.hid b0
        have HSTEP := Lib.hid hstep
        have HVS := Lib.hid (varsL_step hlt)
        have HES := Lib.hid (layEL_take (n := n) hlt)
        have hgl := HBR.out.lt
        have hgz := HFR.out.size
        clear ht b0 hbw hstep
        generalize hXX : wr.alloc (.cells #[.int .i64 ts[k].form, .int .i64 ts[k].num, .string ts[k].name, .slice A1 ts[k].args.length n1] 25) = X at *
        have HXX := Lib.hid hXX
        have q0 : X.heap[wr.heap.size]? = some (.cells #[.int .i64 ts[k].form, .int .i64 ts[k].num, .string ts[k].name, .slice A1 ts[k].args.length n1] 25) := by rw [← hXX]; exact (MapKept.heap_alloc wr _).1
        have d0 : X.cell? ⟨wr.heap.size, 0, none⟩ = some (.int .i64 ts[k].form) := by simp [World.cell?, q0]
        have d1 : X.cell? ⟨wr.heap.size, 1, none⟩ = some (.int .i64 ts[k].num) := by simp [World.cell?, q0]
        have d2 : X.cell? ⟨wr.heap.size, 2, none⟩ = some (.string ts[k].name) := by simp [World.cell?, q0]
        have d3 : X.cell? ⟨wr.heap.size, 3, none⟩ = some (.slice A1 ts[k].args.length n1) := by simp [World.cell?, q0]
        clear hXX q0
        generalize ts[k].form = tf, ts[k].num = tn, ts[k].name = ts', ts[k].args.length = tl at *
        go_upto_region 7 with (fail)
        rw [HXX.out]
        go_wp2_with fail
        (with_reducible refine HC.out.mono ?_)
        rintro e y1 ⟨rv, rfl, hrv, hs1, hi1, hf1⟩
        have hzX : wr.heap.size < X.heap.size := by rw [← HXX.out]; simp
        have hGn : ∀ j, (Value.slice A2 l.length c2).ownBlock = some j → j < G := fun j hj => HOWN.out j hj
        have hblk1 := hf1.blk (HBR.out.below HB0.out hgl) (by omega) (by omega) (fun e => by have := hGn _ e; omega)
        have hrow1 := (HROW.out.on HB0.out hgl).keep (hf1.keeps (by omega) (by omega) hGn) (by omega)
        have hf01 : FrSb sb ub (Value.slice A2 l.length c2).ownBlock w y1 := HFR.out.trans ((FrSb.of_below HB0.out).trans hf1 (fun j e => .inl e)) (fun j e => .inl e)
        obtain ⟨f2, n2, s2, A3, l3, c3', rfl⟩ := hrv.flat
        have hst := hrow1.step hblk1 (by omega) (by rw [List.length_map]; exact hlt) (x0 := .int .i64 f2) (x1 := .int .i64 n2) (x2 := .string s2) (x3 := .slice A3 l3 c3') (by rw [List.getElem_map]; exact hrv.mono (fun b (hb : _ ≤ b) => (by omega : G < b)))
        have hst2 := hst.1
        have hblk2 := hst.2
        have HST2 := Lib.hid hst2
        have HBLK2 := Lib.hid hblk2
        have hs1' : SbSt B sb lb pb ub vs es P (N + 3 * sumSz (ts.take (k + 1))) (n + varsL (ts.take (k + 1)) : Nat) (op + (layEL n (ts.take (k + 1))).length : Nat) d y1 := by
          have e1 : N + 3 * sumSz (ts.take k) + 3 * ts[k].sz = N + 3 * sumSz (ts.take (k + 1)) := by rw [HSTEP.out]; omega
          have e2 : n + varsL (ts.take k) + ts[k].vars = n + varsL (ts.take (k + 1)) := by rw [HVS.out]; omega
          have e3 : op + (layEL n (ts.take k)).length + (layE (n + varsL (ts.take k)) ts[k]).length = op + (layEL n (ts.take (k + 1))).length := by rw [HES.out, List.length_append]; omega
          rw [← e1, ← e2, ← e3]; exact hs1
        have hGB : B ≤ G := hBw
        have b1 := hblk1.setCell (k * 4) (.int .i64 f2)
        have b2 := b1.setCell (k * 4 + 1) (.int .i64 n2)
        have b3 := b2.setCell (k * 4 + 2) (.string s2)
        have HS9 := Lib.hid ((((hs1'.set hblk1.cells hGB (k * 4) (.int .i64 f2)).set b1.cells hGB (k * 4 + 1) (.int .i64 n2)).set b2.cells hGB (k * 4 + 2) (.string s2)).set b3.cells hGB (k * 4 + 3) (.slice A3 l3 c3'))
        have HI9 := Lib.hid ((((hi1.set hblk1.cells hGB (k * 4) (.int .i64 f2)).set b1.cells hGB (k * 4 + 1) (.int .i64 n2)).set b2.cells hGB (k * 4 + 2) (.string s2)).set b3.cells hGB (k * 4 + 3) (.slice A3 l3 c3'))
        have hwG : w.heap.size ≤ G := by rw [HG.out]; exact Nat.le_refl _
        have HF9 := Lib.hid ((((hf01.set hwG (k * 4) (.int .i64 f2)).set hwG (k * 4 + 1) (.int .i64 n2)).set hwG (k * 4 + 2) (.string s2)).set hwG (k * 4 + 3) (.slice A3 l3 c3'))
        obtain ⟨z0, e0⟩ := hblk1.cell (j := k * 4) (by omega)
        obtain ⟨z1, e1⟩ := hblk1.cell (j := k * 4 + 1) (by omega)
        obtain ⟨z2, e2⟩ := hblk1.cell (j := k * 4 + 2) (by omega)
        obtain ⟨z3, e3⟩ := hblk1.cell (j := k * 4 + 3) (by omega)
        have f0 := hblk1.frozen (k * 4)
        have f1 := hblk1.frozen (k * 4 + 1)
        have f2' := hblk1.frozen (k * 4 + 2)
        have f3 := hblk1.frozen (k * 4 + 3)
        clear hrv hs1 hi1 hf1 hblk1 hrow1 hf01 hst hst2 hblk2 hs1' b1 b2 b3 HC hGn c0 c1 c2' c3 d0 d1 d2 d3
        go_wp2
        go_roundw
        case rel => exact ⟨k + 1, by omega, by go_num, HST2.out, HBLK2.out, HS9.out, HI9.out, HF9.out⟩
        case measure => simp [intOf]; omega
      · obtain rfl : k = ts.length := by omega
        have hd : decide (ts.length < ts.length) = false := by simp
        have HF := Lib.hid (RowN.tys (c := ts.length) (ts := ts.map (fun t => t.subC P (l.map (·.2)))) (by rw [List.length_map]; exact HROW.out) HBR.out.lt (by rw [List.length_map]; exact Nat.le_refl _) (by unfold maxLen; omega))
        rw [List.length_map] at HF
        rw [List.take_length] at HST
        go_wp2
        go_ret
        exact ⟨_, rfl, HF.out.mono (fun b (h : G ≤ b) => (by rw [HG.out]; exact h)), HST.out, HII.out, HFR.out⟩
end Go.Proofs.YtbdfjboojokgdaaDoor
