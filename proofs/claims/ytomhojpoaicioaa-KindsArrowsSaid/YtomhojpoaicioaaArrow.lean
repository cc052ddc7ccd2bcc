/- The contracts of kinds.Arrow and kinds.Same. Conditions: those that each theorem names. -/
import Derived.Test.YtomhojpoaicioaaOwn
import Derived.Deep.RegionLaw
namespace Go.Proofs.Ytomhojpoaicioaa
open Go.RowKit

set_option maxRecDepth 100000 in
set_option maxHeartbeats 1000000 in
theorem arrow_any (P Q : Nat → Prop) (a : K) (l : List K) (v1 v2 : Value) (w : World) (h1 : KAt P w a v1) (h2 : KAt Q w (.mk l) v2) (hsz : K.sz (.mk (a :: l)) ≤ 1099511627776) :
    Calls Try.prog 19 #[.agg #[v1], .agg #[v2]] w (KindMade w (.mk (a :: l))) := by
  obtain ⟨A1, n1, c1, rfl⟩ : ∃ A n c, v1 = .slice A n c := by
    cases a with
    | mk q => obtain ⟨A2, c2, e2, _⟩ := h1.form; exact ⟨A2, _, c2, e2⟩
  obtain ⟨A2, c2, rfl, hm2⟩ := h2.form
  obtain ⟨us, hul, hcell, hks, hone⟩ := h2.vals
  obtain ⟨j0, hj, hy0, hy1, hy2⟩ := info_parts' Try.info25
  have hll := len_le_sz (a :: l)
  simp only [List.length_cons] at hll
  have hl40 : l.length + 2 ≤ 1099511627776 := by omega
  have hb0 : Below w.heap.size w (((w.alloc (.cells #[.slice A1 n1 c1] 25)).alloc (.cells #[.slice A2 l.length c2] 25)).alloc (.cells #[.slice none 0 0] 25)) := ((below_new w _).trans ((below_new _ _).mono (by simp))).trans ((below_new _ _).mono (by simp; omega))
  have hz0 : (((w.alloc (.cells #[.slice A1 n1 c1] 25)).alloc (.cells #[.slice A2 l.length c2] 25)).alloc (.cells #[.slice none 0 0] 25)).heap.size = w.heap.size + 3 := by simp
  have hx0 : (((w.alloc (.cells #[.slice A1 n1 c1] 25)).alloc (.cells #[.slice A2 l.length c2] 25)).alloc (.cells #[.slice none 0 0] 25)).cell? ⟨w.heap.size, 0, none⟩ = some (.slice A1 n1 c1) := by simp [go_sem]
  have hx1 : (((w.alloc (.cells #[.slice A1 n1 c1] 25)).alloc (.cells #[.slice A2 l.length c2] 25)).alloc (.cells #[.slice none 0 0] 25)).cell? ⟨w.heap.size + 1, 0, none⟩ = some (.slice A2 l.length c2) := by simp [go_sem]
  have hx2 : (((w.alloc (.cells #[.slice A1 n1 c1] 25)).alloc (.cells #[.slice A2 l.length c2] 25)).alloc (.cells #[.slice none 0 0] 25)).cell? ⟨w.heap.size + 2, 0, none⟩ = some (.slice none 0 0) := by simp [go_sem]
  have hf2 : (((w.alloc (.cells #[.slice A1 n1 c1] 25)).alloc (.cells #[.slice A2 l.length c2] 25)).alloc (.cells #[.slice none 0 0] 25)).frozen? ⟨w.heap.size + 2, 0, none⟩ = false := by simp [go_sem]
  have HB0 := Lib.hid hb0
  have HZ0 := Lib.hid hz0
  have HX0 := Lib.hid hx0
  have HX1 := Lib.hid hx1
  have HX2 := Lib.hid hx2
  have HF2 := Lib.hid hf2
  have H1 := Lib.hid h1
  have HUL := Lib.hid hul
  have HCELL := Lib.hid hcell
  have HKS := Lib.hid hks
  have HONE := Lib.hid hone
  have HSZ := Lib.hid hsz
  unfold maxLen at hm2
  clear hb0 hz0 hx0 hx1 hx2 hf2 h1 h2 hul hcell hks hone hsz hll
  go_enter Try.func19, Try.ntmps19
  go_upto_region 2 with (at_make; refine wpList_make_full _ rfl _ _ 23 rfl (w.heap.size + 3) 25 j0 (.agg #[.slice none 0 0]) 1 Try.underlying23 hj hy0 hy1 _ _ _ _ (l.length + 1) rfl rfl (by omega) (by omega) (by rw [hy2]; omega) (by unfold maxLen; omega) (by simp) ?_; intro w2 hown2 hg2)
  rw [HZ0.out] at hown2
  generalize ((w.alloc (.cells #[.slice A1 n1 c1] 25)).alloc (.cells #[.slice A2 l.length c2] 25)).alloc (.cells #[.slice none 0 0] 25) = w0 at *
  generalize hG : w.heap.size + 3 = g at *
  have hz0 := HZ0.out
  have hb2 : Below g w0 w2 := (Below.refl _ _).grown hg2 (by omega) (fun q hq => by cases hq)
  obtain ⟨cur, hh, hcl⟩ : ∃ cur : List Value, w2.heap[g]? = some (.cells cur.toArray 25 (0, 0)) ∧ cur.length = l.length + 1 := by
    rcases hown2.2 with ⟨e, _⟩ | ⟨g', cap', cur, hv, _, hh, _, _, hcs, _⟩
    · cases e
    · injection hv with e1 _ e2
      injection e1 with e1
      injection e1 with e1
      subst e1 e2
      exact ⟨cur.toList, by simpa using hh, by simpa using hcs⟩
  obtain ⟨x0, xs, rfl⟩ : ∃ x0 xs, cur = x0 :: xs := by
    cases cur with
    | nil => simp at hcl
    | cons x0 xs => exact ⟨x0, xs, rfl⟩
  have hxl : xs.length = l.length := by simpa using hcl
  have hg2l : g < w2.heap.size := lt_of_block hh
  have hc0 : w2.cell? ⟨g, 0, none⟩ = some x0 := by simp [World.cell?, hh]
  have hf0 : w2.frozen? ⟨g, 0, none⟩ = false := by simp [World.frozen?, hh]
  have y0 := (hb2.cell (p := ⟨w.heap.size, 0, none⟩) (show w.heap.size < g by omega)).trans HX0.out
  have hh3 : (w2.setCell ⟨g, 0, none⟩ (.slice A1 n1 c1)).heap[g]? = some (.cells (.slice A1 n1 c1 :: xs).toArray 25 (0, 0)) := by
    have h' : w2.heap[g] = .cells (x0 :: xs).toArray 25 (0, 0) := by simpa [Array.getElem?_eq_getElem hg2l] using hh
    show (w2.heap.modify g _)[g]? = _
    rw [Array.getElem?_eq_getElem (by simpa using hg2l), Array.getElem_modify_self, h']
    simp
  have hb3 : Below g w0 (w2.setCell ⟨g, 0, none⟩ (.slice A1 n1 c1)) := hb2.setCell (Nat.le_refl _) _
  have HH3 := Lib.hid hh3
  have HB3 := Lib.hid hb3
  have HG := Lib.hid hG
  clear hown2 hg2 hb2 hh hcl hG hh3 hb3
  have hl1 : (1 : Int) ≤ (l.length : Int) + 1 := by omega
  have hl2 : (0 : Int) < (l.length : Int) + 1 := by omega
  go_upto_region 3 with (fail)
  generalize w2.setCell ⟨g, 0, none⟩ (.slice A1 n1 c1) = w3 at *
  have hgw : w.heap.size + 3 = g := HG.out
  have y1 := (HB3.out.cell (p := ⟨w.heap.size + 1, 0, none⟩) (show w.heap.size + 1 < g by omega)).trans HX1.out
  have hB3 := HB0.out.trans (HB3.out.mono (by omega))
  have hz3 := hB3.size
  have HCB : Hid (Below g w0 w3.drew) := HB3.out.drew
  have hun : us.length = Nat.min l.length l.length := by rw [HUL.out]; exact (Nat.min_self _).symm
  have HUN := Lib.hid hun
  have hfit : 1 + us.length ≤ (Value.slice A1 n1 c1 :: xs).length := by rw [HUL.out]; simp; omega
  have HFIT := Lib.hid hfit
  have fin : ∀ w4 : World, Hid (w4.heap[g]? = some (.cells (splice (Value.slice A1 n1 c1 :: xs) 1 us).toArray 25 (0, 0))) → Below g w0 w4 → KAt (fun _ => True) w4 (.mk (a :: l)) (.slice (some ⟨g, 0, none⟩) (l.length + 1) (l.length + 1)) := by
    intro w4 hh4 hb4
    have e4 : splice (Value.slice A1 n1 c1 :: xs) 1 us = .slice A1 n1 c1 :: us := by
      unfold splice
      rw [List.drop_of_length_le (by rw [HUL.out]; simp; omega)]
      simp
    have hh := hh4.out
    rw [e4] at hh
    have hB4 := HB0.out.trans (hb4.mono (by omega))
    refine .intro (a :: l) _ (l.length + 1) (.slice A1 n1 c1 :: us) (by simp) (by unfold maxLen; omega) (by simp [HUL.out]) (.inr ⟨g, 0, rfl, trivial, lt_of_block hh, fun i hi => ?_⟩) (fun i hi => ?_)
    · rw [Nat.zero_add]; simp only [World.cell?, hh]; simp only [List.getElem?_toArray]; exact List.getElem?_eq_getElem hi
    · cases i with
      | zero => exact (H1.out.on hB4).mono (fun _ _ => trivial)
      | succ i => exact ((HKS.out.2 i (by simpa using hi) (by rw [HUL.out]; simpa using hi)).on hB4).mono (fun _ _ => trivial)
  have FIN := Lib.hid fin
  clear fin hun hfit
  by_cases h0 : l.length = 0
  · obtain rfl : l = [] := List.eq_nil_of_length_eq_zero h0
    obtain rfl : us = [] := List.eq_nil_of_length_eq_zero HUL.out
    simp only [List.length_nil, Nat.zero_add] at *
    go_region_law (refine step_copy_splice rfl (.tmp 15) (.tmp 17) 23 23 rfl 25 Try.underlying23 size25 (some ⟨g, 0, none⟩) A2 0 0 0 c2 rfl rfl g 1 (.slice A1 n1 c1 :: xs) 25 HH3.out [] rfl (fun h9 => absurd h9 (Nat.not_lt_zero _)) HFIT.out HONE.out g w0 HCB.out (Nat.le_refl _) ?_; intro w4 hh4 hb4)
    have hcal := own_any _ _ _ _ w4 (Nat.le_refl _) (FIN.out w4 hh4 hb4) HSZ.out
    have HCAL := Lib.hid hcal
    have x2 := (hb4.cell (p := ⟨w.heap.size + 2, 0, none⟩) (show w.heap.size + 2 < g by omega)).trans HX2.out
    have f2 := (hb4.frozen (p := ⟨w.heap.size + 2, 0, none⟩) (show w.heap.size + 2 < g by omega)).trans HF2.out
    have HB4 := Lib.hid (HB0.out.trans (hb4.mono (by omega)))
    have hz4 : w.heap.size + 2 < w4.heap.size := by have := hb4.size; omega
    clear hcal hh4 hb4 hgw
    go_wp2_with fail
    refine HCAL.out.mono ?_
    rintro e w5 ⟨kv, rfl, hk5, hb5⟩
    obtain ⟨A5, n5, c5, rfl⟩ : ∃ A n c, kv = .slice A n c := by
      obtain ⟨A9, c9, e9, _⟩ := hk5.form; exact ⟨A9, _, c9, e9⟩
    have x5 := (hb5.cell (p := ⟨w.heap.size + 2, 0, none⟩) hz4).trans x2
    have f5 := (hb5.frozen (p := ⟨w.heap.size + 2, 0, none⟩) hz4).trans f2
    have HB5 := Lib.hid (HB4.out.trans (hb5.mono HB4.out.size))
    have HK5 := Lib.hid ((hk5.mono (fun b (hb : w4.heap.size ≤ b) => (by omega : w.heap.size + 3 ≤ b))).keep (Keeps.setCell (b := w.heap.size + 2) (o := 0) (fun e => by omega) (.slice A5 n5 c5)))
    clear hk5 hb5
    go_wp2
    exact bodyPost_ret (v := .agg #[.slice A5 n5 c5]) (by simp [results, Try.results19, go_sem, x5]) rfl ⟨_, rfl, HK5.out.mono (fun b (hb : w.heap.size + 3 ≤ b) => (by omega : w.heap.size ≤ b)), HB5.out.setCell (Nat.le_succ_of_le (Nat.le_succ _)) _⟩
  · have hpos : 0 < l.length := by omega
    obtain ⟨b, off, rfl, hlt, hcell⟩ := HCELL.out (by rw [HUL.out]; exact hpos)
    have HC3 : Hid (∀ j u, us[j]? = some u → w3.drew.cell? ((⟨b, off, none⟩ : Addr).add j) = some u) := fun j u hj => by
      rw [Go.WideShapes.add_plain]
      exact (hB3.cell (p := ⟨b, off + j, none⟩) hlt).trans (by have := hcell j u hj; rwa [Go.WideShapes.add_plain] at this)
    clear hcell
    have hne1 : ¬ (l.length + 1 = 1) := by omega
    go_region_law (refine step_copy_splice rfl (.tmp 15) (.tmp 17) 23 23 rfl 25 Try.underlying23 size25 (some ⟨g, 1, none⟩) (some ⟨b, off, none⟩) l.length l.length l.length c2 rfl rfl g 1 (.slice A1 n1 c1 :: xs) 25 HH3.out us HUN.out (fun _ => ⟨rfl, _, rfl, HC3.out⟩) HFIT.out HONE.out g w0 HCB.out (Nat.le_refl _) ?_; intro w4 hh4 hb4)
    have hcal := own_any _ _ _ _ w4 (Nat.le_refl _) (FIN.out w4 hh4 hb4) HSZ.out
    have HCAL := Lib.hid hcal
    have x2 := (hb4.cell (p := ⟨w.heap.size + 2, 0, none⟩) (show w.heap.size + 2 < g by omega)).trans HX2.out
    have f2 := (hb4.frozen (p := ⟨w.heap.size + 2, 0, none⟩) (show w.heap.size + 2 < g by omega)).trans HF2.out
    have HB4 := Lib.hid (HB0.out.trans (hb4.mono (by omega)))
    have hz4 : w.heap.size + 2 < w4.heap.size := by have := hb4.size; omega
    clear hcal hh4 hb4 hgw
    go_wp2_with fail
    refine HCAL.out.mono ?_
    rintro e w5 ⟨kv, rfl, hk5, hb5⟩
    obtain ⟨A5, n5, c5, rfl⟩ : ∃ A n c, kv = .slice A n c := by
      obtain ⟨A9, c9, e9, _⟩ := hk5.form; exact ⟨A9, _, c9, e9⟩
    have x5 := (hb5.cell (p := ⟨w.heap.size + 2, 0, none⟩) hz4).trans x2
    have f5 := (hb5.frozen (p := ⟨w.heap.size + 2, 0, none⟩) hz4).trans f2
    have HB5 := Lib.hid (HB4.out.trans (hb5.mono HB4.out.size))
    have HK5 := Lib.hid ((hk5.mono (fun b (hb : w4.heap.size ≤ b) => (by omega : w.heap.size + 3 ≤ b))).keep (Keeps.setCell (b := w.heap.size + 2) (o := 0) (fun e => by omega) (.slice A5 n5 c5)))
    clear hk5 hb5
    go_wp2
    exact bodyPost_ret (v := .agg #[.slice A5 n5 c5]) (by simp [results, Try.results19, go_sem, x5]) rfl ⟨_, rfl, HK5.out.mono (fun b (hb : w.heap.size + 3 ≤ b) => (by omega : w.heap.size ≤ b)), HB5.out.setCell (Nat.le_succ_of_le (Nat.le_succ _)) _⟩
end Go.Proofs.Ytomhojpoaicioaa
