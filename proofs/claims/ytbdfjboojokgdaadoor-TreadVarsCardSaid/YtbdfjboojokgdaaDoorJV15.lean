/- The contract of tread's atom (chapter 5). Conditions: at most 2^40 tokens; symbols bear no number. The contract of types.Size (chapter 4). Condition: the type has at most 2^40 nodes. -/
import Derived.Test.YtbdfjboojokgdaaDoorJV14
import Derived.Test.YtbdfjboojokgdaaDoorJV09
import Derived.OneCell
namespace Go.Proofs.YtbdfjboojokgdaaDoor
open Go.RowKit Lx

theorem box4h (w : World) (x0 x1 x2 x3 : Value) (t : TypeId) : ∃ W, w.alloc (.cells #[x0, x1, x2, x3] t) = W ∧ W.heap[w.heap.size]? = some (.cells #[x0, x1, x2, x3] t) ∧ Below w.heap.size w W ∧ W.heap.size = w.heap.size + 1 :=
  ⟨_, rfl, (MapKept.heap_alloc w _).1, below_new w _, by simp⟩
/-- A leaf is told. -/
theorem leaf_end {toks : List Tok} {rb g cap i o : Nat} {w Z : World} (t : Ty) (r : List Tok) (f1 n1 : Int) (s1 : ByteArray) (A1 : Option Addr) (l1 c1 : Nat) (hrz : Rd toks rb g cap i o Z) (hfz : Fr (fun b => b = rb) w Z) (hty : TyAt (fun b => w.heap.size + 2 ≤ b) Z t (.agg #[.int .i64 f1, .int .i64 n1, .string s1, .slice A1 l1 c1])) (hg : g < w.heap.size) (hrb : rb < w.heap.size) (hi : toks.length - r.length = i) :
    ReadRes toks rb g cap o (.ok t r) w (.returned (.tuple #[.agg #[.int .i64 f1, .int .i64 n1, .string s1, .slice A1 l1 c1], .agg #[.int .i64 0, .int .i64 0]])) (put6 Z w.heap.size (w.heap.size + 1) (.int .i64 f1) (.int .i64 n1) (.string s1) (.slice A1 l1 c1) (.int .i64 0) (.int .i64 0)) := by
  have hend := put6_end hrz hfz (Nat.le_refl _) hg hrb (.int .i64 f1) (.int .i64 n1) (.string s1) (.slice A1 l1 c1) (.int .i64 0) (.int .i64 0)
  have hte := (put6_ty hty (k := w.heap.size) (by omega) (.int .i64 f1) (.int .i64 n1) (.string s1) (.slice A1 l1 c1) (.int .i64 0) (.int .i64 0)).mono (Q := fun b => w.heap.size ≤ b) (fun b (hb : w.heap.size + 2 ≤ b) => (by omega : w.heap.size ≤ b))
  exact ⟨_, rfl, hte, by rw [hi]; exact hend.1, hend.2⟩
theorem no_end {toks : List Tok} {rb g cap i o o' : Nat} {w Z : World} (e p : Nat) (hrz : Rd toks rb g cap i o' Z) (hfz : Fr (fun b => b = rb) w Z) (hg : g < w.heap.size) (hrb : rb < w.heap.size) :
    ReadRes toks rb g cap o (.no e p) w (.returned (.tuple #[.agg #[.int .i64 0, .int .i64 0, .string ⟨#[]⟩, .slice none 0 0], .agg #[.int .i64 e, .int .i64 p]])) (put6 Z w.heap.size (w.heap.size + 1) (.int .i64 0) (.int .i64 0) (.string ⟨#[]⟩) (.slice none 0 0) (.int .i64 e) (.int .i64 p)) := by
  have hend := put6_end hrz hfz (Nat.le_refl _) hg hrb (.int .i64 0) (.int .i64 0) (.string ⟨#[]⟩) (.slice none 0 0) (.int .i64 e) (.int .i64 p)
  exact ⟨rfl, ⟨_, _, hend.1⟩, hend.2⟩
set_option maxRecDepth 100000 in
set_option maxHeartbeats 1000000 in
theorem atom_of (toks : List Tok) (rb g cap n : Nat) (ih : TypeIs toks rb g cap n) (hl : toks.length ≤ 1099511627776) (hz : ∀ t ∈ toks, SymZ t) : AtomIs toks rb g cap (n + 1) := by
  intro i o w res h ho hres
  cases hd : toks.drop i with
  | nil => rw [hd] at hres; simp [atomN] at hres
  | cons t q =>
  rw [hd] at hres
  obtain ⟨hi, ht, hdq, hlen⟩ := drop_at hd
  obtain ⟨W, eW, k0, k1, b1, z1⟩ := nil2 w
  have hW := h.on b1
  have hg := h.lt
  have hrb := h.rb_lt
  have htk := token_any toks rb g cap i o W hW hi
  rw [ht] at htk
  have HTK := Lib.hid htk
  have hSt := hz t (by rw [← ht]; exact List.getElem_mem hi)
  have HEW := Lib.hid eW
  have HRW := Lib.hid hW
  have HB := Lib.hid b1
  have HK0 := Lib.hid k0
  have HK1 := Lib.hid k1
  have HZ1 := Lib.hid z1
  have hzW : w.heap.size + 2 ≤ W.heap.size := by omega
  have hiI : (i : Int) ≤ 1099511627776 := by omega
  have HTV : Hid (tokV t = .agg #[.int .i64 t.kind, .string (mkB t.text), .int .i64 t.num, .int .i64 t.place]) := rfl
  clear eW b1 hW k0 k1 z1 htk
  -- behind the first token
  have HY : Hid (∀ y : World, Below W.heap.size W y → ∃ Y, y.alloc (.cells #[.int .i64 t.kind, .string (mkB t.text), .int .i64 t.num, .int .i64 t.place] 133) = Y ∧ Y.heap[y.heap.size]? = some (.cells #[.int .i64 t.kind, .string (mkB t.text), .int .i64 t.num, .int .i64 t.place] 133) ∧ Rd toks rb g cap i o Y ∧ Fr (fun b => b = rb) w Y ∧ Y.heap[w.heap.size]? = some (.cells #[.int .i64 0, .int .i64 0, .string ⟨#[]⟩, .slice none 0 0] 25) ∧ Y.heap[w.heap.size + 1]? = some (.cells #[.int .i64 0, .int .i64 0] 50) ∧ w.heap.size + 2 ≤ y.heap.size ∧ y.heap.size < Y.heap.size) := fun y hb => by
    obtain ⟨Y, e1, e2, e3, e4⟩ := box4h y (.int .i64 t.kind) (.string (mkB t.text)) (.int .i64 t.num) (.int .i64 t.place) 133
    have hby := hb.trans (e3.mono hb.size)
    have hs := hb.size
    exact ⟨Y, e1, e2, HRW.out.on hby, (Fr.of_below HB.out).trans (Fr.of_below hby), (hby.block _ (by omega)).trans HK0.out, (hby.block _ (by omega)).trans HK1.out, by omega, by omega⟩
  by_cases h2 : t.kind = 2
  · have hr2 : res = .ok (.con (mkB t.text)) q := by simp only [atomN, if_pos h2, Option.some.injEq] at hres; exact hres.symm
    subst hr2
    clear h hres hd ht hdq hSt
    have hk : (t.kind : Int) = 2 := by omega
    go_enter Tryd.func89, Tryd.ntmps89
    go_upto_region 1 with (fail)
    rw [HEW.out]
    go_wp2_with fail
    (with_reducible refine HTK.out.mono ?_)
    rintro e1 y ⟨rfl, hb⟩
    obtain ⟨Y, eY, l0, hr, hf, l1, l2, s1, s2⟩ := HY.out y hb
    rw [HTV.out]
    have HEY := Lib.hid eY
    obtain ⟨a0, a1, a2, a3, a4, a5, a6, a7, a8⟩ := four_cells l0
    obtain ⟨Z, eZ⟩ : ∃ Z, Y.setCell ⟨rb, 1, none⟩ (.int .i64 ((i : Int) + 1)) = Z := ⟨_, rfl⟩
    have hkz : ∀ k, k ≠ rb → Z.heap[k]? = Y.heap[k]? := fun k hk => by rw [← eZ]; exact Below.heap_setCell _ _ _ _ hk
    have hrz : Rd toks rb g cap (i + 1) o Z := by
      have h9 := hr.place (i + 1)
      rw [show (((i + 1 : Nat)) : Int) = (i : Int) + 1 by push_cast; rfl, eZ] at h9
      exact h9
    have hfz : Fr (fun b => b = rb) w Z := by rw [← eZ]; exact hf.trans (rd_fr _ _ _ _)
    obtain ⟨p0, p1, p2, p3, p4, p5, p6⟩ := three_cells hr.blk
    obtain ⟨j0, j1, j2, j3, _⟩ := four_cells ((hkz y.heap.size (by omega)).trans l0)
    have HM0 := Lib.hid ((hkz w.heap.size (by omega)).trans l1)
    have HM1 := Lib.hid ((hkz (w.heap.size + 1) (by omega)).trans l2)
    have hzz : Y.heap.size ≤ Z.heap.size := by rw [← eZ]; simp
    have hzY : y.heap.size < Z.heap.size := by omega
    have HEZ := Lib.hid eZ
    have HRZ := Lib.hid hrz
    have HFZ := Lib.hid hfz
    have HCON := Lib.hid (con_any (mkB t.text) Z)
    clear hb eY l0 hr hf l1 l2 eZ hkz hrz hfz hzz
    generalize (t.kind : Int) = tk at *
    subst hk
    go_upto_region 2 with (fail)
    rw [HEY.out]
    go_upto_region 4 with (fail)
    rw [HEZ.out]
    go_wp2_with fail
    (with_reducible refine HCON.out.mono ?_)
    rintro e2 z ⟨tv, rfl, hty, hbz⟩
    obtain ⟨f1, n1, sx, A1, l1, c1, rfl⟩ := hty.flat
    obtain ⟨u0, u1, u2, u3, u4, u5, u6, u7, u8⟩ := four_cells ((hbz.block w.heap.size (by omega)).trans HM0.out)
    obtain ⟨v0, v1, v2, v3, v4⟩ := pair_cells ((hbz.block (w.heap.size + 1) (by omega)).trans HM1.out)
    have HE := Lib.hid (leaf_end (.con (mkB t.text)) q f1 n1 sx A1 l1 c1 (HRZ.out.on hbz) (HFZ.out.trans (Fr.of_below hbz)) (hty.mono (Q := fun b => w.heap.size + 2 ≤ b) (fun b (hb : Z.heap.size ≤ b) => (by omega : w.heap.size + 2 ≤ b))) hg hrb hlen)
    clear hty hbz
    go_wp2_with fail
    exact bodyPost_ret (v := .tuple #[.agg #[.int .i64 f1, .int .i64 n1, .string sx, .slice A1 l1 c1], .agg #[.int .i64 0, .int .i64 0]]) (by simp [results, Tryd.results89, go_sem, u0, u1, u2, u3, v0, v1]) rfl HE.out
  · by_cases h1 : t.kind = 1
    · have hr1 : res = .ok (.var (mkB t.text)) q := by simp only [atomN, if_neg h2, if_pos h1, Option.some.injEq] at hres; exact hres.symm
      subst hr1
      clear h hres hd ht hdq hSt
      have hk : (t.kind : Int) = 1 := by omega
      go_enter Tryd.func89, Tryd.ntmps89
      go_upto_region 1 with (fail)
      rw [HEW.out]
      go_wp2_with fail
      (with_reducible refine HTK.out.mono ?_)
      rintro e1 y ⟨rfl, hb⟩
      obtain ⟨Y, eY, l0, hr, hf, l1, l2, s1, s2⟩ := HY.out y hb
      rw [HTV.out]
      have HEY := Lib.hid eY
      obtain ⟨a0, a1, a2, a3, a4, a5, a6, a7, a8⟩ := four_cells l0
      obtain ⟨Z, eZ⟩ : ∃ Z, Y.setCell ⟨rb, 1, none⟩ (.int .i64 ((i : Int) + 1)) = Z := ⟨_, rfl⟩
      have hkz : ∀ k, k ≠ rb → Z.heap[k]? = Y.heap[k]? := fun k hk => by rw [← eZ]; exact Below.heap_setCell _ _ _ _ hk
      have hrz : Rd toks rb g cap (i + 1) o Z := by
        have h9 := hr.place (i + 1)
        rw [show (((i + 1 : Nat)) : Int) = (i : Int) + 1 by push_cast; rfl, eZ] at h9
        exact h9
      have hfz : Fr (fun b => b = rb) w Z := by rw [← eZ]; exact hf.trans (rd_fr _ _ _ _)
      obtain ⟨p0, p1, p2, p3, p4, p5, p6⟩ := three_cells hr.blk
      obtain ⟨j0, j1, j2, j3, _⟩ := four_cells ((hkz y.heap.size (by omega)).trans l0)
      have HM0 := Lib.hid ((hkz w.heap.size (by omega)).trans l1)
      have HM1 := Lib.hid ((hkz (w.heap.size + 1) (by omega)).trans l2)
      have hzz : Y.heap.size ≤ Z.heap.size := by rw [← eZ]; simp
      have hzY : y.heap.size < Z.heap.size := by omega
      have HEZ := Lib.hid eZ
      have HRZ := Lib.hid hrz
      have HFZ := Lib.hid hfz
      have HVAR := Lib.hid (var_any (mkB t.text) Z)
      clear hb eY l0 hr hf l1 l2 eZ hkz hrz hfz hzz
      generalize (t.kind : Int) = tk at *
      subst hk
      go_upto_region 2 with (fail)
      rw [HEY.out]
      go_upto_region 7 with (fail)
      rw [HEZ.out]
      go_wp2_with fail
      (with_reducible refine HVAR.out.mono ?_)
      rintro e2 z ⟨tv, rfl, hty, hbz⟩
      obtain ⟨f1, n1, sx, A1, l1, c1, rfl⟩ := hty.flat
      obtain ⟨u0, u1, u2, u3, u4, u5, u6, u7, u8⟩ := four_cells ((hbz.block w.heap.size (by omega)).trans HM0.out)
      obtain ⟨v0, v1, v2, v3, v4⟩ := pair_cells ((hbz.block (w.heap.size + 1) (by omega)).trans HM1.out)
      have HE := Lib.hid (leaf_end (.var (mkB t.text)) q f1 n1 sx A1 l1 c1 (HRZ.out.on hbz) (HFZ.out.trans (Fr.of_below hbz)) (hty.mono (Q := fun b => w.heap.size + 2 ≤ b) (fun b (hb : Z.heap.size ≤ b) => (by omega : w.heap.size + 2 ≤ b))) hg hrb hlen)
      clear hty hbz
      go_wp2_with fail
      exact bodyPost_ret (v := .tuple #[.agg #[.int .i64 f1, .int .i64 n1, .string sx, .slice A1 l1 c1], .agg #[.int .i64 0, .int .i64 0]]) (by simp [results, Tryd.results89, go_sem, u0, u1, u2, u3, v0, v1]) rfl HE.out
    · have hk2 : ((t.kind : Int) == 2) = false := by rw [beq_eq_false_iff_ne]; omega
      have hk1 : ((t.kind : Int) == 1) = false := by rw [beq_eq_false_iff_ne]; omega
      have HSY : Hid (∀ w, Calls Tryd.prog 130 #[tokV t, .string ⟨#[40]⟩] w fun e w' => e = .returned (.bool (isSym t [40])) ∧ Below w.heap.size w w') := fun w => symbol_any t [40] w hSt
      cases hq : isSym t [40] with
      | true =>
        rw [hq] at HSY
        rw [atomN_bracket h2 h1 hq] at hres
        have HIB : Hid (∀ Z : World, Rd toks rb g cap i o Z → Calls Tryd.prog 131 #[.pointer (some ⟨rb, 0, none⟩)] Z (ReadRes toks rb g cap o res Z)) := fun Z hrz => by
          by_cases ho4 : o = 40
          · subst ho4
            unfold inB at hres
            rw [if_pos (Nat.le_refl _)] at hres
            simp only [Option.some.injEq] at hres
            subst hres
            exact inb_deep toks rb g cap i Z t q hrz hd
          · exact inb_of toks rb g cap n ih hl hz i o Z res t q hrz (by omega) hd hres
        have hsf : ∀ x r, res = .ok x r → r <:+ toks.drop i := fun x r e => by
          subst e
          have h9 := (suff_all (n + 1)).1 (t :: q) o x r (by rw [atomN_bracket h2 h1 hq]; exact hres)
          rw [hd]; exact h9.1
        have HSF := Lib.hid hsf
        clear h hres hd ht hdq hSt hq hsf
        rw [HTV.out] at HSY HTK
        go_enter Tryd.func89, Tryd.ntmps89
        go_upto_region 1 with (fail)
        rw [HEW.out]
        go_wp2_with fail
        (with_reducible refine HTK.out.mono ?_)
        rintro e1 y ⟨rfl, hb⟩
        obtain ⟨Y, eY, l0, hr, hf, l1, l2, s1, s2⟩ := HY.out y hb
        have HEY := Lib.hid eY
        obtain ⟨a0, a1, a2, a3, a4, a5, a6, a7, a8⟩ := four_cells l0
        have HR := Lib.hid hr
        have HF := Lib.hid hf
        have HM0 := Lib.hid l1
        have HM1 := Lib.hid l2
        clear hb eY hr hf l1 l2 l0
        go_upto_region 2 with (fail)
        rw [HEY.out]
        go_wp2_with fail
        (with_reducible refine (HSY.out _).mono ?_)
        rintro e2 z ⟨rfl, hbz⟩
        have HBZ := Lib.hid hbz
        have HIZ := Lib.hid (HIB.out z (HR.out.on hbz))
        have hsz := hbz.size
        clear hbz
        go_wp2_with fail
        (with_reducible refine HIZ.out.mono ?_)
        intro e3 x hx
        have HFX0 := HF.out.trans (Fr.of_below HBZ.out)
        have HN0 := (HBZ.out.block w.heap.size (by omega)).trans HM0.out
        have HN1 := (HBZ.out.block (w.heap.size + 1) (by omega)).trans HM1.out
        cases res with
        | no e p =>
          obtain ⟨rfl, ⟨i', o', hrx⟩, hfx⟩ := hx
          obtain ⟨u0, u1, u2, u3, u4, u5, u6, u7, u8⟩ := four_cells ((hfx.block w.heap.size (by omega) (by omega)).trans HN0)
          obtain ⟨v0, v1, v2, v3, v4⟩ := pair_cells ((hfx.block (w.heap.size + 1) (by omega) (by omega)).trans HN1)
          have HE := Lib.hid (no_end (o := o) e p hrx (HFX0.trans hfx) hg hrb)
          clear hrx hfx HFX0 HN0 HN1
          go_wp2_with fail
          exact bodyPost_ret (v := .tuple #[.agg #[.int .i64 0, .int .i64 0, .string ⟨#[]⟩, .slice none 0 0], .agg #[.int .i64 e, .int .i64 p]]) (by simp [results, Tryd.results89, go_sem, u0, u1, u2, u3, v0, v1]) rfl HE.out
        | ok xt xr =>
          obtain ⟨tv, rfl, hty, hrx, hfx⟩ := hx
          obtain ⟨f1, n1, sx, A1, l1, c1, rfl⟩ := hty.flat
          obtain ⟨u0, u1, u2, u3, u4, u5, u6, u7, u8⟩ := four_cells ((hfx.block w.heap.size (by omega) (by omega)).trans HN0)
          obtain ⟨v0, v1, v2, v3, v4⟩ := pair_cells ((hfx.block (w.heap.size + 1) (by omega) (by omega)).trans HN1)
          have HE := Lib.hid (leaf_end xt xr f1 n1 sx A1 l1 c1 hrx (HFX0.trans hfx) (hty.mono (Q := fun b => w.heap.size + 2 ≤ b) (fun b (hb : z.heap.size ≤ b) => (by omega : w.heap.size + 2 ≤ b))) hg hrb rfl)
          clear hrx hfx HFX0 HN0 HN1 hty
          go_wp2_with fail
          exact bodyPost_ret (v := .tuple #[.agg #[.int .i64 f1, .int .i64 n1, .string sx, .slice A1 l1 c1], .agg #[.int .i64 0, .int .i64 0]]) (by simp [results, Tryd.results89, go_sem, u0, u1, u2, u3, v0, v1]) rfl HE.out
      | false =>
        rw [hq] at HSY
        have hrn : res = .no 12 t.place := by
          simp only [atomN, if_neg h2, if_neg h1, hq, if_true, Option.some.injEq] at hres; exact hres.symm
        subst hrn
        have HRF := Lib.hid (fun w => refusal_any 12 t w)
        clear h hres hd ht hdq hSt hq
        rw [HTV.out] at HSY HTK HRF
        go_enter Tryd.func89, Tryd.ntmps89
        go_upto_region 1 with (fail)
        rw [HEW.out]
        go_wp2_with fail
        (with_reducible refine HTK.out.mono ?_)
        rintro e1 y ⟨rfl, hb⟩
        obtain ⟨Y, eY, l0, hr, hf, l1, l2, s1, s2⟩ := HY.out y hb
        have HEY := Lib.hid eY
        have HL0 := Lib.hid l0
        obtain ⟨a0, a1, a2, a3, a4, a5, a6, a7, a8⟩ := four_cells l0
        have HR := Lib.hid hr
        have HF := Lib.hid hf
        have HM0 := Lib.hid l1
        have HM1 := Lib.hid l2
        clear hb eY hr hf l1 l2 l0
        go_upto_region 2 with (fail)
        rw [HEY.out]
        go_wp2_with fail
        (with_reducible refine (HSY.out _).mono ?_)
        rintro e2 z ⟨rfl, hbz⟩
        have HBZ := Lib.hid hbz
        have hsz := hbz.size
        obtain ⟨j0, j1, j2, j3, j4, j5, j6, j7, j8⟩ := four_cells ((hbz.block y.heap.size (by omega)).trans HL0.out)
        clear hbz a0 a1 a2 a3 a4 a5 a6 a7 a8
        go_wp2_with fail
        (with_reducible refine (HRF.out _).mono ?_)
        rintro e3 x ⟨rfl, hbx⟩
        have hb2 := HBZ.out.trans (hbx.mono HBZ.out.size)
        obtain ⟨u0, u1, u2, u3, u4, u5, u6, u7, u8⟩ := four_cells ((hb2.block w.heap.size (by omega)).trans HM0.out)
        obtain ⟨v0, v1, v2, v3, v4⟩ := pair_cells ((hb2.block (w.heap.size + 1) (by omega)).trans HM1.out)
        have HE := Lib.hid (no_end (o := o) 12 t.place (HR.out.on hb2) (HF.out.trans (Fr.of_below hb2)) hg hrb)
        clear hbx hb2
        go_wp2_with fail
        exact bodyPost_ret (v := .tuple #[.agg #[.int .i64 0, .int .i64 0, .string ⟨#[]⟩, .slice none 0 0], .agg #[.int .i64 12, .int .i64 t.place]]) (by simp [results, Tryd.results89, go_sem, u0, u1, u2, u3, v0, v1]) rfl HE.out
end Go.Proofs.YtbdfjboojokgdaaDoor
namespace Go.Proofs.YtbdfjboojokgdaaDoor
open Go.RowKit

def cnt (l : List Ty) : Nat := (l.map Ty.own1).sum
theorem cnt_snoc (l : List Ty) (t : Ty) : cnt (l ++ [t]) = cnt l + t.own1 := by simp [cnt]
theorem own1_le (t : Ty) : t.own1 ≤ 1 := by unfold Ty.own1; split <;> omega
theorem cnt_le (l : List Ty) : cnt l ≤ l.length := by
  induction l with
  | nil => simp [cnt]
  | cons a r ih => have := own1_le a; simp [cnt] at *; omega
theorem cnt_append (l r : List Ty) : cnt (l ++ r) = cnt l + cnt r := by simp [cnt]
theorem cnt_nodes : ∀ t : Ty, cnt t.nodes = t.count
  | .app a b => by
    have h1 := cnt_nodes a; have h2 := cnt_nodes b
    rw [Ty.nodes, show (Ty.app a b :: (a.nodes ++ b.nodes)) = [Ty.app a b] ++ (a.nodes ++ b.nodes) from rfl, cnt_append, cnt_append, h1, h2]
    simp [cnt, Ty.own1, Ty.form, Ty.count]
  | .all s a => by
    have h1 := cnt_nodes a
    rw [Ty.nodes, show (Ty.all s a :: a.nodes) = [Ty.all s a] ++ a.nodes from rfl, cnt_append, h1]
    simp [cnt, Ty.own1, Ty.form, Ty.count]
  | .hole _ => by simp [Ty.nodes, cnt, Ty.own1, Ty.form, Ty.count]
  | .var _ => by simp [Ty.nodes, cnt, Ty.own1, Ty.form, Ty.count]
  | .con _ => by simp [Ty.nodes, cnt, Ty.own1, Ty.form, Ty.count]
/-- The counter's box. -/
def SzSt (base nb : Nat) (l : List Ty) (w : World) : Prop := base ≤ nb ∧ w.heap[nb]? = some (.cells #[.int .i64 (cnt l)] 3)
theorem SzSt.lt {base nb : Nat} {l : List Ty} {w : World} (h : SzSt base nb l w) : nb < w.heap.size := by
  rcases Nat.lt_or_ge nb w.heap.size with h9 | h9
  · exact h9
  · have := h.2; rw [Array.getElem?_eq_none h9] at this; cases this
theorem SzSt.on {base nb : Nat} {l : List Ty} {w w' : World} (h : SzSt base nb l w) (hb : Below w.heap.size w w') : SzSt base nb l w' := ⟨h.1, (hb.block nb h.lt).trans h.2⟩
theorem sz_told (base nb : Nat) : Told base (fun _ k => k = nb) (SzSt base nb) where
  new := fun _ w o h => h.on (below_new w o)
  drew := fun _ w h => h.on (Below.refl _ w).drew
  own := fun _ _ _ _ _ h => h
  lt := fun _ _ _ h e => e ▸ h.lt
  base := fun _ _ _ h e => e ▸ h.1
set_option maxRecDepth 100000 in
set_option maxHeartbeats 1000000 in
theorem size1_any (base nb : Nat) (l : List Ty) (t : Ty) (v : Value) (w : World) (hl : l.length < 1099511627776) (hs : SzSt base nb l w) (h : TyAt (fun b => b < base) w t v) :
    Calls Tryd.prog 59 (#[v] ++ #[.pointer (some ⟨nb, 0, none⟩)]) w fun e w' => e = .returned (.tuple #[]) ∧ SzSt base nb (l ++ [t]) w' ∧ FrM (fun _ k => k = nb) w w' := by
  obtain ⟨A, c, rfl, _, _⟩ := h.form
  have hc := cnt_le l
  have HCS := Lib.hid (cnt_snoc l t)
  have hlt := hs.lt
  obtain ⟨W, eW, q1, b1, z1⟩ := one_box w (.int .i64 t.form) (.int .i64 t.num) (.string t.name) (.slice A t.args.length c) 25
  have HSW := Lib.hid (hs.on b1)
  have HEW := Lib.hid eW
  have HB := Lib.hid b1
  obtain ⟨x0, x1, x2, x3, x4, _⟩ := q1
  have hcell : W.cell? ⟨nb, 0, none⟩ = some (.int .i64 (cnt l)) := by have := HSW.out.2; simp [World.cell?, this]
  have hfz : W.frozen? ⟨nb, 0, none⟩ = false := by have := HSW.out.2; simp [World.frozen?, this]
  have hnW := HSW.out.lt
  have hcw : w.cell? ⟨nb, 0, none⟩ = some (.int .i64 (cnt l)) := by have := hs.2; simp [World.cell?, this]
  have hfw : w.frozen? ⟨nb, 0, none⟩ = false := by have := hs.2; simp [World.frozen?, this]
  have HP : Hid (∀ (z : Int) (o : Obj), z = (cnt (l ++ [t]) : Int) → SzSt base nb (l ++ [t]) ((w.setCell ⟨nb, 0, none⟩ (.int .i64 z)).alloc o) ∧ FrM (fun _ k => k = nb) w ((w.setCell ⟨nb, 0, none⟩ (.int .i64 z)).alloc o)) := fun z o hz => by
    subst hz
    have h1 := one_setCell (u := .int .i64 (cnt (l ++ [t]))) hs.2
    have b0 : Below w.heap.size (w.setCell ⟨nb, 0, none⟩ (.int .i64 (cnt (l ++ [t])))) ((w.setCell ⟨nb, 0, none⟩ (.int .i64 (cnt (l ++ [t])))).alloc o) := by
      have h := below_new (w.setCell ⟨nb, 0, none⟩ (.int .i64 (cnt (l ++ [t])))) o
      simpa using h
    have b9 : Below nb w ((w.setCell ⟨nb, 0, none⟩ (.int .i64 (cnt (l ++ [t])))).alloc o) := ((Below.refl nb w).setCell (p := ⟨nb, 0, none⟩) (Nat.le_refl nb) _).trans (b0.mono (by omega))
    refine ⟨⟨hs.1, (b0.block nb hlt).trans h1⟩, ⟨b9.os, b9.tape, b9.output, b9.size, fun k hk hn => ?_, fun _ _ h => h⟩⟩
    exact (b0.block k hk).trans (Below.heap_setCell w ⟨nb, 0, none⟩ _ k hn)
  have HN : Hid (cnt (l ++ [t]) = cnt l → SzSt base nb (l ++ [t]) W ∧ FrM (fun _ k => k = nb) w W) := fun hz => by
    refine ⟨⟨hs.1, ?_⟩, FrM.of_below HB.out (fun _ _ h => h)⟩
    rw [hz]; exact HSW.out.2
  have hfo : (t.form = 4 ∧ t.own1 = 0) ∨ ((t.form = 1 ∨ t.form = 2 ∨ t.form = 3 ∨ t.form = 5) ∧ t.own1 = 1) := by cases t <;> simp [Ty.form, Ty.own1]
  clear eW b1 hs h
  generalize t.form = ff at *
  generalize t.num = nn at *
  generalize t.name = ss at *
  generalize t.own1 = oo at *
  generalize t.args.length = ll at *
  generalize cnt (l ++ [t]) = c2 at *
  generalize cnt l = c1 at *
  rcases hfo with ⟨rfl, rfl⟩ | ⟨rfl | rfl | rfl | rfl, rfl⟩
  · go_enter Tryd.func59, Tryd.ntmps59
    go_wp2_with fail
    rw [HEW.out]
    go_wp2
    go_end0
    exact ⟨rfl, HN.out HCS.out⟩
  all_goals
    go_enter Tryd.func59, Tryd.ntmps59
    go_wp2
    go_end0
    exact ⟨rfl, HP.out _ _ (by rw [HCS.out]; push_cast; rfl)⟩
set_option maxRecDepth 100000 in
set_option maxHeartbeats 1000000 in
theorem size_any (P : Nat → Prop) (t : Ty) (v : Value) (w : World) (h : TyAt P w t v) (hz : t.sz ≤ 1099511627776) :
    Calls Tryd.prog 19 #[v] w fun e w' => e = .returned (.int .i64 t.count) ∧ Below w.heap.size w w' := by
  obtain ⟨f1, n1, s1, A1, l1, c1, rfl⟩ := h.flat
  have hb0 : Below w.heap.size w ((w.alloc (.cells #[.int .i64 f1, .int .i64 n1, .string s1, .slice A1 l1 c1] 25)).alloc (.cells #[.int .i64 0] 3)) := below2 w _ _
  have hst : SzSt w.heap.size (w.heap.size + 1) [] ((w.alloc (.cells #[.int .i64 f1, .int .i64 n1, .string s1, .slice A1 l1 c1] 25)).alloc (.cells #[.int .i64 0] 3)) := by
    refine ⟨by omega, ?_⟩
    have h9 := (MapKept.heap_alloc (w.alloc (.cells #[.int .i64 f1, .int .i64 n1, .string s1, .slice A1 l1 c1] 25)) (.cells #[.int .i64 0] 3)).1
    simp only [World.size_alloc] at h9
    exact h9
  have hzX : ((w.alloc (.cells #[.int .i64 f1, .int .i64 n1, .string s1, .slice A1 l1 c1] 25)).alloc (.cells #[.int .i64 0] 3)).heap.size = w.heap.size + 2 := by simp
  have hcf : ∀ (vs : Array Value) (y : World), (callFunc 59 vs).run Tryd.prog y = .ok (.enter 59 vs) y := fun vs y => by first | kernel_rfl | rfl
  obtain ⟨X, eX⟩ : ∃ X, (w.alloc (.cells #[.int .i64 f1, .int .i64 n1, .string s1, .slice A1 l1 c1] 25)).alloc (.cells #[.int .i64 0] 3) = X := ⟨_, rfl⟩
  rw [eX] at hb0 hst hzX
  have HC := Lib.hid (each_of (fun _ => True) (fun _ _ _ _ => trivial) w.heap.size (fun _ k => k = w.heap.size + 1) (SzSt w.heap.size (w.heap.size + 1)) (sz_told _ _) 59 #[.pointer (some ⟨w.heap.size + 1, 0, none⟩)] 1099511627776 hcf
    (fun l t v y hl _ hs _ h => size1_any _ _ l t v y hl hs h) _ [] t _ X (Nat.le_refl _) (by simpa using hz) trivial hst (by omega) (h.bound'.on hb0))
  have HEX := Lib.hid eX
  have HB := Lib.hid hb0
  have HCN := Lib.hid (cnt_nodes t)
  clear eX hst h hb0
  go_enter Tryd.func19, Tryd.ntmps19
  go_wp2_with fail
  rw [HEX.out]
  (with_reducible refine HC.out.mono ?_)
  rintro e y ⟨rfl, hs, hf⟩
  have hcl : y.cell? ⟨w.heap.size + 1, 0, none⟩ = some (.int .i64 t.count) := by
    have := hs.2
    rw [List.nil_append, HCN.out] at this
    simp [World.cell?, this]
  have HBY := Lib.hid (HB.out.trans (hf.below (by omega) (fun k hk => by omega)))
  clear hs hf
  go_wp2
  go_ret
  exact ⟨rfl, HBY.out⟩
end Go.Proofs.YtbdfjboojokgdaaDoor
