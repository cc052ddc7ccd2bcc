/- The contract of tread's inBrackets (chapter 5). Conditions: at most 2^40 tokens; symbols bear no number. The contract of tread's atom (chapter 5). Conditions: at most 2^40 tokens; symbols bear no number. -/
import Derived.Test.YtbdfjboojokgdaaGreatDoorM19
namespace Go.Proofs.YtbdfjboojokgdaaGreatDoor
open Go.RowKit Lx

theorem err_all : ∀ n : Nat, (∀ l o e p, atomN n l o = some (.no e p) → e = 12 ∨ e = 13) ∧ (∀ x l o e p, appsN n x l o = some (.no e p) → e = 12 ∨ e = 13) ∧ (∀ l o e p, typeN n l o = some (.no e p) → e = 12 ∨ e = 13)
  | 0 => ⟨fun _ _ _ _ h => by simp [atomN] at h, fun _ _ _ _ _ h => by simp [appsN] at h, fun _ _ _ _ h => by simp [typeN] at h⟩
  | n + 1 => by
    obtain ⟨iha, ihp, iht⟩ := err_all n
    refine ⟨fun l o e p h => ?_, fun x l o e p h => ?_, fun l o e p h => ?_⟩
    · match l, h with
      | [], h => simp [atomN] at h
      | c :: r, h =>
        simp only [atomN] at h
        split at h
        · injection h with h; cases h
        · split at h
          · injection h with h; cases h
          · split at h
            · injection h with h; injection h with h1 h2; exact .inl h1.symm
            · split at h
              · injection h with h; injection h with h1 h2; exact .inr h1.symm
              · split at h
                · split at h
                  · injection h with h; cases h
                  · injection h with h; injection h with h1 h2; exact .inl h1.symm
                · cases h
                · rename_i e' p' he
                  injection h with h; injection h with h1 h2; subst h1; exact iht _ _ _ _ he
                · cases h
    · match l, h with
      | [], h => simp [appsN] at h
      | c :: r, h =>
        simp only [appsN] at h
        split at h
        · split at h
          · exact ihp _ _ _ _ _ h
          · rename_i e' p' he
            injection h with h; injection h with h1 h2; subst h1; exact iha _ _ _ _ he
          · cases h
        · injection h with h; cases h
    · simp only [typeN] at h
      split at h
      · split at h
        · split at h
          · split at h
            · injection h with h; cases h
            · rename_i e' p' he
              injection h with h; injection h with h1 h2; subst h1; exact iht _ _ _ _ he
            · cases h
          · injection h with h; cases h
        · cases h
        · rename_i e' p' he
          injection h with h; injection h with h1 h2; subst h1; exact ihp _ _ _ _ _ he
        · cases h
      · rename_i e' p' he
        injection h with h; injection h with h1 h2; subst h1; exact iha _ _ _ _ he
      · cases h
theorem pair_cells {w : World} {b : Nat} {v1 v2 : Value} {t : TypeId} (h : w.heap[b]? = some (.cells #[v1, v2] t)) : w.cell? ⟨b, 0, none⟩ = some v1 ∧ w.cell? ⟨b, 1, none⟩ = some v2 ∧ w.frozen? ⟨b, 0, none⟩ = false ∧ w.frozen? ⟨b, 1, none⟩ = false ∧ b < w.heap.size :=
  ⟨by simp [World.cell?, h], by simp [World.cell?, h], by simp [World.frozen?, h], by simp [World.frozen?, h], lt_of_block h⟩
/-- What inBrackets tells of what stands behind the bracket. -/
def inB (n : Nat) (p : Nat) (q : List Tok) (o : Nat) : Option Got :=
  if 40 ≤ o then some (.no 13 p)
  else match typeN n q (o + 1) with
    | some (.ok x (c :: r)) => if isSym c [41] = true then some (.ok x r) else some (.no 12 c.place)
    | some (.ok _ []) => none
    | some (.no e p) => some (.no e p)
    | none => none
theorem atomN_bracket {n : Nat} {t : Tok} {q : List Tok} {o : Nat} (h2 : t.kind ≠ 2) (h1 : t.kind ≠ 1) (hs : isSym t [40] = true) : atomN (n + 1) (t :: q) o = inB n t.place q o := by
  unfold inB
  simp only [atomN]
  rw [if_neg h2, if_neg h1, if_neg (by rw [hs]; simp)]
  cases typeN n q (o + 1) with
  | none => rfl
  | some g =>
    cases g with
    | no e p => rfl
    | ok x r => cases r <;> rfl
set_option maxRecDepth 100000 in
set_option maxHeartbeats 1000000 in
theorem inb_deep (toks : List Tok) (rb g cap i : Nat) (w : World) (t : Tok) (q : List Tok) (h : Rd toks rb g cap i 40 w) (hd : toks.drop i = t :: q) :
    Calls Tryz.prog 113 #[.pointer (some ⟨rb, 0, none⟩)] w (ReadRes toks rb g cap 40 (.no 13 t.place) w) := by
  obtain ⟨hi, ht, _, _⟩ := drop_at hd
  obtain ⟨W, eW, k0, k1, b1, z1⟩ := nil2 w
  have hW := h.on b1
  obtain ⟨p0, p1, p2, p3, p4, p5, p6⟩ := three_cells hW.blk
  have HT := Lib.hid (token_any toks rb g cap i 40 W hW hi)
  rw [ht] at HT
  have HE := Lib.hid eW
  have HB := Lib.hid b1
  have HR := Lib.hid hW
  have hg := h.lt
  have hrb := h.rb_lt
  have HK0 := Lib.hid k0
  have HK1 := Lib.hid k1
  have HRF := Lib.hid (fun w => refusal_any 13 t w)
  have HZ1 := Lib.hid z1
  clear eW b1 hW h k0 k1 hd ht z1
  go_enter Tryz.func113, Tryz.ntmps113
  go_upto_region 1 with (fail)
  rw [HE.out]
  go_wp2_with fail
  (with_reducible refine HT.out.mono ?_)
  rintro e w1 ⟨rfl, hb1⟩
  have HB1 := Lib.hid hb1
  clear hb1
  go_wp2_with fail
  (with_reducible refine (HRF.out _).mono ?_)
  rintro e w2 ⟨rfl, hb2⟩
  have hb := HB1.out.trans (hb2.mono HB1.out.size)
  obtain ⟨u0, u1, u2, u3, u4, u5, u6, u7, u8⟩ := four_cells ((hb.block w.heap.size (by rw [HZ1.out]; omega)).trans HK0.out)
  obtain ⟨v0, v1, v2, v3, v4⟩ := pair_cells ((hb.block (w.heap.size + 1) (by rw [HZ1.out]; omega)).trans HK1.out)
  have HF := Lib.hid ((Fr.of_below (M := fun b => b = rb) HB.out).trans (Fr.of_below hb))
  have HR2 := Lib.hid (HR.out.on hb)
  clear hb2 hb
  go_wp2_with fail
  refine bodyPost_ret (v := .tuple #[.agg #[.int .i64 0, .int .i64 0, .string ⟨#[]⟩, .slice none 0 0], .agg #[.int .i64 13, .int .i64 t.place]]) (by simp [results, Tryz.results113, go_sem, u0, u1, u2, u3, v0, v1]) rfl ?_
  have hend := put6_end HR2.out HF.out (Nat.le_refl _) hg hrb (.int .i64 0) (.int .i64 0) (.string ⟨#[]⟩) (.slice none 0 0) (.int .i64 13) (.int .i64 t.place)
  exact ⟨rfl, ⟨_, _, hend.1⟩, hend.2⟩
/-- The two boxes that a method lays behind a call: what was read, and where it was refused. -/
theorem new2 (w : World) (x0 x1 x2 x3 y0 y1 : Value) : ∃ W, (w.alloc (.cells #[x0, x1, x2, x3] 27)).alloc (.cells #[y0, y1] 30) = W ∧ W.heap[w.heap.size]? = some (.cells #[x0, x1, x2, x3] 27) ∧ W.heap[w.heap.size + 1]? = some (.cells #[y0, y1] 30) ∧ Below w.heap.size w W ∧ W.heap.size = w.heap.size + 2 := by
  refine ⟨_, rfl, ?_, ?_, below2 w _ _, by simp⟩
  · exact ((below_new _ _).block _ (by simp)).trans (MapKept.heap_alloc w (.cells #[x0, x1, x2, x3] 27)).1
  · simpa using (MapKept.heap_alloc (w.alloc (.cells #[x0, x1, x2, x3] 27)) (.cells #[y0, y1] 30)).1
set_option maxRecDepth 100000 in
set_option maxHeartbeats 1000000 in
theorem inb_of (toks : List Tok) (rb g cap n : Nat) (ih : TypeIs toks rb g cap n) (hl : toks.length ≤ 1099511627776) (hz : ∀ t ∈ toks, SymZ t) (i o : Nat) (w : World) (res : Got) (t : Tok) (q : List Tok) (h : Rd toks rb g cap i o w) (ho : o < 40) (hd : toks.drop i = t :: q) (hres : inB n t.place q o = some res) :
    Calls Tryz.prog 113 #[.pointer (some ⟨rb, 0, none⟩)] w (ReadRes toks rb g cap o res w) := by
  obtain ⟨hi, ht, hdq, _⟩ := drop_at hd
  obtain ⟨W, eW, k0, k1, b1, z1⟩ := nil2 w
  have hW := h.on b1
  obtain ⟨p0, p1, p2, p3, p4, p5, p6⟩ := three_cells hW.blk
  have hg := h.lt
  have hrb := h.rb_lt
  unfold inB at hres
  rw [if_neg (by omega)] at hres
  obtain ⟨V, eV⟩ : ∃ V, (W.setCell ⟨rb, 1, none⟩ (.int .i64 ((i : Int) + 1))).setCell ⟨rb, 2, none⟩ (.int .i64 ((o : Int) + 1)) = V := ⟨_, rfl⟩
  have hV : Rd toks rb g cap (i + 1) (o + 1) V := by
    have h2 := (hW.place (i + 1)).opened (o + 1)
    rw [show (((i + 1 : Nat)) : Int) = (i : Int) + 1 by push_cast; rfl, show (((o + 1 : Nat)) : Int) = (o : Int) + 1 by push_cast; rfl, eV] at h2
    exact h2
  have hfV : Fr (fun b => b = rb) w V := by rw [← eV]; exact ((Fr.of_below b1).trans (rd_fr _ _ _ _)).trans (rd_fr _ _ _ _)
  have hkV : ∀ j, j ≠ rb → V.heap[j]? = W.heap[j]? := fun j hj => by rw [← eV, Below.heap_setCell _ _ _ _ hj, Below.heap_setCell _ _ _ _ hj]
  have hzV : V.heap.size = W.heap.size := by rw [← eV]; simp
  have K0 := Lib.hid ((hkV w.heap.size (by omega)).trans k0)
  have K1 := Lib.hid ((hkV (w.heap.size + 1) (by omega)).trans k1)
  have ho0 : ((o : Int) == 40) = false := by rw [beq_eq_false_iff_ne]; omega
  have hoI : (o : Int) < 40 := by omega
  have hiI : (i : Int) ≤ 1099511627776 := by omega
  have HEW := Lib.hid eW
  have HEV := Lib.hid eV
  have HFV := Lib.hid hfV
  have HRV := Lib.hid hV
  have HZV := Lib.hid hzV
  have HZ1 := Lib.hid z1
  have HSZ := Lib.hid hz
  have heq := eq_at
  have hgd := guard_at
  have hbig : w.heap.size + 2 ≤ V.heap.size := by omega
  cases ht9 : typeN n q (o + 1) with
  | none => rw [ht9] at hres; cases hres
  | some g9 =>
    have HC := Lib.hid (ih (i + 1) (o + 1) V g9 hV (by omega) (by rw [hdq]; exact ht9))
    rw [ht9] at hres
    have hsuf := (suff_all n).2.2 q (o + 1)
    have herr := (err_all n).2.2 q (o + 1)
    rw [ht9] at hsuf herr
    clear eW b1 hW h k0 k1 hd ht z1 eV hV hfV hkV hzV hz ih ht9
    cases g9 with
    | no e p =>
      simp only [Option.some.injEq] at hres
      subst hres
      have he := herr e p rfl
      have he0 : ((e : Int) == 0) = false := by rw [beq_eq_false_iff_ne]; omega
      have heI : (0 : Int) < (e : Int) := by omega
      clear hsuf herr
      go_enter Tryz.func113, Tryz.ntmps113
      go_upto_region 1 with (fail)
      rw [HEW.out]
      go_upto_region 5 with (fail)
      rw [HEV.out]
      go_wp2_with fail
      (with_reducible refine HC.out.mono ?_)
      intro e1 y hy
      obtain ⟨rfl, ⟨i', o', hr⟩, hf⟩ := hy
      obtain ⟨Y, eY, l0, l1, b2, z2⟩ := new2 y (.int .i64 0) (.int .i64 0) (.string ⟨#[]⟩) (.slice none 0 0) (.int .i64 e) (.int .i64 p)
      have hzy := hf.size
      obtain ⟨a0, a1, a2, a3, a4, a5, a6, a7, a8⟩ := four_cells l0
      obtain ⟨c0, c1, c2, c3, c4⟩ := pair_cells l1
      have hK0 := (b2.block w.heap.size (by omega)).trans ((hf.block w.heap.size (by omega) (by omega)).trans K0.out)
      have hK1 := (b2.block (w.heap.size + 1) (by omega)).trans ((hf.block (w.heap.size + 1) (by omega) (by omega)).trans K1.out)
      obtain ⟨u0, u1, u2, u3, u4, u5, u6, u7, u8⟩ := four_cells hK0
      obtain ⟨v0, v1, v2, v3, v4⟩ := pair_cells hK1
      have HRY := Lib.hid (hr.on b2)
      have HFY := Lib.hid ((HFV.out.trans hf).trans (Fr.of_below b2))
      have HEY := Lib.hid eY
      clear hr hf eY l0 l1 b2 hK0 hK1 K0 K1
      have HZ2 := Lib.hid z2
      clear z2
      go_upto_region 6 with (fail)
      rw [HEY.out]
      go_wp2_with fail
      go_region
      all_goals
        go_wp2_with fail
        refine bodyPost_ret (v := .tuple #[.agg #[.int .i64 0, .int .i64 0, .string ⟨#[]⟩, .slice none 0 0], .agg #[.int .i64 e, .int .i64 p]]) (by simp [results, Tryz.results113, go_sem, u0, u1, u2, u3, v0, v1]) rfl ?_
        have hend := put6_end HRY.out HFY.out (Nat.le_refl _) hg hrb (.int .i64 0) (.int .i64 0) (.string ⟨#[]⟩) (.slice none 0 0) (.int .i64 e) (.int .i64 p)
        exact ⟨rfl, ⟨_, _, hend.1.on (Below.refl _ _).drew⟩, hend.2.drew⟩
    | ok x r =>
      have hsf := hsuf x r rfl
      match r, hsf, hres, HC with
      | [], hsf, _, _ => exact absurd rfl hsf.2.2
      | c :: r, hsf, hres, HC =>
      simp only at hres
      have hdc : toks.drop (toks.length - (c :: r).length) = c :: r := drop_suf (i := i + 1) (by rw [hdq]; exact hsf.1)
      obtain ⟨hci, hct, hcd, hcl⟩ := drop_at hdc
      have hplace : toks.length - (c :: r).length + 1 = toks.length - r.length := hcl.symm
      generalize hP : toks.length - (c :: r).length = P at *
      have hSc := HSZ.out c (by rw [← hct]; exact List.getElem_mem hci)
      clear hsuf herr
      cases hq : isSym c [41] with
      | true =>
        rw [hq] at hres
        simp only [if_true, Option.some.injEq] at hres
        subst hres
        go_enter Tryz.func113, Tryz.ntmps113
        go_upto_region 1 with (fail)
        rw [HEW.out]
        go_upto_region 5 with (fail)
        rw [HEV.out]
        go_wp2_with fail
        (with_reducible refine HC.out.mono ?_)
        intro e1 y hy
        obtain ⟨tv, rfl, hty, hr, hf⟩ := hy
        obtain ⟨f1, n1, s1, A1, l1, c1, rfl⟩ := hty.flat
        obtain ⟨Y, eY, l0, l2, b2, z2⟩ := new2 y (.int .i64 f1) (.int .i64 n1) (.string s1) (.slice A1 l1 c1) (.int .i64 0) (.int .i64 0)
        have hzy := hf.size
        rw [hP] at hr
        have htk := takes_any toks rb g cap P (o + 1) [41] Y (hr.on b2) hci hl (by rw [hct]; exact hSc)
        rw [hct, hq] at htk
        have HTK : Hid (Calls Tryz.prog 66 #[.pointer (some ⟨rb, 0, none⟩), .string ⟨#[41]⟩] Y (TakeRes toks rb g cap P (o + 1) true Y)) := htk
        obtain ⟨a0, a1, a2, a3, a4, a5, a6, a7, a8⟩ := four_cells l0
        obtain ⟨c0, c1', c2, c3, c4⟩ := pair_cells l2
        have HK0 := Lib.hid ((b2.block w.heap.size (by omega)).trans ((hf.block w.heap.size (by omega) (by omega)).trans K0.out))
        have HK1 := Lib.hid ((b2.block (w.heap.size + 1) (by omega)).trans ((hf.block (w.heap.size + 1) (by omega) (by omega)).trans K1.out))
        have HL0 := Lib.hid l0
        have HFY := Lib.hid ((HFV.out.trans hf).trans (Fr.of_below b2))
        have HTY := Lib.hid (hty.on b2)
        have HEY := Lib.hid eY
        have hyY : w.heap.size + 2 ≤ Y.heap.size := by omega
        have hyl : y.heap.size < Y.heap.size := by omega
        clear hr hf eY l0 l2 b2 K0 K1 htk hty
        have HZ2 := Lib.hid z2
        have hwy : w.heap.size + 2 ≤ y.heap.size := by omega
        clear z2
        go_upto_region 6 with (fail)
        rw [HEY.out]
        go_wp2_with fail
        (with_reducible refine HTK.out.mono ?_)
        intro e2 z hz9
        obtain ⟨rfl, hrz, hfz⟩ := hz9
        rw [if_pos rfl, hplace] at hrz
        have hzz := hfz.size
        obtain ⟨d0, d1, d2, d3, d4, d5, d6⟩ := three_cells hrz.blk
        have hKy := (hfz.block y.heap.size hyl (by omega)).trans HL0.out
        have hKz0 := (hfz.block w.heap.size (by omega) (by omega)).trans HK0.out
        have hKz1 := (hfz.block (w.heap.size + 1) (by omega) (by omega)).trans HK1.out
        obtain ⟨Z, eZ⟩ : ∃ Z, z.setCell ⟨rb, 2, none⟩ (.int .i64 o) = Z := ⟨_, rfl⟩
        have hkz : ∀ k, k ≠ rb → Z.heap[k]? = z.heap[k]? := fun k hk => by rw [← eZ]; exact Below.heap_setCell _ _ _ _ hk
        have HRZ : Hid (Rd toks rb g cap (toks.length - r.length) o Z) := by rw [← eZ]; exact hrz.opened o
        have hfZ : Fr (fun b => b = rb) Y Z := by rw [← eZ]; exact hfz.trans (rd_fr z rb 2 (.int .i64 o))
        have HFZ := Lib.hid (HFY.out.trans hfZ)
        have hoo : (o : Int) + 1 - 1 = (o : Int) := by omega
        have HTZ := Lib.hid (ty_fr (HTY.out.mono (Q := fun b => w.heap.size + 2 ≤ b) (fun b (hb : V.heap.size ≤ b) => (by omega : w.heap.size + 2 ≤ b))) hfZ (by omega))
        obtain ⟨j0, j1, j2, j3, j4, j5, j6, j7, j8⟩ := four_cells ((hkz y.heap.size (by omega)).trans hKy)
        obtain ⟨u0, u1, u2, u3, u4, u5, u6, u7, u8⟩ := four_cells ((hkz w.heap.size (by omega)).trans hKz0)
        obtain ⟨v0, v1, v2, v3, v4⟩ := pair_cells ((hkz (w.heap.size + 1) (by omega)).trans hKz1)
        have HEZ := Lib.hid eZ
        clear hrz hfz a0 a1 a2 a3 a4 a5 a6 a7 a8 c0 c1' c2 c3 c4 hKz0 hKz1 hKy HTK hkz eZ hfZ
        go_upto_region 11 with (fail)
        rw [HEZ.out]
        go_wp2_with fail
        refine bodyPost_ret (v := .tuple #[.agg #[.int .i64 f1, .int .i64 n1, .string s1, .slice A1 l1 c1], .agg #[.int .i64 0, .int .i64 0]]) (by simp [results, Tryz.results113, go_sem, u0, u1, u2, u3, v0, v1]) rfl ?_
        have hend := put6_end HRZ.out HFZ.out (Nat.le_refl _) hg hrb (.int .i64 f1) (.int .i64 n1) (.string s1) (.slice A1 l1 c1) (.int .i64 0) (.int .i64 0)
        have hte := (put6_ty HTZ.out (k := w.heap.size) (by omega) (.int .i64 f1) (.int .i64 n1) (.string s1) (.slice A1 l1 c1) (.int .i64 0) (.int .i64 0)).mono (Q := fun b => w.heap.size ≤ b) (fun b (hb : w.heap.size + 2 ≤ b) => (by omega : w.heap.size ≤ b))
        exact ⟨_, rfl, hte, hend.1, hend.2⟩
      | false =>
        rw [hq] at hres
        simp only [Bool.false_eq_true, if_false, Option.some.injEq] at hres
        subst hres
        go_enter Tryz.func113, Tryz.ntmps113
        go_upto_region 1 with (fail)
        rw [HEW.out]
        go_upto_region 5 with (fail)
        rw [HEV.out]
        go_wp2_with fail
        (with_reducible refine HC.out.mono ?_)
        intro e1 y hy
        obtain ⟨tv, rfl, hty, hr, hf⟩ := hy
        obtain ⟨f1, n1, s1, A1, l1, c1, rfl⟩ := hty.flat
        obtain ⟨Y, eY, l0, l2, b2, z2⟩ := new2 y (.int .i64 f1) (.int .i64 n1) (.string s1) (.slice A1 l1 c1) (.int .i64 0) (.int .i64 0)
        have hzy := hf.size
        rw [hP] at hr
        have htk := takes_any toks rb g cap P (o + 1) [41] Y (hr.on b2) hci hl (by rw [hct]; exact hSc)
        rw [hct, hq] at htk
        have HTK : Hid (Calls Tryz.prog 66 #[.pointer (some ⟨rb, 0, none⟩), .string ⟨#[41]⟩] Y (TakeRes toks rb g cap P (o + 1) false Y)) := htk
        obtain ⟨a0, a1, a2, a3, a4, a5, a6, a7, a8⟩ := four_cells l0
        obtain ⟨c0, c1', c2, c3, c4⟩ := pair_cells l2
        have HK0 := Lib.hid ((b2.block w.heap.size (by omega)).trans ((hf.block w.heap.size (by omega) (by omega)).trans K0.out))
        have HK1 := Lib.hid ((b2.block (w.heap.size + 1) (by omega)).trans ((hf.block (w.heap.size + 1) (by omega) (by omega)).trans K1.out))
        have HL0 := Lib.hid l0
        have HFY := Lib.hid ((HFV.out.trans hf).trans (Fr.of_below b2))
        have HTY := Lib.hid (hty.on b2)
        have HEY := Lib.hid eY
        have hyY : w.heap.size + 2 ≤ Y.heap.size := by omega
        have hyl : y.heap.size < Y.heap.size := by omega
        clear hr hf eY l0 l2 b2 K0 K1 htk hty
        have HZ2 := Lib.hid z2
        have hwy : w.heap.size + 2 ≤ y.heap.size := by omega
        clear z2
        go_upto_region 6 with (fail)
        rw [HEY.out]
        go_wp2_with fail
        (with_reducible refine HTK.out.mono ?_)
        intro e2 z hz9
        obtain ⟨rfl, hrz, hfz⟩ := hz9
        rw [if_neg (by simp)] at hrz
        have hzz := hfz.size
        obtain ⟨d0, d1, d2, d3, d4, d5, d6⟩ := three_cells hrz.blk
        have hKz0 := (hfz.block w.heap.size (by omega) (by omega)).trans HK0.out
        have hKz1 := (hfz.block (w.heap.size + 1) (by omega) (by omega)).trans HK1.out
        have HTOK0 := token_any toks rb g cap P (o + 1) z hrz hci
        rw [hct] at HTOK0
        have HTOK := Lib.hid HTOK0
        have HRF := Lib.hid (fun w => refusal_any 12 c w)
        have HRZ := Lib.hid hrz
        have HFZ := Lib.hid (HFY.out.trans hfz)
        have HKZ0 := Lib.hid hKz0
        have HKZ1 := Lib.hid hKz1
        have hz0 := lt_of_block hKz0
        have hz1 := lt_of_block hKz1
        clear hrz hfz a0 a1 a2 a3 a4 a5 a6 a7 a8 c0 c1' c2 c3 c4 hKz0 hKz1 HTK HTOK0
        go_wp2_with fail
        (with_reducible refine HTOK.out.mono ?_)
        rintro e3 z1 ⟨rfl, hb1⟩
        have HB1 := Lib.hid hb1
        clear hb1
        go_wp2_with fail
        (with_reducible refine (HRF.out _).mono ?_)
        rintro e4 z2 ⟨rfl, hb2⟩
        have hb := HB1.out.trans (hb2.mono HB1.out.size)
        obtain ⟨u0, u1, u2, u3, u4, u5, u6, u7, u8⟩ := four_cells ((hb.block w.heap.size hz0).trans HKZ0.out)
        obtain ⟨v0, v1, v2, v3, v4⟩ := pair_cells ((hb.block (w.heap.size + 1) hz1).trans HKZ1.out)
        have HRL := Lib.hid (HRZ.out.on hb)
        have HFL := Lib.hid (HFZ.out.trans (Fr.of_below hb))
        clear hb2 hb
        go_wp2_with fail
        refine bodyPost_ret (v := .tuple #[.agg #[.int .i64 0, .int .i64 0, .string ⟨#[]⟩, .slice none 0 0], .agg #[.int .i64 12, .int .i64 c.place]]) (by simp [results, Tryz.results113, go_sem, u0, u1, u2, u3, v0, v1]) rfl ?_
        have hend := put6_end HRL.out HFL.out (Nat.le_refl _) hg hrb (.int .i64 0) (.int .i64 0) (.string ⟨#[]⟩) (.slice none 0 0) (.int .i64 12) (.int .i64 c.place)
        exact ⟨rfl, ⟨_, _, hend.1⟩, hend.2⟩
end Go.Proofs.YtbdfjboojokgdaaGreatDoor
namespace Go.Proofs.YtbdfjboojokgdaaGreatDoor
open Go.RowKit Lx

theorem box4h (w : World) (x0 x1 x2 x3 : Value) (t : TypeId) : ∃ W, w.alloc (.cells #[x0, x1, x2, x3] t) = W ∧ W.heap[w.heap.size]? = some (.cells #[x0, x1, x2, x3] t) ∧ Below w.heap.size w W ∧ W.heap.size = w.heap.size + 1 :=
  ⟨_, rfl, (MapKept.heap_alloc w _).1, below_new w _, by simp⟩
/-- A leaf is told. -/
theorem leaf_end {toks : List Tok} {rb g cap i o : Nat} {w Z : World} (t : Ty) (r : List Tok) (f1 n1 : Int) (s1 : ByteArray) (A1 : Option Addr) (l1 c1 : Nat) (hrz : Rd toks rb g cap i o Z) (hfz : Fr (fun b => b = rb) w Z) (hty : TyAt (fun b => w.heap.size + 2 ≤ b) Z t (.agg #[.int .i64 f1, .int .i64 n1, .string s1, .slice A1 l1 c1])) (hg : g < w.heap.size) (hrb : rb < w.heap.size) (hi : toks.length - r.length = i) :
    ReadRes toks rb g cap o (.ok t r) w (.returned (.tuple #[.agg #[.int .i64 f1, .int .i64 n1, .string s1, .slice A1 l1 c1], .agg #[.int .i64 0, .int .i64 0]])) (put6 Z w.heap.size (w.heap.size + 1) (.int .i64 f1) (.int .i64 n1) (.string s1) (.slice A1 l1 c1) (.int .i64 0) (.int .i64 0)) := by
  have hend := put6_end hrz hfz (Nat.le_refl _) hg hrb (.int .i64 f1) (.int .i64 n1) (.string s1) (.slice A1 l1 c1) (.int .i64 0) (.int .i64 0)
  have hte := (put6_ty hty (k := w.heap.size) (by omega) (.int .i64 f1) (.int .i64 n1) (.string s1) (.slice A1 l1 c1) (.int .i64 0) (.int .i64 0)).mono (Q := fun b => w.heap.size ≤ b) (fun b (hb : w.heap.size + 2 ≤ b) => (by omega : w.heap.size ≤ b))
  exact ⟨_, rfl, hte, by rw [hi]; exact hend.1, hend.2⟩
theorem no_end {toks : List Tok} {rb g cap i o o' : Nat} {w Z : World} (e p : Nat) (hrz : Rd toks rb g cap i o' Z) (hfz : Fr (fun b => b = rb) w Z) (hg : g < w.heap.size) (hrb : rb < w.heap.size) :
    ReadRes toks rb g cap o (.no e p) w (.returned (.tuple #[.agg #[.int .i64 0, .int .i64 0, .string ⟨#[]⟩, .slice none 0 0], .agg #[.int .i64 e, .int .i64 p]])) (put6 Z w.heap.size (w.heap.size + 1) (.int .i64 0) (.int .i64 0) (.string ⟨#[]⟩) (.slice none 0 0) (.int .i64 e) (.int .i64 p)) := by
  have hend := put6_end hrz hfz (Nat.le_refl _) hg hrb (.int .i64 0) (.int .i64 0) (.string ⟨#[]⟩) (.slice none 0 0) (.int .i64 e) (.int .i64 p)
  exact ⟨rfl, ⟨_, _, hend.1⟩, hend.2⟩
set_option maxRecDepth 100000 in
set_option maxHeartbeats 1000000 in
theorem atom_of (toks : List Tok) (rb g cap n : Nat) (ih : TypeIs toks rb g cap n) (hl : toks.length ≤ 1099511627776) (hz : ∀ t ∈ toks, SymZ t) : AtomIs toks rb g cap (n + 1) := by
  intro i o w res h ho hres
  cases hd : toks.drop i with
  | nil => rw [hd] at hres; simp [atomN] at hres
  | cons t q =>
  rw [hd] at hres
  obtain ⟨hi, ht, hdq, hlen⟩ := drop_at hd
  obtain ⟨W, eW, k0, k1, b1, z1⟩ := nil2 w
  have hW := h.on b1
  have hg := h.lt
  have hrb := h.rb_lt
  have htk := token_any toks rb g cap i o W hW hi
  rw [ht] at htk
  have HTK := Lib.hid htk
  have hSt := hz t (by rw [← ht]; exact List.getElem_mem hi)
  have HEW := Lib.hid eW
  have HRW := Lib.hid hW
  have HB := Lib.hid b1
  have HK0 := Lib.hid k0
  have HK1 := Lib.hid k1
  have HZ1 := Lib.hid z1
  have hzW : w.heap.size + 2 ≤ W.heap.size := by omega
  have hiI : (i : Int) ≤ 1099511627776 := by omega
  have HTV : Hid (tokV t = .agg #[.int .i64 t.kind, .string (mkB t.text), .int .i64 t.num, .int .i64 t.place]) := rfl
  clear eW b1 hW k0 k1 z1 htk
  -- behind the first token
  have HY : Hid (∀ y : World, Below W.heap.size W y → ∃ Y, y.alloc (.cells #[.int .i64 t.kind, .string (mkB t.text), .int .i64 t.num, .int .i64 t.place] 82) = Y ∧ Y.heap[y.heap.size]? = some (.cells #[.int .i64 t.kind, .string (mkB t.text), .int .i64 t.num, .int .i64 t.place] 82) ∧ Rd toks rb g cap i o Y ∧ Fr (fun b => b = rb) w Y ∧ Y.heap[w.heap.size]? = some (.cells #[.int .i64 0, .int .i64 0, .string ⟨#[]⟩, .slice none 0 0] 27) ∧ Y.heap[w.heap.size + 1]? = some (.cells #[.int .i64 0, .int .i64 0] 30) ∧ w.heap.size + 2 ≤ y.heap.size ∧ y.heap.size < Y.heap.size) := fun y hb => by
    obtain ⟨Y, e1, e2, e3, e4⟩ := box4h y (.int .i64 t.kind) (.string (mkB t.text)) (.int .i64 t.num) (.int .i64 t.place) 82
    have hby := hb.trans (e3.mono hb.size)
    have hs := hb.size
    exact ⟨Y, e1, e2, HRW.out.on hby, (Fr.of_below HB.out).trans (Fr.of_below hby), (hby.block _ (by omega)).trans HK0.out, (hby.block _ (by omega)).trans HK1.out, by omega, by omega⟩
  by_cases h2 : t.kind = 2
  · have hr2 : res = .ok (.con (mkB t.text)) q := by simp only [atomN, if_pos h2, Option.some.injEq] at hres; exact hres.symm
    subst hr2
    clear h hres hd ht hdq hSt
    have hk : (t.kind : Int) = 2 := by omega
    go_enter Tryz.func93, Tryz.ntmps93
    go_upto_region 1 with (fail)
    rw [HEW.out]
    go_wp2_with fail
    (with_reducible refine HTK.out.mono ?_)
    rintro e1 y ⟨rfl, hb⟩
    obtain ⟨Y, eY, l0, hr, hf, l1, l2, s1, s2⟩ := HY.out y hb
    rw [HTV.out]
    have HEY := Lib.hid eY
    obtain ⟨a0, a1, a2, a3, a4, a5, a6, a7, a8⟩ := four_cells l0
    obtain ⟨Z, eZ⟩ : ∃ Z, Y.setCell ⟨rb, 1, none⟩ (.int .i64 ((i : Int) + 1)) = Z := ⟨_, rfl⟩
    have hkz : ∀ k, k ≠ rb → Z.heap[k]? = Y.heap[k]? := fun k hk => by rw [← eZ]; exact Below.heap_setCell _ _ _ _ hk
    have hrz : Rd toks rb g cap (i + 1) o Z := by
      have h9 := hr.place (i + 1)
      rw [show (((i + 1 : Nat)) : Int) = (i : Int) + 1 by push_cast; rfl, eZ] at h9
      exact h9
    have hfz : Fr (fun b => b = rb) w Z := by rw [← eZ]; exact hf.trans (rd_fr _ _ _ _)
    obtain ⟨p0, p1, p2, p3, p4, p5, p6⟩ := three_cells hr.blk
    obtain ⟨j0, j1, j2, j3, _⟩ := four_cells ((hkz y.heap.size (by omega)).trans l0)
    have HM0 := Lib.hid ((hkz w.heap.size (by omega)).trans l1)
    have HM1 := Lib.hid ((hkz (w.heap.size + 1) (by omega)).trans l2)
    have hzz : Y.heap.size ≤ Z.heap.size := by rw [← eZ]; simp
    have hzY : y.heap.size < Z.heap.size := by omega
    have HEZ := Lib.hid eZ
    have HRZ := Lib.hid hrz
    have HFZ := Lib.hid hfz
    have HCON := Lib.hid (con_any (mkB t.text) Z)
    clear hb eY l0 hr hf l1 l2 eZ hkz hrz hfz hzz
    generalize (t.kind : Int) = tk at *
    subst hk
    go_upto_region 2 with (fail)
    rw [HEY.out]
    go_upto_region 4 with (fail)
    rw [HEZ.out]
    go_wp2_with fail
    (with_reducible refine HCON.out.mono ?_)
    rintro e2 z ⟨tv, rfl, hty, hbz⟩
    obtain ⟨f1, n1, sx, A1, l1, c1, rfl⟩ := hty.flat
    obtain ⟨u0, u1, u2, u3, u4, u5, u6, u7, u8⟩ := four_cells ((hbz.block w.heap.size (by omega)).trans HM0.out)
    obtain ⟨v0, v1, v2, v3, v4⟩ := pair_cells ((hbz.block (w.heap.size + 1) (by omega)).trans HM1.out)
    have HE := Lib.hid (leaf_end (.con (mkB t.text)) q f1 n1 sx A1 l1 c1 (HRZ.out.on hbz) (HFZ.out.trans (Fr.of_below hbz)) (hty.mono (Q := fun b => w.heap.size + 2 ≤ b) (fun b (hb : Z.heap.size ≤ b) => (by omega : w.heap.size + 2 ≤ b))) hg hrb hlen)
    clear hty hbz
    go_wp2_with fail
    exact bodyPost_ret (v := .tuple #[.agg #[.int .i64 f1, .int .i64 n1, .string sx, .slice A1 l1 c1], .agg #[.int .i64 0, .int .i64 0]]) (by simp [results, Tryz.results93, go_sem, u0, u1, u2, u3, v0, v1]) rfl HE.out
  · by_cases h1 : t.kind = 1
    · have hr1 : res = .ok (.var (mkB t.text)) q := by simp only [atomN, if_neg h2, if_pos h1, Option.some.injEq] at hres; exact hres.symm
      subst hr1
      clear h hres hd ht hdq hSt
      have hk : (t.kind : Int) = 1 := by omega
      go_enter Tryz.func93, Tryz.ntmps93
      go_upto_region 1 with (fail)
      rw [HEW.out]
      go_wp2_with fail
      (with_reducible refine HTK.out.mono ?_)
      rintro e1 y ⟨rfl, hb⟩
      obtain ⟨Y, eY, l0, hr, hf, l1, l2, s1, s2⟩ := HY.out y hb
      rw [HTV.out]
      have HEY := Lib.hid eY
      obtain ⟨a0, a1, a2, a3, a4, a5, a6, a7, a8⟩ := four_cells l0
      obtain ⟨Z, eZ⟩ : ∃ Z, Y.setCell ⟨rb, 1, none⟩ (.int .i64 ((i : Int) + 1)) = Z := ⟨_, rfl⟩
      have hkz : ∀ k, k ≠ rb → Z.heap[k]? = Y.heap[k]? := fun k hk => by rw [← eZ]; exact Below.heap_setCell _ _ _ _ hk
      have hrz : Rd toks rb g cap (i + 1) o Z := by
        have h9 := hr.place (i + 1)
        rw [show (((i + 1 : Nat)) : Int) = (i : Int) + 1 by push_cast; rfl, eZ] at h9
        exact h9
      have hfz : Fr (fun b => b = rb) w Z := by rw [← eZ]; exact hf.trans (rd_fr _ _ _ _)
      obtain ⟨p0, p1, p2, p3, p4, p5, p6⟩ := three_cells hr.blk
      obtain ⟨j0, j1, j2, j3, _⟩ := four_cells ((hkz y.heap.size (by omega)).trans l0)
      have HM0 := Lib.hid ((hkz w.heap.size (by omega)).trans l1)
      have HM1 := Lib.hid ((hkz (w.heap.size + 1) (by omega)).trans l2)
      have hzz : Y.heap.size ≤ Z.heap.size := by rw [← eZ]; simp
      have hzY : y.heap.size < Z.heap.size := by omega
      have HEZ := Lib.hid eZ
      have HRZ := Lib.hid hrz
      have HFZ := Lib.hid hfz
      have HVAR := Lib.hid (var_any (mkB t.text) Z)
      clear hb eY l0 hr hf l1 l2 eZ hkz hrz hfz hzz
      generalize (t.kind : Int) = tk at *
      subst hk
      go_upto_region 2 with (fail)
      rw [HEY.out]
      go_upto_region 7 with (fail)
      rw [HEZ.out]
      go_wp2_with fail
      (with_reducible refine HVAR.out.mono ?_)
      rintro e2 z ⟨tv, rfl, hty, hbz⟩
      obtain ⟨f1, n1, sx, A1, l1, c1, rfl⟩ := hty.flat
      obtain ⟨u0, u1, u2, u3, u4, u5, u6, u7, u8⟩ := four_cells ((hbz.block w.heap.size (by omega)).trans HM0.out)
      obtain ⟨v0, v1, v2, v3, v4⟩ := pair_cells ((hbz.block (w.heap.size + 1) (by omega)).trans HM1.out)
      have HE := Lib.hid (leaf_end (.var (mkB t.text)) q f1 n1 sx A1 l1 c1 (HRZ.out.on hbz) (HFZ.out.trans (Fr.of_below hbz)) (hty.mono (Q := fun b => w.heap.size + 2 ≤ b) (fun b (hb : Z.heap.size ≤ b) => (by omega : w.heap.size + 2 ≤ b))) hg hrb hlen)
      clear hty hbz
      go_wp2_with fail
      exact bodyPost_ret (v := .tuple #[.agg #[.int .i64 f1, .int .i64 n1, .string sx, .slice A1 l1 c1], .agg #[.int .i64 0, .int .i64 0]]) (by simp [results, Tryz.results93, go_sem, u0, u1, u2, u3, v0, v1]) rfl HE.out
    · have hk2 : ((t.kind : Int) == 2) = false := by rw [beq_eq_false_iff_ne]; omega
      have hk1 : ((t.kind : Int) == 1) = false := by rw [beq_eq_false_iff_ne]; omega
      have HSY : Hid (∀ w, Calls Tryz.prog 92 #[tokV t, .string ⟨#[40]⟩] w fun e w' => e = .returned (.bool (isSym t [40])) ∧ Below w.heap.size w w') := fun w => symbol_any t [40] w hSt
      cases hq : isSym t [40] with
      | true =>
        rw [hq] at HSY
        rw [atomN_bracket h2 h1 hq] at hres
        have HIB : Hid (∀ Z : World, Rd toks rb g cap i o Z → Calls Tryz.prog 113 #[.pointer (some ⟨rb, 0, none⟩)] Z (ReadRes toks rb g cap o res Z)) := fun Z hrz => by
          by_cases ho4 : o = 40
          · subst ho4
            unfold inB at hres
            rw [if_pos (Nat.le_refl _)] at hres
            simp only [Option.some.injEq] at hres
            subst hres
            exact inb_deep toks rb g cap i Z t q hrz hd
          · exact inb_of toks rb g cap n ih hl hz i o Z res t q hrz (by omega) hd hres
        have hsf : ∀ x r, res = .ok x r → r <:+ toks.drop i := fun x r e => by
          subst e
          have h9 := (suff_all (n + 1)).1 (t :: q) o x r (by rw [atomN_bracket h2 h1 hq]; exact hres)
          rw [hd]; exact h9.1
        have HSF := Lib.hid hsf
        clear h hres hd ht hdq hSt hq hsf
        rw [HTV.out] at HSY HTK
        go_enter Tryz.func93, Tryz.ntmps93
        go_upto_region 1 with (fail)
        rw [HEW.out]
        go_wp2_with fail
        (with_reducible refine HTK.out.mono ?_)
        rintro e1 y ⟨rfl, hb⟩
        obtain ⟨Y, eY, l0, hr, hf, l1, l2, s1, s2⟩ := HY.out y hb
        have HEY := Lib.hid eY
        obtain ⟨a0, a1, a2, a3, a4, a5, a6, a7, a8⟩ := four_cells l0
        have HR := Lib.hid hr
        have HF := Lib.hid hf
        have HM0 := Lib.hid l1
        have HM1 := Lib.hid l2
        clear hb eY hr hf l1 l2 l0
        go_upto_region 2 with (fail)
        rw [HEY.out]
        go_wp2_with fail
        (with_reducible refine (HSY.out _).mono ?_)
        rintro e2 z ⟨rfl, hbz⟩
        have HBZ := Lib.hid hbz
        have HIZ := Lib.hid (HIB.out z (HR.out.on hbz))
        have hsz := hbz.size
        clear hbz
        go_wp2_with fail
        (with_reducible refine HIZ.out.mono ?_)
        intro e3 x hx
        have HFX0 := HF.out.trans (Fr.of_below HBZ.out)
        have HN0 := (HBZ.out.block w.heap.size (by omega)).trans HM0.out
        have HN1 := (HBZ.out.block (w.heap.size + 1) (by omega)).trans HM1.out
        cases res with
        | no e p =>
          obtain ⟨rfl, ⟨i', o', hrx⟩, hfx⟩ := hx
          obtain ⟨u0, u1, u2, u3, u4, u5, u6, u7, u8⟩ := four_cells ((hfx.block w.heap.size (by omega) (by omega)).trans HN0)
          obtain ⟨v0, v1, v2, v3, v4⟩ := pair_cells ((hfx.block (w.heap.size + 1) (by omega) (by omega)).trans HN1)
          have HE := Lib.hid (no_end (o := o) e p hrx (HFX0.trans hfx) hg hrb)
          clear hrx hfx HFX0 HN0 HN1
          go_wp2_with fail
          exact bodyPost_ret (v := .tuple #[.agg #[.int .i64 0, .int .i64 0, .string ⟨#[]⟩, .slice none 0 0], .agg #[.int .i64 e, .int .i64 p]]) (by simp [results, Tryz.results93, go_sem, u0, u1, u2, u3, v0, v1]) rfl HE.out
        | ok xt xr =>
          obtain ⟨tv, rfl, hty, hrx, hfx⟩ := hx
          obtain ⟨f1, n1, sx, A1, l1, c1, rfl⟩ := hty.flat
          obtain ⟨u0, u1, u2, u3, u4, u5, u6, u7, u8⟩ := four_cells ((hfx.block w.heap.size (by omega) (by omega)).trans HN0)
          obtain ⟨v0, v1, v2, v3, v4⟩ := pair_cells ((hfx.block (w.heap.size + 1) (by omega) (by omega)).trans HN1)
          have HE := Lib.hid (leaf_end xt xr f1 n1 sx A1 l1 c1 hrx (HFX0.trans hfx) (hty.mono (Q := fun b => w.heap.size + 2 ≤ b) (fun b (hb : z.heap.size ≤ b) => (by omega : w.heap.size + 2 ≤ b))) hg hrb rfl)
          clear hrx hfx HFX0 HN0 HN1 hty
          go_wp2_with fail
          exact bodyPost_ret (v := .tuple #[.agg #[.int .i64 f1, .int .i64 n1, .string sx, .slice A1 l1 c1], .agg #[.int .i64 0, .int .i64 0]]) (by simp [results, Tryz.results93, go_sem, u0, u1, u2, u3, v0, v1]) rfl HE.out
      | false =>
        rw [hq] at HSY
        have hrn : res = .no 12 t.place := by
          simp only [atomN, if_neg h2, if_neg h1, hq, if_true, Option.some.injEq] at hres; exact hres.symm
        subst hrn
        have HRF := Lib.hid (fun w => refusal_any 12 t w)
        clear h hres hd ht hdq hSt hq
        rw [HTV.out] at HSY HTK HRF
        go_enter Tryz.func93, Tryz.ntmps93
        go_upto_region 1 with (fail)
        rw [HEW.out]
        go_wp2_with fail
        (with_reducible refine HTK.out.mono ?_)
        rintro e1 y ⟨rfl, hb⟩
        obtain ⟨Y, eY, l0, hr, hf, l1, l2, s1, s2⟩ := HY.out y hb
        have HEY := Lib.hid eY
        have HL0 := Lib.hid l0
        obtain ⟨a0, a1, a2, a3, a4, a5, a6, a7, a8⟩ := four_cells l0
        have HR := Lib.hid hr
        have HF := Lib.hid hf
        have HM0 := Lib.hid l1
        have HM1 := Lib.hid l2
        clear hb eY hr hf l1 l2 l0
        go_upto_region 2 with (fail)
        rw [HEY.out]
        go_wp2_with fail
        (with_reducible refine (HSY.out _).mono ?_)
        rintro e2 z ⟨rfl, hbz⟩
        have HBZ := Lib.hid hbz
        have hsz := hbz.size
        obtain ⟨j0, j1, j2, j3, j4, j5, j6, j7, j8⟩ := four_cells ((hbz.block y.heap.size (by omega)).trans HL0.out)
        clear hbz a0 a1 a2 a3 a4 a5 a6 a7 a8
        go_wp2_with fail
        (with_reducible refine (HRF.out _).mono ?_)
        rintro e3 x ⟨rfl, hbx⟩
        have hb2 := HBZ.out.trans (hbx.mono HBZ.out.size)
        obtain ⟨u0, u1, u2, u3, u4, u5, u6, u7, u8⟩ := four_cells ((hb2.block w.heap.size (by omega)).trans HM0.out)
        obtain ⟨v0, v1, v2, v3, v4⟩ := pair_cells ((hb2.block (w.heap.size + 1) (by omega)).trans HM1.out)
        have HE := Lib.hid (no_end (o := o) 12 t.place (HR.out.on hb2) (HF.out.trans (Fr.of_below hb2)) hg hrb)
        clear hbx hb2
        go_wp2_with fail
        exact bodyPost_ret (v := .tuple #[.agg #[.int .i64 0, .int .i64 0, .string ⟨#[]⟩, .slice none 0 0], .agg #[.int .i64 12, .int .i64 t.place]]) (by simp [results, Tryz.results93, go_sem, u0, u1, u2, u3, v0, v1]) rfl HE.out
end Go.Proofs.YtbdfjboojokgdaaGreatDoor
