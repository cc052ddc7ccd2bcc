/- The contract of ReadScheme's whole (chapter 5). Conditions: the text has at most 2^40 bytes; the list of symbols stands in memory as the program's text lays it; what is read is not too great. -/
import Derived.Test.YtbdfjboojokgdaaDoorJV31
namespace Go.Proofs.YtbdfjboojokgdaaDoor
open Go.RowKit Lx

theorem isSym_not6 {t : Tok} {x : List UInt8} (h : isSym t x = true) : t.kind ≠ 6 := by
  unfold isSym at h
  rw [Bool.and_eq_true] at h
  have := eq_of_beq h.1
  omega
theorem predL_ends : ∀ (n : Nat) (l : List Tok) (o : Nat) (acc ps : List (ByteArray × Ty)) (q : List Tok), EndsT l → predL n l o acc = some (ps, q) → q <:+ l ∧ EndsT q
  | 0, _, _, _, _, _, _, h => by simp [predL] at h
  | _ + 1, [], _, _, _, _, hE, _ => absurd rfl hE.ne
  | n + 1, t :: r, o, acc, ps, q, hE, h => by
    simp only [predL] at h
    split at h
    · rename_i hk
      have hEr := hE.tail (by omega)
      cases ha : atomL r o with
      | no e p => rw [ha] at h; simp at h
      | ok x q1 =>
        rw [ha] at h
        have h1 := atomL_ok hEr ha
        match q1, h1, h with
        | [], h1, h => simp at h
        | c :: q1, h1, h =>
          simp only at h
          have hs : (c :: q1) <:+ t :: r := h1.2.1.trans (List.suffix_cons t r)
          split at h
          · simp only [Option.some.injEq, Prod.mk.injEq] at h
            obtain ⟨_, rfl⟩ := h
            exact ⟨hs, h1.1⟩
          · rename_i hc
            have hc' : isSym c [44] = true := by
              cases hx : isSym c [44] with
              | true => rfl
              | false => exact absurd (.inr hx) hc
            have h2 := predL_ends n q1 o _ ps q (h1.1.tail (isSym_not6 hc')) h
            exact ⟨h2.1.trans ((List.suffix_cons c q1).trans hs), h2.2⟩
    · cases h
theorem predsRaw_ends {l : List Tok} (hE : EndsT l) {ps : List (ByteArray × Ty)} {q : List Tok} (h : predsRaw l = some (ps, q)) : q <:+ l ∧ EndsT q := by
  match l, hE, h with
  | [], hE, _ => exact absurd rfl hE.ne
  | t :: r, hE, h =>
    simp only [predsRaw] at h
    split at h
    · rename_i hp
      have hEr := hE.tail (isSym_not6 hp)
      cases hx : predL r.length r 1 [] with
      | none => rw [hx] at h; simp [tailP] at h
      | some a =>
        obtain ⟨ps1, q1⟩ := a
        obtain ⟨h1, h2⟩ := predL_ends _ _ _ _ _ _ hEr hx
        rw [hx] at h
        match q1, h1, h2, h with
        | [], h1, h2, h => exact absurd rfl h2.ne
        | c :: q1, h1, h2, h =>
          simp only [tailP, if_true] at h
          match q1, h1, h2, h with
          | [], h1, h2, h => simp at h
          | d :: q2, h1, h2, h =>
            simp only at h
            split at h
            · rename_i hcd
              simp only [Option.some.injEq, Prod.mk.injEq] at h
              obtain ⟨_, rfl⟩ := h
              exact ⟨(List.suffix_cons d q2).trans ((List.suffix_cons c _).trans (h1.trans (List.suffix_cons t r))), (h2.tail (isSym_not6 hcd.1)).tail (isSym_not6 hcd.2)⟩
            · cases h
    · cases hx : predL (r.length + 1) (t :: r) 0 [] with
      | none => rw [hx] at h; simp [tailP] at h
      | some a =>
        obtain ⟨ps1, q1⟩ := a
        obtain ⟨h1, h2⟩ := predL_ends _ _ _ _ _ _ hE hx
        rw [hx] at h
        match q1, h1, h2, h with
        | [], h1, h2, h => exact absurd rfl h2.ne
        | c :: q1, h1, h2, h =>
          simp only [tailP, Bool.false_eq_true, if_false] at h
          split at h
          · rename_i hc
            simp only [Option.some.injEq, Prod.mk.injEq] at h
            obtain ⟨_, rfl⟩ := h
            exact ⟨(List.suffix_cons c q1).trans h1, h2.tail (isSym_not6 hc)⟩
          · cases h
theorem withP_err {l : List Tok} (hE : EndsT l) {ps : List (ByteArray × Ty)} {e p : Nat} (h : withP ps (typeL l 0) = .no e p) : 0 < e := by
  cases hty : typeL l 0 with
  | ok t r => rw [hty] at h; cases h
  | no e' p' =>
    rw [hty] at h
    simp only [withP, GotS.no.injEq] at h
    have := (err_all (3 * l.length + 2)).2.2 l 0 e' p' (by rw [typeL_is hE 0, hty])
    omega
theorem withP_suf {l : List Tok} (hE : EndsT l) {ps ps' : List (ByteArray × Ty)} {t : Ty} {r : List Tok} (h : withP ps (typeL l 0) = .ok ps' t r) : r <:+ l ∧ r ≠ [] := by
  cases hty : typeL l 0 with
  | no e' p' => rw [hty] at h; cases h
  | ok t' r' =>
    rw [hty] at h
    simp only [withP, GotS.ok.injEq] at h
    obtain ⟨_, _, rfl⟩ := h
    have := typeL_ok hE hty
    exact ⟨this.2.1, this.1.ne⟩
theorem schemeRaw_err {l : List Tok} (hE : EndsT l) {e p : Nat} (h : schemeRaw l = .no e p) : 0 < e := by
  unfold schemeRaw at h
  split at h
  · rename_i ps q hp
    split at h
    · injection h with h1 h2; omega
    · exact withP_err (predsRaw_ends hE hp).2 h
  · exact withP_err hE h
theorem schemeRaw_suf {l : List Tok} (hE : EndsT l) {ps : List (ByteArray × Ty)} {t : Ty} {r : List Tok} (h : schemeRaw l = .ok ps t r) : r <:+ l ∧ r ≠ [] := by
  unfold schemeRaw at h
  split at h
  · rename_i ps q hp
    split at h
    · cases h
    · have h1 := predsRaw_ends hE hp
      have h2 := withP_suf h1.2 h
      exact ⟨h2.1.trans h1.1, h2.2⟩
  · exact withP_suf hE h
theorem wboxS (w : World) : ∃ W, ((w.alloc (.cells #[.slice none 0 0, .slice none 0 0, .slice none 0 0, .int .i64 0, .int .i64 0, .string ⟨#[]⟩, .slice none 0 0] 70)).alloc (.cells #[.int .i64 0, .int .i64 0] 50)).alloc (.cells #[.slice none 0 0, .slice none 0 0, .slice none 0 0, .int .i64 0, .int .i64 0, .string ⟨#[]⟩, .slice none 0 0] 70) = W ∧
    W.heap[w.heap.size]? = some (.cells #[.slice none 0 0, .slice none 0 0, .slice none 0 0, .int .i64 0, .int .i64 0, .string ⟨#[]⟩, .slice none 0 0] 70) ∧ W.heap[w.heap.size + 1]? = some (.cells #[.int .i64 0, .int .i64 0] 50) ∧ W.heap[w.heap.size + 1 + 1]? = some (.cells #[.slice none 0 0, .slice none 0 0, .slice none 0 0, .int .i64 0, .int .i64 0, .string ⟨#[]⟩, .slice none 0 0] 70) ∧ Below w.heap.size w W ∧ W.heap.size = w.heap.size + 3 := by
  obtain ⟨V, eV, a0, a1, ab, az⟩ := scheme_boxes w
  rw [eV]
  have c2 := (MapKept.heap_alloc V (.cells #[.slice none 0 0, .slice none 0 0, .slice none 0 0, .int .i64 0, .int .i64 0, .string ⟨#[]⟩, .slice none 0 0] 70)).1
  have cb := below_new V (.cells #[.slice none 0 0, .slice none 0 0, .slice none 0 0, .int .i64 0, .int .i64 0, .string ⟨#[]⟩, .slice none 0 0] 70)
  rw [az] at c2
  exact ⟨_, rfl, (cb.block _ (by omega)).trans a0, (cb.block _ (by omega)).trans a1, c2, ab.trans (cb.mono ab.size), by simp; omega⟩
theorem wworldS (z : World) (yb : Nat) (a b e p x0 x1 x2 x3 x4 x5 x6 : Value) (h8 : z.heap[yb]? = some (.cells #[a, b] 50)) : ∃ U, ((z.setCell ⟨yb, 0, none⟩ e).setCell ⟨yb, 1, none⟩ p).alloc (.cells #[x0, x1, x2, x3, x4, x5, x6] 70) = U ∧ U.heap[yb]? = some (.cells #[e, p] 50) ∧ U.heap[z.heap.size]? = some (.cells #[x0, x1, x2, x3, x4, x5, x6] 70) ∧ (∀ k, k < z.heap.size → k ≠ yb → U.heap[k]? = z.heap[k]?) ∧ (∀ B, B ≤ yb → Below B z U) ∧ U.heap.size = z.heap.size + 1 := by
  have hlt := lt_of_block h8
  have h1 := heap_setCell_same _ yb 1 _ _ p (heap_setCell_same z yb 0 _ _ e h8)
  have hs : ((z.setCell ⟨yb, 0, none⟩ e).setCell ⟨yb, 1, none⟩ p).heap.size = z.heap.size := by simp
  have hb := below_new ((z.setCell ⟨yb, 0, none⟩ e).setCell ⟨yb, 1, none⟩ p) (.cells #[x0, x1, x2, x3, x4, x5, x6] 70)
  have hn := (MapKept.heap_alloc ((z.setCell ⟨yb, 0, none⟩ e).setCell ⟨yb, 1, none⟩ p) (.cells #[x0, x1, x2, x3, x4, x5, x6] 70)).1
  rw [hs] at hb hn
  refine ⟨_, rfl, (hb.block yb hlt).trans h1, hn, fun k hk hne => ?_, fun B hB => ?_, by simp⟩
  · rw [hb.block k hk, Below.heap_setCell _ _ _ _ hne, Below.heap_setCell _ _ _ _ hne]
  · exact (((Below.refl B z).setCell (p := ⟨yb, 0, none⟩) hB e).setCell (p := ⟨yb, 1, none⟩) hB p).trans (hb.mono (by omega))
set_option maxRecDepth 100000 in
set_option maxHeartbeats 1000000 in
theorem wholeS_any (s0 : ByteArray) (w : World) (hS : SymsIn w) (hm : s0.size ≤ 1099511627776)
    (hsz : ∀ l, lexL s0.data.toList = .ok l → ∀ ps t r, schemeRaw l = .ok ps t r → (∀ p ∈ ps, p.2.short) ∧ t.short ∧ (funs (ps.map (·.2)) t).sz ≤ 274877906944) :
    Calls Tryd.prog 97 #[.string s0, .func (.func 44) #[] #[]] w (ReadSRes (readS s0.data.toList) w) := by
  obtain ⟨W, eW, k0, k1, k2, b1, z1⟩ := wboxS w
  have HLX := Lib.hid (lexR_any s0 W hm (hS.on b1))
  have HRD : Hid (readS s0.data.toList = match lexL s0.data.toList with
    | .error (e, p) => .no e p
    | .ok l => match schemeRaw l with
      | .ok ps t (c :: q) => if c.kind = 6 then .ok ps t (c :: q) else .no 12 c.place
      | .ok ps t [] => .no 0 0
      | .no e p => .no e p) := rfl
  have HEW := Lib.hid eW
  have HB := Lib.hid b1
  have HK0 := Lib.hid k0
  have HK1 := Lib.hid k1
  have HK2 := Lib.hid k2
  have hWs : w.heap.size + 3 ≤ W.heap.size := by omega
  have HZ1 := Lib.hid z1
  have heq := eq_at
  have hgd := guard_at
  have hcf : ∀ (vs : Array Value) (y : World), (callFunc 44 vs).run Tryd.prog y = .ok (.enter 44 vs) y := fun vs y => by first | kernel_rfl | rfl
  clear eW b1 k0 k1 k2 z1 hS
  go_enter Tryd.func97, Tryd.ntmps97
  go_upto_region 2 with (fail)
  rw [HEW.out]
  go_wp2_with fail
  (with_reducible refine HLX.out.mono ?_)
  intro e1 y hy
  cases hlx : lexL s0.data.toList with
  | error ep =>
    obtain ⟨e, p⟩ := ep
    rw [hlx] at hy
    obtain ⟨rfl, hb⟩ := hy
    have he := lexL_err hlx
    have he0 : ((e : Int) == 0) = false := by rw [beq_eq_false_iff_ne]; omega
    have heI : (0 : Int) < (e : Int) := by omega
    have HR : Hid (readS s0.data.toList = .no e p) := by show _ = _; rw [HRD.out, hlx]
    obtain ⟨Y, eY, l0, b2, z2⟩ := box2h y (.int .i64 e) (.int .i64 p) 50
    have hbY := hb.trans (b2.mono hb.size)
    have hsy := hb.size
    obtain ⟨c0, c1, c2, c3, c4⟩ := pair_cells l0
    obtain ⟨u0, u1, u2, u3, u4, u5, u6, u7, u8, u9, u10, u11, u12, u13, u14⟩ := seven_cells ((hbY.block w.heap.size (by omega)).trans HK0.out)
    obtain ⟨m0, m1, m2, m3, m4, m5, m6, m7, m8, m9, m10, m11, m12, m13, m14⟩ := seven_cells ((hbY.block (w.heap.size + 1 + 1) (by omega)).trans HK2.out)
    obtain ⟨v0, v1, v2, v3, v4⟩ := pair_cells ((hbY.block (w.heap.size + 1) (by omega)).trans HK1.out)
    have HE := Lib.hid (HB.out.trans (hbY.mono HB.out.size))
    have HEY := Lib.hid eY
    have HZ2 := Lib.hid z2
    clear hb eY l0 b2 z2 hbY hlx he
    go_upto_region 3 with (fail)
    rw [HEY.out]
    go_wp2_with fail
    go_region
    all_goals
      go_wp2_with fail
      refine bodyPost_ret (v := .tuple #[.agg #[.slice none 0 0, .slice none 0 0, .slice none 0 0, .int .i64 0, .int .i64 0, .string ⟨#[]⟩, .slice none 0 0], .agg #[.int .i64 e, .int .i64 p]]) (by simp [results, Tryd.results97, go_sem, u0, u1, u2, u3, u4, u5, u6, v0, v1]) rfl ?_
      show ReadSRes (readS s0.data.toList) w _ _
      rw [HR.out]
      first | exact ⟨rfl, (put9_below HE.out (Nat.le_refl _) (.slice none 0 0) (.slice none 0 0) (.slice none 0 0) (.int .i64 0) (.int .i64 0) (.string ⟨#[]⟩) (.slice none 0 0) (.int .i64 e) (.int .i64 p)).drew⟩ | exact ⟨rfl, put9_below HE.out (Nat.le_refl _) (.slice none 0 0) (.slice none 0 0) (.slice none 0 0) (.int .i64 0) (.int .i64 0) (.string ⟨#[]⟩) (.slice none 0 0) (.int .i64 e) (.int .i64 p)⟩
  | ok l =>
    rw [hlx] at hy
    obtain ⟨vt, rfl, htr, hb⟩ := hy
    obtain ⟨hlE, hlz, hll0⟩ := lexL_good hlx
    have hll : l.length ≤ 1099511627776 := by omega
    have hlp := List.length_pos_iff.2 hlE.ne
    obtain ⟨g, cap, rfl, hgy, htc⟩ := tokRow_cells htr hlE.ne
    obtain ⟨Y, eY, l0, b2, z2⟩ := box2h y (.int .i64 0) (.int .i64 0) 50
    have hbY := hb.trans (b2.mono hb.size)
    have hsy := hb.size
    have hTC := tok_below htc hgy b2
    have hgY : g < Y.heap.size := by omega
    obtain ⟨c0, c1, c2, c3, c4⟩ := pair_cells l0
    have HCALL : Hid (Calls Tryd.prog 44 #[.slice (some ⟨g, 0, none⟩) l.length cap, .int .i64 0] Y (SchemeRes l (schemeRaw l) Y)) := (schemeC_any l g cap 0 Y hTC (by omega) hlp hll hlz hlE (fun ps t r h => hsz l hlx ps t r h))
    have HL0 := Lib.hid l0
    have HM0 := Lib.hid ((hbY.block w.heap.size (by omega)).trans HK0.out)
    have HM1 := Lib.hid ((hbY.block (w.heap.size + 1) (by omega)).trans HK1.out)
    have HM2 := Lib.hid ((hbY.block (w.heap.size + 1 + 1) (by omega)).trans HK2.out)
    have HBY := Lib.hid (HB.out.trans (hbY.mono HB.out.size))
    have HTC := Lib.hid hTC
    have HEY := Lib.hid eY
    have hyY : y.heap.size < Y.heap.size := by omega
    have hgy8 : g < y.heap.size := hgy
    have HZ2 := Lib.hid z2
    have herr : ∀ e p, schemeRaw l = .no e p → 0 < e := fun e p h => schemeRaw_err hlE h
    have hsuf : ∀ ps t q, schemeRaw l = .ok ps t q → q <:+ l ∧ q ≠ [] := fun ps t q h => schemeRaw_suf hlE h
    have HLXX := Lib.hid hlx
    have HSUF := Lib.hid hsuf
    have HERR := Lib.hid herr
    clear hb eY l0 b2 z2 hbY hTC htc htr hlx hsuf herr hlz hlE
    go_upto_region 3 with (fail)
    rw [HEY.out]
    go_wp2_with fail
    (with_reducible refine HCALL.out.mono ?_)
    intro e2 z hx
    cases hres : schemeRaw l with
    | no e p =>
      rw [hres] at hx
      obtain ⟨rfl, hbz⟩ := hx
      have he := HERR.out e p hres
      have he0 : ((e : Int) == 0) = false := by rw [beq_eq_false_iff_ne]; omega
      have heI : (0 : Int) < (e : Int) := by omega
      have HR : Hid (readS s0.data.toList = .no e p) := by show _ = _; rw [HRD.out, HLXX.out]; simp only; rw [hres]
      have hz8 := (hbz.block y.heap.size hyY).trans HL0.out
      obtain ⟨i0, i1, i2, i3, i4⟩ := pair_cells hz8
      obtain ⟨U, eU, hU8, hU9, hUk, hUb, hUs⟩ := wworldS z y.heap.size _ _ (.int .i64 e) (.int .i64 p) (.slice none 0 0) (.slice none 0 0) (.slice none 0 0) (.int .i64 0) (.int .i64 0) (.string ⟨#[]⟩) (.slice none 0 0) hz8
      have hzs := hbz.size
      obtain ⟨j0, j1, j2, j3, j4⟩ := pair_cells hU8
      obtain ⟨u0, u1, u2, u3, u4, u5, u6, u7, u8, u9, u10, u11, u12, u13, u14⟩ := seven_cells ((hUk w.heap.size (by omega) (by omega)).trans ((hbz.block w.heap.size (by omega)).trans HM0.out))
      obtain ⟨m0, m1, m2, m3, m4, m5, m6, m7, m8, m9, m10, m11, m12, m13, m14⟩ := seven_cells ((hUk (w.heap.size + 1 + 1) (by omega) (by omega)).trans ((hbz.block (w.heap.size + 1 + 1) (by omega)).trans HM2.out))
      obtain ⟨v0, v1, v2, v3, v4⟩ := pair_cells ((hUk (w.heap.size + 1) (by omega) (by omega)).trans ((hbz.block (w.heap.size + 1) (by omega)).trans HM1.out))
      have HE := Lib.hid ((HBY.out.trans (hbz.mono HBY.out.size)).trans (hUb w.heap.size (by omega)))
      have HEU := Lib.hid eU
      have HUS := Lib.hid hUs
      have hne8 : w.heap.size + 1 + 1 < y.heap.size := by omega
      clear hbz hz8 eU hU8 hU9 hUk hUb hUs hres he
      go_upto_region 6 with (fail)
      rw [HEU.out]
      go_wp2_with fail
      go_region
      all_goals
        go_wp2_with fail
        refine bodyPost_ret (v := .tuple #[.agg #[.slice none 0 0, .slice none 0 0, .slice none 0 0, .int .i64 0, .int .i64 0, .string ⟨#[]⟩, .slice none 0 0], .agg #[.int .i64 e, .int .i64 p]]) (by simp [results, Tryd.results97, go_sem, u0, u1, u2, u3, u4, u5, u6, v0, v1]) rfl ?_
        show ReadSRes (readS s0.data.toList) w _ _
        rw [HR.out]
        first | exact ⟨rfl, (put9_below HE.out (Nat.le_refl _) (.slice none 0 0) (.slice none 0 0) (.slice none 0 0) (.int .i64 0) (.int .i64 0) (.string ⟨#[]⟩) (.slice none 0 0) (.int .i64 e) (.int .i64 p)).drew⟩ | exact ⟨rfl, put9_below HE.out (Nat.le_refl _) (.slice none 0 0) (.slice none 0 0) (.slice none 0 0) (.int .i64 0) (.int .i64 0) (.string ⟨#[]⟩) (.slice none 0 0) (.int .i64 e) (.int .i64 p)⟩
    | ok ps t q =>
      rw [hres] at hx
      have hsq := HSUF.out ps t q hres
      match q, hsq, hres, hx with
      | [], hsq, _, _ => exact absurd rfl hsq.2
      | tk :: q, hsq, hres, hx =>
      have hdq := (List.suffix_iff_eq_drop.1 hsq.1).symm
      obtain ⟨hqi, hqt, _, _⟩ := drop_at hdq
      have hRW : readS s0.data.toList = if tk.kind = 6 then .ok ps t (tk :: q) else .no 12 tk.place := by rw [HRD.out, HLXX.out]; simp only; rw [hres]
      generalize hP : l.length - (tk :: q).length = P at *
      obtain ⟨Av, nv, cv, Ap, cp, f, n, s, A, l9, c, he2, hou, hpr, htt, hbz⟩ := hx
      rw [hP] at he2
      subst he2
      have hz8 := (hbz.block y.heap.size hyY).trans HL0.out
      obtain ⟨i0, i1, i2, i3, i4⟩ := pair_cells hz8
      obtain ⟨U, eU, hU8, hU9, hUk, hUb, hUs⟩ := wworldS z y.heap.size _ _ (.int .i64 0) (.int .i64 0) (.slice Av nv cv) (.slice none 0 0) (.slice Ap ps.length cp) (.int .i64 f) (.int .i64 n) (.string s) (.slice A l9 c) hz8
      have hzs := hbz.size
      obtain ⟨j0, j1, j2, j3, j4⟩ := pair_cells hU8
      obtain ⟨d0, d1, d2, d3, d4, d5, d6, d7, d8, d9, d10, d11, d12, d13, d14⟩ := seven_cells hU9
      have hu0 := (hUk w.heap.size (by omega) (by omega)).trans ((hbz.block w.heap.size (by omega)).trans HM0.out)
      have hu2 := (hUk (w.heap.size + 1 + 1) (by omega) (by omega)).trans ((hbz.block (w.heap.size + 1 + 1) (by omega)).trans HM2.out)
      have hu1 := (hUk (w.heap.size + 1) (by omega) (by omega)).trans ((hbz.block (w.heap.size + 1) (by omega)).trans HM1.out)
      obtain ⟨u0, u1, u2, u3, u4, u5, u6, u7, u8, u9, u10, u11, u12, u13, u14⟩ := seven_cells hu0
      obtain ⟨m0, m1, m2, m3, m4, m5, m6, m7, m8, m9, m10, m11, m12, m13, m14⟩ := seven_cells hu2
      obtain ⟨v0, v1, v2, v3, v4⟩ := pair_cells hu1
      have hTU : TokC U g l := (HTC.out.block (hbz.block g hgY)).block (hUk g (by omega) (by omega))
      obtain ⟨t0, t1, t2, t3⟩ := hTU P hqi
      rw [hqt] at t0 t1 t2 t3
      have HE := Lib.hid ((HBY.out.trans (hbz.mono HBY.out.size)).trans (hUb w.heap.size (by omega)))
      have HTT : Hid (TyAt (fun b => w.heap.size + 3 ≤ b) U t (.agg #[.int .i64 f, .int .i64 n, .string s, .slice A l9 c])) := htt.bound.keep (w' := U) ⟨by omega, fun b off (hp : Y.heap.size ≤ b ∧ b < z.heap.size) _ => World.cell?_of_block (a := ⟨b, off, none⟩) (hUk b hp.2 (by omega))⟩ |>.mono (fun b hb => by have h9 : Y.heap.size ≤ b ∧ b < z.heap.size := hb; omega)
      have HOU : Hid (OwnS Y.heap.size U (.slice Av nv cv) (funs (ps.map (·.2)) t).free) := own_keep hou (fun k hk => by have h9 := World.ownsRow.lt hou k hk; exact hUk k h9.2 (by omega))
      have HPU : Hid (PRow Y.heap.size U ps (.slice Ap ps.length cp)) := hpr.keepH (by omega) (fun k h1 h2 => hUk k h2 (by omega))
      have hne8 : w.heap.size + 1 + 1 < y.heap.size := by omega
      have hPi : (P : Int) < (l.length : Int) := by omega
      have hP0 : (0 : Int) ≤ (P : Int) := by omega
      have hgU : g < U.heap.size := by omega
      have HUU : Hid (∀ v : World, Below U.heap.size U v → v.heap[w.heap.size]? = some (.cells #[.slice none 0 0, .slice none 0 0, .slice none 0 0, .int .i64 0, .int .i64 0, .string ⟨#[]⟩, .slice none 0 0] 70) ∧ v.heap[w.heap.size + 1]? = some (.cells #[.int .i64 0, .int .i64 0] 50) ∧ v.heap[w.heap.size + 1 + 1]? = some (.cells #[.slice none 0 0, .slice none 0 0, .slice none 0 0, .int .i64 0, .int .i64 0, .string ⟨#[]⟩, .slice none 0 0] 70) ∧ Below w.heap.size w v) := fun v hbv => ⟨(hbv.block _ (by omega)).trans hu0, (hbv.block _ (by omega)).trans hu1, (hbv.block _ (by omega)).trans hu2, HE.out.trans (hbv.mono HE.out.size)⟩
      have HEU := Lib.hid eU
      have HUS := Lib.hid hUs
      have hwU : w.heap.size + 3 ≤ U.heap.size := by omega
      have hwY : w.heap.size + 3 ≤ Y.heap.size := by omega
      clear hbz hz8 eU hU8 hU9 hUk hUb hUs htt hou hpr hu0 hu1 hu2 hTU
      by_cases h6 : tk.kind = 6
      · have HR : Hid (readS s0.data.toList = .ok ps t (tk :: q)) := by show _ = _; rw [hRW, if_pos h6]
        have hk6 : (tk.kind : Int) = 6 := by omega
        clear hRW hres hqt hsq hdq hP h6
        generalize (tk.kind : Int) = kk at *
        subst hk6
        go_upto_region 6 with (fail)
        rw [HEU.out]
        go_wp2_with fail
        refine bodyPost_ret (v := .tuple #[.agg #[.slice Av nv cv, .slice none 0 0, .slice Ap ps.length cp, .int .i64 f, .int .i64 n, .string s, .slice A l9 c], .agg #[.int .i64 0, .int .i64 0]]) (by simp [results, Tryd.results97, go_sem, u0, u1, u2, u3, u4, u5, u6, v0, v1]) rfl ?_
        show ReadSRes (readS s0.data.toList) w _ _
        rw [HR.out]
        exact (by
          have h9 := put9_block U w.heap.size (.slice Av nv cv) (.slice none 0 0) (.slice Ap ps.length cp) (.int .i64 f) (.int .i64 n) (.string s) (.slice A l9 c) (.int .i64 0) (.int .i64 0)
          have h8 := put9_size U w.heap.size (.slice Av nv cv) (.slice none 0 0) (.slice Ap ps.length cp) (.int .i64 f) (.int .i64 n) (.string s) (.slice A l9 c) (.int .i64 0) (.int .i64 0)
          have h7 := put9_below HE.out (Nat.le_refl _) (.slice Av nv cv) (.slice none 0 0) (.slice Ap ps.length cp) (.int .i64 f) (.int .i64 n) (.string s) (.slice A l9 c) (.int .i64 0) (.int .i64 0)
          show ReadSRes _ w _ (put9 U w.heap.size (.slice Av nv cv) (.slice none 0 0) (.slice Ap ps.length cp) (.int .i64 f) (.int .i64 n) (.string s) (.slice A l9 c) (.int .i64 0) (.int .i64 0))
          generalize put9 U w.heap.size (.slice Av nv cv) (.slice none 0 0) (.slice Ap ps.length cp) (.int .i64 f) (.int .i64 n) (.string s) (.slice A l9 c) (.int .i64 0) (.int .i64 0) = Z at *
          refine ⟨Av, nv, cv, Ap, cp, f, n, s, A, l9, c, rfl, ?_, ?_, ?_, h7⟩
          · exact own_lower (own_keep HOU.out (fun k hk => h9 k (by have := (World.ownsRow.lt HOU.out k hk).1; omega) (by have := (World.ownsRow.lt HOU.out k hk).1; omega))) (by omega)
          · exact (HPU.out.keepH (w' := Z) (by omega) (fun k h1 h2 => h9 k (by omega) (by omega))).lower (by omega)
          · exact (HTT.out.keep (w' := Z) ⟨by omega, fun b off (hp : w.heap.size + 3 ≤ b) _ => World.cell?_of_block (a := ⟨b, off, none⟩) (h9 b (by omega) (by omega))⟩).mono (fun b hb => by have h5 : w.heap.size + 3 ≤ b := hb; omega))
      · have HR : Hid (readS s0.data.toList = .no 12 tk.place) := by show _ = _; rw [hRW, if_neg h6]
        have hk6 : ((tk.kind : Int) == 6) = false := by rw [beq_eq_false_iff_ne]; omega
        have HRF : Hid (∀ v : World, Calls Tryd.prog 93 #[.int .i64 12, .agg #[.int .i64 tk.kind, .string (mkB tk.text), .int .i64 tk.num, .int .i64 tk.place]] v fun e w' => e = .returned (.agg #[.int .i64 12, .int .i64 tk.place]) ∧ Below v.heap.size v w') := fun v => refusal_any 12 tk v
        have HKV : Hid (∀ v : World, Below U.drew.heap.size U.drew v → v.heap[w.heap.size]? = some (.cells #[.slice none 0 0, .slice none 0 0, .slice none 0 0, .int .i64 0, .int .i64 0, .string ⟨#[]⟩, .slice none 0 0] 70) ∧ v.heap[w.heap.size + 1]? = some (.cells #[.int .i64 0, .int .i64 0] 50) ∧ v.heap[w.heap.size + 1 + 1]? = some (.cells #[.slice none 0 0, .slice none 0 0, .slice none 0 0, .int .i64 0, .int .i64 0, .string ⟨#[]⟩, .slice none 0 0] 70) ∧ Below w.heap.size w (put9 v w.heap.size (.slice none 0 0) (.slice none 0 0) (.slice none 0 0) (.int .i64 0) (.int .i64 0) (.string ⟨#[]⟩) (.slice none 0 0) (.int .i64 12) (.int .i64 tk.place))) := fun v hbv => by
          have h9 := HUU.out v ((Below.refl U.heap.size U).drew.trans hbv)
          exact ⟨h9.1, h9.2.1, h9.2.2.1, put9_below h9.2.2.2 (Nat.le_refl _) (.slice none 0 0) (.slice none 0 0) (.slice none 0 0) (.int .i64 0) (.int .i64 0) (.string ⟨#[]⟩) (.slice none 0 0) (.int .i64 12) (.int .i64 tk.place)⟩
        clear hRW hres hqt hsq hdq hP h6
        generalize (tk.kind : Int) = kk at *
        go_upto_region 6 with (fail)
        rw [HEU.out]
        go_upto_region 9 with (fail)
        go_region_law (go_simp; go_at_call 93; (with_reducible refine (HRF.out _).mono ?_); rintro e3 v ⟨rfl, hbv⟩; have hk := HKV.out v hbv; obtain ⟨u0, u1, u2, u3, u4, u5, u6, u7, u8, u9, u10, u11, u12, u13, u14⟩ := seven_cells hk.1; obtain ⟨v0, v1, v2, v3, v4⟩ := pair_cells hk.2.1; obtain ⟨g0, g1, g2, g3, g4, g5, g6, g7, g8, g9, g10, g11, g12, g13, g14⟩ := seven_cells hk.2.2.1; have HF := Lib.hid hk.2.2.2; clear hk hbv)
        all_goals
          go_wp2_with fail
          refine bodyPost_ret (v := .tuple #[.agg #[.slice none 0 0, .slice none 0 0, .slice none 0 0, .int .i64 0, .int .i64 0, .string ⟨#[]⟩, .slice none 0 0], .agg #[.int .i64 12, .int .i64 tk.place]]) (by simp [results, Tryd.results97, go_sem, u0, u1, u2, u3, u4, u5, u6, v0, v1]) rfl ?_
          show ReadSRes (readS s0.data.toList) w _ _
          rw [HR.out]
          exact ⟨rfl, HF.out⟩
end Go.Proofs.YtbdfjboojokgdaaDoor
