/- The contracts of tread's whole, ReadType and ReadScheme (chapter 5). Conditions: the text has at most 2^40 bytes; the list of symbols stands in memory as the program's text lays it; what is read is not too great. -/
import Derived.Test.YtbdfjboojokgdaaDoorJV28
import Derived.Test.YtbdfjboojokgdaaDoorJV30
namespace Go.Proofs.YtbdfjboojokgdaaDoor
open Go.RowKit Lx

theorem oneT_sym {l : List UInt8} {k n : Nat} {x : List UInt8} (h : oneT l = .ok (k, x, n)) : k = 4 → n = 0 := by
  unfold oneT at h
  intro hk
  subst hk
  match l, h with
  | [], h => simp at h
  | c :: r, h =>
    simp only at h
    split at h
    · split at h
      · cases h
      · simp at h
    · split at h
      · split at h
        · cases h
        · split at h
          · simp at h
          · split at h <;> simp at h
      · split at h
        · cases h
        · simp at h; exact h.2.symm
theorem lexF_good : ∀ (f : Nat) (l : List UInt8) (i : Nat) (r : List Tok), lexF f l i = .ok r → EndsT r ∧ (∀ t ∈ r, SymZ t) ∧ r.length ≤ f + 1
  | 0, l, i, r, h => by
    simp only [lexF, Except.ok.injEq] at h
    subst h
    exact ⟨⟨[], _, rfl, rfl⟩, (fun t ht => by simp at ht; subst ht; intro h; cases h), by simp⟩
  | f + 1, l, i, r, h => by
    simp only [lexF] at h
    split at h
    · simp only [Except.ok.injEq] at h
      subst h
      exact ⟨⟨[], _, rfl, rfl⟩, (fun t ht => by simp at ht; subst ht; intro h; cases h), by simp⟩
    · split at h
      · obtain ⟨h1, h2, h3⟩ := lexF_good f _ _ _ h
        exact ⟨h1, h2, by omega⟩
      · split at h
        · cases h
        · rename_i k x n ho
          cases hr : lexF f (l.drop x.length) (i + x.length) with
          | error e => rw [hr] at h; cases h
          | ok q =>
            rw [hr] at h
            simp only [Except.map, Except.ok.injEq] at h
            subst h
            obtain ⟨⟨a, t, e, ht⟩, h2, h3⟩ := lexF_good f _ _ _ hr
            refine ⟨⟨_ :: a, t, by rw [e]; rfl, ht⟩, fun t' ht' => ?_, by simp; omega⟩
            rcases List.mem_cons.1 ht' with rfl | ht'
            · exact fun hk => oneT_sym ho hk
            · exact h2 t' ht'
theorem lexL_good {l : List UInt8} {r : List Tok} (h : lexL l = .ok r) : EndsT r ∧ (∀ t ∈ r, SymZ t) ∧ r.length ≤ 4001 := by
  unfold lexL at h
  split at h
  · cases h
  · obtain ⟨h1, h2, h3⟩ := lexF_good _ _ _ _ h
    exact ⟨h1, h2, by omega⟩
theorem lexF_err : ∀ (f : Nat) (l : List UInt8) (i e p : Nat), lexF f l i = .error (e, p) → e = 2 ∨ e = 10 ∨ e = 11
  | 0, l, i, e, p, h => by simp [lexF] at h
  | f + 1, l, i, e, p, h => by
    simp only [lexF] at h
    split at h
    · cases h
    · split at h
      · exact lexF_err f _ _ _ _ h
      · split at h
        · rename_i e' ho
          injection h with h; injection h with h1 h2; subst h1; exact oneT_err ho
        · rename_i k x n ho
          cases hr : lexF f (l.drop x.length) (i + x.length) with
          | error e' =>
            rw [hr] at h
            obtain ⟨a, b⟩ := e'
            simp only [Except.map, Except.error.injEq, Prod.mk.injEq] at h
            obtain ⟨rfl, rfl⟩ := h
            exact lexF_err f _ _ _ _ hr
          | ok q => rw [hr] at h; cases h
theorem lexL_err {l : List UInt8} {e p : Nat} (h : lexL l = .error (e, p)) : e = 2 ∨ e = 10 ∨ e = 11 := by
  unfold lexL at h
  split at h
  · injection h with h; injection h with h1 h2; exact .inl h1.symm
  · exact lexF_err _ _ _ _ _ h
theorem tokRow_cells {w : World} {v : Value} {l : List Tok} (h : TokRow w v l) (hne : l ≠ []) : ∃ g cap, v = .slice (some ⟨g, 0, none⟩) l.length cap ∧ g < w.heap.size ∧ TokC w g l := by
  rcases h with ⟨_, h⟩ | ⟨g, cap, hv, hg, hc⟩
  · exact absurd h hne
  · exact ⟨g, cap, hv, hg, fun j hj => hc j hj⟩
/-- What is read of a source. -/
def readT (s : List UInt8) : Got :=
  match lexL s with
  | .error (e, p) => .no e p
  | .ok l => match typeL l 0 with
    | .ok t (c :: q) => if c.kind = 6 then .ok t (c :: q) else .no 12 c.place
    | .ok _ [] => .no 0 0
    | .no e p => .no e p
def readS (s : List UInt8) : GotS :=
  match lexL s with
  | .error (e, p) => .no e p
  | .ok l => match schemeRaw l with
    | .ok ps t (c :: q) => if c.kind = 6 then .ok ps t (c :: q) else .no 12 c.place
    | .ok _ _ [] => .no 0 0
    | .no e p => .no e p
def ReadTRes (r : Got) (w : World) (e : Ending) (w' : World) : Prop :=
  match r with
  | .ok t _ => ∃ f n s A l c, e = .returned (.tuple #[.agg #[.int .i64 f, .int .i64 n, .string s, .slice A l c], .agg #[.int .i64 0, .int .i64 0]]) ∧ TyAt (fun b => w.heap.size ≤ b) w' t (.agg #[.int .i64 f, .int .i64 n, .string s, .slice A l c]) ∧ Below w.heap.size w w'
  | .no ec p => e = .returned (.tuple #[.agg #[.int .i64 0, .int .i64 0, .string ⟨#[]⟩, .slice none 0 0], .agg #[.int .i64 ec, .int .i64 p]]) ∧ Below w.heap.size w w'
def ReadSRes (r : GotS) (w : World) (e : Ending) (w' : World) : Prop :=
  match r with
  | .ok ps t _ => ∃ Av nv cv Ap cp f n s A l c, e = .returned (.tuple #[.agg #[.slice Av nv cv, .slice none 0 0, .slice Ap ps.length cp, .int .i64 f, .int .i64 n, .string s, .slice A l c], .agg #[.int .i64 0, .int .i64 0]]) ∧ OwnS w.heap.size w' (.slice Av nv cv) (funs (ps.map (·.2)) t).free ∧ PRow w.heap.size w' ps (.slice Ap ps.length cp) ∧ TyAt (fun b => w.heap.size ≤ b) w' t (.agg #[.int .i64 f, .int .i64 n, .string s, .slice A l c]) ∧ Below w.heap.size w w'
  | .no ec p => e = .returned (.tuple #[.agg #[.slice none 0 0, .slice none 0 0, .slice none 0 0, .int .i64 0, .int .i64 0, .string ⟨#[]⟩, .slice none 0 0], .agg #[.int .i64 ec, .int .i64 p]]) ∧ Below w.heap.size w w'
theorem wboxT (w : World) : ∃ W, ((w.alloc (.cells #[.int .i64 0, .int .i64 0, .string ⟨#[]⟩, .slice none 0 0] 25)).alloc (.cells #[.int .i64 0, .int .i64 0] 50)).alloc (.cells #[.int .i64 0, .int .i64 0, .string ⟨#[]⟩, .slice none 0 0] 25) = W ∧
    W.heap[w.heap.size]? = some (.cells #[.int .i64 0, .int .i64 0, .string ⟨#[]⟩, .slice none 0 0] 25) ∧ W.heap[w.heap.size + 1]? = some (.cells #[.int .i64 0, .int .i64 0] 50) ∧ W.heap[w.heap.size + 1 + 1]? = some (.cells #[.int .i64 0, .int .i64 0, .string ⟨#[]⟩, .slice none 0 0] 25) ∧ Below w.heap.size w W ∧ W.heap.size = w.heap.size + 3 := by
  obtain ⟨V, eV, a0, a1, ab, az⟩ := nil2 w
  rw [eV]
  have c2 := (MapKept.heap_alloc V (.cells #[.int .i64 0, .int .i64 0, .string ⟨#[]⟩, .slice none 0 0] 25)).1
  have cb := below_new V (.cells #[.int .i64 0, .int .i64 0, .string ⟨#[]⟩, .slice none 0 0] 25)
  rw [az] at c2
  exact ⟨_, rfl, (cb.block _ (by omega)).trans a0, (cb.block _ (by omega)).trans a1, c2, ab.trans (cb.mono ab.size), by simp; omega⟩
theorem wworldT (z : World) (yb : Nat) (a b e p x0 x1 x2 x3 : Value) (h8 : z.heap[yb]? = some (.cells #[a, b] 50)) : ∃ U, ((z.setCell ⟨yb, 0, none⟩ e).setCell ⟨yb, 1, none⟩ p).alloc (.cells #[x0, x1, x2, x3] 25) = U ∧ U.heap[yb]? = some (.cells #[e, p] 50) ∧ U.heap[z.heap.size]? = some (.cells #[x0, x1, x2, x3] 25) ∧ (∀ k, k < z.heap.size → k ≠ yb → U.heap[k]? = z.heap[k]?) ∧ (∀ B, B ≤ yb → Below B z U) ∧ U.heap.size = z.heap.size + 1 := by
  have hlt := lt_of_block h8
  have h1 := heap_setCell_same _ yb 1 _ _ p (heap_setCell_same z yb 0 _ _ e h8)
  have hs : ((z.setCell ⟨yb, 0, none⟩ e).setCell ⟨yb, 1, none⟩ p).heap.size = z.heap.size := by simp
  have hb := below_new ((z.setCell ⟨yb, 0, none⟩ e).setCell ⟨yb, 1, none⟩ p) (.cells #[x0, x1, x2, x3] 25)
  have hn := (MapKept.heap_alloc ((z.setCell ⟨yb, 0, none⟩ e).setCell ⟨yb, 1, none⟩ p) (.cells #[x0, x1, x2, x3] 25)).1
  rw [hs] at hb hn
  refine ⟨_, rfl, (hb.block yb hlt).trans h1, hn, fun k hk hne => ?_, fun B hB => ?_, by simp⟩
  · rw [hb.block k hk, Below.heap_setCell _ _ _ _ hne, Below.heap_setCell _ _ _ _ hne]
  · exact (((Below.refl B z).setCell (p := ⟨yb, 0, none⟩) hB e).setCell (p := ⟨yb, 1, none⟩) hB p).trans (hb.mono (by omega))
set_option maxRecDepth 100000 in
set_option maxHeartbeats 1000000 in
theorem wholeT_any (s0 : ByteArray) (w : World) (hS : SymsIn w) (hm : s0.size ≤ 1099511627776) :
    Calls Tryd.prog 96 #[.string s0, .func (.func 37) #[] #[]] w (ReadTRes (readT s0.data.toList) w) := by
  obtain ⟨W, eW, k0, k1, k2, b1, z1⟩ := wboxT w
  have HLX := Lib.hid (lexR_any s0 W hm (hS.on b1))
  have HRD : Hid (readT s0.data.toList = match lexL s0.data.toList with
    | .error (e, p) => .no e p
    | .ok l => match typeL l 0 with
      | .ok t (c :: q) => if c.kind = 6 then .ok t (c :: q) else .no 12 c.place
      | .ok t [] => .no 0 0
      | .no e p => .no e p) := rfl
  have HEW := Lib.hid eW
  have HB := Lib.hid b1
  have HK0 := Lib.hid k0
  have HK1 := Lib.hid k1
  have HK2 := Lib.hid k2
  have hWs : w.heap.size + 3 ≤ W.heap.size := by omega
  have HZ1 := Lib.hid z1
  have heq := eq_at
  have hgd := guard_at
  have hcf : ∀ (vs : Array Value) (y : World), (callFunc 37 vs).run Tryd.prog y = .ok (.enter 37 vs) y := fun vs y => by first | kernel_rfl | rfl
  clear eW b1 k0 k1 k2 z1 hS
  go_enter Tryd.func96, Tryd.ntmps96
  go_upto_region 2 with (fail)
  rw [HEW.out]
  go_wp2_with fail
  (with_reducible refine HLX.out.mono ?_)
  intro e1 y hy
  cases hlx : lexL s0.data.toList with
  | error ep =>
    obtain ⟨e, p⟩ := ep
    rw [hlx] at hy
    obtain ⟨rfl, hb⟩ := hy
    have he := lexL_err hlx
    have he0 : ((e : Int) == 0) = false := by rw [beq_eq_false_iff_ne]; omega
    have heI : (0 : Int) < (e : Int) := by omega
    have HR : Hid (readT s0.data.toList = .no e p) := by show _ = _; rw [HRD.out, hlx]
    obtain ⟨Y, eY, l0, b2, z2⟩ := box2h y (.int .i64 e) (.int .i64 p) 50
    have hbY := hb.trans (b2.mono hb.size)
    have hsy := hb.size
    obtain ⟨c0, c1, c2, c3, c4⟩ := pair_cells l0
    obtain ⟨u0, u1, u2, u3, u4, u5, u6, u7, u8⟩ := four_cells ((hbY.block w.heap.size (by omega)).trans HK0.out)
    obtain ⟨m0, m1, m2, m3, m4, m5, m6, m7, m8⟩ := four_cells ((hbY.block (w.heap.size + 1 + 1) (by omega)).trans HK2.out)
    obtain ⟨v0, v1, v2, v3, v4⟩ := pair_cells ((hbY.block (w.heap.size + 1) (by omega)).trans HK1.out)
    have HE := Lib.hid (HB.out.trans (hbY.mono HB.out.size))
    have HEY := Lib.hid eY
    have HZ2 := Lib.hid z2
    clear hb eY l0 b2 z2 hbY hlx he
    go_upto_region 3 with (fail)
    rw [HEY.out]
    go_wp2_with fail
    go_region
    all_goals
      go_wp2_with fail
      refine bodyPost_ret (v := .tuple #[.agg #[.int .i64 0, .int .i64 0, .string ⟨#[]⟩, .slice none 0 0], .agg #[.int .i64 e, .int .i64 p]]) (by simp [results, Tryd.results96, go_sem, u0, u1, u2, u3, v0, v1]) rfl ?_
      show ReadTRes (readT s0.data.toList) w _ _
      rw [HR.out]
      first | exact ⟨rfl, (below6 HE.out (Nat.le_refl _) (.int .i64 0) (.int .i64 0) (.string ⟨#[]⟩) (.slice none 0 0) (.int .i64 e) (.int .i64 p)).drew⟩ | exact ⟨rfl, below6 HE.out (Nat.le_refl _) (.int .i64 0) (.int .i64 0) (.string ⟨#[]⟩) (.slice none 0 0) (.int .i64 e) (.int .i64 p)⟩
  | ok l =>
    rw [hlx] at hy
    obtain ⟨vt, rfl, htr, hb⟩ := hy
    obtain ⟨hlE, hlz, hll0⟩ := lexL_good hlx
    have hll : l.length ≤ 1099511627776 := by omega
    have hlp := List.length_pos_iff.2 hlE.ne
    obtain ⟨g, cap, rfl, hgy, htc⟩ := tokRow_cells htr hlE.ne
    obtain ⟨Y, eY, l0, b2, z2⟩ := box2h y (.int .i64 0) (.int .i64 0) 50
    have hbY := hb.trans (b2.mono hb.size)
    have hsy := hb.size
    have hTC := tok_below htc hgy b2
    have hgY : g < Y.heap.size := by omega
    obtain ⟨c0, c1, c2, c3, c4⟩ := pair_cells l0
    have HCALL : Hid (Calls Tryd.prog 37 #[.slice (some ⟨g, 0, none⟩) l.length cap, .int .i64 0] Y (PlaceRes l (typeL l 0) Y)) := (typeC_any l g cap _ 0 Y _ hTC (by omega) hll hlz (typeL_is (l := l.drop 0) hlE 0))
    have HL0 := Lib.hid l0
    have HM0 := Lib.hid ((hbY.block w.heap.size (by omega)).trans HK0.out)
    have HM1 := Lib.hid ((hbY.block (w.heap.size + 1) (by omega)).trans HK1.out)
    have HM2 := Lib.hid ((hbY.block (w.heap.size + 1 + 1) (by omega)).trans HK2.out)
    have HBY := Lib.hid (HB.out.trans (hbY.mono HB.out.size))
    have HTC := Lib.hid hTC
    have HEY := Lib.hid eY
    have hyY : y.heap.size < Y.heap.size := by omega
    have hgy8 : g < y.heap.size := hgy
    have HZ2 := Lib.hid z2
    have herr : ∀ e p, typeL l 0 = .no e p → 0 < e := fun e p h => by have := (err_all (3 * l.length + 2)).2.2 l 0 e p (by rw [typeL_is hlE 0, h]); omega
    have hsuf : ∀ t q, typeL l 0 = .ok t q → q <:+ l ∧ q ≠ [] := fun t q h => by have h9 := typeL_ok hlE h; exact ⟨h9.2.1, h9.1.ne⟩
    have HLXX := Lib.hid hlx
    have HSUF := Lib.hid hsuf
    have HERR := Lib.hid herr
    clear hb eY l0 b2 z2 hbY hTC htc htr hlx hsuf herr hlz hlE
    go_upto_region 3 with (fail)
    rw [HEY.out]
    go_wp2_with fail
    (with_reducible refine HCALL.out.mono ?_)
    intro e2 z hx
    cases hres : typeL l 0 with
    | no e p =>
      rw [hres] at hx
      obtain ⟨rfl, hbz⟩ := hx
      have he := HERR.out e p hres
      have he0 : ((e : Int) == 0) = false := by rw [beq_eq_false_iff_ne]; omega
      have heI : (0 : Int) < (e : Int) := by omega
      have HR : Hid (readT s0.data.toList = .no e p) := by show _ = _; rw [HRD.out, HLXX.out]; simp only; rw [hres]
      have hz8 := (hbz.block y.heap.size hyY).trans HL0.out
      obtain ⟨i0, i1, i2, i3, i4⟩ := pair_cells hz8
      obtain ⟨U, eU, hU8, hU9, hUk, hUb, hUs⟩ := wworldT z y.heap.size _ _ (.int .i64 e) (.int .i64 p) (.int .i64 0) (.int .i64 0) (.string ⟨#[]⟩) (.slice none 0 0) hz8
      have hzs := hbz.size
      obtain ⟨j0, j1, j2, j3, j4⟩ := pair_cells hU8
      obtain ⟨u0, u1, u2, u3, u4, u5, u6, u7, u8⟩ := four_cells ((hUk w.heap.size (by omega) (by omega)).trans ((hbz.block w.heap.size (by omega)).trans HM0.out))
      obtain ⟨m0, m1, m2, m3, m4, m5, m6, m7, m8⟩ := four_cells ((hUk (w.heap.size + 1 + 1) (by omega) (by omega)).trans ((hbz.block (w.heap.size + 1 + 1) (by omega)).trans HM2.out))
      obtain ⟨v0, v1, v2, v3, v4⟩ := pair_cells ((hUk (w.heap.size + 1) (by omega) (by omega)).trans ((hbz.block (w.heap.size + 1) (by omega)).trans HM1.out))
      have HE := Lib.hid ((HBY.out.trans (hbz.mono HBY.out.size)).trans (hUb w.heap.size (by omega)))
      have HEU := Lib.hid eU
      have HUS := Lib.hid hUs
      have hne8 : w.heap.size + 1 + 1 < y.heap.size := by omega
      clear hbz hz8 eU hU8 hU9 hUk hUb hUs hres he
      go_upto_region 6 with (fail)
      rw [HEU.out]
      go_wp2_with fail
      go_region
      all_goals
        go_wp2_with fail
        refine bodyPost_ret (v := .tuple #[.agg #[.int .i64 0, .int .i64 0, .string ⟨#[]⟩, .slice none 0 0], .agg #[.int .i64 e, .int .i64 p]]) (by simp [results, Tryd.results96, go_sem, u0, u1, u2, u3, v0, v1]) rfl ?_
        show ReadTRes (readT s0.data.toList) w _ _
        rw [HR.out]
        first | exact ⟨rfl, (below6 HE.out (Nat.le_refl _) (.int .i64 0) (.int .i64 0) (.string ⟨#[]⟩) (.slice none 0 0) (.int .i64 e) (.int .i64 p)).drew⟩ | exact ⟨rfl, below6 HE.out (Nat.le_refl _) (.int .i64 0) (.int .i64 0) (.string ⟨#[]⟩) (.slice none 0 0) (.int .i64 e) (.int .i64 p)⟩
    | ok t q =>
      rw [hres] at hx
      have hsq := HSUF.out t q hres
      match q, hsq, hres, hx with
      | [], hsq, _, _ => exact absurd rfl hsq.2
      | tk :: q, hsq, hres, hx =>
      have hdq := (List.suffix_iff_eq_drop.1 hsq.1).symm
      obtain ⟨hqi, hqt, _, _⟩ := drop_at hdq
      have hRW : readT s0.data.toList = if tk.kind = 6 then .ok t (tk :: q) else .no 12 tk.place := by rw [HRD.out, HLXX.out]; simp only; rw [hres]
      generalize hP : l.length - (tk :: q).length = P at *
      obtain ⟨tv, he2, htt, hbz⟩ := hx
      obtain ⟨f, n, s, A, l9, c, rfl⟩ := htt.flat
      rw [hP] at he2
      subst he2
      have hz8 := (hbz.block y.heap.size hyY).trans HL0.out
      obtain ⟨i0, i1, i2, i3, i4⟩ := pair_cells hz8
      obtain ⟨U, eU, hU8, hU9, hUk, hUb, hUs⟩ := wworldT z y.heap.size _ _ (.int .i64 0) (.int .i64 0) (.int .i64 f) (.int .i64 n) (.string s) (.slice A l9 c) hz8
      have hzs := hbz.size
      obtain ⟨j0, j1, j2, j3, j4⟩ := pair_cells hU8
      obtain ⟨d0, d1, d2, d3, d4, d5, d6, d7, d8⟩ := four_cells hU9
      have hu0 := (hUk w.heap.size (by omega) (by omega)).trans ((hbz.block w.heap.size (by omega)).trans HM0.out)
      have hu2 := (hUk (w.heap.size + 1 + 1) (by omega) (by omega)).trans ((hbz.block (w.heap.size + 1 + 1) (by omega)).trans HM2.out)
      have hu1 := (hUk (w.heap.size + 1) (by omega) (by omega)).trans ((hbz.block (w.heap.size + 1) (by omega)).trans HM1.out)
      obtain ⟨u0, u1, u2, u3, u4, u5, u6, u7, u8⟩ := four_cells hu0
      obtain ⟨m0, m1, m2, m3, m4, m5, m6, m7, m8⟩ := four_cells hu2
      obtain ⟨v0, v1, v2, v3, v4⟩ := pair_cells hu1
      have hTU : TokC U g l := (HTC.out.block (hbz.block g hgY)).block (hUk g (by omega) (by omega))
      obtain ⟨t0, t1, t2, t3⟩ := hTU P hqi
      rw [hqt] at t0 t1 t2 t3
      have HE := Lib.hid ((HBY.out.trans (hbz.mono HBY.out.size)).trans (hUb w.heap.size (by omega)))
      have HTT : Hid (TyAt (fun b => w.heap.size + 3 ≤ b) U t (.agg #[.int .i64 f, .int .i64 n, .string s, .slice A l9 c])) := htt.bound.keep (w' := U) ⟨by omega, fun b off (hp : Y.heap.size ≤ b ∧ b < z.heap.size) _ => World.cell?_of_block (a := ⟨b, off, none⟩) (hUk b hp.2 (by omega))⟩ |>.mono (fun b hb => by have h9 : Y.heap.size ≤ b ∧ b < z.heap.size := hb; omega)
      have hne8 : w.heap.size + 1 + 1 < y.heap.size := by omega
      have hPi : (P : Int) < (l.length : Int) := by omega
      have hP0 : (0 : Int) ≤ (P : Int) := by omega
      have hgU : g < U.heap.size := by omega
      have HUU : Hid (∀ v : World, Below U.heap.size U v → v.heap[w.heap.size]? = some (.cells #[.int .i64 0, .int .i64 0, .string ⟨#[]⟩, .slice none 0 0] 25) ∧ v.heap[w.heap.size + 1]? = some (.cells #[.int .i64 0, .int .i64 0] 50) ∧ v.heap[w.heap.size + 1 + 1]? = some (.cells #[.int .i64 0, .int .i64 0, .string ⟨#[]⟩, .slice none 0 0] 25) ∧ Below w.heap.size w v) := fun v hbv => ⟨(hbv.block _ (by omega)).trans hu0, (hbv.block _ (by omega)).trans hu1, (hbv.block _ (by omega)).trans hu2, HE.out.trans (hbv.mono HE.out.size)⟩
      have HEU := Lib.hid eU
      have HUS := Lib.hid hUs
      have hwU : w.heap.size + 3 ≤ U.heap.size := by omega
      have hwY : w.heap.size + 3 ≤ Y.heap.size := by omega
      clear hbz hz8 eU hU8 hU9 hUk hUb hUs htt hu0 hu1 hu2 hTU
      by_cases h6 : tk.kind = 6
      · have HR : Hid (readT s0.data.toList = .ok t (tk :: q)) := by show _ = _; rw [hRW, if_pos h6]
        have hk6 : (tk.kind : Int) = 6 := by omega
        clear hRW hres hqt hsq hdq hP h6
        generalize (tk.kind : Int) = kk at *
        subst hk6
        go_upto_region 6 with (fail)
        rw [HEU.out]
        go_wp2_with fail
        refine bodyPost_ret (v := .tuple #[.agg #[.int .i64 f, .int .i64 n, .string s, .slice A l9 c], .agg #[.int .i64 0, .int .i64 0]]) (by simp [results, Tryd.results96, go_sem, u0, u1, u2, u3, v0, v1]) rfl ?_
        show ReadTRes (readT s0.data.toList) w _ _
        rw [HR.out]
        exact ⟨f, n, s, A, l9, c, rfl, (put6_ty HTT.out (k := w.heap.size) (by omega) (.int .i64 f) (.int .i64 n) (.string s) (.slice A l9 c) (.int .i64 0) (.int .i64 0)).mono (fun b (hb : w.heap.size + 3 ≤ b) => (by omega : w.heap.size ≤ b)), below6 HE.out (Nat.le_refl _) (.int .i64 f) (.int .i64 n) (.string s) (.slice A l9 c) (.int .i64 0) (.int .i64 0)⟩
      · have HR : Hid (readT s0.data.toList = .no 12 tk.place) := by show _ = _; rw [hRW, if_neg h6]
        have hk6 : ((tk.kind : Int) == 6) = false := by rw [beq_eq_false_iff_ne]; omega
        have HRF : Hid (∀ v : World, Calls Tryd.prog 93 #[.int .i64 12, .agg #[.int .i64 tk.kind, .string (mkB tk.text), .int .i64 tk.num, .int .i64 tk.place]] v fun e w' => e = .returned (.agg #[.int .i64 12, .int .i64 tk.place]) ∧ Below v.heap.size v w') := fun v => refusal_any 12 tk v
        have HKV : Hid (∀ v : World, Below U.drew.heap.size U.drew v → v.heap[w.heap.size]? = some (.cells #[.int .i64 0, .int .i64 0, .string ⟨#[]⟩, .slice none 0 0] 25) ∧ v.heap[w.heap.size + 1]? = some (.cells #[.int .i64 0, .int .i64 0] 50) ∧ v.heap[w.heap.size + 1 + 1]? = some (.cells #[.int .i64 0, .int .i64 0, .string ⟨#[]⟩, .slice none 0 0] 25) ∧ Below w.heap.size w (put6 v w.heap.size (w.heap.size + 1) (.int .i64 0) (.int .i64 0) (.string ⟨#[]⟩) (.slice none 0 0) (.int .i64 12) (.int .i64 tk.place))) := fun v hbv => by
          have h9 := HUU.out v ((Below.refl U.heap.size U).drew.trans hbv)
          exact ⟨h9.1, h9.2.1, h9.2.2.1, below6 h9.2.2.2 (Nat.le_refl _) (.int .i64 0) (.int .i64 0) (.string ⟨#[]⟩) (.slice none 0 0) (.int .i64 12) (.int .i64 tk.place)⟩
        clear hRW hres hqt hsq hdq hP h6
        generalize (tk.kind : Int) = kk at *
        go_upto_region 6 with (fail)
        rw [HEU.out]
        go_upto_region 9 with (fail)
        go_region_law (go_simp; go_at_call 93; (with_reducible refine (HRF.out _).mono ?_); rintro e3 v ⟨rfl, hbv⟩; have hk := HKV.out v hbv; obtain ⟨u0, u1, u2, u3, u4, u5, u6, u7, u8⟩ := four_cells hk.1; obtain ⟨v0, v1, v2, v3, v4⟩ := pair_cells hk.2.1; obtain ⟨g0, g1, g2, g3, g4, g5, g6, g7, g8⟩ := four_cells hk.2.2.1; have HF := Lib.hid hk.2.2.2; clear hk hbv)
        all_goals
          go_wp2_with fail
          refine bodyPost_ret (v := .tuple #[.agg #[.int .i64 0, .int .i64 0, .string ⟨#[]⟩, .slice none 0 0], .agg #[.int .i64 12, .int .i64 tk.place]]) (by simp [results, Tryd.results96, go_sem, u0, u1, u2, u3, v0, v1]) rfl ?_
          show ReadTRes (readT s0.data.toList) w _ _
          rw [HR.out]
          exact ⟨rfl, HF.out⟩
end Go.Proofs.YtbdfjboojokgdaaDoor
