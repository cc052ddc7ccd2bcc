/- The contracts of tread's whole, ReadType and ReadScheme (chapter 5). Conditions: the text has at most 2^40 bytes; the list of symbols stands in memory as the program's text lays it; what is read is not too great. Plain mathematics of chapter 5 (P5.3): a type without what is not known, TAlls, and bare arrows is read of its print. No program, no world. The contracts of the document's good and Good (chapter 5): a type made of numbers that is read of its print. Condition: the slice reads as numbers. Plain mathematics of chapter 5 (P5.3): what is read with more steps is the same; the print of a good type is read back whole. No program, no world. -/
import Derived.Test.YtbdfjboojokgdaaGreatDoorM30
import Derived.Test.YtbdfjboojokgdaaGreatDoorM35
import Derived.Test.YtbdfjboojokgdaaGreatDoorM34
import Derived.Test.YtbdfjboojokgdaaGreatDoorM15
import Derived.Test.YtbdfjboojokgdaaGreatDoorM33
namespace Go.Proofs.YtbdfjboojokgdaaGreatDoor
open Go.RowKit Lx

theorem oneT_sym {l : List UInt8} {k n : Nat} {x : List UInt8} (h : oneT l = .ok (k, x, n)) : k = 4 → n = 0 := by
  unfold oneT at h
  intro hk
  subst hk
  match l, h with
  | [], h => simp at h
  | c :: r, h =>
    simp only at h
    split at h
    · split at h
      · cases h
      · simp at h
    · split at h
      · split at h
        · cases h
        · split at h
          · simp at h
          · split at h <;> simp at h
      · split at h
        · cases h
        · simp at h; exact h.2.symm
theorem lexF_good : ∀ (f : Nat) (l : List UInt8) (i : Nat) (r : List Tok), lexF f l i = .ok r → EndsT r ∧ (∀ t ∈ r, SymZ t) ∧ r.length ≤ f + 1
  | 0, l, i, r, h => by
    simp only [lexF, Except.ok.injEq] at h
    subst h
    exact ⟨⟨[], _, rfl, rfl⟩, (fun t ht => by simp at ht; subst ht; intro h; cases h), by simp⟩
  | f + 1, l, i, r, h => by
    simp only [lexF] at h
    split at h
    · simp only [Except.ok.injEq] at h
      subst h
      exact ⟨⟨[], _, rfl, rfl⟩, (fun t ht => by simp at ht; subst ht; intro h; cases h), by simp⟩
    · split at h
      · obtain ⟨h1, h2, h3⟩ := lexF_good f _ _ _ h
        exact ⟨h1, h2, by omega⟩
      · split at h
        · cases h
        · rename_i k x n ho
          cases hr : lexF f (l.drop x.length) (i + x.length) with
          | error e => rw [hr] at h; cases h
          | ok q =>
            rw [hr] at h
            simp only [Except.map, Except.ok.injEq] at h
            subst h
            obtain ⟨⟨a, t, e, ht⟩, h2, h3⟩ := lexF_good f _ _ _ hr
            refine ⟨⟨_ :: a, t, by rw [e]; rfl, ht⟩, fun t' ht' => ?_, by simp; omega⟩
            rcases List.mem_cons.1 ht' with rfl | ht'
            · exact fun hk => oneT_sym ho hk
            · exact h2 t' ht'
theorem lexL_good {l : List UInt8} {r : List Tok} (h : lexL l = .ok r) : EndsT r ∧ (∀ t ∈ r, SymZ t) ∧ r.length ≤ 4001 := by
  unfold lexL at h
  split at h
  · cases h
  · obtain ⟨h1, h2, h3⟩ := lexF_good _ _ _ _ h
    exact ⟨h1, h2, by omega⟩
theorem lexF_err : ∀ (f : Nat) (l : List UInt8) (i e p : Nat), lexF f l i = .error (e, p) → e = 2 ∨ e = 10 ∨ e = 11
  | 0, l, i, e, p, h => by simp [lexF] at h
  | f + 1, l, i, e, p, h => by
    simp only [lexF] at h
    split at h
    · cases h
    · split at h
      · exact lexF_err f _ _ _ _ h
      · split at h
        · rename_i e' ho
          injection h with h; injection h with h1 h2; subst h1; exact oneT_err ho
        · rename_i k x n ho
          cases hr : lexF f (l.drop x.length) (i + x.length) with
          | error e' =>
            rw [hr] at h
            obtain ⟨a, b⟩ := e'
            simp only [Except.map, Except.error.injEq, Prod.mk.injEq] at h
            obtain ⟨rfl, rfl⟩ := h
            exact lexF_err f _ _ _ _ hr
          | ok q => rw [hr] at h; cases h
theorem lexL_err {l : List UInt8} {e p : Nat} (h : lexL l = .error (e, p)) : e = 2 ∨ e = 10 ∨ e = 11 := by
  unfold lexL at h
  split at h
  · injection h with h; injection h with h1 h2; exact .inl h1.symm
  · exact lexF_err _ _ _ _ _ h
theorem tokRow_cells {w : World} {v : Value} {l : List Tok} (h : TokRow w v l) (hne : l ≠ []) : ∃ g cap, v = .slice (some ⟨g, 0, none⟩) l.length cap ∧ g < w.heap.size ∧ TokC w g l := by
  rcases h with ⟨_, h⟩ | ⟨g, cap, hv, hg, hc⟩
  · exact absurd h hne
  · exact ⟨g, cap, hv, hg, fun j hj => hc j hj⟩
/-- What is read of a source. -/
def readT (s : List UInt8) : Got :=
  match lexL s with
  | .error (e, p) => .no e p
  | .ok l => match typeL l 0 with
    | .ok t (c :: q) => if c.kind = 6 then .ok t (c :: q) else .no 12 c.place
    | .ok _ [] => .no 0 0
    | .no e p => .no e p
def readS (s : List UInt8) : GotS :=
  match lexL s with
  | .error (e, p) => .no e p
  | .ok l => match schemeRaw l with
    | .ok ps t (c :: q) => if c.kind = 6 then .ok ps t (c :: q) else .no 12 c.place
    | .ok _ _ [] => .no 0 0
    | .no e p => .no e p
def ReadTRes (r : Got) (w : World) (e : Ending) (w' : World) : Prop :=
  match r with
  | .ok t _ => ∃ f n s A l c, e = .returned (.tuple #[.agg #[.int .i64 f, .int .i64 n, .string s, .slice A l c], .agg #[.int .i64 0, .int .i64 0]]) ∧ TyAt (fun b => w.heap.size ≤ b) w' t (.agg #[.int .i64 f, .int .i64 n, .string s, .slice A l c]) ∧ Below w.heap.size w w'
  | .no ec p => e = .returned (.tuple #[.agg #[.int .i64 0, .int .i64 0, .string ⟨#[]⟩, .slice none 0 0], .agg #[.int .i64 ec, .int .i64 p]]) ∧ Below w.heap.size w w'
def ReadSRes (r : GotS) (w : World) (e : Ending) (w' : World) : Prop :=
  match r with
  | .ok ps t _ => ∃ Av nv cv Ap cp f n s A l c, e = .returned (.tuple #[.agg #[.slice Av nv cv, .slice none 0 0, .slice Ap ps.length cp, .int .i64 f, .int .i64 n, .string s, .slice A l c], .agg #[.int .i64 0, .int .i64 0]]) ∧ OwnS w.heap.size w' (.slice Av nv cv) (funs (ps.map (·.2)) t).free ∧ PRow w.heap.size w' ps (.slice Ap ps.length cp) ∧ TyAt (fun b => w.heap.size ≤ b) w' t (.agg #[.int .i64 f, .int .i64 n, .string s, .slice A l c]) ∧ Below w.heap.size w w'
  | .no ec p => e = .returned (.tuple #[.agg #[.slice none 0 0, .slice none 0 0, .slice none 0 0, .int .i64 0, .int .i64 0, .string ⟨#[]⟩, .slice none 0 0], .agg #[.int .i64 ec, .int .i64 p]]) ∧ Below w.heap.size w w'
theorem wboxT (w : World) : ∃ W, ((w.alloc (.cells #[.int .i64 0, .int .i64 0, .string ⟨#[]⟩, .slice none 0 0] 27)).alloc (.cells #[.int .i64 0, .int .i64 0] 30)).alloc (.cells #[.int .i64 0, .int .i64 0, .string ⟨#[]⟩, .slice none 0 0] 27) = W ∧
    W.heap[w.heap.size]? = some (.cells #[.int .i64 0, .int .i64 0, .string ⟨#[]⟩, .slice none 0 0] 27) ∧ W.heap[w.heap.size + 1]? = some (.cells #[.int .i64 0, .int .i64 0] 30) ∧ W.heap[w.heap.size + 1 + 1]? = some (.cells #[.int .i64 0, .int .i64 0, .string ⟨#[]⟩, .slice none 0 0] 27) ∧ Below w.heap.size w W ∧ W.heap.size = w.heap.size + 3 := by
  obtain ⟨V, eV, a0, a1, ab, az⟩ := nil2 w
  rw [eV]
  have c2 := (MapKept.heap_alloc V (.cells #[.int .i64 0, .int .i64 0, .string ⟨#[]⟩, .slice none 0 0] 27)).1
  have cb := below_new V (.cells #[.int .i64 0, .int .i64 0, .string ⟨#[]⟩, .slice none 0 0] 27)
  rw [az] at c2
  exact ⟨_, rfl, (cb.block _ (by omega)).trans a0, (cb.block _ (by omega)).trans a1, c2, ab.trans (cb.mono ab.size), by simp; omega⟩
theorem wworldT (z : World) (yb : Nat) (a b e p x0 x1 x2 x3 : Value) (h8 : z.heap[yb]? = some (.cells #[a, b] 30)) : ∃ U, ((z.setCell ⟨yb, 0, none⟩ e).setCell ⟨yb, 1, none⟩ p).alloc (.cells #[x0, x1, x2, x3] 27) = U ∧ U.heap[yb]? = some (.cells #[e, p] 30) ∧ U.heap[z.heap.size]? = some (.cells #[x0, x1, x2, x3] 27) ∧ (∀ k, k < z.heap.size → k ≠ yb → U.heap[k]? = z.heap[k]?) ∧ (∀ B, B ≤ yb → Below B z U) ∧ U.heap.size = z.heap.size + 1 := by
  have hlt := lt_of_block h8
  have h1 := heap_setCell_same _ yb 1 _ _ p (heap_setCell_same z yb 0 _ _ e h8)
  have hs : ((z.setCell ⟨yb, 0, none⟩ e).setCell ⟨yb, 1, none⟩ p).heap.size = z.heap.size := by simp
  have hb := below_new ((z.setCell ⟨yb, 0, none⟩ e).setCell ⟨yb, 1, none⟩ p) (.cells #[x0, x1, x2, x3] 27)
  have hn := (MapKept.heap_alloc ((z.setCell ⟨yb, 0, none⟩ e).setCell ⟨yb, 1, none⟩ p) (.cells #[x0, x1, x2, x3] 27)).1
  rw [hs] at hb hn
  refine ⟨_, rfl, (hb.block yb hlt).trans h1, hn, fun k hk hne => ?_, fun B hB => ?_, by simp⟩
  · rw [hb.block k hk, Below.heap_setCell _ _ _ _ hne, Below.heap_setCell _ _ _ _ hne]
  · exact (((Below.refl B z).setCell (p := ⟨yb, 0, none⟩) hB e).setCell (p := ⟨yb, 1, none⟩) hB p).trans (hb.mono (by omega))
set_option maxRecDepth 100000 in
set_option maxHeartbeats 1000000 in
theorem wholeT_any (s0 : ByteArray) (w : World) (hS : SymsIn w) (hm : s0.size ≤ 1099511627776) :
    Calls Tryz.prog 20 #[.string s0, .func (.func 21) #[] #[]] w (ReadTRes (readT s0.data.toList) w) := by
  obtain ⟨W, eW, k0, k1, k2, b1, z1⟩ := wboxT w
  have HLX := Lib.hid (lexR_any s0 W hm (hS.on b1))
  have HRD : Hid (readT s0.data.toList = match lexL s0.data.toList with
    | .error (e, p) => .no e p
    | .ok l => match typeL l 0 with
      | .ok t (c :: q) => if c.kind = 6 then .ok t (c :: q) else .no 12 c.place
      | .ok t [] => .no 0 0
      | .no e p => .no e p) := rfl
  have HEW := Lib.hid eW
  have HB := Lib.hid b1
  have HK0 := Lib.hid k0
  have HK1 := Lib.hid k1
  have HK2 := Lib.hid k2
  have hWs : w.heap.size + 3 ≤ W.heap.size := by omega
  have HZ1 := Lib.hid z1
  have heq := eq_at
  have hgd := guard_at
  have hcf : ∀ (vs : Array Value) (y : World), (callFunc 21 vs).run Tryz.prog y = .ok (.enter 21 vs) y := fun vs y => by first | kernel_rfl | rfl
  clear eW b1 k0 k1 k2 z1 hS
  go_enter Tryz.func20, Tryz.ntmps20
  go_upto_region 2 with (fail)
  rw [HEW.out]
  go_wp2_with fail
  (with_reducible refine HLX.out.mono ?_)
  intro e1 y hy
  cases hlx : lexL s0.data.toList with
  | error ep =>
    obtain ⟨e, p⟩ := ep
    rw [hlx] at hy
    obtain ⟨rfl, hb⟩ := hy
    have he := lexL_err hlx
    have he0 : ((e : Int) == 0) = false := by rw [beq_eq_false_iff_ne]; omega
    have heI : (0 : Int) < (e : Int) := by omega
    have HR : Hid (readT s0.data.toList = .no e p) := by show _ = _; rw [HRD.out, hlx]
    obtain ⟨Y, eY, l0, b2, z2⟩ := box2h y (.int .i64 e) (.int .i64 p) 30
    have hbY := hb.trans (b2.mono hb.size)
    have hsy := hb.size
    obtain ⟨c0, c1, c2, c3, c4⟩ := pair_cells l0
    obtain ⟨u0, u1, u2, u3, u4, u5, u6, u7, u8⟩ := four_cells ((hbY.block w.heap.size (by omega)).trans HK0.out)
    obtain ⟨m0, m1, m2, m3, m4, m5, m6, m7, m8⟩ := four_cells ((hbY.block (w.heap.size + 1 + 1) (by omega)).trans HK2.out)
    obtain ⟨v0, v1, v2, v3, v4⟩ := pair_cells ((hbY.block (w.heap.size + 1) (by omega)).trans HK1.out)
    have HE := Lib.hid (HB.out.trans (hbY.mono HB.out.size))
    have HEY := Lib.hid eY
    have HZ2 := Lib.hid z2
    clear hb eY l0 b2 z2 hbY hlx he
    go_upto_region 3 with (fail)
    rw [HEY.out]
    go_wp2_with fail
    go_region
    all_goals
      go_wp2_with fail
      refine bodyPost_ret (v := .tuple #[.agg #[.int .i64 0, .int .i64 0, .string ⟨#[]⟩, .slice none 0 0], .agg #[.int .i64 e, .int .i64 p]]) (by simp [results, Tryz.results20, go_sem, u0, u1, u2, u3, v0, v1]) rfl ?_
      show ReadTRes (readT s0.data.toList) w _ _
      rw [HR.out]
      first | exact ⟨rfl, (below6 HE.out (Nat.le_refl _) (.int .i64 0) (.int .i64 0) (.string ⟨#[]⟩) (.slice none 0 0) (.int .i64 e) (.int .i64 p)).drew⟩ | exact ⟨rfl, below6 HE.out (Nat.le_refl _) (.int .i64 0) (.int .i64 0) (.string ⟨#[]⟩) (.slice none 0 0) (.int .i64 e) (.int .i64 p)⟩
  | ok l =>
    rw [hlx] at hy
    obtain ⟨vt, rfl, htr, hb⟩ := hy
    obtain ⟨hlE, hlz, hll0⟩ := lexL_good hlx
    have hll : l.length ≤ 1099511627776 := by omega
    have hlp := List.length_pos_iff.2 hlE.ne
    obtain ⟨g, cap, rfl, hgy, htc⟩ := tokRow_cells htr hlE.ne
    obtain ⟨Y, eY, l0, b2, z2⟩ := box2h y (.int .i64 0) (.int .i64 0) 30
    have hbY := hb.trans (b2.mono hb.size)
    have hsy := hb.size
    have hTC := tok_below htc hgy b2
    have hgY : g < Y.heap.size := by omega
    obtain ⟨c0, c1, c2, c3, c4⟩ := pair_cells l0
    have HCALL : Hid (Calls Tryz.prog 21 #[.slice (some ⟨g, 0, none⟩) l.length cap, .int .i64 0] Y (PlaceRes l (typeL l 0) Y)) := (typeC_any l g cap _ 0 Y _ hTC (by omega) hll hlz (typeL_is (l := l.drop 0) hlE 0))
    have HL0 := Lib.hid l0
    have HM0 := Lib.hid ((hbY.block w.heap.size (by omega)).trans HK0.out)
    have HM1 := Lib.hid ((hbY.block (w.heap.size + 1) (by omega)).trans HK1.out)
    have HM2 := Lib.hid ((hbY.block (w.heap.size + 1 + 1) (by omega)).trans HK2.out)
    have HBY := Lib.hid (HB.out.trans (hbY.mono HB.out.size))
    have HTC := Lib.hid hTC
    have HEY := Lib.hid eY
    have hyY : y.heap.size < Y.heap.size := by omega
    have hgy8 : g < y.heap.size := hgy
    have HZ2 := Lib.hid z2
    have herr : ∀ e p, typeL l 0 = .no e p → 0 < e := fun e p h => by have := (err_all (3 * l.length + 2)).2.2 l 0 e p (by rw [typeL_is hlE 0, h]); omega
    have hsuf : ∀ t q, typeL l 0 = .ok t q → q <:+ l ∧ q ≠ [] := fun t q h => by have h9 := typeL_ok hlE h; exact ⟨h9.2.1, h9.1.ne⟩
    have HLXX := Lib.hid hlx
    have HSUF := Lib.hid hsuf
    have HERR := Lib.hid herr
    clear hb eY l0 b2 z2 hbY hTC htc htr hlx hsuf herr hlz hlE
    go_upto_region 3 with (fail)
    rw [HEY.out]
    go_wp2_with fail
    (with_reducible refine HCALL.out.mono ?_)
    intro e2 z hx
    cases hres : typeL l 0 with
    | no e p =>
      rw [hres] at hx
      obtain ⟨rfl, hbz⟩ := hx
      have he := HERR.out e p hres
      have he0 : ((e : Int) == 0) = false := by rw [beq_eq_false_iff_ne]; omega
      have heI : (0 : Int) < (e : Int) := by omega
      have HR : Hid (readT s0.data.toList = .no e p) := by show _ = _; rw [HRD.out, HLXX.out]; simp only; rw [hres]
      have hz8 := (hbz.block y.heap.size hyY).trans HL0.out
      obtain ⟨i0, i1, i2, i3, i4⟩ := pair_cells hz8
      obtain ⟨U, eU, hU8, hU9, hUk, hUb, hUs⟩ := wworldT z y.heap.size _ _ (.int .i64 e) (.int .i64 p) (.int .i64 0) (.int .i64 0) (.string ⟨#[]⟩) (.slice none 0 0) hz8
      have hzs := hbz.size
      obtain ⟨j0, j1, j2, j3, j4⟩ := pair_cells hU8
      obtain ⟨u0, u1, u2, u3, u4, u5, u6, u7, u8⟩ := four_cells ((hUk w.heap.size (by omega) (by omega)).trans ((hbz.block w.heap.size (by omega)).trans HM0.out))
      obtain ⟨m0, m1, m2, m3, m4, m5, m6, m7, m8⟩ := four_cells ((hUk (w.heap.size + 1 + 1) (by omega) (by omega)).trans ((hbz.block (w.heap.size + 1 + 1) (by omega)).trans HM2.out))
      obtain ⟨v0, v1, v2, v3, v4⟩ := pair_cells ((hUk (w.heap.size + 1) (by omega) (by omega)).trans ((hbz.block (w.heap.size + 1) (by omega)).trans HM1.out))
      have HE := Lib.hid ((HBY.out.trans (hbz.mono HBY.out.size)).trans (hUb w.heap.size (by omega)))
      have HEU := Lib.hid eU
      have HUS := Lib.hid hUs
      have hne8 : w.heap.size + 1 + 1 < y.heap.size := by omega
      clear hbz hz8 eU hU8 hU9 hUk hUb hUs hres he
      go_upto_region 6 with (fail)
      rw [HEU.out]
      go_wp2_with fail
      go_region
      all_goals
        go_wp2_with fail
        refine bodyPost_ret (v := .tuple #[.agg #[.int .i64 0, .int .i64 0, .string ⟨#[]⟩, .slice none 0 0], .agg #[.int .i64 e, .int .i64 p]]) (by simp [results, Tryz.results20, go_sem, u0, u1, u2, u3, v0, v1]) rfl ?_
        show ReadTRes (readT s0.data.toList) w _ _
        rw [HR.out]
        first | exact ⟨rfl, (below6 HE.out (Nat.le_refl _) (.int .i64 0) (.int .i64 0) (.string ⟨#[]⟩) (.slice none 0 0) (.int .i64 e) (.int .i64 p)).drew⟩ | exact ⟨rfl, below6 HE.out (Nat.le_refl _) (.int .i64 0) (.int .i64 0) (.string ⟨#[]⟩) (.slice none 0 0) (.int .i64 e) (.int .i64 p)⟩
    | ok t q =>
      rw [hres] at hx
      have hsq := HSUF.out t q hres
      match q, hsq, hres, hx with
      | [], hsq, _, _ => exact absurd rfl hsq.2
      | tk :: q, hsq, hres, hx =>
      have hdq := (List.suffix_iff_eq_drop.1 hsq.1).symm
      obtain ⟨hqi, hqt, _, _⟩ := drop_at hdq
      have hRW : readT s0.data.toList = if tk.kind = 6 then .ok t (tk :: q) else .no 12 tk.place := by rw [HRD.out, HLXX.out]; simp only; rw [hres]
      generalize hP : l.length - (tk :: q).length = P at *
      obtain ⟨tv, he2, htt, hbz⟩ := hx
      obtain ⟨f, n, s, A, l9, c, rfl⟩ := htt.flat
      rw [hP] at he2
      subst he2
      have hz8 := (hbz.block y.heap.size hyY).trans HL0.out
      obtain ⟨i0, i1, i2, i3, i4⟩ := pair_cells hz8
      obtain ⟨U, eU, hU8, hU9, hUk, hUb, hUs⟩ := wworldT z y.heap.size _ _ (.int .i64 0) (.int .i64 0) (.int .i64 f) (.int .i64 n) (.string s) (.slice A l9 c) hz8
      have hzs := hbz.size
      obtain ⟨j0, j1, j2, j3, j4⟩ := pair_cells hU8
      obtain ⟨d0, d1, d2, d3, d4, d5, d6, d7, d8⟩ := four_cells hU9
      have hu0 := (hUk w.heap.size (by omega) (by omega)).trans ((hbz.block w.heap.size (by omega)).trans HM0.out)
      have hu2 := (hUk (w.heap.size + 1 + 1) (by omega) (by omega)).trans ((hbz.block (w.heap.size + 1 + 1) (by omega)).trans HM2.out)
      have hu1 := (hUk (w.heap.size + 1) (by omega) (by omega)).trans ((hbz.block (w.heap.size + 1) (by omega)).trans HM1.out)
      obtain ⟨u0, u1, u2, u3, u4, u5, u6, u7, u8⟩ := four_cells hu0
      obtain ⟨m0, m1, m2, m3, m4, m5, m6, m7, m8⟩ := four_cells hu2
      obtain ⟨v0, v1, v2, v3, v4⟩ := pair_cells hu1
      have hTU : TokC U g l := (HTC.out.block (hbz.block g hgY)).block (hUk g (by omega) (by omega))
      obtain ⟨t0, t1, t2, t3⟩ := hTU P hqi
      rw [hqt] at t0 t1 t2 t3
      have HE := Lib.hid ((HBY.out.trans (hbz.mono HBY.out.size)).trans (hUb w.heap.size (by omega)))
      have HTT : Hid (TyAt (fun b => w.heap.size + 3 ≤ b) U t (.agg #[.int .i64 f, .int .i64 n, .string s, .slice A l9 c])) := htt.bound.keep (w' := U) ⟨by omega, fun b off (hp : Y.heap.size ≤ b ∧ b < z.heap.size) _ => World.cell?_of_block (a := ⟨b, off, none⟩) (hUk b hp.2 (by omega))⟩ |>.mono (fun b hb => by have h9 : Y.heap.size ≤ b ∧ b < z.heap.size := hb; omega)
      have hne8 : w.heap.size + 1 + 1 < y.heap.size := by omega
      have hPi : (P : Int) < (l.length : Int) := by omega
      have hP0 : (0 : Int) ≤ (P : Int) := by omega
      have hgU : g < U.heap.size := by omega
      have HUU : Hid (∀ v : World, Below U.heap.size U v → v.heap[w.heap.size]? = some (.cells #[.int .i64 0, .int .i64 0, .string ⟨#[]⟩, .slice none 0 0] 27) ∧ v.heap[w.heap.size + 1]? = some (.cells #[.int .i64 0, .int .i64 0] 30) ∧ v.heap[w.heap.size + 1 + 1]? = some (.cells #[.int .i64 0, .int .i64 0, .string ⟨#[]⟩, .slice none 0 0] 27) ∧ Below w.heap.size w v) := fun v hbv => ⟨(hbv.block _ (by omega)).trans hu0, (hbv.block _ (by omega)).trans hu1, (hbv.block _ (by omega)).trans hu2, HE.out.trans (hbv.mono HE.out.size)⟩
      have HEU := Lib.hid eU
      have HUS := Lib.hid hUs
      have hwU : w.heap.size + 3 ≤ U.heap.size := by omega
      have hwY : w.heap.size + 3 ≤ Y.heap.size := by omega
      clear hbz hz8 eU hU8 hU9 hUk hUb hUs htt hu0 hu1 hu2 hTU
      by_cases h6 : tk.kind = 6
      · have HR : Hid (readT s0.data.toList = .ok t (tk :: q)) := by show _ = _; rw [hRW, if_pos h6]
        have hk6 : (tk.kind : Int) = 6 := by omega
        clear hRW hres hqt hsq hdq hP h6
        generalize (tk.kind : Int) = kk at *
        subst hk6
        go_upto_region 6 with (fail)
        rw [HEU.out]
        go_wp2_with fail
        refine bodyPost_ret (v := .tuple #[.agg #[.int .i64 f, .int .i64 n, .string s, .slice A l9 c], .agg #[.int .i64 0, .int .i64 0]]) (by simp [results, Tryz.results20, go_sem, u0, u1, u2, u3, v0, v1]) rfl ?_
        show ReadTRes (readT s0.data.toList) w _ _
        rw [HR.out]
        exact ⟨f, n, s, A, l9, c, rfl, (put6_ty HTT.out (k := w.heap.size) (by omega) (.int .i64 f) (.int .i64 n) (.string s) (.slice A l9 c) (.int .i64 0) (.int .i64 0)).mono (fun b (hb : w.heap.size + 3 ≤ b) => (by omega : w.heap.size ≤ b)), below6 HE.out (Nat.le_refl _) (.int .i64 f) (.int .i64 n) (.string s) (.slice A l9 c) (.int .i64 0) (.int .i64 0)⟩
      · have HR : Hid (readT s0.data.toList = .no 12 tk.place) := by show _ = _; rw [hRW, if_neg h6]
        have hk6 : ((tk.kind : Int) == 6) = false := by rw [beq_eq_false_iff_ne]; omega
        have HRF : Hid (∀ v : World, Calls Tryz.prog 40 #[.int .i64 12, .agg #[.int .i64 tk.kind, .string (mkB tk.text), .int .i64 tk.num, .int .i64 tk.place]] v fun e w' => e = .returned (.agg #[.int .i64 12, .int .i64 tk.place]) ∧ Below v.heap.size v w') := fun v => refusal_any 12 tk v
        have HKV : Hid (∀ v : World, Below U.drew.heap.size U.drew v → v.heap[w.heap.size]? = some (.cells #[.int .i64 0, .int .i64 0, .string ⟨#[]⟩, .slice none 0 0] 27) ∧ v.heap[w.heap.size + 1]? = some (.cells #[.int .i64 0, .int .i64 0] 30) ∧ v.heap[w.heap.size + 1 + 1]? = some (.cells #[.int .i64 0, .int .i64 0, .string ⟨#[]⟩, .slice none 0 0] 27) ∧ Below w.heap.size w (put6 v w.heap.size (w.heap.size + 1) (.int .i64 0) (.int .i64 0) (.string ⟨#[]⟩) (.slice none 0 0) (.int .i64 12) (.int .i64 tk.place))) := fun v hbv => by
          have h9 := HUU.out v ((Below.refl U.heap.size U).drew.trans hbv)
          exact ⟨h9.1, h9.2.1, h9.2.2.1, below6 h9.2.2.2 (Nat.le_refl _) (.int .i64 0) (.int .i64 0) (.string ⟨#[]⟩) (.slice none 0 0) (.int .i64 12) (.int .i64 tk.place)⟩
        clear hRW hres hqt hsq hdq hP h6
        generalize (tk.kind : Int) = kk at *
        go_upto_region 6 with (fail)
        rw [HEU.out]
        go_upto_region 9 with (fail)
        go_region_law (go_simp; go_at_call 40; (with_reducible refine (HRF.out _).mono ?_); rintro e3 v ⟨rfl, hbv⟩; have hk := HKV.out v hbv; obtain ⟨u0, u1, u2, u3, u4, u5, u6, u7, u8⟩ := four_cells hk.1; obtain ⟨v0, v1, v2, v3, v4⟩ := pair_cells hk.2.1; obtain ⟨g0, g1, g2, g3, g4, g5, g6, g7, g8⟩ := four_cells hk.2.2.1; have HF := Lib.hid hk.2.2.2; clear hk hbv)
        all_goals
          go_wp2_with fail
          refine bodyPost_ret (v := .tuple #[.agg #[.int .i64 0, .int .i64 0, .string ⟨#[]⟩, .slice none 0 0], .agg #[.int .i64 12, .int .i64 tk.place]]) (by simp [results, Tryz.results20, go_sem, u0, u1, u2, u3, v0, v1]) rfl ?_
          show ReadTRes (readT s0.data.toList) w _ _
          rw [HR.out]
          exact ⟨rfl, HF.out⟩
end Go.Proofs.YtbdfjboojokgdaaGreatDoor
namespace Go.Proofs.YtbdfjboojokgdaaGreatDoor
open Go.RowKit Lx

def kt (t : Tok) : Nat × List UInt8 := (t.kind, t.text)
/-- A text ahead of another one has these tokens. -/
def LT (l x : List UInt8) (ks : List (Nat × List UInt8)) : Prop := ∀ i r, lexA x (i + l.length) = .ok r → ∃ ts, lexA (l ++ x) i = .ok (ts ++ r) ∧ ts.map kt = ks
theorem LT.trans {a b x : List UInt8} {ks ks' : List (Nat × List UInt8)} (h : LT a (b ++ x) ks) (h' : LT b x ks') : LT (a ++ b) x (ks ++ ks') := by
  intro i r hr
  rw [List.length_append, ← Nat.add_assoc] at hr
  obtain ⟨t2, e2, m2⟩ := h' _ r hr
  obtain ⟨t1, e1, m1⟩ := h i _ e2
  exact ⟨t1 ++ t2, by rw [List.append_assoc, e1, List.append_assoc], by rw [List.map_append, m1, m2]⟩
theorem LT.blank (x : List UInt8) : LT [32] x [] := by
  intro i r hr
  refine ⟨[], ?_, rfl⟩
  have h9 : lexA ([32] ++ x) i = lexA (([32] ++ x).drop 1) (i + 1) := lexA_blank i 1 rfl (by decide)
  rw [h9]; exact hr
theorem LT.tok {t x : List UInt8} {k n : Nat} (hb : blankN (t ++ x) = 0) (h : oneT (t ++ x) = .ok (k, t, n)) : LT t x [(k, t)] := by
  intro i r hr
  refine ⟨[⟨k, t, n, i⟩], ?_, rfl⟩
  rw [lexA_tok i k n t hb h, List.drop_left]
  exact except_map_ok _ hr
theorem LT.open (x : List UInt8) : LT [40] x [(4, [40])] := LT.tok (n := 0) (by cases x <;> rfl) (by cases x <;> rfl)
theorem LT.close (x : List UInt8) : LT [41] x [(4, [41])] := LT.tok (n := 0) (by cases x <;> rfl) (by cases x <;> rfl)
theorem LT.comma (x : List UInt8) : LT [44] x [(4, [44])] := LT.tok (n := 0) (by cases x <;> rfl) (by cases x <;> rfl)
theorem LT.arrow (x : List UInt8) : LT [45, 62] x [(4, [45, 62])] := LT.tok (n := 0) (by cases x <;> rfl) (by cases x <;> rfl)
theorem LT.imp (x : List UInt8) : LT [61, 62] x [(4, [61, 62])] := LT.tok (n := 0) (by cases x <;> rfl) (by cases x <;> rfl)
/-- What may stand behind a name. -/
def End2 (x : List UInt8) : Prop := x = [] ∨ ∃ c y, x = c :: y ∧ (c = 32 ∨ c = 41 ∨ c = 44)
def lowsL : List (List UInt8) := [[97], [98], [99], [120], [109]]
def upsL : List (List UInt8) := [[73, 110, 116], [66, 111, 111, 108], [76], [80], [70], [70, 117, 110], [69], [79], [83]]
set_option maxRecDepth 100000 in
theorem LT.low {t x : List UInt8} (ht : t ∈ lowsL) (hx : End2 x) : LT t x [(1, t)] := by
  refine LT.tok (n := 0) ?_ ?_
  all_goals
    rcases hx with rfl | ⟨c, y, rfl, rfl | rfl | rfl⟩
    all_goals
      simp only [lowsL, List.mem_cons, List.not_mem_nil, or_false] at ht
      rcases ht with rfl | rfl | rfl | rfl | rfl <;> rfl
set_option maxRecDepth 100000 in
theorem LT.up {t x : List UInt8} (ht : t ∈ upsL) (hx : End2 x) : LT t x [(2, t)] := by
  refine LT.tok (n := 0) ?_ ?_
  all_goals
    rcases hx with rfl | ⟨c, y, rfl, rfl | rfl | rfl⟩
    all_goals
      simp only [upsL, List.mem_cons, List.not_mem_nil, or_false] at ht
      rcases ht with rfl | rfl | rfl | rfl | rfl | rfl | rfl | rfl | rfl <;> rfl
/-- A type that is read of its print. -/
inductive GoodT : Ty → Prop
  | var (s : ByteArray) (h : s.data.toList ∈ lowsL) : GoodT (.var s)
  | con (s : ByteArray) (h : s.data.toList ∈ upsL) : GoodT (.con s)
  | fn (a b : Ty) (ha : GoodT a) (hb : GoodT b) : GoodT (Ty.fn a b)
  | app (a b : Ty) (ha : GoodT a) (hb : GoodT b) : GoodT (.app a b)
theorem up_not_arrow {s : ByteArray} (h : s.data.toList ∈ upsL) : (Ty.con s).isArrow = false := by
  cases hq : (Ty.con s).isArrow with
  | false => rfl
  | true =>
    have h2 := (arrow_eq s).1 hq
    subst h2
    exact absurd h (by decide)
theorem GoodT.not_arrow {t : Ty} (h : GoodT t) : t.isArrow = false := by
  cases h with
  | con s h => exact up_not_arrow h
  | _ => rfl
theorem GoodT.no_half {t f a : Ty} (h : GoodT t) (e : t = .app f a) : f.isArrow = false := by
  cases h with
  | var s h => cases e
  | con s h => cases e
  | fn a b ha hb => injection e with e1 e2; subst e1; rfl
  | app a b ha hb => injection e with e1 e2; subst e1; exact ha.not_arrow
theorem GoodT.sides_app {a b : Ty} (h : GoodT a) : (Ty.app a b).sides = none := by
  cases a with
  | app f x =>
    have := h.no_half rfl
    simp [Ty.sides, this]
  | _ => rfl
/-- How deep brackets may be. -/
def Ty.dep : Ty → Nat
  | .app a b => max a.dep b.dep + 1
  | .all _ a => a.dep + 1
  | _ => 0
def PA (t : Ty) (ks : List (Nat × List UInt8)) (d : Nat) : Prop := ∀ ts r o, ts.map kt = ks → o + d ≤ 40 → Ev (fun n => atomN n (ts ++ r) o) (Got.ok t r)
def PB (t : Ty) (ks : List (Nat × List UInt8)) (d : Nat) : Prop := ∀ ts r o X, ts.map kt = ks → o + d ≤ 40 → Ev (fun n => appsN n t r o) X → Ev (fun n => appL n (ts ++ r) o) X
def StopT (r : List Tok) : Prop := ∃ c q, r = c :: q ∧ begT c = false ∧ isSym c [45, 62] = false
def PC (t : Ty) (ks : List (Nat × List UInt8)) (d : Nat) : Prop := ∀ ts r o, ts.map kt = ks → o + d ≤ 40 → StopT r → Ev (fun n => typeN n (ts ++ r) o) (Got.ok t r)
theorem kt_sym {c : Tok} {x : List UInt8} (h : kt c = (4, x)) (y : List UInt8) : isSym c y = (x == y) := by
  unfold kt at h
  injection h with h1 h2
  unfold isSym; rw [h1, h2]; rfl
theorem kt_beg {c : Tok} {x : List UInt8} (h : kt c = (4, x)) : begT c = (x == [40]) := by
  have h2 := kt_sym h [40]
  unfold kt at h
  injection h with h1 _
  unfold begT; rw [h1, h2]; rfl
theorem apps_stop (t : Ty) {c : Tok} {q : List Tok} (o : Nat) (h : begT c = false) : Ev (fun n => appsN n t (c :: q) o) (Got.ok t (c :: q)) := by
  refine ⟨1, fun f hf => ?_⟩
  obtain ⟨f, rfl⟩ : ∃ g, f = g + 1 := ⟨f - 1, by omega⟩
  simp [appsN, h]
theorem atom_beg {n : Nat} {l q : List Tok} {o : Nat} {t : Ty} (h : atomN n l o = some (.ok t q)) : ∃ c r, l = c :: r ∧ begT c = true := by
  cases n with
  | zero => simp [atomN] at h
  | succ n =>
    cases l with
    | nil => simp [atomN] at h
    | cons c r =>
      refine ⟨c, r, rfl, ?_⟩
      simp only [atomN] at h
      by_cases h2 : c.kind = 2
      · simp [begT, h2]
      · rw [if_neg h2] at h
        by_cases h1 : c.kind = 1
        · simp [begT, h1]
        · rw [if_neg h1] at h
          cases hs : isSym c [40] with
          | true => simp [begT, hs]
          | false => rw [if_pos hs] at h; simp at h
theorem PA.pb {t : Ty} {ks : List (Nat × List UInt8)} {d : Nat} (h : PA t ks d) : PB t ks d := by
  intro ts r o X hk ho hx
  obtain ⟨N, hN⟩ := h ts r o hk ho
  obtain ⟨M, hM⟩ := hx
  refine ⟨N + M, fun f hf => ?_⟩
  have h1 := hN f (by omega)
  have h2 := hM f (by omega)
  simp only at h1 h2
  simp only [appL, h1, h2]
theorem PB.pc {t : Ty} {ks : List (Nat × List UInt8)} {d : Nat} (h : PB t ks d) : PC t ks d := by
  intro ts r o hk ho hs
  obtain ⟨c, q, rfl, hb, ha⟩ := hs
  obtain ⟨N, hN⟩ := h ts (c :: q) o _ hk ho (apps_stop t o hb)
  refine ⟨N + 1, fun f hf => ?_⟩
  obtain ⟨f, rfl⟩ : ∃ g, f = g + 1 := ⟨f - 1, by omega⟩
  have h1 := hN f (by omega)
  simp only at h1
  simp [typeN_succ, h1, ha]
theorem PC.brk {t : Ty} {ks : List (Nat × List UInt8)} {d : Nat} (h : PC t ks d) : PA t ((4, [40]) :: ks ++ [(4, [41])]) (d + 1) := by
  intro ts r o hk ho
  cases ts with
  | nil => cases hk
  | cons c1 ts =>
  simp only [List.map_cons, List.cons_append, List.cons.injEq] at hk
  obtain ⟨hk1, hk⟩ := hk
  obtain ⟨ts', c2, rfl⟩ : ∃ ts' c2, ts = ts' ++ [c2] := by
    rcases List.eq_nil_or_concat ts with h9 | ⟨a, b, h9⟩
    · subst h9; simp at hk
    · exact ⟨a, b, by simpa using h9⟩
  rw [List.map_append, List.map_cons, List.map_nil] at hk
  obtain ⟨hk2, hk3⟩ := List.append_inj' hk rfl
  simp only [List.cons.injEq, and_true] at hk3
  have hb2 : begT c2 = false := by rw [kt_beg hk3]; decide
  obtain ⟨N, hN⟩ := h ts' (c2 :: r) (o + 1) hk2 (by omega) ⟨c2, r, rfl, hb2, by rw [kt_sym hk3]; decide⟩
  refine ⟨N + 1, fun f hf => ?_⟩
  obtain ⟨f, rfl⟩ : ∃ g, f = g + 1 := ⟨f - 1, by omega⟩
  have h1 := hN f (by omega)
  simp only at h1
  have hc : c1.kind = 4 := by unfold kt at hk1; injection hk1
  have hs1 : isSym c1 [40] = true := by rw [kt_sym hk1]; decide
  have hs2 : isSym c2 [41] = true := by rw [kt_sym hk3]; decide
  have e : (c1 :: (ts' ++ [c2])) ++ r = c1 :: (ts' ++ c2 :: r) := by simp
  show atomN (f + 1) ((c1 :: (ts' ++ [c2])) ++ r) o = _
  rw [e]
  simp only [atomN]
  rw [if_neg (by omega), if_neg (by omega), if_neg (by rw [hs1]; simp), if_neg (by omega), h1]
  simp only
  rw [if_pos hs2]
theorem PB.app {x b : Ty} {ks ks' : List (Nat × List UInt8)} {d : Nat} (hx : PB x ks d) (hb : PA b ks' d) : PB (.app x b) (ks ++ ks') d := by
  intro ts r o X hk ho hX
  obtain ⟨t1, t2, rfl, h1, h2⟩ := List.map_eq_append_iff.1 hk
  obtain ⟨N, hN⟩ := hb t2 r o h2 ho
  obtain ⟨M, hM⟩ := hX
  rw [List.append_assoc]
  refine hx t1 (t2 ++ r) o X h1 ho ⟨N + M + 1, fun f hf => ?_⟩
  obtain ⟨f, rfl⟩ : ∃ g, f = g + 1 := ⟨f - 1, by omega⟩
  have h3 := hN f (by omega)
  have h4 := hM f (by omega)
  simp only at h3 h4
  obtain ⟨c, q, e, hbg⟩ := atom_beg h3
  rw [e] at h3 ⊢
  simp only [appsN, hbg, if_true, h3, h4]
theorem PC.fn {a b : Ty} {ks ks' : List (Nat × List UInt8)} {d : Nat} (ha : PB a ks d) (hb : PC b ks' d) : PC (Ty.fn a b) (ks ++ ((4, [45, 62]) :: ks')) d := by
  intro ts r o hk ho hs
  obtain ⟨t1, t2, rfl, h1, h2⟩ := List.map_eq_append_iff.1 hk
  cases t2 with
  | nil => cases h2
  | cons c t2 =>
  simp only [List.map_cons, List.cons.injEq] at h2
  obtain ⟨hc, h2⟩ := h2
  have hcb : begT c = false := by rw [kt_beg hc]; decide
  have hca : isSym c [45, 62] = true := by rw [kt_sym hc]; decide
  obtain ⟨N, hN⟩ := ha t1 (c :: (t2 ++ r)) o _ h1 ho (apps_stop a o hcb)
  obtain ⟨M, hM⟩ := hb t2 r o h2 ho hs
  refine ⟨N + M + 1, fun f hf => ?_⟩
  obtain ⟨f, rfl⟩ : ∃ g, f = g + 1 := ⟨f - 1, by omega⟩
  have h3 := hN f (by omega)
  have h4 := hM f (by omega)
  simp only at h3 h4
  have e : t1 ++ c :: t2 ++ r = t1 ++ c :: (t2 ++ r) := by simp
  show typeN (f + 1) (t1 ++ c :: t2 ++ r) o = _
  rw [e, typeN_succ, h3]
  simp [hca, h4, wrapF, funs]
/-- How a type's print is read. -/
structure RT (t : Ty) : Prop where
  a : ∃ ks, (∀ x, End2 x → LT (t.prAt 3) x ks) ∧ PA t ks (t.dep + 1)
  b : ∃ ks, (∀ x, End2 x → LT (t.prAt 2) x ks) ∧ PB t ks (t.dep + 1)
  c : ∃ ks, (∀ x, End2 x → LT t.pr x ks) ∧ PC t ks t.dep
theorem PC.mono {t : Ty} {ks : List (Nat × List UInt8)} {d e : Nat} (h : PC t ks d) (hd : d ≤ e) : PC t ks e := fun ts r o hk ho hs => h ts r o hk (by omega) hs
theorem PB.mono {t : Ty} {ks : List (Nat × List UInt8)} {d e : Nat} (h : PB t ks d) (hd : d ≤ e) : PB t ks e := fun ts r o X hk ho hx => h ts r o X hk (by omega) hx
theorem PA.mono {t : Ty} {ks : List (Nat × List UInt8)} {d e : Nat} (h : PA t ks d) (hd : d ≤ e) : PA t ks e := fun ts r o hk ho => h ts r o hk (by omega)
theorem end2_close (x : List UInt8) : End2 ([41] ++ x) := .inr ⟨41, x, rfl, .inr (.inl rfl)⟩
theorem end2_blank (x : List UInt8) : End2 (32 :: x) := .inr ⟨32, x, rfl, .inl rfl⟩
theorem brk_lt {t : Ty} {ks : List (Nat × List UInt8)} (h : ∀ x, End2 x → LT t.pr x ks) (x : List UInt8) : LT (40 :: (t.pr ++ [41])) x ((4, [40]) :: ks ++ [(4, [41])]) := by
  have h1 := LT.trans (LT.open ((t.pr ++ [41]) ++ x)) (LT.trans (h ([41] ++ x) (end2_close x)) (LT.close x))
  exact h1
theorem rt_leaf {t : Ty} {k : Nat} (hb : t.bare = 3) (hk : k = 1 ∨ k = 2) (hl : ∀ x, End2 x → LT t.pr x [(k, t.pr)]) (ht : t = if k = 1 then .var (mkB t.pr) else .con (mkB t.pr)) : RT t := by
  have hpa : PA t [(k, t.pr)] t.dep := by
    intro ts r o hm ho
    match ts, hm with
    | [c], hm =>
      simp only [List.map_cons, List.map_nil, List.cons.injEq, and_true] at hm
      unfold kt at hm
      injection hm with h1 h2
      refine ⟨1, fun f hf => ?_⟩
      obtain ⟨f, rfl⟩ : ∃ g, f = g + 1 := ⟨f - 1, by omega⟩
      show atomN (f + 1) (c :: r) o = _
      simp only [atomN]
      rcases hk with rfl | rfl
      · rw [if_neg (by omega), if_pos h1, h2]
        rw [if_pos rfl] at ht
        rw [← ht]
      · rw [if_pos h1, h2]
        rw [if_neg (by decide)] at ht
        rw [← ht]
    | [], hm => cases hm
    | _ :: _ :: _, hm => simp at hm
  have e3 : t.prAt 3 = t.pr := prAt_neg (by omega)
  have e2 : t.prAt 2 = t.pr := prAt_neg (by omega)
  exact ⟨⟨_, by rw [e3]; exact hl, hpa.mono (Nat.le_succ _)⟩, ⟨_, by rw [e2]; exact hl, hpa.pb.mono (Nat.le_succ _)⟩, ⟨_, hl, hpa.pb.pc⟩⟩
theorem mkB_pr (s : ByteArray) : mkB s.data.toList = s := by cases s; rfl
theorem GoodT.rt {t : Ty} (h : GoodT t) : RT t := by
  induction h with
  | var s h => exact rt_leaf (k := 1) rfl (.inl rfl) (fun x hx => LT.low h hx) (by rw [if_pos rfl]; show _ = Ty.var (mkB s.data.toList); rw [mkB_pr])
  | con s h =>
    have hp : (Ty.con s).pr = s.data.toList := by rw [Ty.pr, up_not_arrow h]; rfl
    refine rt_leaf (k := 2) rfl (.inr rfl) (fun x hx => by rw [hp]; exact LT.up h hx) (by rw [if_neg (by decide), hp, mkB_pr])
  | fn a b ha hb iha ihb =>
    have hsd : (Ty.fn a b).sides = some (a, b) := by
      show (if Ty.isArrow (.con ⟨#[45, 62]⟩) = true then some (a, b) else none) = some (a, b)
      rw [if_pos (by decide)]
    have hp := Ty.pr_fun hsd
    obtain ⟨k1, l1, p1⟩ := iha.b
    obtain ⟨k2, l2, p2⟩ := ihb.c
    have hbare : (Ty.fn a b).bare = 1 := by
      show (if (Ty.fn a b).sides.isSome then 1 else 2) = 1
      rw [hsd]; rfl
    have hb1 : b.prAt 1 = b.pr := by
      refine prAt_neg ?_
      cases hb with
      | var s h => simp [Ty.bare]
      | con s h => simp [Ty.bare]
      | fn a b ha hb => simp only [Ty.fn, Ty.bare]; split <;> omega
      | app a b ha hb => simp only [Ty.bare]; split <;> omega
    rw [hb1] at hp
    have hd : (Ty.fn a b).dep = max (max 0 a.dep + 1) b.dep + 1 := rfl
    have hlt : ∀ x, End2 x → LT (Ty.fn a b).pr x (k1 ++ ((4, [45, 62]) :: k2)) := fun x hx => by
      rw [hp]
      have h1 := LT.trans (LT.blank (([45, 62] ++ ([32] ++ b.pr)) ++ x)) (LT.trans (LT.arrow (([32] ++ b.pr) ++ x)) (LT.trans (LT.blank (b.pr ++ x)) (l2 x hx)))
      have h2 := LT.trans (l1 _ (end2_blank _)) h1
      simpa using h2
    have hpc : PC (Ty.fn a b) (k1 ++ ((4, [45, 62]) :: k2)) (Ty.fn a b).dep := PC.fn (p1.mono (by omega)) (p2.mono (by omega))
    have e3 : (Ty.fn a b).prAt 3 = 40 :: ((Ty.fn a b).pr ++ [41]) := prAt_pos (by omega)
    have e2 : (Ty.fn a b).prAt 2 = 40 :: ((Ty.fn a b).pr ++ [41]) := prAt_pos (by omega)
    exact ⟨⟨_, by rw [e3]; exact fun x _ => brk_lt hlt x, hpc.brk⟩, ⟨_, by rw [e2]; exact fun x _ => brk_lt hlt x, hpc.brk.pb⟩, ⟨_, hlt, hpc⟩⟩
  | app a b ha hb iha ihb =>
    have hsd : (Ty.app a b).sides = none := ha.sides_app
    have hp := Ty.pr_app hsd
    obtain ⟨k1, l1, p1⟩ := iha.b
    obtain ⟨k2, l2, p2⟩ := ihb.a
    have hbare : (Ty.app a b).bare = 2 := by
      show (if (Ty.app a b).sides.isSome then 1 else 2) = 2
      rw [hsd]; rfl
    have hd : (Ty.app a b).dep = max a.dep b.dep + 1 := rfl
    have hlt : ∀ x, End2 x → LT (Ty.app a b).pr x (k1 ++ k2) := fun x hx => by
      rw [hp]
      have h2 := LT.trans (l1 _ (end2_blank _)) (LT.trans (LT.blank (b.prAt 3 ++ x)) (l2 x hx))
      simpa using h2
    have hpb : PB (Ty.app a b) (k1 ++ k2) (Ty.app a b).dep := PB.app (p1.mono (by omega)) (p2.mono (by omega))
    have e3 : (Ty.app a b).prAt 3 = 40 :: ((Ty.app a b).pr ++ [41]) := prAt_pos (by omega)
    have e2 : (Ty.app a b).prAt 2 = (Ty.app a b).pr := prAt_neg (by omega)
    exact ⟨⟨_, by rw [e3]; exact fun x _ => brk_lt hlt x, hpb.pc.brk⟩, ⟨_, by rw [e2]; exact hlt, hpb.mono (Nat.le_succ _)⟩, ⟨_, hlt, hpb.pc⟩⟩
end Go.Proofs.YtbdfjboojokgdaaGreatDoor
namespace Go.Proofs.YtbdfjboojokgdaaGreatDoor
open Go.RowKit Lx

/-- The type that is read of its print. -/
def goodTy : Ty → Ty
  | .app (.app f a) b => if f.isArrow then Ty.fn (goodTy a) (goodTy b) else .app (goodTy (.app f a)) (goodTy b)
  | .app a b => .app (goodTy a) (goodTy b)
  | .hole _ => .var ⟨#[109]⟩
  | .con s => if (Ty.con s).isArrow then .con ⟨#[70, 117, 110]⟩ else .con s
  | .var s => .var s
  | .all s a => .all s a
theorem good_fn (a b : Ty) : goodTy (Ty.fn a b) = Ty.fn (goodTy a) (goodTy b) := by
  unfold Ty.fn
  rw [goodTy, if_pos (by decide)]; rfl
theorem good_app {a b : Ty} (h : (Ty.app a b).sides = none) : goodTy (.app a b) = .app (goodTy a) (goodTy b) := by
  cases a with
  | app f x =>
    have hf : ¬ (f.isArrow = true) := fun hf => by rw [Ty.sides, if_pos hf] at h; cases h
    rw [goodTy, if_neg hf]
  | _ => rfl
/-- No TAll. -/
def Ty.bareT : Ty → Prop
  | .app a b => a.bareT ∧ b.bareT
  | .all _ _ => False
  | _ => True
theorem leafZ_bare (n k : Int) : (leafZ n k).bareT := by
  unfold leafZ; repeat' split
  all_goals trivial
theorem builtP_bare : ∀ (f : Nat) (l : List Int), (builtP f l).1.bareT
  | 0, [] => trivial
  | _ + 1, [] => trivial
  | 0, z :: l => leafZ_bare _ _
  | f + 1, z :: l => by
    have i1 := builtP_bare f l
    have i2 := builtP_bare f (builtP f l).2
    rw [builtP]
    split
    · exact leafZ_bare _ _
    · dsimp only
      split
      · exact ⟨⟨trivial, i1⟩, i2⟩
      · exact ⟨i1, i2⟩
theorem builtP_world : ∀ (f : Nat) (l : List Int), (builtP f l).1.world
  | 0, [] => by simp [builtP, Ty.world]
  | f + 1, [] => by simp [builtP, Ty.world]
  | 0, z :: l => by
    have h := aroundI_bd z 40 (by omega)
    exact leafZ_world _ _ (by omega) (by omega)
  | f + 1, z :: l => by
    have h := aroundI_bd z 40 (by omega)
    have i1 := builtP_world f l
    have i2 := builtP_world f (builtP f l).2
    rw [builtP]
    split
    · exact leafZ_world _ _ (by omega) (by omega)
    · dsimp only
      split
      · exact ⟨⟨by simp [Ty.world], i1⟩, i2⟩
      · exact ⟨i1, i2⟩
theorem leafZ_sz (n k : Int) : (leafZ n k).sz = 1 ∧ (leafZ n k).dep = 0 := by
  unfold leafZ; repeat' split
  all_goals exact ⟨rfl, rfl⟩
theorem builtP_sz : ∀ (f : Nat) (l : List Int), (builtP f l).1.sz + 4 * (builtP f l).2.length ≤ 4 * l.length + 1 ∧ (builtP f l).1.dep ≤ 2 * f
  | 0, [] => by simp [builtP, Ty.sz, Ty.dep]
  | f + 1, [] => by simp [builtP, Ty.sz, Ty.dep]
  | 0, z :: l => by
    have h := leafZ_sz (aroundI z 40) (aroundI z 40 % 5)
    simp only [builtP, List.length_cons]; omega
  | f + 1, z :: l => by
    have i1 := builtP_sz f l
    have i2 := builtP_sz f (builtP f l).2
    rw [builtP]
    split
    · have h := leafZ_sz (aroundI z 40) (aroundI z 40 % 10)
      simp only [List.length_cons]; omega
    · dsimp only
      simp only [List.length_cons]
      split
      · rw [fn_sz]
        have hd : (Ty.fn (builtP f l).1 (builtP f (builtP f l).2).1).dep = max (max 0 (builtP f l).1.dep + 1) (builtP f (builtP f l).2).1.dep + 1 := rfl
        rw [hd]; omega
      · simp only [Ty.sz, Ty.dep]; omega
/-- The type that Good makes of numbers. -/
def goodZ (zs : List Int) : Ty := goodTy (plainZ zs)
theorem good_of : ∀ (n : Nat) (t : Ty), t.sz ≤ n → t.bareT → t.world → GoodT (goodTy t) ∧ (goodTy t).sz ≤ t.sz ∧ (goodTy t).dep ≤ t.dep
  | 0, t, h, _, _ => by cases t <;> simp [Ty.sz] at h
  | n + 1, t, h, hb, hw => by
    cases t with
    | hole k => exact ⟨.var _ (by decide), Nat.le_refl _, Nat.le_refl _⟩
    | var s =>
      refine ⟨.var s ?_, Nat.le_refl _, Nat.le_refl _⟩
      rcases hw with rfl | rfl | rfl | rfl <;> decide
    | con s =>
      rw [goodTy]
      split
      · exact ⟨.con _ (by decide), Nat.le_refl _, Nat.le_refl _⟩
      · rename_i ha
        refine ⟨.con s ?_, Nat.le_refl _, Nat.le_refl _⟩
        rcases hw with rfl | rfl | rfl | rfl | rfl | rfl
        all_goals first | decide | (exfalso; exact ha (by decide))
    | all s a => exact absurd hb (by simp [Ty.bareT])
    | app x b =>
      have hsz : x.sz + b.sz + 1 ≤ n + 1 := h
      obtain ⟨ib, ibs, ibd⟩ := good_of n b (by omega) hb.2 hw.2
      cases hs : (Ty.app x b).sides with
      | none =>
        obtain ⟨ix, ixs, ixd⟩ := good_of n x (by omega) hb.1 hw.1
        rw [good_app hs]
        refine ⟨.app _ _ ix ib, ?_, ?_⟩
        · simp only [Ty.sz]; omega
        · simp only [Ty.dep]; omega
      | some p =>
        obtain ⟨a, b'⟩ := p
        have e := sides_fn hs
        unfold Ty.fn at e
        injection e with e1 e2
        subst e1 e2
        have hx : (Ty.app (.con ⟨#[45, 62]⟩) a).sz = 1 + a.sz + 1 := rfl
        obtain ⟨ia, ias, iad⟩ := good_of n a (by omega) hb.1.2 hw.1.2
        have hg : goodTy ((Ty.app (.con ⟨#[45, 62]⟩) a).app b) = Ty.fn (goodTy a) (goodTy b) := good_fn a b
        rw [hg]
        refine ⟨.fn _ _ ia ib, ?_, ?_⟩
        · rw [fn_sz]; simp only [Ty.sz]; omega
        · have hd : (Ty.fn (goodTy a) (goodTy b)).dep = max (max 0 (goodTy a).dep + 1) (goodTy b).dep + 1 := rfl
          rw [hd]; simp only [Ty.dep]; omega
theorem goodZ_good (zs : List Int) : GoodT (goodZ zs) ∧ (goodZ zs).sz ≤ 97 ∧ (goodZ zs).dep ≤ 10 := by
  have h := good_of _ (plainZ zs) (Nat.le_refl _) (builtP_bare _ _) (builtP_world _ _)
  have h2 := builtP_sz 5 (zs.take 24)
  have h3 : (zs.take 24).length ≤ 24 := by rw [List.length_take]; omega
  unfold goodZ
  refine ⟨h.1, ?_, ?_⟩
  · have : (plainZ zs).sz ≤ 97 := by unfold plainZ; omega
    omega
  · have : (plainZ zs).dep ≤ 10 := by unfold plainZ; omega
    omega
/-- How long such a print is. -/
theorem GoodT.pr_len {t : Ty} (h : GoodT t) : t.pr.length ≤ 8 * t.sz := by
  have hp : ∀ (p : Nat) (t : Ty), (t.prAt p).length ≤ t.pr.length + 2 := fun p t => by
    unfold Ty.prAt brk
    split
    · simp
    · omega
  have hl : ∀ x ∈ lowsL, x.length ≤ 8 := by decide
  have hu : ∀ x ∈ upsL, x.length ≤ 8 := by decide
  induction h with
  | var s h => have := hl _ h; simp only [Ty.pr, Ty.sz]; omega
  | con s h => have := hu _ h; rw [Ty.pr, up_not_arrow h]; simp only [Bool.false_eq_true, if_false, Ty.sz]; omega
  | fn a b ha hb iha ihb =>
    have hsd : (Ty.fn a b).sides = some (a, b) := by
      show (if Ty.isArrow (.con ⟨#[45, 62]⟩) = true then some (a, b) else none) = some (a, b)
      rw [if_pos (by decide)]
    rw [Ty.pr_fun hsd, fn_sz]
    have h1 := hp 2 a
    have h2 := hp 1 b
    simp only [List.length_append, List.length_cons, List.length_nil]; omega
  | app a b ha hb iha ihb =>
    rw [Ty.pr_app ha.sides_app]
    have h1 := hp 2 a
    have h2 := hp 3 b
    simp only [List.length_append, List.length_cons, List.length_nil, Ty.sz]; omega
end Go.Proofs.YtbdfjboojokgdaaGreatDoor
namespace Go.Proofs.YtbdfjboojokgdaaGreatDoor
open Go.RowKit Lx

theorem more_all : ∀ n : Nat, (∀ l o r, atomN n l o = some r → atomN (n + 1) l o = some r) ∧ (∀ x l o r, appsN n x l o = some r → appsN (n + 1) x l o = some r) ∧ (∀ l o r, typeN n l o = some r → typeN (n + 1) l o = some r)
  | 0 => ⟨fun _ _ _ h => by simp [atomN] at h, fun _ _ _ _ h => by simp [appsN] at h, fun _ _ _ h => by simp [typeN] at h⟩
  | n + 1 => by
    obtain ⟨ia, ip, it⟩ := more_all n
    refine ⟨fun l o r h => ?_, fun x l o r h => ?_, fun l o r h => ?_⟩
    · match l, h with
      | [], h => simp [atomN] at h
      | t :: q, h =>
        rw [atomN] at h ⊢
        by_cases h2 : t.kind = 2
        · rw [if_pos h2] at h ⊢; exact h
        rw [if_neg h2] at h ⊢
        by_cases h1 : t.kind = 1
        · rw [if_pos h1] at h ⊢; exact h
        rw [if_neg h1] at h ⊢
        by_cases h4 : isSym t [40] = false
        · rw [if_pos h4] at h ⊢; exact h
        rw [if_neg h4] at h ⊢
        by_cases h5 : 40 ≤ o
        · rw [if_pos h5] at h ⊢; exact h
        rw [if_neg h5] at h ⊢
        cases ht : typeN n q (o + 1) with
        | none => rw [ht] at h; cases h
        | some g => rw [ht] at h; rw [it _ _ _ ht]; exact h
    · match l, h with
      | [], h => simp [appsN] at h
      | t :: q, h =>
        rw [appsN] at h ⊢
        by_cases hb : begT t = true
        · rw [if_pos hb] at h ⊢
          cases ha : atomN n (t :: q) o with
          | none => rw [ha] at h; cases h
          | some g =>
            rw [ha] at h
            rw [ia _ _ _ ha]
            cases g with
            | no e p => exact h
            | ok a s => exact ip _ _ _ _ h
        · rw [if_neg hb] at h ⊢; exact h
    · rw [typeN] at h ⊢
      cases ha : atomN n l o with
      | none => rw [ha] at h; cases h
      | some g =>
        rw [ha] at h
        rw [ia _ _ _ ha]
        cases g with
        | no e p => exact h
        | ok x q =>
          simp only at h ⊢
          cases hp : appsN n x q o with
          | none => rw [hp] at h; cases h
          | some g2 =>
            rw [hp] at h
            rw [ip _ _ _ _ hp]
            cases g2 with
            | no e p => exact h
            | ok y s =>
              cases s with
              | nil => exact h
              | cons c s =>
                simp only at h ⊢
                by_cases hc : isSym c [45, 62] = true
                · rw [if_pos hc] at h ⊢
                  cases ht : typeN n s o with
                  | none => rw [ht] at h; cases h
                  | some g3 => rw [ht] at h; rw [it _ _ _ ht]; exact h
                · rw [if_neg hc] at h ⊢; exact h
theorem typeN_le {n m : Nat} {l : List Tok} {o : Nat} {r : Got} (h : typeN n l o = some r) (hm : n ≤ m) : typeN m l o = some r := by
  induction hm with
  | refl => exact h
  | step _ ih => exact (more_all _).2.2 _ _ _ ih
theorem typeL_ev {l : List Tok} {o : Nat} {g : Got} (hE : EndsT l) (h : Ev (fun n => typeN n l o) g) : typeL l o = g := by
  obtain ⟨M, hM⟩ := h
  have h1 := hM (max M (3 * l.length + 2)) (Nat.le_max_left _ _)
  have h2 := typeN_le (typeL_is hE o) (Nat.le_max_right M (3 * l.length + 2))
  simp only at h1
  rw [h1] at h2
  injection h2 with h2
  exact h2.symm
/-- The print of a good type is read back. -/
theorem read_round {t : Ty} (h : GoodT t) (hl : t.pr.length ≤ 4000) (hd : t.dep ≤ 40) : ∃ e, readT t.pr = .ok t [e] := by
  obtain ⟨ks, hlt, hpc⟩ := h.rt.c
  obtain ⟨ts, e1, e2⟩ := hlt [] (.inl rfl) 0 _ (lexA_nil _)
  rw [List.append_nil] at e1
  generalize hlast : ({ kind := 6, text := [], num := 0, place := 0 + t.pr.length } : Tok) = lt at *
  have hk : lt.kind = 6 := by rw [← hlast]
  have hs : isSym lt [45, 62] = false := by rw [← hlast]; rfl
  have hb : begT lt = false := by rw [← hlast]; rfl
  have hlex : lexL t.pr = .ok (ts ++ [lt]) := by unfold lexL; rw [if_neg (by omega)]; exact e1
  have hty : typeL (ts ++ [lt]) 0 = .ok t [lt] := typeL_ev ⟨ts, lt, rfl, hk⟩ (hpc ts [lt] 0 e2 (by omega) ⟨lt, [], rfl, hb, hs⟩)
  refine ⟨lt, ?_⟩
  unfold readT
  rw [hlex]
  simp only
  rw [hty]
  simp only
  rw [if_pos hk]
theorem good_small {t : Ty} (h : GoodT t) : t.small := by
  induction h with
  | var s h => trivial
  | con s h => trivial
  | fn a b ha hb iha ihb => exact ⟨⟨trivial, iha⟩, ihb⟩
  | app a b ha hb iha ihb => exact ⟨iha, ihb⟩
end Go.Proofs.YtbdfjboojokgdaaGreatDoor
