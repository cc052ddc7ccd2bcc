/- The contract of tread's function (chapter 5), and all of the reader's. Conditions: at most 2^40 tokens; symbols bear no number. -/
import Derived.Test.YtbdfjboojokgdaaDoorJV18
import Derived.Test.YtbdfjboojokgdaaDoorJV07
namespace Go.Proofs.YtbdfjboojokgdaaDoor
open Go.RowKit Lx

def wrapF (us : List Ty) : Got → Got
  | .ok z u => .ok (funs us z) u
  | .no e p => .no e p
theorem funs_snoc (us : List Ty) (y z : Ty) : funs (us ++ [y]) z = funs us (.fn y z) := by
  induction us with
  | nil => rfl
  | cons a r ih => simp [funs, ih]
theorem wrapF_snoc (us : List Ty) (y : Ty) (r : Got) : wrapF us (wrapF [y] r) = wrapF (us ++ [y]) r := by
  cases r with
  | no e p => rfl
  | ok z u => simp only [wrapF]; rw [funs_snoc]; rfl
theorem typeN_succ (n : Nat) (l : List Tok) (o : Nat) : typeN (n + 1) l o = match appL n l o with
    | some (.ok y (c :: s)) => if isSym c [45, 62] = true then (typeN n s o).map (wrapF [y]) else some (.ok y (c :: s))
    | some (.ok _ []) => none
    | some (.no e p) => some (.no e p)
    | none => none := by
  simp only [typeN, appL]
  cases atomN n l o with
  | none => rfl
  | some g =>
    cases g with
    | no e p => rfl
    | ok x q =>
      simp only
      cases appsN n x q o with
      | none => rfl
      | some g2 =>
        cases g2 with
        | no e p => rfl
        | ok y s =>
          cases s with
          | nil => rfl
          | cons c s =>
            simp only
            split
            · cases typeN n s o with
              | none => rfl
              | some g3 => cases g3 <;> rfl
            · rfl
structure FBox (w0 wr : World) (rb : Nat) : Prop where
  b0 : wr.heap[w0.heap.size]? = some (.cells #[.int .i64 0, .int .i64 0, .string ⟨#[]⟩, .slice none 0 0] 25)
  b1 : wr.heap[w0.heap.size + 1]? = some (.cells #[.int .i64 0, .int .i64 0] 50)
  fr : Fr (fun b => b = rb) w0 wr
theorem FBox.on {w0 wr w' : World} {rb : Nat} (h : FBox w0 wr rb) (hf : Fr (fun b => b = rb) wr w') (hrb : rb < w0.heap.size) : FBox w0 w' rb :=
  ⟨(hf.block _ (lt_of_block h.b0) (by omega)).trans h.b0, (hf.block _ (lt_of_block h.b1) (by omega)).trans h.b1, h.fr.trans hf⟩
/-- What the loop of function knows. -/
def FunRel (toks : List Tok) (rb g cap o : Nat) (w0 : World) (res : Got) (nn k : Nat) (ov : Value) (wr : World) : Prop :=
  ∃ us ip r2, FBox w0 wr rb ∧ Rd toks rb g cap ip o wr ∧ ARow (w0.heap.size + 2) wr us ov ∧ us.length ≤ ip ∧ k ≤ nn ∧ typeN k (toks.drop ip) o = some r2 ∧ res = wrapF us r2
theorem appL_suf {n : Nat} {l q : List Tok} {o : Nat} {t : Ty} (h : appL n l o = some (.ok t q)) : q <:+ l ∧ q ≠ [] ∧ q.length < l.length := by
  unfold appL at h
  split at h
  · rename_i x s he
    have h1 := (suff_all n).1 _ _ _ _ he
    have h2 := (suff_all n).2.1 _ _ _ _ _ h
    have := h2.1.length_le
    exact ⟨h2.1.trans h1.1, h2.2, by omega⟩
  · injection h with h; cases h
  · cases h
theorem appL_err {n : Nat} {l : List Tok} {o e p : Nat} (h : appL n l o = some (.no e p)) : e = 12 ∨ e = 13 := by
  unfold appL at h
  split at h
  · exact (err_all n).2.1 _ _ _ _ _ h
  · rename_i e' p' he
    injection h with h; injection h with h1 h2; subst h1; exact (err_all n).1 _ _ _ _ he
  · cases h
set_option maxRecDepth 100000 in
set_option maxHeartbeats 1000000 in
theorem type_of (toks : List Tok) (rb g cap n : Nat) (ih : ∀ m, m < n → AppIs toks rb g cap m) (hl : toks.length ≤ 1099511627776) (hz : ∀ t ∈ toks, SymZ t) : TypeIs toks rb g cap n := by
  intro i o w res h ho hres
  obtain ⟨W, eW, k0, k1, b1, z1⟩ := nil2 w
  have hg := h.lt
  have hrb := h.rb_lt
  have HR0 : Hid (FunRel toks rb g cap o w res n n (.slice none 0 0) W) :=
    ⟨[], i, res, ⟨k0, k1, Fr.of_below b1⟩, h.on b1, ARow.nil _ _, Nat.zero_le _, Nat.le_refl _, hres, by cases res <;> rfl⟩
  have HEW := Lib.hid eW
  have HIH := Lib.hid ih
  have HSZ := Lib.hid hz
  have HZ1 := Lib.hid z1
  have heq := eq_at
  have hgd := guard_at
  clear eW k0 k1 b1 z1 h hres ih hz
  go_enter Tryd.func84, Tryd.ntmps84
  go_upto_region 1 with (fail)
  rw [HEW.out]
  go_wp2_with fail
  go_loopg [4] n (fun k ov wr => FunRel toks rb g cap o w res n k ov wr)
  case atStart => exact HR0.out
  case round =>
    obtain ⟨us, ip, r2, hb, hr, hrow, hul, hkn, hty2, hre⟩ := hrel
    cases gk with
    | zero => simp [typeN] at hty2
    | succ m =>
    rw [typeN_succ] at hty2
    obtain ⟨ga, hga⟩ : ∃ ga, appL m (toks.drop ip) o = some ga := by
      cases ha : appL m (toks.drop ip) o with
      | none => rw [ha] at hty2; cases hty2
      | some ga => exact ⟨ga, rfl⟩
    rw [hga] at hty2
    have HC := Lib.hid (HIH.out m (by omega) ip o wr ga hr ho hga)
    obtain ⟨A9, c9, rfl⟩ := hrow.form
    have HBX := Lib.hid hb
    have HROW := Lib.hid hrow
    have hwr : w.heap.size + 1 < wr.heap.size := lt_of_block hb.b1
    have herr := fun e p (h : ga = .no e p) => appL_err (hga.trans (by rw [h]))
    have hsf := fun x q (h : ga = .ok x q) => appL_suf (hga.trans (by rw [h]))
    clear hb hr hrow hga
    go_wp2_with fail
    (with_reducible refine HC.out.mono ?_)
    intro e1 y hy
    cases ga with
    | no e p =>
      obtain ⟨rfl, ⟨i', o', hr⟩, hf⟩ := hy
      simp only [Option.some.injEq] at hty2
      have he := herr e p rfl
      have hrn : res = .no e p := by rw [hre, ← hty2]; rfl
      subst hrn
      have he0 : ((e : Int) == 0) = false := by rw [beq_eq_false_iff_ne]; omega
      have heI : (0 : Int) < (e : Int) := by omega
      obtain ⟨Y, eY, l0, l1, b2, z2⟩ := new2 y (.int .i64 0) (.int .i64 0) (.string ⟨#[]⟩) (.slice none 0 0) (.int .i64 e) (.int .i64 p)
      have hbx := (HBX.out.on hf hrb).on (Fr.of_below b2) hrb
      obtain ⟨a0, a1, a2, a3, a4, a5, a6, a7, a8⟩ := four_cells l0
      obtain ⟨c0, c1, c2, c3, c4⟩ := pair_cells l1
      obtain ⟨u0, u1, u2, u3, u4, u5, u6, u7, u8⟩ := four_cells hbx.b0
      obtain ⟨v0, v1, v2, v3, v4⟩ := pair_cells hbx.b1
      have HE := Lib.hid (no_at (k := w.heap.size) (o := o) e p (Nat.le_refl _) (hr.on b2) hbx.fr hg hrb)
      have HEY := Lib.hid eY
      have HZ2 := Lib.hid z2
      have hwy : w.heap.size + 1 < y.heap.size := by have := hf.size; omega
      clear hr hf eY l0 l1 b2 z2 hbx hty2 herr hsf hre he
      go_upto_region 3 with (fail)
      rw [HEY.out]
      go_wp2_with fail
      go_region
      all_goals
        go_wp2_with fail
        exact bodyPost_ret (v := .tuple #[.agg #[.int .i64 0, .int .i64 0, .string ⟨#[]⟩, .slice none 0 0], .agg #[.int .i64 e, .int .i64 p]]) (by simp [results, Tryd.results84, go_sem, u0, u1, u2, u3, v0, v1]) rfl HE.out
    | ok t r =>
      obtain ⟨tv, rfl, hty, hr, hf⟩ := hy
      obtain ⟨f1, n1, s1, A1, l1, c1, rfl⟩ := hty.flat
      have hsr := hsf t r rfl
      match r, hsr, hty2, hr with
      | [], hsr, _, _ => exact absurd rfl hsr.2.1
      | c :: r, hsr, hty2, hr =>
      have hdc : toks.drop (toks.length - (c :: r).length) = c :: r := drop_suf hsr.1
      have hlt2 := hsr.2.2
      rw [List.length_drop] at hlt2
      obtain ⟨hci, hct, hcd, hcl⟩ := drop_at hdc
      have hplace : toks.length - (c :: r).length + 1 = toks.length - r.length := hcl.symm
      have hPi : ip + 1 ≤ toks.length - (c :: r).length := by omega
      have hcl2 : toks.length - (c :: r).length = toks.length - (c :: r).length := rfl
      generalize hP : toks.length - (c :: r).length = P at *
      have hSc := HSZ.out c (by rw [← hct]; exact List.getElem_mem hci)
      obtain ⟨Y, eY, l0, l2, b2, z2⟩ := new2 y (.int .i64 f1) (.int .i64 n1) (.string s1) (.slice A1 l1 c1) (.int .i64 0) (.int .i64 0)
      have htk := takes_any toks rb g cap P o [45, 62] Y (hr.on b2) hci hl (by rw [hct]; exact hSc)
      rw [hct] at htk
      have hsy := hf.size
      have hbx := (HBX.out.on hf hrb).on (Fr.of_below b2) hrb
      obtain ⟨a0, a1, a2, a3, a4, a5, a6, a7, a8⟩ := four_cells l0
      obtain ⟨c0, c1', c2, c3, c4⟩ := pair_cells l2
      have HL0 := Lib.hid l0
      have HBY := Lib.hid hbx
      have HTY := Lib.hid (hty.on b2)
      have HROWY := Lib.hid (HROW.out.keepH (w' := Y) (by have := b2.size; omega) (fun k h1 h2 => (b2.block k (by omega)).trans (hf.block k h2 (by omega))))
      have HEY := Lib.hid eY
      have hyY : y.heap.size < Y.heap.size := by omega
      have HZ2 := Lib.hid z2
      clear hr hf eY l0 l2 b2 z2 hbx hty herr hsf
      simp only at hty2
      cases hq : isSym c [45, 62] with
      | false =>
        rw [hq] at hty2 htk
        simp only [Bool.false_eq_true, if_false, Option.some.injEq] at hty2
        have HRE : Hid (res = .ok (funs us t) (c :: r)) := by show _ = _; rw [hre, ← hty2]; rfl
        have HTK : Hid (Calls Tryd.prog 129 #[.pointer (some ⟨rb, 0, none⟩), .string ⟨#[45, 62]⟩] Y (TakeRes toks rb g cap P o false Y)) := htk
        clear hty2 htk hre hq
        go_upto_region 3 with (fail)
        rw [HEY.out]
        go_wp2_with fail
        (with_reducible refine HTK.out.mono ?_)
        intro e2 z hz9
        obtain ⟨rfl, hrz, hfz⟩ := hz9
        rw [if_neg (by simp)] at hrz
        obtain ⟨j0, j1, j2, j3, j4, j5, j6, j7, j8⟩ := four_cells ((hfz.block y.heap.size hyY (by omega)).trans HL0.out)
        have hbz := HBY.out.on hfz hrb
        have HTZ := Lib.hid ((ty_fr HTY.out hfz (by omega)).mono (Q := fun b => w.heap.size + 2 ≤ b) (fun b (hb : wr.heap.size ≤ b) => (by omega : w.heap.size + 2 ≤ b)))
        have HRZ := Lib.hid ((HROWY.out.keepH (w' := z) hfz.size (fun k h1 h2 => hfz.block k h2 (by omega))).tys)
        have HFN := Lib.hid (fun_any (fun b => w.heap.size + 2 ≤ b) t us _ _ z HTZ.out HRZ.out (by omega))
        have HBZ := Lib.hid hbz
        have HRDZ := Lib.hid hrz
        have hzs : w.heap.size + 2 ≤ z.heap.size := lt_of_block hbz.b1
        clear hrz hfz hbz a0 a1 a2 a3 a4 a5 a6 a7 a8 c0 c1' c2 c3 c4 HTK
        go_wp2_with fail
        (with_reducible refine HFN.out.mono ?_)
        rintro e3 v ⟨tv, rfl, htv, hbv⟩
        obtain ⟨f2, n2, s2, A2, l2, c2, rfl⟩ := htv.flat
        have hbx := HBZ.out.on (Fr.of_below hbv) hrb
        obtain ⟨u0, u1, u2, u3, u4, u5, u6, u7, u8⟩ := four_cells hbx.b0
        obtain ⟨v0, v1, v2, v3, v4⟩ := pair_cells hbx.b1
        have HE := Lib.hid (leaf_at (k := w.heap.size) (funs us t) (c :: r) f2 n2 s2 A2 l2 c2 (Nat.le_refl _) (HRDZ.out.on hbv) hbx.fr (htv.mono (Q := fun b => w.heap.size + 2 ≤ b) (fun b (hb : z.heap.size ≤ b) => (by omega : w.heap.size + 2 ≤ b))) hg hrb hP)
        rw [← HRE.out] at HE
        clear htv hbv hbx
        go_wp2_with fail
        exact bodyPost_ret (v := .tuple #[.agg #[.int .i64 f2, .int .i64 n2, .string s2, .slice A2 l2 c2], .agg #[.int .i64 0, .int .i64 0]]) (by simp [results, Tryd.results84, go_sem, u0, u1, u2, u3, v0, v1]) rfl HE.out
      | true =>
        rw [hq] at hty2 htk
        simp only [if_true] at hty2
        obtain ⟨r3, hr3⟩ : ∃ r3, typeN m r o = some r3 := by
          cases ha : typeN m r o with
          | none => rw [ha] at hty2; cases hty2
          | some r3 => exact ⟨r3, rfl⟩
        rw [hr3] at hty2
        simp only [Option.map_some, Option.some.injEq] at hty2
        have HRE : Hid (res = wrapF (us ++ [t]) r3) := by show _ = _; rw [hre, ← hty2, wrapF_snoc]
        have HTK : Hid (Calls Tryd.prog 129 #[.pointer (some ⟨rb, 0, none⟩), .string ⟨#[45, 62]⟩] Y (TakeRes toks rb g cap P o true Y)) := htk
        have HR3 := Lib.hid hr3
        clear hty2 htk hre hq hr3
        go_upto_region 3 with (fail)
        rw [HEY.out]
        go_wp2_with fail
        (with_reducible refine HTK.out.mono ?_)
        intro e2 z hz9
        obtain ⟨rfl, hrz, hfz⟩ := hz9
        rw [if_pos rfl, hplace] at hrz
        obtain ⟨j0, j1, j2, j3, j4, j5, j6, j7, j8⟩ := four_cells ((hfz.block y.heap.size hyY (by omega)).trans HL0.out)
        have hbz := HBY.out.on hfz hrb
        have HTZ := Lib.hid (ty_fr HTY.out hfz (by omega))
        have hrz2 := HROWY.out.keepH (w' := z) hfz.size (fun k h1 h2 => hfz.block k h2 (by omega))
        have HBZ := Lib.hid hbz
        have HRDZ := Lib.hid hrz
        have hzs : w.heap.size + 2 ≤ z.heap.size := lt_of_block hbz.b1
        have hQb := below_new z (.cells #[.int .i64 f1, .int .i64 n1, .string s1, .slice A1 l1 c1] 25)
        obtain ⟨cs, ho9, hte9⟩ := hrz2.on hQb
        have hOLw := (World.ownsRow.lt ho9)
        have hrowlt : ∀ k, (Value.slice A9 us.length c9).ownBlock = some k → w.heap.size + 2 ≤ k ∧ k < wr.heap.size := fun k hk => by
          obtain ⟨cs0, ho0, _⟩ := HROW.out
          exact World.ownsRow.lt ho0 k hk
        have HOWN := Lib.hid ho9
        have HNEW := Lib.hid (news_four z (.int .i64 f1) (.int .i64 n1) (.string s1) (.slice A1 l1 c1) 25)
        have HONE := Lib.hid (one_ty f1 n1 s1 A1 l1 c1)
        obtain ⟨i0, hi0, hz0, hzs0, hzb⟩ := info_parts' Tryd.info25
        have HSTEP : Hid (∀ (w2 : World) (gq cap2 : Nat), w2.ownsRow (w.heap.size + 2) 25 4 (.slice (some ⟨gq, 0, none⟩) (us.length + 1) cap2) (us.length + 1) (cs ++ [.int .i64 f1, .int .i64 n1, .string s1, .slice A1 l1 c1]) → (z.alloc (.cells #[.int .i64 f1, .int .i64 n1, .string s1, .slice A1 l1 c1] 25)).grownBy w2 (Value.slice A9 us.length c9).ownBlock → ((Value.slice A9 us.length c9).ownBlock = some gq ∨ gq = z.heap.size + 1) → FunRel toks rb g cap o w res n m (.slice (some ⟨gq, 0, none⟩) (us.length + 1) cap2) w2) := fun w2 gq cap2 ho2 hg2 hat => by
          have hk2 : ∀ k, k < z.heap.size → k < w.heap.size + 2 → w2.heap[k]? = z.heap[k]? := fun k h1 h2 => (hg2.block k (by simp; omega) (fun e => by have := (hrowlt k e.symm).1; omega)).trans (hQb.block k h1)
          have hz2 := hg2.size
          simp only [World.size_alloc] at hz2
          have hbz := HBZ.out
          have hfr := hbz.fr
          have hrd := HRDZ.out
          have hgz := hrd.lt
          refine ⟨us ++ [t], toks.length - r.length, r3, ⟨(hk2 _ (by omega) (by omega)).trans hbz.b0, (hk2 _ (by omega) (by omega)).trans hbz.b1, hg2.os.trans hfr.os, hg2.tape.trans hfr.tape, hg2.output.trans hfr.output, by omega, fun k h1 h2 => (hk2 k (by omega) (by omega)).trans (hfr.block k h1 h2)⟩, hrd.fr (by omega) (hk2 rb (by omega) (by omega)) (hk2 g (by omega) (by omega)), ?_, ?_, by omega, ?_, HRE.out⟩
          · have hta : TyAt (fun b => w.heap.size + 2 ≤ b ∧ (Value.slice A9 us.length c9).ownBlock ≠ some b) (z.alloc (.cells #[.int .i64 f1, .int .i64 n1, .string s1, .slice A1 l1 c1] 25)) t (.agg #[.int .i64 f1, .int .i64 n1, .string s1, .slice A1 l1 c1]) :=
              (HTZ.out.on hQb).mono (fun b (hb : wr.heap.size ≤ b) => ⟨by omega, fun e => by have := (hrowlt b e).2; omega⟩)
            have h5 := ARow.push (v' := .slice (some ⟨gq, 0, none⟩) (us.length + 1) cap2) ho9 hte9 hta ho2 hg2 (by
              rcases hat with h9 | h9
              · exact .inl (by rw [h9]; rfl)
              · exact .inr (by rw [h9]; simp [Value.ownBlock]))
            exact h5
          · rw [List.length_append, List.length_singleton]; omega
          · rw [← hplace, hcd]; exact HR3.out
        have hus : us.length ≤ 1099511627776 := by omega
        clear hrz hfz hbz hrz2 ho9 hte9 hQb hOLw hrowlt a0 a1 a2 a3 a4 a5 a6 a7 a8 c0 c1' c2 c3 c4 HTK
        go_wp2_with (at_builtin; refine wpList_append_lies _ rfl (.tmp 24) (.tmp 26) 23 rfl (w.heap.size + 2) 25 i0 (.agg #[.int .i64 0, .int .i64 0, .string ⟨#[]⟩, .slice none 0 0]) 4 56 Tryd.underlying23 hi0 hz0 hzs0 hzb rfl (by decide) (.slice A9 us.length c9) us.length cs rfl HOWN.out ⟨z.heap.size, 0, none⟩ 1 1 [.int .i64 f1, .int .i64 n1, .string s1, .slice A1 l1 c1] rfl rfl HNEW.out HONE.out (by omega) (by unfold maxLen; omega) (by omega) (by simp; omega) (z.heap.size + 1) (by simp) ?_; intro gq cap2 w2 h2 g2 hat _; have HREL := Lib.hid (HSTEP.out w2 gq cap2 h2 g2 hat); clear h2 g2 hat)
        go_roundg m
        case rel => exact HREL.out
        case measure => omega
theorem reader_all (toks : List Tok) (rb g cap : Nat) (hl : toks.length ≤ 1099511627776) (hz : ∀ t ∈ toks, SymZ t) : ∀ n, AtomIs toks rb g cap n ∧ TypeIs toks rb g cap n := by
  intro n
  induction n using Nat.strongRecOn with
  | _ n ih =>
    have ha : AtomIs toks rb g cap n := by
      cases n with
      | zero => intro i o w res h ho hres; simp [atomN] at hres
      | succ n => exact atom_of toks rb g cap n (ih n (Nat.lt_succ_self _)).2 hl hz
    refine ⟨ha, type_of toks rb g cap n (fun m hm => app_of toks rb g cap m (fun k hk => (ih k (by omega)).1) hl hz) hl hz⟩
end Go.Proofs.YtbdfjboojokgdaaDoor
