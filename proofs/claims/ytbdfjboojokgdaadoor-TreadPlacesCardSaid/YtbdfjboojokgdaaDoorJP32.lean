/- The contract of the document's Type (chapter 5). Condition: at most 2^40 tokens. -/
import Derived.Test.YtbdfjboojokgdaaDoorJP31
namespace Go.Proofs.YtbdfjboojokgdaaDoor
open Go.RowKit Lx

/-- What the loop of Type knows. -/
def XRel (toks : List Tok) (w : World) (xb o : Nat) (R : Got) (nn k : Nat) (mv : Value) (wr : World) : Prop := k ≤ nn ∧
  ∃ (x : Ty) (c : Tok) (r : List Tok) (f n : Int) (s : ByteArray) (A : Option Addr) (l cc : Nat), mv = .bool (begT c) ∧
    wr.heap[xb]? = some (.cells #[.int .i64 f, .int .i64 n, .string s, .slice A l cc, .slice none 0 0, .slice none 0 0, .int .i64 ((toks.length - (c :: r).length : Nat) : Int), .int .i64 0, .int .i64 0] 62) ∧
    TyAt (fun b => w.heap.size + 1 ≤ b ∧ b ≠ xb) wr x (.agg #[.int .i64 f, .int .i64 n, .string s, .slice A l cc]) ∧ Below w.heap.size w wr ∧
    wr.heap[w.heap.size]? = some (.cells #[.int .i64 0, .int .i64 0, .string ⟨#[]⟩, .slice none 0 0, .slice none 0 0, .slice none 0 0, .int .i64 0, .int .i64 0, .int .i64 0] 62) ∧ (c :: r) <:+ toks ∧ appsN k x (c :: r) o = some R
theorem apps_err {k : Nat} {x : Ty} {l : List Tok} {o e p : Nat} (h : appsN k x l o = some (.no e p)) : e = 12 ∨ e = 13 := (err_all k).2.1 _ _ _ _ _ h
set_option maxRecDepth 100000 in
set_option maxHeartbeats 2000000 in
theorem typeX_of (toks : List Tok) (g cap n : Nat) (ih : ∀ m, m ≤ n → AtomX toks g cap m) (iht : TypeX toks g cap n) (hl : toks.length ≤ 1099511627776) : TypeX toks g cap (n + 1) := by
  intro i o w res hT hg ho hres
  rw [typeN_succ] at hres
  unfold appL at hres
  obtain ⟨ra, hra⟩ : ∃ ra, atomN n (toks.drop i) o = some ra := by
    cases ha : atomN n (toks.drop i) o with
    | none => rw [ha] at hres; simp at hres
    | some ra => exact ⟨ra, rfl⟩
  rw [hra] at hres
  obtain ⟨W, eW, k0, b1, z1⟩ := box9 w (.int .i64 0) (.int .i64 0) (.string ⟨#[]⟩) (.slice none 0 0) (.slice none 0 0) (.slice none 0 0) (.int .i64 0) (.int .i64 0) (.int .i64 0) 62
  have hTW := hT.block (b1.block g hg)
  have HIH := Lib.hid ih
  have HIT := Lib.hid iht
  have HAT := Lib.hid (ih n (Nat.le_refl _) i o W ra hTW (by omega) ho hra)
  have hI : i ≤ 1099511627776 ∨ toks.drop i = [] := by
    by_cases h9 : i ≤ toks.length
    · exact .inl (by omega)
    · exact .inr (List.drop_eq_nil_of_le (by omega))
  have hsuf := (suff_all n).1 (toks.drop i) o
  have herr := (err_all n).1 (toks.drop i) o
  rw [hra] at hsuf herr
  have HT0 := Lib.hid hT
  have HEW := Lib.hid eW
  have HB := Lib.hid b1
  have HK0 := Lib.hid k0
  have HZ1 := Lib.hid z1
  clear eW b1 k0 hTW hT hra ih iht
  go_enter Tryd.func38, Tryd.ntmps38
  go_upto_region 1 with (fail)
  rw [HEW.out]
  go_wp2_with fail
  (with_reducible refine HAT.out.mono ?_)
  intro e1 y hy
  cases ra with
  | no e p =>
    obtain ⟨rfl, hb⟩ := hy
    simp only [Option.some.injEq] at hres
    subst hres
    have he := herr e p rfl
    have he0 : ((e : Int) == 0) = false := by rw [beq_eq_false_iff_ne]; omega
    obtain ⟨Z, eZ, k1, b2, z2⟩ := box9 y (.int .i64 0) (.int .i64 0) (.string ⟨#[]⟩) (.slice none 0 0) (.slice none 0 0) (.slice none 0 0) (.int .i64 0) (.int .i64 e) (.int .i64 p) 62
    have hbZ := hb.trans (b2.mono hb.size)
    have hkZ := (hbZ.block w.heap.size (by omega)).trans HK0.out
    have hbw := HB.out.trans (hbZ.mono HB.out.size)
    obtain ⟨v0, v1, v2, v3, v4, v5, v6, v7, v8, _⟩ := nine_cells k1
    obtain ⟨u0, u1, u2, u3, u4, u5, u6, u7, u8, f0, f1, f2, f3, f4, f5, f6, f7, f8, hw0⟩ := nine_cells hkZ
    have hne : w.heap.size < y.heap.size := by have := hb.size; omega
    have HEZ := Lib.hid eZ
    have HE := Lib.hid (x_no (toks := toks) (ec := e) (p := p) hbw (.int .i64 0) (.int .i64 0) (.string ⟨#[]⟩) (.slice none 0 0) (.slice none 0 0) (.slice none 0 0) (.int .i64 0) (.int .i64 e) (.int .i64 p))
    clear hb eZ k1 b2 hbZ hkZ hbw herr hsuf
    go_upto_region 2 with (fail)
    rw [HEZ.out]
    go_wp2_with fail
    exact bodyPost_ret (v := .agg #[.int .i64 0, .int .i64 0, .string ⟨#[]⟩, .slice none 0 0, .slice none 0 0, .slice none 0 0, .int .i64 0, .int .i64 e, .int .i64 p]) (by simp [results, Tryd.results38, go_sem, u0, u1, u2, u3, u4, u5, u6, u7, u8]) rfl HE.out
  | ok x q =>
    obtain ⟨f1, n1, s1, A1, l1, c1, rfl, hty, hb⟩ := hy
    simp only at hres
    obtain ⟨R, hR⟩ : ∃ R, appsN n x q o = some R := by
      cases ha : appsN n x q o with
      | none => rw [ha] at hres; simp at hres
      | some R => exact ⟨R, rfl⟩
    rw [hR] at hres
    have hs9 := hsuf x q rfl
    cases q with
    | nil => exfalso; cases n with
      | zero => simp [appsN] at hR
      | succ n => simp [appsN] at hR
    | cons c q =>
    have hqt : (c :: q) <:+ toks := hs9.1.trans (List.drop_suffix _ _)
    obtain ⟨Z, eZ, k1, b2, z2⟩ := box9 y (.int .i64 f1) (.int .i64 n1) (.string s1) (.slice A1 l1 c1) (.slice none 0 0) (.slice none 0 0) (.int .i64 ((toks.length - (c :: q).length : Nat) : Int)) (.int .i64 0) (.int .i64 0) 62
    have hbZ := hb.trans (b2.mono hb.size)
    have hkZ := (hbZ.block w.heap.size (by omega)).trans HK0.out
    have hbw := HB.out.trans (hbZ.mono HB.out.size)
    have hne : w.heap.size < y.heap.size := by have := hb.size; omega
    have hREL : ∀ u, Below Z.heap.size Z u → XRel toks w y.heap.size o R n n (.bool (begT c)) u := fun u hu =>
      ⟨Nat.le_refl _, x, c, q, f1, n1, s1, A1, l1, c1, rfl, (hu.block _ (by omega)).trans k1, (((hty.bound.mono (Q := fun b => w.heap.size + 1 ≤ b ∧ b ≠ y.heap.size) (fun b hb => ⟨by have := hb.1; omega, by have := hb.2; omega⟩)).on b2).on hu), hbw.trans (hu.mono hbw.size), (hu.block _ (by omega)).trans hkZ, hqt, hR⟩
    have hdc : toks.drop (toks.length - (c :: q).length) = c :: q := drop_suf (i := 0) (by simpa using hqt)
    obtain ⟨hci, hct, hcd, hcl⟩ := drop_at hdc
    have hTZ : TokC Z g toks := HT0.out.block (hbw.block g hg)
    obtain ⟨d0, d1, d2, d3⟩ := hTZ _ hci
    rw [hct] at d0 d1 d2 d3
    generalize hP : toks.length - (c :: q).length = P at *
    obtain ⟨v0, v1, v2, v3, v4, v5, v6, v7, v8, _⟩ := nine_cells k1
    have HREL := Lib.hid hREL
    have HBG := Lib.hid (refbegins_any c Z)
    have HEZ := Lib.hid eZ
    have hPI : (P : Int) < (toks.length : Int) := by omega
    have hP0 : (0 : Int) ≤ (P : Int) := by omega
    have hgz : g < y.heap.size := by omega
    have HRES := Lib.hid hres
    clear hb eZ k1 b2 hbZ hkZ hbw herr hsuf hs9 hqt hREL hTZ hty hres hR hdc hcd hcl hP hct
    go_upto_region 2 with (fail)
    rw [HEZ.out]
    go_wp2_with fail
    (with_reducible refine HBG.out.mono ?_)
    rintro e2 z ⟨rfl, hbz⟩
    have HR0 := Lib.hid (HREL.out z hbz)
    clear hbz HREL d0 d1 d2 d3 v0 v1 v2 v3 v4 v5 v6 v7 v8
    generalize y.heap.size = xb at *
    go_wp2_with fail
    go_loopg [8] n (fun k mv wr => XRel toks w xb o R n k mv wr)
    case atStart => exact HR0.out
    case round =>
      obtain ⟨hkn, x, c, r, f, nn, s, A, l, cc, rfl, hk1, hty, hbw, hk0, hsx, hap⟩ := hrel
      cases gk with
      | zero => simp [appsN] at hap
      | succ m =>
      have hdc : toks.drop (toks.length - (c :: r).length) = c :: r := drop_suf (i := 0) (by simpa using hsx)
      obtain ⟨hci, hct, hcd, hcl⟩ := drop_at hdc
      have hplace : toks.length - (c :: r).length + 1 = toks.length - r.length := hcl.symm
      have hTr : TokC wr g toks := HT0.out.block (hbw.block g hg)
      generalize hP : toks.length - (c :: r).length = P at *
      obtain ⟨d0, d1, d2, d3⟩ := hTr _ hci
      rw [hct] at d0 d1 d2 d3
      obtain ⟨v0, v1, v2, v3, v4, v5, v6, v7, v8, j0, j1, j2, j3, j4, j5, j6, j7, j8, hj⟩ := nine_cells hk1
      have hPI : (P : Int) < (toks.length : Int) := by omega
      have hP0 : (0 : Int) ≤ (P : Int) := by omega
      have hgr : g < wr.heap.size := by have := hbw.size; omega
      have hxr : xb < wr.heap.size := hj
      have hwr : w.heap.size < wr.heap.size := lt_of_block hk0
      have HTr := Lib.hid hTr
      have HK1 := Lib.hid hk1
      have HKR := Lib.hid hk0
      have HBw := Lib.hid hbw
      have HTY := Lib.hid hty
      have HCT := Lib.hid hct
      have HPL := Lib.hid hplace
      simp only [appsN] at hap
      cases hbg : begT c with
      | true =>
        rw [hbg] at hap
        simp only [if_true] at hap
        obtain ⟨ra, hra⟩ : ∃ ra, atomN m (c :: r) o = some ra := by
          cases ha : atomN m (c :: r) o with
          | none => rw [ha] at hap; simp at hap
          | some ra => exact ⟨ra, rfl⟩
        rw [hra] at hap
        have hsuf := (suff_all m).1 (c :: r) o
        have herr := (err_all m).1 (c :: r) o
        rw [hra] at hsuf herr
        rw [← hdc] at hra
        have HC := Lib.hid (HIH.out m (by omega) P o wr ra HTr.out hgr ho hra)
        have HAP := Lib.hid hap
        have HSX := Lib.hid hsx
        clear hTr hk1 hk0 hbw hty hct hplace hcd hcl hdc hra hap hsx d0 d1 d2 d3
        go_wp2_with fail
        (with_reducible refine HC.out.mono ?_)
        intro e3 y hy
        cases ra with
        | no e p =>
          obtain ⟨rfl, hb⟩ := hy
          have hap := HAP.out
          simp only [Option.some.injEq] at hap
          subst hap
          have hres := HRES.out
          simp only [Option.some.injEq] at hres
          subst hres
          have he := herr e p rfl
          have he0 : ((e : Int) == 0) = false := by rw [beq_eq_false_iff_ne]; omega
          obtain ⟨Z, eZ, k1, b2, z2⟩ := box9 y (.int .i64 0) (.int .i64 0) (.string ⟨#[]⟩) (.slice none 0 0) (.slice none 0 0) (.slice none 0 0) (.int .i64 0) (.int .i64 e) (.int .i64 p) 62
          have hbZ := hb.trans (b2.mono hb.size)
          have hkZ := (hbZ.block w.heap.size (by omega)).trans HKR.out
          have hbw := HBw.out.trans (hbZ.mono HBw.out.size)
          obtain ⟨v0, v1, v2, v3, v4, v5, v6, v7, v8, _⟩ := nine_cells k1
          obtain ⟨u0, u1, u2, u3, u4, u5, u6, u7, u8, f0, f1, f2, f3, f4, f5, f6, f7, f8, hw0⟩ := nine_cells hkZ
          have hne : w.heap.size < y.heap.size := by have := hb.size; omega
          have HEZ := Lib.hid eZ
          have HE := Lib.hid (x_no (toks := toks) (ec := e) (p := p) hbw (.int .i64 0) (.int .i64 0) (.string ⟨#[]⟩) (.slice none 0 0) (.slice none 0 0) (.slice none 0 0) (.int .i64 0) (.int .i64 e) (.int .i64 p))
          clear hb eZ k1 b2 hbZ hkZ hbw herr hsuf
          go_upto_region 7 with (fail)
          rw [HEZ.out]
          go_wp2_with fail
          exact bodyPost_ret (v := .agg #[.int .i64 0, .int .i64 0, .string ⟨#[]⟩, .slice none 0 0, .slice none 0 0, .slice none 0 0, .int .i64 0, .int .i64 e, .int .i64 p]) (by simp [results, Tryd.results38, go_sem, u0, u1, u2, u3, u4, u5, u6, u7, u8]) rfl HE.out
        | ok a q2 =>
          obtain ⟨f2, n2, s2, A2, l2, c2, rfl, hta, hb⟩ := hy
          have hap := HAP.out
          simp only at hap
          have hs9 := hsuf a q2 rfl
          cases q2 with
          | nil => exfalso; cases m with
            | zero => simp [appsN] at hap
            | succ n => simp [appsN] at hap
          | cons d q2 =>
          have hqt : (d :: q2) <:+ toks := hs9.1.trans HSX.out
          obtain ⟨Z, eZ, k2, b2, z2⟩ := box9 y (.int .i64 f2) (.int .i64 n2) (.string s2) (.slice A2 l2 c2) (.slice none 0 0) (.slice none 0 0) (.int .i64 ((toks.length - (d :: q2).length : Nat) : Int)) (.int .i64 0) (.int .i64 0) 62
          have hbZ := hb.trans (b2.mono hb.size)
          have hkZ := (hbZ.block w.heap.size (by omega)).trans HKR.out
          have hk1Z := (hbZ.block xb (by omega)).trans HK1.out
          have hbw := HBw.out.trans (hbZ.mono HBw.out.size)
          have hne : xb < y.heap.size := by have := hb.size; omega
          have hne2 : w.heap.size < y.heap.size := by have := hb.size; omega
          have hqd : toks.drop (toks.length - (d :: q2).length) = d :: q2 := drop_suf (i := 0) (by simpa using hqt)
          obtain ⟨hdi, hdt, hdd, hdl⟩ := drop_at hqd
          have hxZ := HTY.out.on hbZ
          have haZ := ((hta.bound.mono (Q := fun b => w.heap.size + 1 ≤ b ∧ b ≠ xb) (fun b hb => ⟨by have := hb.1; omega, by have := hb.1; omega⟩)).on b2)
          generalize hP2 : toks.length - (d :: q2).length = P2 at *
          obtain ⟨U0, eU0⟩ : ∃ U0, putX Z xb (.int .i64 4) (.int .i64 0) (.string ⟨#[]⟩) (.slice (some ⟨y.heap.size + 1, 0, none⟩) 2 2) (.slice none 0 0) (.slice none 0 0) (.int .i64 P2) (.int .i64 0) (.int .i64 0) = U0 := ⟨_, rfl⟩
          have hUn : ∀ k, k ≠ xb → U0.heap[k]? = Z.heap[k]? := fun k hk => by rw [← eU0]; exact putX_ne _ _ _ _ _ _ _ _ _ _ _ k hk
          have hUb0 := putX_self hk1Z (.int .i64 4) (.int .i64 0) (.string ⟨#[]⟩) (.slice (some ⟨y.heap.size + 1, 0, none⟩) 2 2) (.slice none 0 0) (.slice none 0 0) (.int .i64 P2) (.int .i64 0) (.int .i64 0)
          rw [eU0] at hUb0
          have hUs : U0.heap.size = Z.heap.size := by rw [← eU0]; exact putX_size _ _ _ _ _ _ _ _ _ _ _
          have hUB0 : Below w.heap.size w U0 := by rw [← eU0]; exact putX_below hbw (by omega) _ _ _ _ _ _ _ _ _
          have hKp : Keeps (fun b => w.heap.size + 1 ≤ b ∧ b ≠ xb) Z U0 := ⟨by omega, fun b off hb _ => World.cell?_of_block (a := ⟨b, off, none⟩) (hUn b hb.2)⟩
          have hnew := app_new (hxZ.keep hKp) (haZ.keep hKp) 25
          have hbn := below_new U0 (.cells #[.int .i64 f, .int .i64 nn, .string s, .slice A l cc, .int .i64 f2, .int .i64 n2, .string s2, .slice A2 l2 c2] 25)
          obtain ⟨U, eU⟩ : ∃ U, U0.alloc (.cells #[.int .i64 f, .int .i64 nn, .string s, .slice A l cc, .int .i64 f2, .int .i64 n2, .string s2, .slice A2 l2 c2] 25) = U := ⟨_, rfl⟩
          have hUs2 : U.heap.size = U0.heap.size + 1 := by rw [← eU]; simp
          rw [eU] at hnew hbn
          rw [hUs, z2] at hnew
          have hUb := (hbn.block xb (by omega)).trans hUb0
          have hUB : Below w.heap.size w U := hUB0.trans (hbn.mono hUB0.size)
          have hUT : TyAt (fun b => w.heap.size + 1 ≤ b ∧ b ≠ xb) U (.app x a) (.agg #[.int .i64 4, .int .i64 0, .string ⟨#[]⟩, .slice (some ⟨y.heap.size + 1, 0, none⟩) 2 2]) := by
            refine hnew.mono (Q := fun b => w.heap.size + 1 ≤ b ∧ b ≠ xb) (fun b hb => ?_)
            rcases hb with hb | hb
            · exact hb
            · rw [hb]; exact ⟨by omega, by omega⟩
          have hUR := (hbn.block w.heap.size (by omega)).trans ((hUn w.heap.size (by omega)).trans hkZ)
          have hUTok : TokC U g toks := HT0.out.block (hUB.block g hg)
          have HBG := Lib.hid (refbegins_any d U)
          obtain ⟨y0, y1, y2, y3⟩ := hUTok _ hdi
          rw [hdt] at y0 y1 y2 y3
          have hgU : g < U.heap.size := by omega
          have hREL : ∀ u, Below U.heap.size U u → XRel toks w xb o R n m (.bool (begT d)) u := fun u hu =>
            ⟨by omega, .app x a, d, q2, 4, 0, ⟨#[]⟩, _, 2, 2, rfl, by rw [hP2]; exact (hu.block _ (by omega)).trans hUb, hUT.on hu, hUB.trans (hu.mono hUB.size), (hu.block _ (by omega)).trans hUR, hqt, hap⟩
          have HREL := Lib.hid hREL
          have HEZ := Lib.hid eZ
          have eU2 := eU0
          unfold putX at eU2
          have HEU0 := Lib.hid eU2
          have HEU := Lib.hid eU
          obtain ⟨m0, m1, m2, m3, m4, m5, m6, m7, m8, _⟩ := nine_cells hUb
          obtain ⟨v0, v1, v2, v3, v4, v5, v6, v7, v8, j0, j1, j2, j3, j4, j5, j6, j7, j8, hj⟩ := nine_cells hk1Z
          obtain ⟨a0, a1, a2, a3, a4, a5, a6, a7, a8, _⟩ := nine_cells k2
          have hPI2 : (P2 : Int) < (toks.length : Int) := by omega
          have hP02 : (0 : Int) ≤ (P2 : Int) := by omega
          clear hb eZ eU eU2 eU0 b2 hbZ hbw herr hsuf hs9 hqd hdd hdl hta hxZ haZ hnew hbn hUn hUs hUB hUT hUR hUTok hREL hdt hap hkZ hUb0 hUB0 hKp
          go_upto_region 7 with (fail)
          rw [HEZ.out]
          go_upto_region 10 with (fail)
          rw [HEU0.out, HEU.out]
          go_wp2_with fail
          (with_reducible refine HBG.out.mono ?_)
          rintro e4 u ⟨rfl, hbu⟩
          have HR2 := Lib.hid (HREL.out u hbu)
          clear hbu
          go_wp2_with fail
          go_roundg m
          case rel => exact HR2.out
          case measure => omega
      | false =>
        rw [hbg] at hap
        simp only [Bool.false_eq_true, if_false, Option.some.injEq] at hap
        subst hap
        have hres := HRES.out
        simp only at hres
        have HIS : Hid (Calls Tryd.prog 87 #[.agg #[.int .i64 c.kind, .string (mkB c.text), .int .i64 c.num, .int .i64 c.place], .string ⟨#[45, 62]⟩] wr fun e w' => e = .returned (.bool (isSym c [45, 62])) ∧ Below wr.heap.size wr w') := is_any c [45, 62] wr
        have HCD := Lib.hid hcd
        clear hTr hk1 hk0 hbw hty hct hplace hcd hcl hdc
        go_wp2_with fail
        (with_reducible refine HIS.out.mono ?_)
        rintro e3 v ⟨rfl, hbv⟩
        have hkv := (hbv.block w.heap.size (by omega)).trans HKR.out
        have hk1v := (hbv.block xb (by omega)).trans HK1.out
        have hbw := HBw.out.trans (hbv.mono HBw.out.size)
        have hxv := HTY.out.on hbv
        have hvs := hbv.size
        have hTv : TokC v g toks := HT0.out.block (hbw.block g hg)
        cases hq : isSym c [45, 62] with
        | false =>
          rw [hq] at hres
          simp only [Bool.false_eq_true, if_false, Option.some.injEq] at hres
          subst hres
          obtain ⟨m0, m1, m2, m3, m4, m5, m6, m7, m8, _⟩ := nine_cells hk1v
          obtain ⟨u0, u1, u2, u3, u4, u5, u6, u7, u8, f0, f1, f2, f3, f4, f5, f6, f7, f8, hw0⟩ := nine_cells hkv
          have HE := Lib.hid (x_ok (toks := toks) (t := x) (q := c :: r) (i := (P : Int)) (by rw [hP]) (hxv.mono (fun b hb => hb.1)) hbw (.int .i64 f) (.int .i64 nn) (.string s) (.slice A l cc) (.slice none 0 0) (.slice none 0 0) (.int .i64 (P : Int)) (.int .i64 0) (.int .i64 0))
          clear hbv hkv hk1v hbw hxv hTv hq
          go_wp2_with fail
          exact bodyPost_ret (v := .agg #[.int .i64 f, .int .i64 nn, .string s, .slice A l cc, .slice none 0 0, .slice none 0 0, .int .i64 (P : Int), .int .i64 0, .int .i64 0]) (by simp [results, Tryd.results38, go_sem, u0, u1, u2, u3, u4, u5, u6, u7, u8]) rfl HE.out
        | true =>
          rw [hq] at hres
          simp only [if_true] at hres
          obtain ⟨r3, hr3⟩ : ∃ r3, typeN n r o = some r3 := by
            cases ha : typeN n r o with
            | none => rw [ha] at hres; cases hres
            | some r3 => exact ⟨r3, rfl⟩
          rw [hr3] at hres
          simp only [Option.map_some, Option.some.injEq] at hres
          have herr := (err_all n).2.2 r o
          have hsuf := (suff_all n).2.2 r o
          rw [hr3] at herr hsuf
          have hit := HIT.out (P + 1) o v r3 hTv (by omega) ho (by rw [HCD.out]; exact hr3)
          rw [show (((P + 1 : Nat)) : Int) = (P : Int) + 1 by push_cast; rfl] at hit
          have HC := Lib.hid hit
          obtain ⟨m0, m1, m2, m3, m4, m5, m6, m7, m8, _⟩ := nine_cells hk1v
          have HKv := Lib.hid hkv
          have HK1v := Lib.hid hk1v
          have HBw2 := Lib.hid hbw
          have HXv := Lib.hid hxv
          clear hbv hkv hk1v hbw hxv hTv hq hit hr3
          go_wp2_with fail
          (with_reducible refine HC.out.mono ?_)
          intro e4 y hy
          cases r3 with
          | no e p =>
            obtain ⟨rfl, hb⟩ := hy
            subst hres
            have he := herr e p rfl
            have he0 : ((e : Int) == 0) = false := by rw [beq_eq_false_iff_ne]; omega
            obtain ⟨Z, eZ, k1, b2, z2⟩ := box9 y (.int .i64 0) (.int .i64 0) (.string ⟨#[]⟩) (.slice none 0 0) (.slice none 0 0) (.slice none 0 0) (.int .i64 0) (.int .i64 e) (.int .i64 p) 62
            have hbZ := hb.trans (b2.mono hb.size)
            have hkZ := (hbZ.block w.heap.size (by omega)).trans HKv.out
            have hbw := HBw2.out.trans (hbZ.mono HBw2.out.size)
            obtain ⟨v0, v1, v2, v3, v4, v5, v6, v7, v8, _⟩ := nine_cells k1
            obtain ⟨u0, u1, u2, u3, u4, u5, u6, u7, u8, f0, f1, f2, f3, f4, f5, f6, f7, f8, hw0⟩ := nine_cells hkZ
            have hne : w.heap.size < y.heap.size := by have := hb.size; omega
            have HEZ := Lib.hid eZ
            have HE : Hid (XRes toks (wrapF [x] (.no e p)) w (.returned (.agg #[.int .i64 0, .int .i64 0, .string ⟨#[]⟩, .slice none 0 0, .slice none 0 0, .slice none 0 0, .int .i64 0, .int .i64 e, .int .i64 p])) (putX Z w.heap.size (.int .i64 0) (.int .i64 0) (.string ⟨#[]⟩) (.slice none 0 0) (.slice none 0 0) (.slice none 0 0) (.int .i64 0) (.int .i64 e) (.int .i64 p))) := x_no (toks := toks) (ec := e) (p := p) hbw (.int .i64 0) (.int .i64 0) (.string ⟨#[]⟩) (.slice none 0 0) (.slice none 0 0) (.slice none 0 0) (.int .i64 0) (.int .i64 e) (.int .i64 p)
            clear hb eZ k1 b2 hbZ hkZ hbw herr hsuf
            go_upto_region 15 with (fail)
            rw [HEZ.out]
            go_wp2_with fail
            exact bodyPost_ret (v := .agg #[.int .i64 0, .int .i64 0, .string ⟨#[]⟩, .slice none 0 0, .slice none 0 0, .slice none 0 0, .int .i64 0, .int .i64 e, .int .i64 p]) (by simp [results, Tryd.results38, go_sem, u0, u1, u2, u3, u4, u5, u6, u7, u8]) rfl HE.out
          | ok z q3 =>
            obtain ⟨f2, n2, s2, A2, l2, c2, rfl, htz, hb⟩ := hy
            obtain ⟨Z, eZ, k2, b2, z2⟩ := box9 y (.int .i64 f2) (.int .i64 n2) (.string s2) (.slice A2 l2 c2) (.slice none 0 0) (.slice none 0 0) (.int .i64 ((toks.length - q3.length : Nat) : Int)) (.int .i64 0) (.int .i64 0) 62
            have hbZ := hb.trans (b2.mono hb.size)
            have hkZ := (hbZ.block w.heap.size (by omega)).trans HKv.out
            have hk1Z := (hbZ.block xb (by omega)).trans HK1v.out
            have hbw := HBw2.out.trans (hbZ.mono HBw2.out.size)
            have hne : xb < y.heap.size := by have := hb.size; omega
            have hne2 : w.heap.size < y.heap.size := by have := hb.size; omega
            have hxZ := (HXv.out.on hbZ).mono (Q := fun b => w.heap.size + 1 ≤ b) (fun b hb => hb.1)
            have hzZ := ((htz.mono (Q := fun b => w.heap.size + 1 ≤ b) (fun b (hb : v.heap.size ≤ b) => (by omega : w.heap.size + 1 ≤ b))).on b2)
            generalize hP3 : ((toks.length - q3.length : Nat) : Int) = P3 at *
            have hdrew : Below Z.heap.size Z Z.drew := (Below.refl _ Z).drew
            have HFUN : Hid (Calls Tryd.prog 88 #[.agg #[.int .i64 f, .int .i64 nn, .string s, .slice A l cc], .agg #[.int .i64 f2, .int .i64 n2, .string s2, .slice A2 l2 c2]] Z.drew fun e u => ∃ f5 n5 s5 A5 l5 c5, e = .returned (.agg #[.int .i64 f5, .int .i64 n5, .string s5, .slice A5 l5 c5]) ∧
                XRes toks (wrapF [x] (.ok z q3)) w (.returned (.agg #[.int .i64 f5, .int .i64 n5, .string s5, .slice A5 l5 c5, .slice none 0 0, .slice none 0 0, .int .i64 P3, .int .i64 0, .int .i64 0])) (putX u w.heap.size (.int .i64 f5) (.int .i64 n5) (.string s5) (.slice A5 l5 c5) (.slice none 0 0) (.slice none 0 0) (.int .i64 P3) (.int .i64 0) (.int .i64 0)) ∧ Below Z.heap.size Z u ∧
                u.heap[y.heap.size]? = some (.cells #[.int .i64 f2, .int .i64 n2, .string s2, .slice A2 l2 c2, .slice none 0 0, .slice none 0 0, .int .i64 P3, .int .i64 0, .int .i64 0] 62) ∧ u.heap[w.heap.size]? = some (.cells #[.int .i64 0, .int .i64 0, .string ⟨#[]⟩, .slice none 0 0, .slice none 0 0, .slice none 0 0, .int .i64 0, .int .i64 0, .int .i64 0] 62)) := by
              refine (reffun_any (fun b => w.heap.size + 1 ≤ b) x z _ _ Z.drew (hxZ.on hdrew) (hzZ.on hdrew)).mono ?_
              rintro e u ⟨tv, rfl, htv, hbu⟩
              obtain ⟨f5, n5, s5, A5, l5, c5, rfl⟩ := htv.flat
              have hbu' : Below Z.heap.size Z u := hdrew.trans hbu
              have hty5 : TyAt (fun b => w.heap.size + 1 ≤ b) u (.app (.app (.con ⟨#[45, 62]⟩) x) z) (.agg #[.int .i64 f5, .int .i64 n5, .string s5, .slice A5 l5 c5]) := htv.mono (fun b hb => by
                rcases hb with hb | hb
                · exact hb
                · have : Z.heap.size ≤ b := hb
                  exact (by omega : w.heap.size + 1 ≤ b))
              exact ⟨f5, n5, s5, A5, l5, c5, rfl, x_ok (toks := toks) (t := Ty.fn x z) (q := q3) hP3.symm hty5 (hbw.trans (hbu'.mono hbw.size)) _ _ _ _ _ _ _ _ _, hbu', (hbu'.block _ (by omega)).trans k2, (hbu'.block _ (by omega)).trans hkZ⟩
            obtain ⟨v0, v1, v2, v3, v4, v5, v6, v7, v8, j0, j1, j2, j3, j4, j5, j6, j7, j8, hj⟩ := nine_cells hk1Z
            obtain ⟨a0, a1, a2, a3, a4, a5, a6, a7, a8, _⟩ := nine_cells k2
            have HEZ := Lib.hid eZ
            subst hres
            clear hb eZ k2 b2 hbZ hkZ hbw herr hsuf hxZ hzZ htz hk1Z hdrew
            go_upto_region 15 with (fail)
            rw [HEZ.out]
            go_wp2_with fail
            go_region_law (first | (go_simp; go_at_call 88; (with_reducible refine HFUN.out.mono ?_); rintro e5 u ⟨f5, n5, s5, A5, l5, c5, rfl, hx5, hb5, k5, k6⟩; have HX5 := Lib.hid hx5; obtain ⟨b0, b1, b2, b3, b4, b5, b6, b7, b8, _⟩ := nine_cells k5; obtain ⟨u0, u1, u2, u3, u4, u5, u6, u7, u8, g0, g1, g2, g3, g4, g5, g6, g7, g8, hw0⟩ := nine_cells k6; clear hx5 hb5 k5 k6))
            all_goals
              go_wp2_with fail
              exact bodyPost_ret (v := .agg #[.int .i64 f5, .int .i64 n5, .string s5, .slice A5 l5 c5, .slice none 0 0, .slice none 0 0, .int .i64 P3, .int .i64 0, .int .i64 0]) (by simp [results, Tryd.results38, go_sem, u0, u1, u2, u3, u4, u5, u6, u7, u8]) rfl HX5.out
end Go.Proofs.YtbdfjboojokgdaaDoor
