/- The contract of the document's Read (chapter 5), for a scheme. Condition: the text has at most 2^40 bytes. The walk of TreadSchemes (chapter 5): it tells true for every text, slice of numbers, number and byte. Condition: the list of symbols stands in memory as the program's text lays it. -/
import Derived.Test.YtbdfjboojokgdaaGreatDoorM47
import Derived.Test.YtbdfjboojokgdaaGreatDoorM43
import Derived.Test.YtbdfjboojokgdaaGreatDoorM44
import Derived.Test.YtbdfjboojokgdaaGreatDoorM42
namespace Go.Proofs.YtbdfjboojokgdaaGreatDoor
open Go.RowKit Lx

/-- What the document's Read tells of a scheme. -/
def RdS (s : List UInt8) (w : World) (e : Ending) (w' : World) : Prop := ∃ f n s0 A l c Ap np cp Av nv cv I, e = .returned (.agg #[.int .i64 f, .int .i64 n, .string s0, .slice A l c, .slice Ap np cp, .slice Av nv cv, .int .i64 I, .int .i64 (sE (readS s)), .int .i64 (sP (readS s))]) ∧ ResS w' (readS s) Av nv cv Ap np cp f n s0 A l c ∧ Below w.heap.size w w'
theorem rds_no {s : List UInt8} {w W : World} {ec p : Nat} (h : readS s = .no ec p) (hb : Below w.heap.size w W) (x0 x1 x2 x3 x4 x5 x6 x7 x8 : Value) : RdS s w (.returned (.agg #[.int .i64 0, .int .i64 0, .string ⟨#[]⟩, .slice none 0 0, .slice none 0 0, .slice none 0 0, .int .i64 0, .int .i64 ec, .int .i64 p])) (putX W w.heap.size x0 x1 x2 x3 x4 x5 x6 x7 x8) := by
  unfold RdS
  rw [h]
  exact ⟨0, 0, ⟨#[]⟩, none, 0, 0, none, 0, 0, none, 0, 0, 0, rfl, ⟨strs_nil _ _, PsP.nil _ _, ⟨rfl, rfl, rfl, rfl, rfl, rfl⟩⟩, putX_below hb (Nat.le_refl _) _ _ _ _ _ _ _ _ _⟩
theorem rds_ok {s : List UInt8} {w W : World} {ps : List (ByteArray × Ty)} {t : Ty} {q : List Tok} {f n : Int} {s0 : ByteArray} {A : Option Addr} {l c : Nat} {Ap : Option Addr} {np cp : Nat} {Av : Option Addr} {nv cv : Nat} {I : Int} (h : readS s = .ok ps t q) (hv : StrsAt (fun b => b ≠ w.heap.size) W (.slice Av nv cv) (funs (ps.map (·.2)) t).free) (hp : PsP (fun b => b ≠ w.heap.size) W ps (.slice Ap np cp)) (ht : TyAt (fun b => b ≠ w.heap.size) W t (.agg #[.int .i64 f, .int .i64 n, .string s0, .slice A l c])) (hb : Below w.heap.size w W) (x0 x1 x2 x3 x4 x5 x6 x7 x8 : Value) : RdS s w (.returned (.agg #[.int .i64 f, .int .i64 n, .string s0, .slice A l c, .slice Ap np cp, .slice Av nv cv, .int .i64 I, .int .i64 0, .int .i64 0])) (putX W w.heap.size x0 x1 x2 x3 x4 x5 x6 x7 x8) := by
  unfold RdS
  rw [h]
  have hK : Keeps (fun b => b ≠ w.heap.size) W (putX W w.heap.size x0 x1 x2 x3 x4 x5 x6 x7 x8) := ⟨by rw [putX_size]; exact Nat.le_refl _, fun b off hb _ => World.cell?_of_block (a := ⟨b, off, none⟩) (putX_ne _ _ _ _ _ _ _ _ _ _ _ b hb)⟩
  exact ⟨f, n, s0, A, l, c, Ap, np, cp, Av, nv, cv, I, rfl, ⟨(hv.keep hK).bound, (hp.keep hK).bound, (ht.keep hK).bound'⟩, putX_below hb (Nat.le_refl _) _ _ _ _ _ _ _ _ _⟩
set_option maxRecDepth 100000 in
set_option maxHeartbeats 2000000 in
theorem readSX_any (s0 : ByteArray) (w : World) (hm : s0.size ≤ 1099511627776) : Calls Tryz.prog 8 #[.string s0, .bool true] w (RdS s0.data.toList w) := by
  obtain ⟨W, eW, k0, b1, z1⟩ := box9 w (.int .i64 0) (.int .i64 0) (.string ⟨#[]⟩) (.slice none 0 0) (.slice none 0 0) (.slice none 0 0) (.int .i64 0) (.int .i64 0) (.int .i64 0) 35
  have HLX := Lib.hid (reflexR_any s0 W hm)
  have HEW := Lib.hid eW
  have HB := Lib.hid b1
  have HK0 := Lib.hid k0
  have hrd : readS s0.data.toList = match lexL s0.data.toList with
    | .error (e, p) => .no e p
    | .ok l => match schemeRaw l with
      | .ok ps t (c :: q) => if c.kind = 6 then .ok ps t (c :: q) else .no 12 c.place
      | .ok _ _ [] => .no 0 0
      | .no e p => .no e p := rfl
  have hlerr := fun e p => lexL_err (l := s0.data.toList) (e := e) (p := p)
  have hgood := fun r => lexL_good (l := s0.data.toList) (r := r)
  have htxt := fun r => lexL_texts (l := s0.data.toList) (r := r)
  clear eW b1 k0
  generalize hsl : s0.data.toList = sl at *
  generalize hrr : readS sl = rr at *
  generalize lexL sl = lx at *
  go_enter Tryz.func8, Tryz.ntmps8
  go_upto_region 1 with (fail)
  rw [HEW.out]
  go_wp2_with fail
  (with_reducible refine HLX.out.mono ?_)
  intro e1 y hy
  cases lx with
  | error x =>
    obtain ⟨e, p⟩ := x
    obtain ⟨rfl, hb⟩ := hy
    simp only at hrd
    have he := hlerr e p rfl
    have he0 : ((e : Int) == 0) = false := by rw [beq_eq_false_iff_ne]; omega
    obtain ⟨Y, eY, k1, b2, z2⟩ := box2h y (.int .i64 e) (.int .i64 p) 30
    have hbY := hb.trans (b2.mono hb.size)
    obtain ⟨p0, p1, p2, p3, p4⟩ := pair_cells k1
    obtain ⟨u0, u1, u2, u3, u4, u5, u6, u7, u8, f0, f1, f2, f3, f4, f5, f6, f7, f8, hw0⟩ := nine_cells ((hbY.block w.heap.size (by omega)).trans HK0.out)
    have hne : w.heap.size < y.heap.size := by have := hb.size; omega
    have HEY := Lib.hid eY
    have HE := Lib.hid (rds_no (hrr.trans hrd) (HB.out.trans (hbY.mono HB.out.size)) (.int .i64 0) (.int .i64 0) (.string ⟨#[]⟩) (.slice none 0 0) (.slice none 0 0) (.slice none 0 0) (.int .i64 0) (.int .i64 e) (.int .i64 p))
    clear hb eY k1 b2 hbY hlerr hgood htxt hrd hrr
    go_upto_region 2 with (fail)
    rw [HEY.out]
    go_wp2_with fail
    exact bodyPost_ret (v := .agg #[.int .i64 0, .int .i64 0, .string ⟨#[]⟩, .slice none 0 0, .slice none 0 0, .slice none 0 0, .int .i64 0, .int .i64 e, .int .i64 p]) (by simp [results, Tryz.results8, go_sem, u0, u1, u2, u3, u4, u5, u6, u7, u8]) rfl HE.out
  | ok L =>
    obtain ⟨v, rfl, hr, hb⟩ := hy
    obtain ⟨hE, hSZ, hLl⟩ := hgood L rfl
    have hfit := fun ps t r h => (scheme_fit hE (htxt L rfl) (by omega) ps t r h).1.2.2
    obtain ⟨g, cap, rfl, hg, hT⟩ := tokRow_cells hr hE.ne
    simp only at hrd
    obtain ⟨Y, eY, k1, b2, z2⟩ := box2h y (.int .i64 0) (.int .i64 0) 30
    have hbY := hb.trans (b2.mono hb.size)
    have hTY := hT.block (w' := Y) (b2.block g hg)
    have HTP0 : Hid (Calls Tryz.prog 23 #[.slice (some ⟨g, 0, none⟩) L.length cap, .int .i64 0, .int .i64 0] Y (XRes L (typeL L 0) Y)) := typeX_any (cap := cap) (i := 0) (o := 0) hTY (by omega) (by omega) (by omega) hE
    have HTP := Lib.hid (doc_uni HTP0.out)
    have herr : ∀ e p, schemeRaw L = .no e p → 0 < e := fun e p h => schemeRaw_err hE h
    have hok : ∀ ps t r, schemeRaw L = .ok ps t r → r <:+ L ∧ r ≠ [] := fun ps t r h => schemeRaw_suf hE h
    have hsch : ∀ V : World, TokC V g L → g < V.heap.size → Calls Tryz.prog 24 #[.slice (some ⟨g, 0, none⟩) L.length cap, .int .i64 0] V (XSRes L (schemeRaw L) V) := fun V h1 h2 => schemeX_any L g cap 0 V h1 h2 (by have := List.length_pos_iff.2 hE.ne; omega) (by omega) hE hfit
    obtain ⟨p0, p1, p2, p3, p4⟩ := pair_cells k1
    have hne : w.heap.size < y.heap.size := by have := hb.size; omega
    have HEY := Lib.hid eY
    have HKY := Lib.hid ((hbY.block w.heap.size (by omega)).trans HK0.out)
    have HBY := Lib.hid (HB.out.trans (hbY.mono HB.out.size))
    have HTY := Lib.hid hTY
    have hgY : g < Y.heap.size := by omega
    have hLI : (0 : Int) < (L.length : Int) := by have := List.length_pos_iff.2 hE.ne; omega
    clear hb eY k1 b2 hbY hlerr hgood htxt hr hT hTY hSZ HTP0 hfit
    generalize gI L (typeL L 0) = i1 at *
    generalize gE (typeL L 0) = i2 at *
    generalize gP (typeL L 0) = i3 at *
    generalize schemeRaw L = ra at *
    go_upto_region 2 with (fail)
    rw [HEY.out]
    go_wp2_with fail
    (with_reducible refine HTP.out.mono ?_)
    rintro e2 z ⟨f1', n1, s1, A1, l1, c1, rfl, _, hb⟩
    obtain ⟨Z, eZ, k2, b3, z3⟩ := box9 z (.int .i64 f1') (.int .i64 n1) (.string s1) (.slice A1 l1 c1) (.slice none 0 0) (.slice none 0 0) (.int .i64 i1) (.int .i64 i2) (.int .i64 i3) 35
    have hbZ := hb.trans (b3.mono hb.size)
    have hgz : g < z.heap.size := by have := hb.size; omega
    have hne2 : w.heap.size < z.heap.size := by have := hb.size; omega
    have HSC := Lib.hid (hsch Z (HTY.out.block (hbZ.block g hgY)) (by omega))
    have HTZ := Lib.hid (HTY.out.block (w' := Z) (hbZ.block g hgY))
    have HKZ := Lib.hid ((hbZ.block w.heap.size (by omega)).trans HKY.out)
    have HBZ := Lib.hid (HBY.out.trans (hbZ.mono HBY.out.size))
    have HK2 := Lib.hid k2
    have HEZ := Lib.hid eZ
    have hYw : w.heap.size + 1 ≤ Y.heap.size := by omega
    clear hb eZ k2 b3 hbZ hsch
    go_upto_region 5 with (fail)
    rw [HEZ.out]
    go_wp2_with fail
    (with_reducible refine HSC.out.mono ?_)
    intro e3 x hx
    cases ra with
    | no e p =>
      obtain ⟨rfl, hb⟩ := hx
      simp only at hrd
      have he := herr e p rfl
      have he0 : ((e : Int) == 0) = false := by rw [beq_eq_false_iff_ne]; omega
      have hkx := (hb.block z.heap.size (by omega)).trans HK2.out
      obtain ⟨g0, g1, g2, g3, g4, g5, g6, g7, g8, j0, j1, j2, j3, j4, j5, j6, j7, j8, hj⟩ := nine_cells hkx
      obtain ⟨U, eU⟩ : ∃ U, putX x z.heap.size (.int .i64 0) (.int .i64 0) (.string ⟨#[]⟩) (.slice none 0 0) (.slice none 0 0) (.slice none 0 0) (.int .i64 0) (.int .i64 e) (.int .i64 p) = U := ⟨_, rfl⟩
      have hUn : ∀ k, k ≠ z.heap.size → U.heap[k]? = x.heap[k]? := fun k hk => by rw [← eU]; exact putX_ne _ _ _ _ _ _ _ _ _ _ _ k hk
      have hUb : Below z.heap.size Z U := by rw [← eU]; exact putX_below (hb.mono (by omega)) (Nat.le_refl _) _ _ _ _ _ _ _ _ _
      have hU := putX_self hkx (.int .i64 0) (.int .i64 0) (.string ⟨#[]⟩) (.slice none 0 0) (.slice none 0 0) (.slice none 0 0) (.int .i64 0) (.int .i64 e) (.int .i64 p)
      rw [eU] at hU
      have hBU : Below w.heap.size w U := HBZ.out.trans (hUb.mono (by omega))
      obtain ⟨v0, v1, v2, v3, v4, v5, v6, v7, v8, _⟩ := nine_cells hU
      obtain ⟨u0, u1, u2, u3, u4, u5, u6, u7, u8, f0, f1, f2, f3, f4, f5, f6, f7, f8, hw0⟩ := nine_cells ((hUb.block w.heap.size (by omega)).trans HKZ.out)
      have HEU := Lib.hid eU
      have HE := Lib.hid (rds_no (hrr.trans hrd) hBU (.int .i64 0) (.int .i64 0) (.string ⟨#[]⟩) (.slice none 0 0) (.slice none 0 0) (.slice none 0 0) (.int .i64 0) (.int .i64 e) (.int .i64 p))
      clear hb hkx eU hUn hUb hU hBU herr hok hrd hrr
      go_upto_region 7 with (fail)
      unfold putX at HEU
      rw [HEU.out]
      go_wp2_with fail
      exact bodyPost_ret (v := .agg #[.int .i64 0, .int .i64 0, .string ⟨#[]⟩, .slice none 0 0, .slice none 0 0, .slice none 0 0, .int .i64 0, .int .i64 e, .int .i64 p]) (by simp [results, Tryz.results8, go_sem, u0, u1, u2, u3, u4, u5, u6, u7, u8]) rfl HE.out
    | ok ps t q =>
      obtain ⟨f2, n2, s2, A2, l2, c2, Ap, cp, Av, nv, cv, rfl, hv, hp, ht, hb⟩ := hx
      have hao := hok ps t q rfl
      cases q with
      | nil => exact absurd rfl hao.2
      | cons c q =>
      simp only at hrd
      have hdc : L.drop (L.length - (c :: q).length) = c :: q := drop_suf (i := 0) (by simpa using hao.1)
      obtain ⟨hci, hct, hcd, hcl⟩ := drop_at hdc
      generalize hP : L.length - (c :: q).length = P at *
      have hkx := (hb.block z.heap.size (by omega)).trans HK2.out
      obtain ⟨g0, g1, g2, g3, g4, g5, g6, g7, g8, j0, j1, j2, j3, j4, j5, j6, j7, j8, hj⟩ := nine_cells hkx
      obtain ⟨U, eU⟩ : ∃ U, putX x z.heap.size (.int .i64 f2) (.int .i64 n2) (.string s2) (.slice A2 l2 c2) (.slice Ap ps.length cp) (.slice Av nv cv) (.int .i64 (P : Int)) (.int .i64 0) (.int .i64 0) = U := ⟨_, rfl⟩
      have hKU : Keeps (fun b => Z.heap.size ≤ b) x U := by
        rw [← eU]
        exact ⟨by rw [putX_size]; exact Nat.le_refl _, fun b off hb9 _ => World.cell?_of_block (a := ⟨b, off, none⟩) (putX_ne _ _ _ _ _ _ _ _ _ _ _ b (by omega))⟩
      have hUb : Below z.heap.size Z U := by rw [← eU]; exact putX_below (hb.mono (by omega)) (Nat.le_refl _) _ _ _ _ _ _ _ _ _
      have hU := putX_self hkx (.int .i64 f2) (.int .i64 n2) (.string s2) (.slice A2 l2 c2) (.slice Ap ps.length cp) (.slice Av nv cv) (.int .i64 (P : Int)) (.int .i64 0) (.int .i64 0)
      rw [eU] at hU
      have hBU : Below w.heap.size w U := HBZ.out.trans (hUb.mono (by omega))
      have hvU := (hv.keep hKU).mono (Q := fun b => b ≠ w.heap.size) (fun b hb => by omega)
      have hpU := (hp.keep hKU).mono (Q := fun b => b ≠ w.heap.size) (fun b hb => by omega)
      have htU := (ht.keep hKU).mono (Q := fun b => b ≠ w.heap.size) (fun b hb => by omega)
      obtain ⟨v0, v1, v2, v3, v4, v5, v6, v7, v8, _⟩ := nine_cells hU
      have hkU := (hUb.block w.heap.size (by omega)).trans HKZ.out
      obtain ⟨u0, u1, u2, u3, u4, u5, u6, u7, u8, f0, f1, f2', f3, f4, f5, f6, f7, f8, hw0⟩ := nine_cells hkU
      obtain ⟨d0, d1, d2, d3⟩ := (HTZ.out.block (w' := U) (hUb.block g (by omega))) P hci
      rw [hct] at d0 d1 d2 d3
      have hPI : (P : Int) < (L.length : Int) := by omega
      have hP0 : (0 : Int) ≤ (P : Int) := by omega
      have HEU := Lib.hid eU
      have HKU := Lib.hid hkU
      have HBU := Lib.hid hBU
      by_cases h6 : c.kind = 6
      · rw [if_pos h6] at hrd
        have h6I : (c.kind : Int) = 6 := by omega
        have HE := Lib.hid (rds_ok (I := (P : Int)) (hrr.trans hrd) hvU hpU htU hBU (.int .i64 f2) (.int .i64 n2) (.string s2) (.slice A2 l2 c2) (.slice Ap ps.length cp) (.slice Av nv cv) (.int .i64 (P : Int)) (.int .i64 0) (.int .i64 0))
        clear hb hv hp ht hkx eU hKU hUb hU hBU hvU hpU htU hkU herr hok hrd hrr hao hdc hct hcd hcl hP
        generalize (c.kind : Int) = ck at *
        subst h6I
        go_upto_region 7 with (fail)
        unfold putX at HEU
        rw [HEU.out]
        go_wp2_with fail
        exact bodyPost_ret (v := .agg #[.int .i64 f2, .int .i64 n2, .string s2, .slice A2 l2 c2, .slice Ap ps.length cp, .slice Av nv cv, .int .i64 (P : Int), .int .i64 0, .int .i64 0]) (by simp [results, Tryz.results8, go_sem, u0, u1, u2, u3, u4, u5, u6, u7, u8]) rfl HE.out
      · rw [if_neg h6] at hrd
        have h6I : ((c.kind : Int) == 6) = false := by rw [beq_eq_false_iff_ne]; omega
        have HBD := Lib.hid (bad_any 12 c U)
        have HRR := Lib.hid (hrr.trans hrd)
        have hwU : w.heap.size < U.heap.size := by have := hUb.size; omega
        clear hb hv hp ht hkx eU hKU hUb hU hBU hvU hpU htU hkU herr hok hrd hrr hao hdc hct hcd hcl hP u0 u1 u2 u3 u4 u5 u6 u7 u8 f0 f1 f2' f3 f4 f5 f6 f7 f8
        go_upto_region 7 with (fail)
        unfold putX at HEU
        rw [HEU.out]
        go_wp2_with fail
        (with_reducible refine HBD.out.mono ?_)
        rintro e4 x4 ⟨rfl, hbx⟩
        obtain ⟨u0, u1, u2, u3, u4, u5, u6, u7, u8, f0, f1, f2', f3, f4, f5, f6, f7, f8, hw0⟩ := nine_cells ((hbx.block _ hwU).trans HKU.out)
        have HE := Lib.hid (rds_no HRR.out (HBU.out.trans (hbx.mono HBU.out.size)) (.int .i64 0) (.int .i64 0) (.string ⟨#[]⟩) (.slice none 0 0) (.slice none 0 0) (.slice none 0 0) (.int .i64 0) (.int .i64 12) (.int .i64 c.place))
        clear hbx
        go_wp2_with fail
        exact bodyPost_ret (v := .agg #[.int .i64 0, .int .i64 0, .string ⟨#[]⟩, .slice none 0 0, .slice none 0 0, .slice none 0 0, .int .i64 0, .int .i64 12, .int .i64 c.place]) (by simp [results, Tryz.results8, go_sem, u0, u1, u2, u3, u4, u5, u6, u7, u8]) rfl HE.out
end Go.Proofs.YtbdfjboojokgdaaGreatDoor
namespace Go.Proofs.YtbdfjboojokgdaaGreatDoor
open Go.RowKit Lx

theorem readS_uni {r : GotS} {w : World} {F : FuncId} {vs : Array Value} (h : Calls Tryz.prog F vs w (ReadSRes r w)) : Calls Tryz.prog F vs w fun e w' => ∃ Av nv cv Ap np cp f n s A l c, e = .returned (.tuple #[.agg #[.slice Av nv cv, .slice none 0 0, .slice Ap np cp, .int .i64 f, .int .i64 n, .string s, .slice A l c], .agg #[.int .i64 (sE r), .int .i64 (sP r)]]) ∧ ResS w' r Av nv cv Ap np cp f n s A l c ∧ Below w.heap.size w w' := by
  refine h.mono (fun e w' hr => ?_)
  cases r with
  | ok ps t r =>
    obtain ⟨Av, nv, cv, Ap, cp, f, n, s, A, l, c, rfl, hv, hp, ht, hb⟩ := hr
    exact ⟨Av, nv, cv, Ap, _, cp, f, n, s, A, l, c, rfl, ⟨(OwnS.strs hv).bound, hp.psP.bound, ht.bound'⟩, hb⟩
  | no e p =>
    obtain ⟨rfl, hb⟩ := hr
    exact ⟨none, 0, 0, none, 0, 0, 0, 0, ⟨#[]⟩, none, 0, 0, rfl, ⟨strs_nil _ _, PsP.nil _ _, ⟨rfl, rfl, rfl, rfl, rfl, rfl⟩⟩, hb⟩
theorem ret_trueS {w X Y : World} (h : Below w.heap.size w X) (h2 : Below X.heap.size X Y) : TrueB w (.returned (.bool true)) Y := ⟨rfl, h.trans (h2.mono h.size)⟩
theorem lexS_fit {s : List UInt8} (l : List Tok) (hl : lexL s = .ok l) (ps : List (ByteArray × Ty)) (t : Ty) (r : List Tok) (h : schemeRaw l = .ok ps t r) : ((∀ p ∈ ps, p.2.short) ∧ t.short ∧ (funs (ps.map (·.2)) t).sz ≤ 274877906944) ∧ ps.length ≤ 16 :=
  scheme_fit (lexL_good hl).1 (lexL_texts hl) (lexL_good hl).2.2 ps t r h
theorem sL_le (s : List UInt8) : (sL (readS s)).length ≤ 1099511627776 := by
  cases hr : readS s with
  | no e p => simp [sL]
  | ok ps t r =>
    unfold readS at hr
    split at hr
    · cases hr
    · rename_i l hl
      split at hr
      · rename_i ps' t' c q hq
        split at hr
        · injection hr with h1 h2 h3
          subst h1
          have := (lexS_fit l hl _ _ _ hq).2
          simp only [sL]; omega
        · cases hr
      · cases hr
      · cases hr
set_option maxRecDepth 100000 in
set_option maxHeartbeats 4000000 in
theorem treadSchemes_law (s : ByteArray) (A : Option Addr) (len cap : Nat) (at0 : Int) (c : Int) (w : World) (hs : s.size ≤ maxLen) (hl : SomeInts w (.slice A len cap)) (hS : SymsIn w) (ha1 : -9223372036854775808 ≤ at0) (ha2 : at0 ≤ 9223372036854775807) (hc1 : 0 ≤ c) (hc2 : c ≤ 255) :
    Calls Tryz.prog 4 #[.string s, .slice A len cap, .int .i64 at0, .int .u8 c] w (TrueB w) := by
  obtain ⟨zs, hz⟩ := hl
  have HSR := Lib.hid (srcs_any s _ zs at0 c w hs hz ha1 ha2 hc1 hc2)
  have HS := Lib.hid hS
  have heq := eq_at
  have hgd := guard_at
  have HRT := Lib.hid (fun (x : ByteArray) (hx : x.size ≤ 1048576) (X : World) (hb : Below w.heap.size w X) => readS_uni (readScheme_any x X (hS.on hb) (by omega) (fun l hl ps t r h => (lexS_fit l hl ps t r h).1)))
  have HRX := Lib.hid (fun (x : ByteArray) (hx : x.size ≤ 1048576) (X : World) => readSX_any x X (by omega))
  clear hz hS
  go_enter Tryz.func4, Tryz.ntmps4
  go_wp2_with fail
  (with_reducible refine HSR.out.mono ?_)
  rintro e1 x1 ⟨v1, rfl, hsx, hb1⟩
  obtain ⟨g, cc, F, rfl, hg, hF⟩ := hsx
  have HF := Lib.hid hF
  have HB1 := Lib.hid hb1
  clear hb1 hF HSR
  go_wp2_with fail
  go_loopw [10] (fun i wr => ∃ n : Nat, n ≤ 6 ∧ i = .int .i64 n ∧ Below x1.heap.size x1 wr) (fun i _ => 6 - (intOf i).toNat)
  case atStart => exact ⟨0, Nat.zero_le _, rfl, Below.refl _ _⟩
  case round =>
    obtain ⟨n, hn, rfl, hb⟩ := hrel
    have HBr := Lib.hid (HB1.out.trans (hb.mono HB1.out.size))
    by_cases hlt : n < 6
    · obtain ⟨hcn, hsz⟩ := HF.out n hlt
      have hcn0 := (hb.cell (p := ⟨g, n, none⟩) hg).trans hcn
      have hgr : g < wr.heap.size := by have := hb.size; omega
      have HBx := Lib.hid hb
      clear hcn hb
      generalize F n = tx at *
      have hni : (n : Int) < 6 := by omega
      have hn0 : (0 : Int) ≤ (n : Int) := by omega
      have HC := Lib.hid (HRT.out tx hsz wr HBr.out)
      have HX := Lib.hid (fun X => HRX.out tx hsz X)
      have HSL := Lib.hid (sL_le tx.data.toList)
      unfold RdS at HX
      generalize readS tx.data.toList = r at *
      generalize sE r = rE at *
      generalize sP r = rP at *
      go_wp2_with fail
      (with_reducible refine HC.out.mono ?_)
      rintro e2 y ⟨Av, nv, cv, Ap, np, cp, f1, n1, s1, A1, l1, c1, rfl, ht1, hb2⟩
      obtain ⟨Y, eY, k0, k1, b2, z2⟩ := box_scheme y (.slice Av nv cv) (.slice none 0 0) (.slice Ap np cp) (.int .i64 f1) (.int .i64 n1) (.string s1) (.slice A1 l1 c1) (.int .i64 rE) (.int .i64 rP)
      have hbY := hb2.trans (b2.mono hb2.size)
      have hcnY := (hbY.cell (p := ⟨g, n, none⟩) hgr).trans hcn0
      have HRY := Lib.hid (ht1.on b2)
      have HEY := Lib.hid eY
      have HK0 := Lib.hid k0
      have HK1 := Lib.hid k1
      have HXc := Lib.hid (HX.out Y)
      have HBY := Lib.hid (HBx.out.trans (hbY.mono HBx.out.size))
      have hyY : y.heap.size + 1 < Y.heap.size := by omega
      clear hbY hb2 b2 eY k0 k1 ht1
      go_upto_region 6 with (fail)
      rw [HEY.out]
      go_wp2_with fail
      (with_reducible refine HXc.out.mono ?_)
      rintro e3 z ⟨f2, n2, s2, A2, l2, c2, Bp, mp, dp, Bv, mv, dv, I, rfl, ht2, hb3⟩
      obtain ⟨Z, eZ, k3, b3, z3⟩ := box9 z (.int .i64 f2) (.int .i64 n2) (.string s2) (.slice A2 l2 c2) (.slice Bp mp dp) (.slice Bv mv dv) (.int .i64 I) (.int .i64 rE) (.int .i64 rP) 35
      have hbZ := hb3.trans (b3.mono hb3.size)
      have HEQ := Lib.hid (sameS_uni (A2 := none) (n2 := 0) (c2 := 0) (B2 := none) (l2 := 0) (d2 := 0) HSL.out (HRY.out.on hbZ) (ht2.on b3))
      have HBZ := Lib.hid (HBY.out.trans (hbZ.mono HBY.out.size))
      have hyZ : y.heap.size + 1 < z.heap.size := by have := hb3.size; omega
      have hk0Z := (hbZ.block y.heap.size (by omega)).trans HK0.out
      obtain ⟨a0, a1, a2, a3, a4, a5, a6, a7, a8, a9, a10, a11, a12, a13, a14⟩ := seven_cells hk0Z
      have HK0Z := Lib.hid hk0Z
      have hk1Z := (hbZ.block (y.heap.size + 1) (by omega)).trans HK1.out
      obtain ⟨b0, b1, b2, b4, b5⟩ := pair_cells hk1Z
      obtain ⟨v0, v1, v2, v3, v4, v5, v6, v7, v8, _⟩ := nine_cells k3
      have HEZ := Lib.hid eZ
      clear hbZ hb3 b3 eZ k3 ht2
      go_upto_region 7 with (fail)
      rw [HEZ.out]
      go_wp2_with fail
      (with_reducible refine HEQ.out.mono ?_)
      rintro e8 x ⟨rfl, hb4⟩
      have HB4 := Lib.hid (HBZ.out.trans (hb4.mono HBZ.out.size))
      have hk0x := (hb4.block y.heap.size (by omega)).trans HK0Z.out
      obtain ⟨q0, q1, q2, q3, q4, q5, q6, q7, q8, q9, q10, q11, q12, q13, q14⟩ := seven_cells hk0x
      clear hb4 hk0x
      go_wp2_with fail
      go_roundw
      case rel => exact ⟨n + 1, by omega, by go_num, HB4.out⟩
      case measure => simp [intOf]; omega
    · have hn6 : n = 6 := by omega
      subst hn6
      have HLV := Lib.hid (livesT_any wr (HS.out.on HBr.out))
      clear hb
      go_wp2_with fail
      (with_reducible refine HLV.out.mono ?_)
      rintro e9 x9 ⟨rfl, hb9⟩
      have HE := Lib.hid (ret_trueS HBr.out hb9)
      clear hb9
      go_wp2
      go_ret
      exact HE.out
theorem treadSchemes_walk (s : ByteArray) (A : Option Addr) (len cap : Nat) (at0 : Int) (c : Int) (w : World) (hs : s.size ≤ maxLen) (hl : SomeInts w (.slice A len cap)) (ha1 : -9223372036854775808 ≤ at0) (ha2 : at0 ≤ 9223372036854775807) (hc1 : 0 ≤ c) (hc2 : c ≤ 255) (hS : SymsIn w) : Calls Tryz.prog 4 #[.string s, .slice A len cap, .int .i64 at0, .int .u8 c] w (TrueB w) := treadSchemes_law s A len cap at0 c w hs hl hS ha1 ha2 hc1 hc2
end Go.Proofs.YtbdfjboojokgdaaGreatDoor
