/- The contract of the document's Read (chapter 5), for a type and for a scheme. Condition: the text has at most 2^40 bytes. The walk of TreadTypes (chapter 5): it tells true for every text, slice of numbers, number and byte. Condition: the list of symbols stands in memory as the program's text lays it. -/
import Derived.Test.YtbdfjboojokgdaaGreatDoorM47
import Derived.Test.YtbdfjboojokgdaaGreatDoorM44
import Derived.Test.YtbdfjboojokgdaaGreatDoorM43
import Derived.Test.YtbdfjboojokgdaaGreatDoorM42
namespace Go.Proofs.YtbdfjboojokgdaaGreatDoor
open Go.RowKit Lx

/-- What the document's Read tells of a type. -/
def RdT (s : List UInt8) (w : World) (e : Ending) (w' : World) : Prop := ∃ f n s0 A l c I, e = .returned (.agg #[.int .i64 f, .int .i64 n, .string s0, .slice A l c, .slice none 0 0, .slice none 0 0, .int .i64 I, .int .i64 (gE (readT s)), .int .i64 (gP (readT s))]) ∧ ResTy w' (readT s) f n s0 A l c ∧ Below w.heap.size w w'
theorem rdt_no {s : List UInt8} {w W : World} {ec p : Nat} (h : readT s = .no ec p) (hb : Below w.heap.size w W) (x0 x1 x2 x3 x4 x5 x6 x7 x8 : Value) : RdT s w (.returned (.agg #[.int .i64 0, .int .i64 0, .string ⟨#[]⟩, .slice none 0 0, .slice none 0 0, .slice none 0 0, .int .i64 0, .int .i64 ec, .int .i64 p])) (putX W w.heap.size x0 x1 x2 x3 x4 x5 x6 x7 x8) := by
  unfold RdT
  rw [h]
  exact ⟨0, 0, ⟨#[]⟩, none, 0, 0, 0, rfl, ⟨rfl, rfl, rfl, rfl, rfl, rfl⟩, putX_below hb (Nat.le_refl _) _ _ _ _ _ _ _ _ _⟩
theorem rdt_ok {s : List UInt8} {w W : World} {t : Ty} {q : List Tok} {f n : Int} {s0 : ByteArray} {A : Option Addr} {l c : Nat} {I : Int} (h : readT s = .ok t q) (ht : TyAt (fun b => w.heap.size + 1 ≤ b) W t (.agg #[.int .i64 f, .int .i64 n, .string s0, .slice A l c])) (hb : Below w.heap.size w W) (x0 x1 x2 x3 x4 x5 x6 x7 x8 : Value) : RdT s w (.returned (.agg #[.int .i64 f, .int .i64 n, .string s0, .slice A l c, .slice none 0 0, .slice none 0 0, .int .i64 I, .int .i64 0, .int .i64 0])) (putX W w.heap.size x0 x1 x2 x3 x4 x5 x6 x7 x8) := by
  unfold RdT
  rw [h]
  exact ⟨f, n, s0, A, l, c, I, rfl, (putX_ty ht (Nat.lt_succ_self _) _ _ _ _ _ _ _ _ _).bound', putX_below hb (Nat.le_refl _) _ _ _ _ _ _ _ _ _⟩
set_option maxRecDepth 100000 in
set_option maxHeartbeats 2000000 in
theorem readTX_any (s0 : ByteArray) (w : World) (hm : s0.size ≤ 1099511627776) : Calls Tryz.prog 8 #[.string s0, .bool false] w (RdT s0.data.toList w) := by
  obtain ⟨W, eW, k0, b1, z1⟩ := box9 w (.int .i64 0) (.int .i64 0) (.string ⟨#[]⟩) (.slice none 0 0) (.slice none 0 0) (.slice none 0 0) (.int .i64 0) (.int .i64 0) (.int .i64 0) 35
  have HLX := Lib.hid (reflexR_any s0 W hm)
  have HEW := Lib.hid eW
  have HB := Lib.hid b1
  have HK0 := Lib.hid k0
  have HRD : Hid (∀ r, readT s0.data.toList = r → RdT s0.data.toList = RdT s0.data.toList) := fun _ _ => rfl
  have hrd : readT s0.data.toList = match lexL s0.data.toList with
    | .error (e, p) => .no e p
    | .ok l => match typeL l 0 with
      | .ok t (c :: q) => if c.kind = 6 then .ok t (c :: q) else .no 12 c.place
      | .ok _ [] => .no 0 0
      | .no e p => .no e p := rfl
  have hlerr := fun e p => lexL_err (l := s0.data.toList) (e := e) (p := p)
  have hgood := fun r => lexL_good (l := s0.data.toList) (r := r)
  clear eW b1 k0 HRD
  generalize hsl : s0.data.toList = sl at *
  generalize hrr : readT sl = rr at *
  generalize lexL sl = lx at *
  go_enter Tryz.func8, Tryz.ntmps8
  go_upto_region 1 with (fail)
  rw [HEW.out]
  go_wp2_with fail
  (with_reducible refine HLX.out.mono ?_)
  intro e1 y hy
  cases lx with
  | error x =>
    obtain ⟨e, p⟩ := x
    obtain ⟨rfl, hb⟩ := hy
    simp only at hrd
    have he := hlerr e p rfl
    have he0 : ((e : Int) == 0) = false := by rw [beq_eq_false_iff_ne]; omega
    obtain ⟨Y, eY, k1, b2, z2⟩ := box2h y (.int .i64 e) (.int .i64 p) 30
    have hbY := hb.trans (b2.mono hb.size)
    obtain ⟨p0, p1, p2, p3, p4⟩ := pair_cells k1
    obtain ⟨u0, u1, u2, u3, u4, u5, u6, u7, u8, f0, f1, f2, f3, f4, f5, f6, f7, f8, hw0⟩ := nine_cells ((hbY.block w.heap.size (by omega)).trans HK0.out)
    have hne : w.heap.size < y.heap.size := by have := hb.size; omega
    have HEY := Lib.hid eY
    have HE := Lib.hid (rdt_no (hrr.trans hrd) (HB.out.trans (hbY.mono HB.out.size)) (.int .i64 0) (.int .i64 0) (.string ⟨#[]⟩) (.slice none 0 0) (.slice none 0 0) (.slice none 0 0) (.int .i64 0) (.int .i64 e) (.int .i64 p))
    clear hb eY k1 b2 hbY hlerr hgood hrd hrr
    go_upto_region 2 with (fail)
    rw [HEY.out]
    go_wp2_with fail
    exact bodyPost_ret (v := .agg #[.int .i64 0, .int .i64 0, .string ⟨#[]⟩, .slice none 0 0, .slice none 0 0, .slice none 0 0, .int .i64 0, .int .i64 e, .int .i64 p]) (by simp [results, Tryz.results8, go_sem, u0, u1, u2, u3, u4, u5, u6, u7, u8]) rfl HE.out
  | ok L =>
    obtain ⟨v, rfl, hr, hb⟩ := hy
    obtain ⟨hE, hSZ, hLl⟩ := hgood L rfl
    obtain ⟨g, cap, rfl, hg, hT⟩ := tokRow_cells hr hE.ne
    simp only at hrd
    obtain ⟨Y, eY, k1, b2, z2⟩ := box2h y (.int .i64 0) (.int .i64 0) 30
    have hbY := hb.trans (b2.mono hb.size)
    have hTY := hT.block (w' := Y) (b2.block g hg)
    have HTP : Hid (Calls Tryz.prog 23 #[.slice (some ⟨g, 0, none⟩) L.length cap, .int .i64 0, .int .i64 0] Y (XRes L (typeL L 0) Y)) := typeX_any (cap := cap) (i := 0) (o := 0) hTY (by omega) (by omega) (by omega) hE
    have herr := fun e p => typeL_err (e := e) (p := p) (o := 0) hE
    have hok := fun x q => typeL_ok (t := x) (q := q) (o := 0) hE
    obtain ⟨p0, p1, p2, p3, p4⟩ := pair_cells k1
    have hne : w.heap.size < y.heap.size := by have := hb.size; omega
    have HEY := Lib.hid eY
    have HKY := Lib.hid ((hbY.block w.heap.size (by omega)).trans HK0.out)
    have HBY := Lib.hid (HB.out.trans (hbY.mono HB.out.size))
    have HTY := Lib.hid hTY
    have hgY : g < Y.heap.size := by omega
    have hLI : (0 : Int) < (L.length : Int) := by have := List.length_pos_iff.2 hE.ne; omega
    clear hb eY k1 b2 hbY hlerr hgood hr hT hTY hSZ
    generalize typeL L 0 = ra at *
    go_upto_region 2 with (fail)
    rw [HEY.out]
    go_wp2_with fail
    (with_reducible refine HTP.out.mono ?_)
    intro e2 z hz
    cases ra with
    | no e p =>
      obtain ⟨rfl, hb⟩ := hz
      simp only at hrd
      have he := herr e p rfl
      have he0 : ((e : Int) == 0) = false := by rw [beq_eq_false_iff_ne]; omega
      obtain ⟨Z, eZ, k2, b3, z3⟩ := box9 z (.int .i64 0) (.int .i64 0) (.string ⟨#[]⟩) (.slice none 0 0) (.slice none 0 0) (.slice none 0 0) (.int .i64 0) (.int .i64 e) (.int .i64 p) 35
      have hbZ := hb.trans (b3.mono hb.size)
      obtain ⟨v0, v1, v2, v3, v4, v5, v6, v7, v8, _⟩ := nine_cells k2
      obtain ⟨u0, u1, u2, u3, u4, u5, u6, u7, u8, f0, f1, f2, f3, f4, f5, f6, f7, f8, hw0⟩ := nine_cells ((hbZ.block w.heap.size (by omega)).trans HKY.out)
      have hne2 : w.heap.size < z.heap.size := by have := hb.size; omega
      have HEZ := Lib.hid eZ
      have HE := Lib.hid (rdt_no (hrr.trans hrd) (HBY.out.trans (hbZ.mono HBY.out.size)) (.int .i64 0) (.int .i64 0) (.string ⟨#[]⟩) (.slice none 0 0) (.slice none 0 0) (.slice none 0 0) (.int .i64 0) (.int .i64 e) (.int .i64 p))
      clear hb eZ k2 b3 hbZ herr hok hrd hrr
      go_upto_region 5 with (fail)
      rw [HEZ.out]
      go_wp2_with fail
      exact bodyPost_ret (v := .agg #[.int .i64 0, .int .i64 0, .string ⟨#[]⟩, .slice none 0 0, .slice none 0 0, .slice none 0 0, .int .i64 0, .int .i64 e, .int .i64 p]) (by simp [results, Tryz.results8, go_sem, u0, u1, u2, u3, u4, u5, u6, u7, u8]) rfl HE.out
    | ok t q =>
      obtain ⟨f1', n1, s1, A1, l1, c1, rfl, ht, hb⟩ := hz
      have hao := hok t q rfl
      cases q with
      | nil => exact absurd rfl hao.1.ne
      | cons c q =>
      simp only at hrd
      have hdc : L.drop (L.length - (c :: q).length) = c :: q := drop_suf (i := 0) (by simpa using hao.2.1)
      obtain ⟨hci, hct, hcd, hcl⟩ := drop_at hdc
      generalize hP : L.length - (c :: q).length = P at *
      obtain ⟨Z, eZ, k2, b3, z3⟩ := box9 z (.int .i64 f1') (.int .i64 n1) (.string s1) (.slice A1 l1 c1) (.slice none 0 0) (.slice none 0 0) (.int .i64 (P : Int)) (.int .i64 0) (.int .i64 0) 35
      have hbZ := hb.trans (b3.mono hb.size)
      obtain ⟨v0, v1, v2, v3, v4, v5, v6, v7, v8, _⟩ := nine_cells k2
      have hkZ := (hbZ.block w.heap.size (by omega)).trans HKY.out
      obtain ⟨u0, u1, u2, u3, u4, u5, u6, u7, u8, f0, f1, f2, f3, f4, f5, f6, f7, f8, hw0⟩ := nine_cells hkZ
      have hTZ := HTY.out.block (w' := Z) (hbZ.block g hgY)
      obtain ⟨d0, d1, d2, d3⟩ := hTZ P hci
      rw [hct] at d0 d1 d2 d3
      have hne2 : w.heap.size < z.heap.size := by have := hb.size; omega
      have hgz : g < z.heap.size := by have := hb.size; omega
      have hPI : (P : Int) < (L.length : Int) := by omega
      have hP0 : (0 : Int) ≤ (P : Int) := by omega
      have hYw : w.heap.size + 1 ≤ Y.heap.size := by omega
      have HEZ := Lib.hid eZ
      have HBZ := Lib.hid (HBY.out.trans (hbZ.mono HBY.out.size))
      have HTZ := Lib.hid ((ht.mono (Q := fun b => w.heap.size + 1 ≤ b) (fun b (hb : Y.heap.size ≤ b) => (by omega : w.heap.size + 1 ≤ b))).on b3)
      have HKZ := Lib.hid hkZ
      by_cases h6 : c.kind = 6
      · rw [if_pos h6] at hrd
        have h6I : (c.kind : Int) = 6 := by omega
        have HE := Lib.hid (rdt_ok (I := (P : Int)) (hrr.trans hrd) HTZ.out HBZ.out (.int .i64 f1') (.int .i64 n1) (.string s1) (.slice A1 l1 c1) (.slice none 0 0) (.slice none 0 0) (.int .i64 (P : Int)) (.int .i64 0) (.int .i64 0))
        clear hb eZ k2 b3 hbZ herr hok hrd hrr hao ht hkZ hTZ hdc hct hcd hcl hP
        generalize (c.kind : Int) = ck at *
        subst h6I
        go_upto_region 5 with (fail)
        rw [HEZ.out]
        go_wp2_with fail
        exact bodyPost_ret (v := .agg #[.int .i64 f1', .int .i64 n1, .string s1, .slice A1 l1 c1, .slice none 0 0, .slice none 0 0, .int .i64 (P : Int), .int .i64 0, .int .i64 0]) (by simp [results, Tryz.results8, go_sem, u0, u1, u2, u3, u4, u5, u6, u7, u8]) rfl HE.out
      · rw [if_neg h6] at hrd
        have h6I : ((c.kind : Int) == 6) = false := by rw [beq_eq_false_iff_ne]; omega
        have HBD := Lib.hid (bad_any 12 c Z)
        have HRR := Lib.hid (hrr.trans hrd)
        have hwZ : w.heap.size < Z.heap.size := by omega
        clear hb eZ k2 b3 hbZ herr hok hrd hrr hao ht hkZ hTZ hdc hct hcd hcl hP u0 u1 u2 u3 u4 u5 u6 u7 u8 f0 f1 f2 f3 f4 f5 f6 f7 f8
        go_upto_region 5 with (fail)
        rw [HEZ.out]
        go_wp2_with fail
        (with_reducible refine HBD.out.mono ?_)
        rintro e3 x ⟨rfl, hbx⟩
        obtain ⟨u0, u1, u2, u3, u4, u5, u6, u7, u8, f0, f1, f2, f3, f4, f5, f6, f7, f8, hw0⟩ := nine_cells ((hbx.block _ hwZ).trans HKZ.out)
        have HE := Lib.hid (rdt_no HRR.out (HBZ.out.trans (hbx.mono HBZ.out.size)) (.int .i64 0) (.int .i64 0) (.string ⟨#[]⟩) (.slice none 0 0) (.slice none 0 0) (.slice none 0 0) (.int .i64 0) (.int .i64 12) (.int .i64 c.place))
        clear hbx
        go_wp2_with fail
        exact bodyPost_ret (v := .agg #[.int .i64 0, .int .i64 0, .string ⟨#[]⟩, .slice none 0 0, .slice none 0 0, .slice none 0 0, .int .i64 0, .int .i64 12, .int .i64 c.place]) (by simp [results, Tryz.results8, go_sem, u0, u1, u2, u3, u4, u5, u6, u7, u8]) rfl HE.out
end Go.Proofs.YtbdfjboojokgdaaGreatDoor
namespace Go.Proofs.YtbdfjboojokgdaaGreatDoor
open Go.RowKit Lx

theorem box_type (w : World) (x0 x1 x2 x3 y0 y1 : Value) : ∃ W, (w.alloc (.cells #[x0, x1, x2, x3] 27)).alloc (.cells #[y0, y1] 30) = W ∧
    W.heap[w.heap.size]? = some (.cells #[x0, x1, x2, x3] 27) ∧ W.heap[w.heap.size + 1]? = some (.cells #[y0, y1] 30) ∧ Below w.heap.size w W ∧ W.heap.size = w.heap.size + 2 := by
  refine ⟨_, rfl, ?_, ?_, below2 w _ _, by simp⟩
  · exact ((below_new _ _).block _ (by simp)).trans (MapKept.heap_alloc w (.cells #[x0, x1, x2, x3] 27)).1
  · simpa using (MapKept.heap_alloc (w.alloc (.cells #[x0, x1, x2, x3] 27)) (.cells #[y0, y1] 30)).1
theorem readT_uni {r : Got} {w : World} {F : FuncId} {vs : Array Value} (h : Calls Tryz.prog F vs w (ReadTRes r w)) : Calls Tryz.prog F vs w fun e w' => ∃ f n s A l c, e = .returned (.tuple #[.agg #[.int .i64 f, .int .i64 n, .string s, .slice A l c], .agg #[.int .i64 (gE r), .int .i64 (gP r)]]) ∧ ResTy w' r f n s A l c ∧ Below w.heap.size w w' := by
  refine h.mono (fun e w' hr => ?_)
  cases r with
  | ok t q =>
    obtain ⟨f, n, s, A, l, c, rfl, ht, hb⟩ := hr
    exact ⟨f, n, s, A, l, c, rfl, ht.bound', hb⟩
  | no e p =>
    obtain ⟨rfl, hb⟩ := hr
    exact ⟨0, 0, ⟨#[]⟩, none, 0, 0, rfl, ⟨rfl, rfl, rfl, rfl, rfl, rfl⟩, hb⟩
theorem ret_true {w X Y : World} (h : Below w.heap.size w X) (h2 : Below X.heap.size X Y) : TrueB w (.returned (.bool true)) Y := ⟨rfl, h.trans (h2.mono h.size)⟩
set_option maxRecDepth 100000 in
set_option maxHeartbeats 4000000 in
theorem treadTypes_law (s : ByteArray) (A : Option Addr) (len cap : Nat) (at0 : Int) (c : Int) (w : World) (hs : s.size ≤ maxLen) (hl : SomeInts w (.slice A len cap)) (hS : SymsIn w) (ha1 : -9223372036854775808 ≤ at0) (ha2 : at0 ≤ 9223372036854775807) (hc1 : 0 ≤ c) (hc2 : c ≤ 255) :
    Calls Tryz.prog 3 #[.string s, .slice A len cap, .int .i64 at0, .int .u8 c] w (TrueB w) := by
  obtain ⟨zs, hz⟩ := hl
  have HSR := Lib.hid (srcs_any s _ zs at0 c w hs hz ha1 ha2 hc1 hc2)
  have HS := Lib.hid hS
  have heq := eq_at
  have hgd := guard_at
  have HRT := Lib.hid (fun (x : ByteArray) (hx : x.size ≤ 1048576) (X : World) (hb : Below w.heap.size w X) => readT_uni (readType_any x X (hS.on hb) (by omega)))
  have HRX := Lib.hid (fun (x : ByteArray) (hx : x.size ≤ 1048576) (X : World) => readTX_any x X (by omega))
  clear hz hS
  go_enter Tryz.func3, Tryz.ntmps3
  go_wp2_with fail
  (with_reducible refine HSR.out.mono ?_)
  rintro e1 x1 ⟨v1, rfl, hsx, hb1⟩
  obtain ⟨g, cc, F, rfl, hg, hF⟩ := hsx
  have HF := Lib.hid hF
  have HB1 := Lib.hid hb1
  clear hb1 hF HSR
  go_wp2_with fail
  go_loopw [10] (fun i wr => ∃ n : Nat, n ≤ 6 ∧ i = .int .i64 n ∧ Below x1.heap.size x1 wr) (fun i _ => 6 - (intOf i).toNat)
  case atStart => exact ⟨0, Nat.zero_le _, rfl, Below.refl _ _⟩
  case round =>
    obtain ⟨n, hn, rfl, hb⟩ := hrel
    have HBr := Lib.hid (HB1.out.trans (hb.mono HB1.out.size))
    by_cases hlt : n < 6
    · obtain ⟨hcn, hsz⟩ := HF.out n hlt
      have hcn0 := (hb.cell (p := ⟨g, n, none⟩) hg).trans hcn
      have hgr : g < wr.heap.size := by have := hb.size; omega
      have HBx := Lib.hid hb
      clear hcn hb
      generalize F n = tx at *
      have hni : (n : Int) < 6 := by omega
      have hn0 : (0 : Int) ≤ (n : Int) := by omega
      have HC := Lib.hid (HRT.out tx hsz wr HBr.out)
      have HX := Lib.hid (fun X => HRX.out tx hsz X)
      unfold RdT at HX
      generalize readT tx.data.toList = r at *
      generalize gE r = rE at *
      generalize gP r = rP at *
      go_wp2_with fail
      (with_reducible refine HC.out.mono ?_)
      rintro e2 y ⟨f1, n1, s1, A1, l1, c1, rfl, ht1, hb2⟩
      obtain ⟨Y, eY, k0, k1, b2, z2⟩ := box_type y (.int .i64 f1) (.int .i64 n1) (.string s1) (.slice A1 l1 c1) (.int .i64 rE) (.int .i64 rP)
      have hbY := hb2.trans (b2.mono hb2.size)
      have hcnY := (hbY.cell (p := ⟨g, n, none⟩) hgr).trans hcn0
      have HRY := Lib.hid (ht1.on b2)
      have HEY := Lib.hid eY
      have HK0 := Lib.hid k0
      have HK1 := Lib.hid k1
      have HXc := Lib.hid (HX.out Y)
      have HBY := Lib.hid (HBx.out.trans (hbY.mono HBx.out.size))
      have hyY : y.heap.size + 1 < Y.heap.size := by omega
      clear hbY hb2 b2 eY k0 k1 ht1
      go_upto_region 6 with (fail)
      rw [HEY.out]
      go_wp2_with fail
      (with_reducible refine HXc.out.mono ?_)
      rintro e3 z ⟨f2, n2, s2, A2, l2, c2, I, rfl, ht2, hb3⟩
      obtain ⟨Z, eZ, k3, b3, z3⟩ := box9 z (.int .i64 f2) (.int .i64 n2) (.string s2) (.slice A2 l2 c2) (.slice none 0 0) (.slice none 0 0) (.int .i64 I) (.int .i64 rE) (.int .i64 rP) 35
      have hbZ := hb3.trans (b3.mono hb3.size)
      have HEQ := Lib.hid (equal_uni (HRY.out.on hbZ) (ht2.on b3))
      have HBZ := Lib.hid (HBY.out.trans (hbZ.mono HBY.out.size))
      have hyZ : y.heap.size + 1 < z.heap.size := by have := hb3.size; omega
      obtain ⟨a0, a1, a2, a3, a4, a5, a6, a7, a8⟩ := four_cells ((hbZ.block y.heap.size (by omega)).trans HK0.out)
      have hk1Z := (hbZ.block (y.heap.size + 1) (by omega)).trans HK1.out
      obtain ⟨b0, b1, b2, b4, b5⟩ := pair_cells hk1Z
      obtain ⟨v0, v1, v2, v3, v4, v5, v6, v7, v8, _⟩ := nine_cells k3
      have HEZ := Lib.hid eZ
      clear hbZ hb3 b3 eZ k3 ht2
      go_upto_region 7 with (fail)
      rw [HEZ.out]
      go_wp2_with fail
      (with_reducible refine HEQ.out.mono ?_)
      rintro e8 x ⟨rfl, hb4⟩
      have HB4 := Lib.hid (HBZ.out.trans (hb4.mono HBZ.out.size))
      clear hb4
      go_wp2_with fail
      go_roundw
      case rel => exact ⟨n + 1, by omega, by go_num, HB4.out⟩
      case measure => simp [intOf]; omega
    · have hn6 : n = 6 := by omega
      subst hn6
      have HLV := Lib.hid (livesT_any wr (HS.out.on HBr.out))
      clear hb
      go_wp2_with fail
      (with_reducible refine HLV.out.mono ?_)
      rintro e9 x9 ⟨rfl, hb9⟩
      have HE := Lib.hid (ret_true HBr.out hb9)
      clear hb9
      go_wp2
      go_ret
      exact HE.out
theorem treadTypes_walk (s : ByteArray) (A : Option Addr) (len cap : Nat) (at0 : Int) (c : Int) (w : World) (hs : s.size ≤ maxLen) (hl : SomeInts w (.slice A len cap)) (ha1 : -9223372036854775808 ≤ at0) (ha2 : at0 ≤ 9223372036854775807) (hc1 : 0 ≤ c) (hc2 : c ≤ 255) (hS : SymsIn w) : Calls Tryz.prog 3 #[.string s, .slice A len cap, .int .i64 at0, .int .u8 c] w (TrueB w) := treadTypes_law s A len cap at0 c w hs hl hS ha1 ha2 hc1 hc2
end Go.Proofs.YtbdfjboojokgdaaGreatDoor
