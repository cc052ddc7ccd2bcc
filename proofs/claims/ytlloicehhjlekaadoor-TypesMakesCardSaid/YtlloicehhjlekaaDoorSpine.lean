/- The contract of types.Spine at an application. Condition: the type has at most 2^40 nodes. -/
import Derived.Test.YtlloicehhjlekaaDoorRow
import Derived.Deep.LoopGhost
namespace Go.Proofs.YtlloicehhjlekaaDoor
open Go.RowKit

/-- What a row is made of, as RowF has it. -/
theorem ARow.rowF {base : Nat} {w : World} {ts : List Ty} {g c : Nat} (h : ARow base w ts (.slice (some ⟨g, 0, none⟩) ts.length c)) : RowF base w g ts.length (fun k => ts[k]?.getD (.con ⟨#[]⟩)) ∧ Blk w g (c * 4) ∧ ts.length ≤ c ∧ c ≤ maxLen ∧ base ≤ g := by
  obtain ⟨cs, ho, ht⟩ := h
  have ho2 := ho
  rcases ho.2 with ⟨e, _⟩ | ⟨g', cap, cur, e, hb, hh, h1, h2, h3, h4⟩
  · cases e
  · injection e with e1 e2 e3
    injection e1 with e1
    injection e1 with e1
    subst e1 e3
    refine ⟨fun k hk => ?_, ⟨cur, hh, h3⟩, h1, h2, hb⟩
    obtain ⟨x0, x1, x2, x3, c0, c1, c2, c3, hx⟩ := ht k hk
    refine ⟨x0, x1, x2, x3, ?_, ?_, ?_, ?_, ?_⟩
    · rw [ho2.cellAt _ (by omega)]; exact c0
    · rw [ho2.cellAt _ (by omega)]; exact c1
    · rw [ho2.cellAt _ (by omega)]; exact c2
    · rw [ho2.cellAt _ (by omega)]; exact c3
    · dsimp only; rw [List.getElem?_eq_getElem hk]; exact hx.mono (fun b hb => ⟨hb.1, fun e => hb.2 (by rw [e]; rfl)⟩)
theorem ARow.some {base : Nat} {w : World} {ts : List Ty} {v : Value} (h : ARow base w ts v) (hne : ts ≠ []) : ∃ g c, v = .slice (some ⟨g, 0, none⟩) ts.length c := by
  obtain ⟨cs, ho, _⟩ := h
  rcases ho.2 with ⟨h1, h2⟩ | ⟨g, cap, cur, h1, _⟩
  · exact absurd (List.eq_nil_of_length_eq_zero h2) hne
  · exact ⟨g, cap, h1⟩
theorem RowF.tys {base : Nat} {w : World} {g n : Nat} {ts : List Ty} {c : Nat} (h : RowF base w g n (fun k => ts[k]?.getD (.con ⟨#[]⟩))) (hn : n = ts.length) (hg : g < w.heap.size) (hc : n ≤ c) (hm : c ≤ maxLen) : TysAt (fun _ => True) w ts (.slice (some ⟨g, 0, none⟩) n c) := by
  subst hn
  have hch : ∀ k, ∃ x : Nat → Value, ∀ (h : k < ts.length), (∀ j, j < 4 → w.cell? ⟨g, 0 + k * 4 + j, none⟩ = some (x j)) ∧ TyAt (fun _ => True) w ts[k] (.agg #[x 0, x 1, x 2, x 3]) := by
    intro k
    by_cases hk : k < ts.length
    · obtain ⟨y0, y1, y2, y3, c0, c1, c2, c3, hy⟩ := h k hk
      refine ⟨fun j => if j = 0 then y0 else if j = 1 then y1 else if j = 2 then y2 else y3, fun _ => ⟨fun j hj => ?_, ?_⟩⟩
      · rw [Nat.zero_add]
        have : j = 0 ∨ j = 1 ∨ j = 2 ∨ j = 3 := by omega
        rcases this with rfl | rfl | rfl | rfl
        · exact c0
        · exact c1
        · exact c2
        · exact c3
      · dsimp only at hy; rw [List.getElem?_eq_getElem hk] at hy; exact hy.all
    · exact ⟨fun _ => .int .i64 0, fun h => absurd h hk⟩
  obtain ⟨u, hu⟩ : ∃ u : Nat → Nat → Value, ∀ k (h : k < ts.length), (∀ j, j < 4 → w.cell? ⟨g, 0 + k * 4 + j, none⟩ = some (u k j)) ∧ TyAt (fun _ => True) w ts[k] (.agg #[u k 0, u k 1, u k 2, u k 3]) := ⟨fun k => Classical.choose (hch k), fun k => Classical.choose_spec (hch k)⟩
  exact ⟨_, c, u, rfl, hc, hm, .inr ⟨g, 0, rfl, trivial, hg, fun i j hi hj => (hu i hi).1 j hj⟩, fun i hi => (hu i hi).2⟩
/-- Stores into a box below the row leave it. -/
theorem ARow.box {base : Nat} {w : World} {ts : List Ty} {v : Value} {b : Nat} (h : ARow base w ts v) (hb : b < base) (x0 x1 x2 x3 : Value) : ARow base ((((w.setCell ⟨b, 0, none⟩ x0).setCell ⟨b, 1, none⟩ x1).setCell ⟨b, 2, none⟩ x2).setCell ⟨b, 3, none⟩ x3) ts v := by
  obtain ⟨cs, ho, ht⟩ := h
  refine ⟨cs, ⟨ho.1, ?_⟩, fun i hi => ?_⟩
  · rcases ho.2 with h2 | ⟨g, cap, cur, h1, h2, h3, h4⟩
    · exact .inl h2
    · refine .inr ⟨g, cap, cur, h1, h2, ?_, h4⟩
      have hne : g ≠ b := by omega
      rw [Below.heap_setCell _ _ _ _ hne, Below.heap_setCell _ _ _ _ hne, Below.heap_setCell _ _ _ _ hne, Below.heap_setCell _ _ _ _ hne]
      exact h3
  · obtain ⟨y0, y1, y2, y3, c0, c1, c2, c3, hx⟩ := ht i hi
    exact ⟨y0, y1, y2, y3, c0, c1, c2, c3, hx.keep (.box (fun hp => by have := hp.1; omega) _ _ _ _)⟩
/-- What Spine told of an application. -/
def SpineRes (w : World) (t : Ty) (e : Ending) (w' : World) : Prop := ∃ (h : Ty) (al : List Ty) (v v' : Value), e = .returned (.tuple #[v, v']) ∧ TyAt (fun _ => True) w' h v ∧ TysAt (fun _ => True) w' al v' ∧ h.isApp = false ∧ h.give al = t ∧ al.length ≤ t.sz ∧ Below w.heap.size w w'
set_option maxRecDepth 100000 in
set_option maxHeartbeats 1000000 in
theorem spine_any (P : Nat → Prop) (t : Ty) (v : Value) (w : World) (h : TyAt P w t v) (hap : t.isApp = true) (hsz : t.sz ≤ 1099511627776) : Calls Tryd.prog 16 #[v] w (SpineRes w t) := by
  obtain ⟨f0, n0, s0, A0, l0, c0, rfl⟩ := h.flat
  obtain ⟨W, eW, q1, q2, b2, z2⟩ := two_boxes w (.int .i64 f0) (.int .i64 n0) (.string s0) (.slice A0 l0 c0) (.int .i64 0) (.int .i64 0) (.string ⟨#[]⟩) (.slice none 0 0) 25 25
  obtain ⟨j0, hj, hy0, hy1, hy2⟩ := info_parts' Tryd.info25
  have HT := Lib.hid (h.bound'.on b2)
  have HEW := Lib.hid eW
  have HQ1 := Lib.hid q1
  have HQ2 := Lib.hid q2
  have HB2 := Lib.hid b2
  have HAP := Lib.hid hap
  clear eW q1 q2 b2 h hap
  go_enter Tryd.func16, Tryd.ntmps16
  go_wp2_with fail
  rw [HEW.out]
  go_loopg [4] t.sz (fun g sv wr => ∃ (cur : Ty) (us : List Ty) (f n : Int) (s : ByteArray) (A : Option Addr) (l c : Nat), cur.sz ≤ g ∧ cur.give us.reverse = t ∧ us.length + cur.sz ≤ t.sz ∧ (us = [] → cur = t) ∧ TyAt (fun b => b < w.heap.size) wr cur (.agg #[.int .i64 f, .int .i64 n, .string s, .slice A l c]) ∧
      Box4 wr w.heap.size (.int .i64 f) (.int .i64 n) (.string s) (.slice A l c) ∧ Box4 wr (w.heap.size + 1) (.int .i64 0) (.int .i64 0) (.string ⟨#[]⟩) (.slice none 0 0) ∧ ARow (w.heap.size + 2) wr us sv ∧ Below w.heap.size w wr)
  case atStart => exact ⟨t, [], f0, n0, s0, A0, l0, c0, Nat.le_refl _, rfl, by simp, fun _ => rfl, HT.out, HQ1.out, HQ2.out, ARow.nil _ _, HB2.out⟩
  case round =>
    obtain ⟨cur, us, f, n, s, A, l, c, hg, hgive, hlen, hnil, hct, hbx, hbr, hrow, hbe⟩ := hrel
    obtain ⟨A9, c9, rfl⟩ := hrow.form
    have HG := Lib.hid hgive
    have HN := Lib.hid hnil
    have HC := Lib.hid hct
    have HBX := Lib.hid hbx
    have HBR := Lib.hid hbr
    have HROW := Lib.hid hrow
    have HBE := Lib.hid hbe
    have hbw := hbx.1
    obtain ⟨x0, x1, x2, x3, x4, x5, x6, x7, x8⟩ := hbx
    clear hgive hnil hct hbr hrow hbe
    go_wp2_with fail
    refine (applied_any _ cur _ _ HC.out).mono ?_
    rintro e y1 ⟨rfl, hb1⟩
    have HB1 := Lib.hid hb1
    cases hca : cur.isApp with
    | true =>
      obtain ⟨x', a', rfl⟩ : ∃ x a, cur = .app x a := by cases cur <;> first | exact ⟨_, _, rfl⟩ | cases hca
      have hc1 := HC.out.on hb1
      obtain ⟨sv, esv, hs⟩ := hc1.tys
      simp only [Ty.form, Ty.num, Ty.name, Ty.args, Value.agg.injEq, Array.mk.injEq, List.cons.injEq, and_true] at esv hs
      obtain ⟨e1, e2, e3, e4⟩ := esv
      injection e1 with _ e1
      injection e2 with _ e2
      injection e3 with e3
      subst e1 e2 e3 e4
      obtain ⟨Aq, cq, eq, _, _⟩ := hs.form
      injection eq with eq1 eq2 eq3
      subst eq1 eq2 eq3
      obtain ⟨g, off, A3, c3, rfl, hPg, hgl, k0, k1, k2, k3, hx⟩ := hs.at 0 (by simp)
      obtain ⟨_, _, A4, c4, e4, _, _, m0, m1, m2, m3, ha⟩ := hs.at 1 (by simp)
      injection e4 with e4
      injection e4 with e5 e6
      subst e5 e6
      simp only [List.getElem_cons_zero, List.getElem_cons_succ, Nat.zero_mul, Nat.one_mul, Nat.add_zero, List.length_cons, List.length_nil, Nat.zero_add, Nat.reduceAdd] at k0 k1 k2 k3 m0 m1 m2 m3 hx ha x4 ⊢
      have HX := Lib.hid hx
      have HA := Lib.hid ha
      have HGX : Hid (x'.give (us ++ [a']).reverse = t) := by
        show _ = t
        rw [List.reverse_append, ← HG.out]
        rfl
      have hsz1 : x'.sz + a'.sz + 1 ≤ gk := by simpa [Ty.sz] using hg
      have hsz2 : us.length + (x'.sz + a'.sz + 1) ≤ t.sz := by simpa [Ty.sz] using hlen
      have HB1' := Lib.hid (HBE.out.trans (hb1.mono HBE.out.size))
      have HBX1 := Lib.hid (HBX.out.on hb1)
      have HBR1 := Lib.hid (HBR.out.on hb1)
      have HROW1 := Lib.hid (HROW.out.on hb1)
      have HKS := Lib.hid (show y1.cell? ⟨g, off, none⟩ = some (.int .i64 x'.form) ∧ y1.cell? ⟨g, off + 1, none⟩ = some (.int .i64 x'.num) ∧ y1.cell? ⟨g, off + 2, none⟩ = some (.string x'.name) ∧ y1.cell? ⟨g, off + 3, none⟩ = some (.slice A3 x'.args.length c3) from ⟨k0, k1, k2, k3⟩)
      clear x0 x1 x2 x3 x4 x5 x6 x7 x8 hs hc1 hx ha hb1 HC HBX HBR HROW k0 k1 k2 k3 hca
      obtain ⟨x0, x1, x2, x3, x4, _⟩ := HBX1.out
      generalize a'.form = af, a'.num = an, a'.name = az, a'.args.length = al at *
      go_wp2_with fail
      refine (own_any a' _ _ _ HA.out).mono ?_
      rintro e y2 ⟨v2, rfl, hv2, hb2⟩
      obtain ⟨f2, n2, s2, A2, l2, c2, rfl⟩ := hv2.flat
      have hn3 := below_new y2 (.cells #[.int .i64 f2, .int .i64 n2, .string s2, .slice A2 l2 c2] 25)
      obtain ⟨y3, e3⟩ : ∃ y3, y2.alloc (.cells #[.int .i64 f2, .int .i64 n2, .string s2, .slice A2 l2 c2] 25) = y3 := ⟨_, rfl⟩
      have hnew : ∀ j u, [Value.int .i64 f2, .int .i64 n2, .string s2, .slice A2 l2 c2][j]? = some u → y3.cell? ((⟨y2.heap.size, 0, none⟩ : Addr).add j) = some u := by
        intro j u hju
        rw [Go.WideShapes.add_plain, ← e3, Nat.zero_add]
        exact row_new (by simpa using hju)
      rw [e3] at hn3
      have hb3 := hb2.trans (hn3.mono hb2.size)
      obtain ⟨cs, hown1, _⟩ := HROW1.out
      have HOWN1 := Lib.hid hown1
      clear hown1
      obtain ⟨cs, hown, hels⟩ := HROW1.out.on hb3
      have hone : ∀ u ∈ [Value.int .i64 f2, .int .i64 n2, .string s2, .slice A2 l2 c2], u.oneCell' = true := by simp [Value.oneCell']
      have hz9 : w.heap.size + 2 ≤ y3.heap.size := by have := HBR1.out.1; have := hb3.size; omega
      have hv3 := hv2.on hn3
      have HE3 := Lib.hid e3
      have HNEW := Lib.hid hnew
      have HONE := Lib.hid hone
      have HELS := Lib.hid hels
      have HV3 := Lib.hid hv3
      have HB3 := Lib.hid hb3
      have HOWN := Lib.hid hown
      clear hv2 hb2 hn3 e3 hnew hone hels hv3 hb3 hown x0 x1 x2 x3 x4
      have HW2 : Hid (∀ (v' : Value) (w2 : World), w2.ownsRow (w.heap.size + 2) 25 4 v' (us.length + 1) (cs ++ [.int .i64 f2, .int .i64 n2, .string s2, .slice A2 l2 c2]) → y3.grownBy w2 (Value.slice A9 us.length c9).ownBlock → (v'.ownBlock = (Value.slice A9 us.length c9).ownBlock ∨ v'.ownBlock = some y3.heap.size) →
          (∃ A5 c5, v' = .slice A5 (us ++ [a']).length c5) ∧ ARow (w.heap.size + 2) w2 (us ++ [a']) v' ∧ TyAt (fun b => b < w.heap.size) w2 x' (.agg #[.int .i64 x'.form, .int .i64 x'.num, .string x'.name, .slice A3 x'.args.length c3]) ∧
          Box4 w2 w.heap.size (.int .i64 4) (.int .i64 0) (.string ⟨#[]⟩) (.slice (some ⟨g, off, none⟩) 2 c) ∧ Box4 w2 (w.heap.size + 1) (.int .i64 0) (.int .i64 0) (.string ⟨#[]⟩) (.slice none 0 0) ∧ Below w.heap.size w w2 ∧
          (w2.cell? ⟨g, off, none⟩ = some (.int .i64 x'.form) ∧ w2.cell? ⟨g, off + 1, none⟩ = some (.int .i64 x'.num) ∧ w2.cell? ⟨g, off + 2, none⟩ = some (.string x'.name) ∧ w2.cell? ⟨g, off + 3, none⟩ = some (.slice A3 x'.args.length c3))) := by
        intro v' w2 ho hg2 hat
        have hB := (Below.refl (w.heap.size + 2) y3).grown hg2 hz9 (fun q hq => (HOWN.out.lt q hq).1)
        have hel := ARow.push HOWN.out HELS.out (HV3.out.mono (fun b (hb : y1.heap.size ≤ b) => ⟨by have := HBR1.out.1; omega, fun e => by have h9 := (HOWN1.out.lt _ e).2; omega⟩)) ho hg2 hat
        obtain ⟨A5, c5, e5⟩ := hel.form
        obtain ⟨j0', j1, j2, j3⟩ := HKS.out
        have hBy : Below w.heap.size y1 w2 := (HB3.out.mono (by have := HBR1.out.1; omega)).trans (hB.mono (by omega))
        refine ⟨⟨A5, c5, e5⟩, hel, HX.out.keep (.of_belowB (fun _ h => h) hBy), (HBX1.out.on HB3.out).below hB (by omega), (HBR1.out.on HB3.out).below hB (by omega), HB1'.out.trans hBy, ?_, ?_, ?_, ?_⟩
        · exact (hBy.cell (p := ⟨g, off, none⟩) hPg).trans j0'
        · exact (hBy.cell (p := ⟨g, off + 1, none⟩) hPg).trans j1
        · exact (hBy.cell (p := ⟨g, off + 2, none⟩) hPg).trans j2
        · exact (hBy.cell (p := ⟨g, off + 3, none⟩) hPg).trans j3
      clear HX HKS HB3 HELS HV3
      generalize hxf : x'.form = xf, x'.num = xn, x'.name = xs, x'.args.length = xl at *
      clear hxf
      go_wp2_with (at_builtin; rw [HE3.out]; refine wpList_append_own_at _ rfl (.tmp 7) (.tmp 13) 23 rfl (w.heap.size + 2) 25 j0 (.agg #[.int .i64 0, .int .i64 0, .string ByteArray.empty, .slice none 0 0]) 4 56 Tryd.underlying23 hj hy0 hy1 hy2 rfl (by decide) (.slice A9 us.length c9) us.length cs rfl HOWN.out ⟨y2.heap.size, 0, none⟩ 1 1 [.int .i64 f2, .int .i64 n2, .string s2, .slice A2 l2 c2] rfl rfl HNEW.out HONE.out (by unfold maxLen; omega) (by omega) hz9 ?_; intro v' w2 hown2 hg2 _ hat2; obtain ⟨⟨A5, c5, rfl⟩, hrow2, hx2, hbx2, hbr2, hbe2, p0, p1, p2, p3⟩ := HW2.out v' w2 hown2 hg2 hat2; have HBX2 := Lib.hid hbx2; obtain ⟨x0, x1, x2, x3, x4, x5, x6, x7, x8⟩ := hbx2; have HROW2 := Lib.hid hrow2; have HX2 := Lib.hid hx2; have HBR2 := Lib.hid hbr2; have HBE2 := Lib.hid hbe2; clear hrow2 hx2 hbr2 hbe2 hown2 hg2 hat2)
      go_roundg x'.sz
      case rel =>
        refine ⟨x', us ++ [a'], xf, xn, xs, A3, xl, c3, Nat.le_refl _, HGX.out, by simp; omega, fun h9 => by simp at h9, HX2.out.keep (.box (fun hx => by omega) _ _ _ _), HBX2.out.put _ _ _ _, HBR2.out.other (by omega) _ _ _ _, ?_, below_box HBE2.out (Nat.le_refl _) _ _ _ _⟩
        have h9 := HROW2.out.box (b := w.heap.size) (by omega) (.int .i64 xf) (.int .i64 xn) (.string xs) (.slice A3 xl c3)
        rw [List.length_append] at h9
        exact h9
      case measure => omega
    | false =>
      have hune : us ≠ [] := fun h9 => by have h8 := HN.out h9; rw [h8] at hca; rw [HAP.out] at hca; cases hca
      obtain ⟨g, c', e9⟩ := HROW.out.some hune
      injection e9 with e9 _ e8
      subst e9 e8
      have hr1 := HROW.out.on hb1
      obtain ⟨hrf, hblk, hc1, hc2, hbase⟩ := hr1.rowF
      have hus : us.length ≤ 1099511627776 := by omega
      have hrev := reverse_any (w.heap.size + 2) g us.length c9 (c9 * 4) _ y1 (by omega) hus hrf hblk
      have HREV := Lib.hid hrev
      have HC1 := Lib.hid (HC.out.on hb1)
      have HBX1 := Lib.hid (HBX.out.on hb1)
      have HBR1 := Lib.hid (HBR.out.on hb1)
      have HBE1 := Lib.hid (HBE.out.trans (hb1.mono HBE.out.size))
      have hgl := hblk.lt
      clear hrev hr1 hrf hblk hb1 HC HBX HBR HROW
      go_wp2_with fail
      refine HREV.out.mono ?_
      rintro e y2 ⟨rfl, hrow2, hblk2, hkp2, hbe2⟩
      have hB2 : Below (w.heap.size + 2) y1 y2 := hbe2.mono hbase
      have hqx := HBX1.out.below hB2 (by omega)
      have hqr := HBR1.out.below hB2 (by omega)
      have hct2 := HC1.out.keep (.of_belowB (fun b (hb : b < w.heap.size) => (by omega : b < w.heap.size + 2)) hB2)
      have HROW2 := Lib.hid hrow2
      have HBLK2 := Lib.hid hblk2
      have HQR := Lib.hid hqr
      have HCT2 := Lib.hid hct2
      have HBE2 := Lib.hid (HBE1.out.trans (hB2.mono (by omega)))
      have hz2 := HBE2.out.size
      have hgl2 := hblk2.lt
      obtain ⟨x0, x1, x2, x3, x4, _⟩ := hqx
      clear hrow2 hblk2 hkp2 hbe2 hB2 hqr hct2
      go_wp2_with fail
      refine (own_any cur _ _ _ HCT2.out).mono ?_
      rintro e y3 ⟨v3, rfl, hv3, hb3⟩
      obtain ⟨f3, n3, s3, A3, l3, c3, rfl⟩ := hv3.flat
      obtain ⟨z0, z1, z2', z3, z4, z5, z6, z7, z8⟩ := HQR.out.on hb3
      have HV3 := Lib.hid hv3
      have HB3 := Lib.hid hb3
      have HBE3 := Lib.hid (HBE2.out.trans (hb3.mono HBE2.out.size))
      clear hv3 hb3 x0 x1 x2 x3 x4
      go_wp2
      have hgne : g ≠ w.heap.size + 1 := by omega
      have hz1r := HQR.out.1
      have hv4 := HV3.out.keep (.box (b := w.heap.size + 1) (fun hx => by omega) (.int .i64 f3) (.int .i64 n3) (.string s3) (.slice A3 l3 c3))
      have hrow : RowF (w.heap.size + 2) ((((y3.setCell ⟨w.heap.size + 1, 0, none⟩ (.int .i64 f3)).setCell ⟨w.heap.size + 1, 1, none⟩ (.int .i64 n3)).setCell ⟨w.heap.size + 1, 2, none⟩ (.string s3)).setCell ⟨w.heap.size + 1, 3, none⟩ (.slice A3 l3 c3)) g us.length (fun k => us.reverse[k]?.getD (.con ⟨#[]⟩)) := by
        intro k hk
        obtain ⟨u0, u1, u2, u3, d0, d1, d2, d3, hu⟩ := HROW2.out k hk
        refine ⟨u0, u1, u2, u3, ?_, ?_, ?_, ?_, ?_⟩
        · rw [cell_box _ _ _ _ _ _ _ _ hgne]; exact (HB3.out.cell (p := ⟨g, _, none⟩) hgl2).trans d0
        · rw [cell_box _ _ _ _ _ _ _ _ hgne]; exact (HB3.out.cell (p := ⟨g, _, none⟩) hgl2).trans d1
        · rw [cell_box _ _ _ _ _ _ _ _ hgne]; exact (HB3.out.cell (p := ⟨g, _, none⟩) hgl2).trans d2
        · rw [cell_box _ _ _ _ _ _ _ _ hgne]; exact (HB3.out.cell (p := ⟨g, _, none⟩) hgl2).trans d3
        · have e9 : us.reverse[k]?.getD (.con ⟨#[]⟩) = us[us.length - 1 - k]?.getD (.con ⟨#[]⟩) := by rw [List.getElem?_reverse hk]
          dsimp only
          rw [e9]
          exact (hu.on HB3.out).keep (.box (fun hx => by have := hx.1; omega) _ _ _ _)
      have hbb := below_box HBE3.out (b := w.heap.size + 1) (by omega) (.int .i64 f3) (.int .i64 n3) (.string s3) (.slice A3 l3 c3)
      exact bodyPost_ret (v := .tuple #[.agg #[.int .i64 f3, .int .i64 n3, .string s3, .slice A3 l3 c3], .slice (some ⟨g, 0, none⟩) us.length c9]) (by simp [results, Tryd.results16, go_sem, z1, z2', z3, z4]) rfl
        ⟨cur, us.reverse, _, _, rfl, hv4.all, hrow.tys (by simp) (by have := HB3.out.size; simp; omega) hc1 hc2, hca, HG.out, by simp; omega, hbb⟩
end Go.Proofs.YtlloicehhjlekaaDoor
