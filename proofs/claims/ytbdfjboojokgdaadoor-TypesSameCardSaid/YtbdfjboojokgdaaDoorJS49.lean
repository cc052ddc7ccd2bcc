/- TypesSame (chapter 4): the law's walk. Condition: the slices read as numbers, the numbers are ints. -/
import Derived.Test.YtbdfjboojokgdaaDoorJS47
import Derived.Test.YtbdfjboojokgdaaDoorJS48
namespace Go.Proofs.YtbdfjboojokgdaaDoor
open Go.RowKit

theorem five_new {w : World} {a b c d e : Ty} {a0 a1 a2 a3 b0 b1 b2 b3 c0 c1 c2 c3 d0 d1 d2 d3 e0 e1 e2 e3 : Value} (ha : TyAt (fun _ => True) w a (.agg #[a0, a1, a2, a3])) (hb : TyAt (fun _ => True) w b (.agg #[b0, b1, b2, b3])) (hc : TyAt (fun _ => True) w c (.agg #[c0, c1, c2, c3])) (hd : TyAt (fun _ => True) w d (.agg #[d0, d1, d2, d3])) (he : TyAt (fun _ => True) w e (.agg #[e0, e1, e2, e3])) (t : TypeId) :
    TysAt (fun _ => True) (w.alloc (.cells #[a0, a1, a2, a3, b0, b1, b2, b3, c0, c1, c2, c3, d0, d1, d2, d3, e0, e1, e2, e3] t)) [a, b, c, d, e] (.slice (some ⟨w.heap.size, 0, none⟩) 5 5) := by
  have hn := below_new w (.cells #[a0, a1, a2, a3, b0, b1, b2, b3, c0, c1, c2, c3, d0, d1, d2, d3, e0, e1, e2, e3] t)
  refine ⟨_, 5, fun i j => (#[a0, a1, a2, a3, b0, b1, b2, b3, c0, c1, c2, c3, d0, d1, d2, d3, e0, e1, e2, e3] : Array Value)[i * 4 + j]?.getD a0, rfl, Nat.le_refl _, by unfold maxLen; omega, .inr ⟨_, 0, rfl, trivial, by simp, fun i j hi hj => ?_⟩, fun i hi => ?_⟩
  · have hi' : i = 0 ∨ i = 1 ∨ i = 2 ∨ i = 3 ∨ i = 4 := by simp at hi; omega
    have hj' : j = 0 ∨ j = 1 ∨ j = 2 ∨ j = 3 := by omega
    rw [Nat.zero_add]
    rcases hi' with rfl | rfl | rfl | rfl | rfl <;> rcases hj' with rfl | rfl | rfl | rfl <;> exact row_new rfl
  · have hi' : i = 0 ∨ i = 1 ∨ i = 2 ∨ i = 3 ∨ i = 4 := by simp at hi; omega
    rcases hi' with rfl | rfl | rfl | rfl | rfl
    · exact ha.on hn
    · exact hb.on hn
    · exact hc.on hn
    · exact hd.on hn
    · exact he.on hn
set_option maxRecDepth 100000 in
set_option maxHeartbeats 2000000 in
theorem typesSame_law (P Q : Nat → Prop) (v1 v2 : Value) (zs ys : List Int) (n k : Int) (w : World) (h1 : IntsAt P w v1 zs) (h2 : IntsAt Q w v2 ys) (hn1 : -9223372036854775808 ≤ n) (hn2 : n ≤ 9223372036854775807) (hk1 : -9223372036854775808 ≤ k) (hk2 : k ≤ 9223372036854775807) : Calls Tryd.prog 4 #[v1, v2, .int .i64 n, .int .i64 k] w (TrueB w) := by
  have hc1 := made_any P v1 zs w h1
  have HC2 := Lib.hid (fun w' (hb : Below w.heap.size w w') => made_any Q v2 ys w' (h2.on hb))
  have HN := Lib.hid (fun q => name_any n q hn1 hn2)
  have HK := Lib.hid (fun q => name_any k q hk1 hk2)
  have hsk := nameS_size k
  have hsn := nameS_size n
  have hsk2 := nameS_tk k
  generalize nameS n = sn at *
  generalize nameS k = sk at *
  obtain ⟨A0, c0, rfl⟩ := h1.slice
  obtain ⟨A9, c9, rfl⟩ := h2.slice
  have hw1 := madeZ_world zs
  have hw2 := madeZ_world ys
  have hz1 := madeZ_szB zs
  have hz2 := madeZ_szB ys
  generalize madeZ zs = a at *
  generalize madeZ ys = b at *
  have HC1 := Lib.hid hc1
  clear hc1 h1 h2 hn1 hn2 hk1 hk2
  go_enter Tryd.func4, Tryd.ntmps4
  go_wp2_with fail
  refine HC1.out.mono ?_
  rintro e y1 ⟨tv, rfl, ht, hb1⟩
  obtain ⟨f1, n1, s1, A1, l1, c1, rfl⟩ := ht.flat
  obtain ⟨W, eW, q1, b1, z1⟩ := one_box y1 (.int .i64 f1) (.int .i64 n1) (.string s1) (.slice A1 l1 c1) 25
  have HT := Lib.hid (ht.all.on b1)
  have HEW := Lib.hid eW
  have HQ := Lib.hid q1
  have HB := Lib.hid (hb1.trans (b1.mono hb1.size))
  clear ht hb1 eW q1 b1 z1
  go_wp2_with fail
  rw [HEW.out]
  refine (HC2.out W HB.out).mono ?_
  rintro e y2 ⟨tv, rfl, ht2, hb2⟩
  obtain ⟨f2, n2, s2, A2, l2, c2, rfl⟩ := ht2.flat
  obtain ⟨V, eV, q2, b2, z2⟩ := one_box y2 (.int .i64 f2) (.int .i64 n2) (.string s2) (.slice A2 l2 c2) 25
  have hbV := hb2.trans (b2.mono hb2.size)
  have HT1 := Lib.hid (HT.out.on hbV)
  have HT2 := Lib.hid (ht2.all.on b2)
  have HEV := Lib.hid eV
  have HQ1 := Lib.hid (HQ.out.on hbV)
  have HQ2 := Lib.hid q2
  have HBV := Lib.hid (HB.out.trans (hbV.mono HB.out.size))
  clear ht2 hb2 eV q2 b2 hbV HT HQ HB z2 HEW HC1 HC2
  generalize y1.heap.size = g1 at *
  generalize hg2 : y2.heap.size = g2 at *
  have hza : a.sz ≤ 8192 := by omega
  go_upto_region 3 with (fail)
  rw [HEV.out]
  clear HEV
  refine same_reg3 HN HQ1 HT1 ?_
  rintro x30 x31 x32 x33 _ W3 ⟨g3, f3, n3, s3, A3, l3, c3, rfl, hB, hT, hbb⟩
  have hbb3 := Lib.hid hbb
  have HQ1w3 := Lib.hid (Box4.on HQ1.out hbb)
  have HT1w3 := Lib.hid (TyAt.on HT1.out hbb)
  have HQ2w3 := Lib.hid (Box4.on HQ2.out hbb)
  have HT2w3 := Lib.hid (TyAt.on HT2.out hbb)
  have HQ3 := Lib.hid hB
  have HT3 := Lib.hid hT
  have HB3 := Lib.hid (HBV.out.trans (hbb.mono HBV.out.size))
  clear hbb hB hT HQ1 HT1 HQ2 HT2 HBV
  have HQ1 := Lib.hid HQ1w3.out
  have HT1 := Lib.hid HT1w3.out
  clear HQ1w3 HT1w3
  have HQ2 := Lib.hid HQ2w3.out
  have HT2 := Lib.hid HT2w3.out
  clear HQ2w3 HT2w3
  have HBV := Lib.hid HB3.out
  clear HB3 hbb3
  go_upto_region 4 with (fail)
  refine same_reg4 HK HQ1 HT1 ?_
  rintro x40 x41 x42 x43 _ W4 ⟨g4, f4, n4, s4, A4, l4, c4, rfl, hB, hT, hbb⟩
  have hbb4 := Lib.hid hbb
  have HQ1w4 := Lib.hid (Box4.on HQ1.out hbb)
  have HT1w4 := Lib.hid (TyAt.on HT1.out hbb)
  have HQ2w4 := Lib.hid (Box4.on HQ2.out hbb)
  have HT2w4 := Lib.hid (TyAt.on HT2.out hbb)
  have HQ3w4 := Lib.hid (Box4.on HQ3.out hbb)
  have HT3w4 := Lib.hid (TyAt.on HT3.out hbb)
  have HQ4 := Lib.hid hB
  have HT4 := Lib.hid hT
  have HB4 := Lib.hid (HBV.out.trans (hbb.mono HBV.out.size))
  clear hbb hB hT HQ1 HT1 HQ2 HT2 HQ3 HT3 HBV
  have HQ1 := Lib.hid HQ1w4.out
  have HT1 := Lib.hid HT1w4.out
  clear HQ1w4 HT1w4
  have HQ2 := Lib.hid HQ2w4.out
  have HT2 := Lib.hid HT2w4.out
  clear HQ2w4 HT2w4
  have HQ3 := Lib.hid HQ3w4.out
  have HT3 := Lib.hid HT3w4.out
  clear HQ3w4 HT3w4
  have HBV := Lib.hid HB4.out
  clear HB4 hbb4
  go_upto_region 5 with (fail)
  refine same_reg5 hza HN HK HQ1 HT1 ?_
  rintro x50 x51 x52 x53 x54 x55 x56 x57 x58 x59 x510 x511 _ W5 ⟨g5, f5, n5, s5, A5, l5, c5, rfl, hB, hT, hbb⟩
  have hbb5 := Lib.hid hbb
  have HQ1w5 := Lib.hid (Box4.on HQ1.out hbb)
  have HT1w5 := Lib.hid (TyAt.on HT1.out hbb)
  have HQ2w5 := Lib.hid (Box4.on HQ2.out hbb)
  have HT2w5 := Lib.hid (TyAt.on HT2.out hbb)
  have HQ3w5 := Lib.hid (Box4.on HQ3.out hbb)
  have HT3w5 := Lib.hid (TyAt.on HT3.out hbb)
  have HQ4w5 := Lib.hid (Box4.on HQ4.out hbb)
  have HT4w5 := Lib.hid (TyAt.on HT4.out hbb)
  have HQ5 := Lib.hid hB
  have HT5 := Lib.hid hT
  have HB5 := Lib.hid (HBV.out.trans (hbb.mono HBV.out.size))
  clear hbb hB hT HQ1 HT1 HQ2 HT2 HQ3 HT3 HQ4 HT4 HBV
  have HQ1 := Lib.hid HQ1w5.out
  have HT1 := Lib.hid HT1w5.out
  clear HQ1w5 HT1w5
  have HQ2 := Lib.hid HQ2w5.out
  have HT2 := Lib.hid HT2w5.out
  clear HQ2w5 HT2w5
  have HQ3 := Lib.hid HQ3w5.out
  have HT3 := Lib.hid HT3w5.out
  clear HQ3w5 HT3w5
  have HQ4 := Lib.hid HQ4w5.out
  have HT4 := Lib.hid HT4w5.out
  clear HQ4w5 HT4w5
  have HBV := Lib.hid HB5.out
  clear HB5 hbb5
  go_upto_region 6 with (fail)
  have hbx := HQ1.out
  have k10 := hbx.2.1
  have k11 := hbx.2.2.1
  have k12 := hbx.2.2.2.1
  have k13 := hbx.2.2.2.2.1
  clear hbx
  have hbx := HQ2.out
  have k20 := hbx.2.1
  have k21 := hbx.2.2.1
  have k22 := hbx.2.2.2.1
  have k23 := hbx.2.2.2.2.1
  clear hbx
  have hbx := HQ3.out
  have k30 := hbx.2.1
  have k31 := hbx.2.2.1
  have k32 := hbx.2.2.2.1
  have k33 := hbx.2.2.2.2.1
  clear hbx
  have hbx := HQ4.out
  have k40 := hbx.2.1
  have k41 := hbx.2.2.1
  have k42 := hbx.2.2.2.1
  have k43 := hbx.2.2.2.2.1
  clear hbx
  have hbx := HQ5.out
  have k50 := hbx.2.1
  have k51 := hbx.2.2.1
  have k52 := hbx.2.2.2.1
  have k53 := hbx.2.2.2.2.1
  clear hbx
  obtain ⟨V6, hV6⟩ : ∃ V6, V6 = W5.alloc (.cells #[.int .i64 f1, .int .i64 n1, .string s1, .slice A1 l1 c1, .int .i64 f2, .int .i64 n2, .string s2, .slice A2 l2 c2, .int .i64 f3, .int .i64 n3, .string s3, .slice A3 l3 c3, .int .i64 f4, .int .i64 n4, .string s4, .slice A4 l4 c4, .int .i64 f5, .int .i64 n5, .string s5, .slice A5 l5 c5] 25) := ⟨_, rfl⟩
  have hrow := five_new HT1.out HT2.out HT3.out HT4.out HT5.out 25
  rw [← hV6] at hrow
  have HROW := Lib.hid hrow
  have HB6 := Lib.hid (HBV.out.trans ((hV6 ▸ below_new W5 _ : Below W5.heap.size W5 V6).mono HBV.out.size))
  have HV6 := Lib.hid hV6.symm
  generalize hg6 : W5.heap.size = g6 at *
  clear hrow hV6 HT1 HT2 HT3 HT4 HT5 HQ1 HQ2 HQ3 HQ4 HQ5 HBV HN HK
  go_upto_region 7 with (fail)
  rw [HV6.out]
  clear HV6
  obtain ⟨ts, hts⟩ : ∃ ts, ts = [a, b, .all sn a, .all sk a, .all sk (a.sub [(sn, .var sk)])] := ⟨_, rfl⟩
  have hta := tame_world hw1 (by omega)
  have htb := tame_world hw2 (by omega)
  have htc := tame_all (s := sn) hta (by omega) (by omega)
  have htd := tame_all (s := sk) hta (by omega) (by omega)
  obtain ⟨hte0, hsz⟩ := tame_sub1 (s := sn) (k := sk) hta (by omega) hsk2 (by omega)
  have hte := tame_all (s := sk) hte0 (by omega) (by omega)
  have htame : ∀ t ∈ ts, t.tame := fun t ht => by
    rw [hts] at ht
    simp only [List.mem_cons, List.not_mem_nil, or_false] at ht
    rcases ht with rfl | rfl | rfl | rfl | rfl <;> assumption
  have hlen : ts.length = 5 := by rw [hts]; rfl
  have HROW2 : Hid (TysAt (fun _ => True) V6 ts (.slice (some ⟨g6, 0, none⟩) 5 5)) := by rw [hts]; exact HROW.out
  have HAT : Hid (∀ i, i < 5 → ∃ (t : Ty) (f m : Int) (u : ByteArray) (A : Option Addr) (l c : Nat), t.tame ∧ TyAt (fun _ => True) V6 t (.agg #[.int .i64 f, .int .i64 m, .string u, .slice A l c]) ∧ ∀ q, Below V6.heap.size V6 q → (q.cell? ⟨g6, i * 4, none⟩ = some (.int .i64 f) ∧ q.cell? ⟨g6, i * 4 + 1, none⟩ = some (.int .i64 m) ∧ q.cell? ⟨g6, i * 4 + 2, none⟩ = some (.string u) ∧ q.cell? ⟨g6, i * 4 + 3, none⟩ = some (.slice A l c))) := fun i hi => by
    have hi2 : i < ts.length := by omega
    have h9 := fun (q : World) (hq : Below V6.heap.size V6 q) => hq
    obtain ⟨b', off, A', c', e1, _, hlt, k0, k1, k2, k3, k4⟩ := HROW2.out.at i hi2
    injection e1 with e1; injection e1 with e1 e2
    subst e1; subst e2
    simp only [Nat.zero_add] at k0 k1 k2 k3
    exact ⟨_, _, _, _, _, _, _, htame _ (List.getElem_mem hi2), k4, fun q hq => ⟨(hq.cell (p := ⟨_, _, none⟩) hlt).trans k0, (hq.cell (p := ⟨_, _, none⟩) hlt).trans k1, (hq.cell (p := ⟨_, _, none⟩) hlt).trans k2, (hq.cell (p := ⟨_, _, none⟩) hlt).trans k3⟩⟩
  clear HROW HROW2 htame hlen hts hta htb htc htd hte hte0 hsz hw1 hw2 hz1 hz2 hza hsk hsn hsk2
  go_wp2_with fail
  go_loopw [15] (fun i wr => ∃ k : Nat, k ≤ 5 ∧ i = .int .i64 k ∧ Below V6.heap.size V6 wr) (fun i _ => 5 - (intOf i).toNat)
  case atStart => exact ⟨0, Nat.zero_le _, rfl, Below.refl _ _⟩
  case round =>
    obtain ⟨i, hi, rfl, hb⟩ := hrel
    have HB := Lib.hid hb
    by_cases hlt : i < 5
    · clear hb
      have hki : (i : Int) < 5 := by omega
      go_wp2_with fail
      go_loopw [16] (fun j wr => ∃ k : Nat, k ≤ 5 ∧ j = .int .i64 k ∧ Below V6.heap.size V6 wr) (fun j _ => 5 - (intOf j).toNat)
      case atStart => exact ⟨0, Nat.zero_le _, rfl, HB.out⟩
      case round =>
        obtain ⟨j, hj, rfl, hb⟩ := hrel
        have HBj := Lib.hid hb
        by_cases hltj : j < 5
        · obtain ⟨t1, f1, m1, u1, A1, l1, c1, ht1, hT1, hC1⟩ := HAT.out i hlt
          obtain ⟨t2, f2, m2, u2, A2, l2, c2, ht2, hT2, hC2⟩ := HAT.out j hltj
          have hkj : (j : Int) < 5 := by omega
          have HI := Lib.hid (fun q (hq : Below wr.heap.size wr q) => hC1 q (hb.trans (hq.mono hb.size)))
          have HJ := Lib.hid (fun q (hq : Below wr.heap.size wr q) => hC2 q (hb.trans (hq.mono hb.size)))
          have HA := Lib.hid (fun q (hq : Below wr.heap.size wr q) => same_any _ _ t1 t2 _ _ q (hT1.on (hb.trans (hq.mono hb.size))) (hT2.on (hb.trans (hq.mono hb.size))) (short_lt _ ht1.lt) (short_lt _ ht2.lt) (by have := ht1.sz; omega))
          have HR := Lib.hid (fun q (hq : Below wr.heap.size wr q) => refsame_any _ _ t1 t2 _ _ q (hT1.on (hb.trans (hq.mono hb.size))) (hT2.on (hb.trans (hq.mono hb.size))) ht1 ht2)
          clear hb hC1 hC2 hT1 hT2 ht1 ht2
          go_upto_region 13 with (fail)
          refine same_reg13 hlt hltj HI HJ HA HR ?_
          rintro x130 x131 x132 x133 x134 x135 x136 x137 x138 x139 y0 y1 y2 y3 y4 y5 y6 y7 q hq
          have HBq := Lib.hid (HBj.out.trans (hq.mono HBj.out.size))
          clear HI HJ HA HR hq
          go_wp2_with fail
          go_roundw
          case rel => exact ⟨j + 1, by omega, by go_num, HBq.out⟩
          case measure => simp [intOf]; omega
        · have hd : decide (j < 5) = false := by simpa using hltj
          clear hb
          go_wp2
          go_roundw
          case rel => exact ⟨i + 1, by omega, by go_num, HBj.out⟩
          case measure => simp [intOf]; omega
    · have hd : decide (i < 5) = false := by simpa using hlt
      clear hb
      go_wp2_with (go_at_call 21; refine (lives_any _).mono ?_; rintro e q ⟨rfl, hq⟩)
      go_ret
      exact ⟨rfl, HB6.out.trans ((HB.out.trans (hq.mono HB.out.size)).mono HB6.out.size)⟩

theorem typesSame_walk (a : Option Addr) (len cap : Nat) (b : Option Addr) (len2 cap2 : Nat) (n k : Int) (w : World) (h1 : SomeInts w (.slice a len cap)) (h2 : SomeInts w (.slice b len2 cap2)) (hn1 : -9223372036854775808 ≤ n) (hn2 : n ≤ 9223372036854775807) (hk1 : -9223372036854775808 ≤ k) (hk2 : k ≤ 9223372036854775807) : Calls Tryd.prog 4 #[.slice a len cap, .slice b len2 cap2, .int .i64 n, .int .i64 k] w (TrueB w) := by
  obtain ⟨zs, h1⟩ := h1
  obtain ⟨ys, h2⟩ := h2
  exact typesSame_law _ _ _ _ zs ys n k w h1 h2 hn1 hn2 hk1 hk2
end Go.Proofs.YtbdfjboojokgdaaDoor
