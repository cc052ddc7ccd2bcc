/- Slices of numbers, as a call is handed them. No conditions but those that each theorem names. The walk of TypesPuts (chapter 4): it tells true for any row of numbers, any number and any rows of numbers. Condition: the library's table of powers of ten reads as the program's text lays it. Slices of slices of numbers, as a call is handed them. No conditions but those that each theorem names. The library's table of powers of ten reads as the program's text lays it (the cards' condition). -/
import Derived.Test.YtbdfjboojokgdaaDoorJU13
import Derived.ProofKit
import Derived.OpenShut
import Derived.Test.YtbdfjboojokgdaaDoorJU48
import Derived.Test.YtbdfjboojokgdaaDoorJU46
import Derived.Deep.Matrix
import Derived.Test.YtbdfjboojokgdaaDoorJU29
import Derived.Test.YtbdfjboojokgdaaDoorRows
import Derived.LaidSub
import Derived.LaidMore
namespace Go.Proofs.YtbdfjboojokgdaaDoor
open Go.RowKit

/-- A slice that reads as some numbers. -/
def SomeInts (w : World) (v : Value) : Prop := ∃ zs, IntsAt (fun b => b < w.heap.size) w v zs
theorem ints_of_cells {W : World} (x : Addr) (len cap : Nat) (zs : List Int) (hl : len ≤ cap) (hm : cap ≤ maxLen) (hz : zs.length = cap) (hcell : ∀ i, i < zs.length → W.cell? (x.add i) = some (.int .i64 (zs.getD i 0))) (hwz : ∀ n ∈ zs, (Lit.int .i64 n).wf = true) :
    IntsAt (fun b => b < W.heap.size) W (.slice (some x) len cap) (zs.take len) := by
  have hlen : (zs.take len).length = len := by rw [List.length_take]; omega
  refine ⟨some x, cap, by rw [hlen], by omega, hm, fun z hz => ?_, ?_⟩
  · have := Go.bounds_i64 (hwz z (List.mem_of_mem_take hz)); omega
  · rcases Nat.eq_zero_or_pos len with h0 | h0
    · subst h0; exact .inl (by simp)
    · obtain ⟨b, off, spot⟩ := x
      have hc := hcell 0 (by omega)
      have hspot : spot = none := by simpa [Addr.add] using World.cell?_spot hc
      subst hspot
      have hb : b < W.heap.size := by
        have := World.block_lt_of_cell? W _ hc
        simpa [Addr.add] using this
      refine .inr ⟨b, off, rfl, hb, hb, fun i hi => ?_⟩
      have h9 := hcell i (by omega)
      rw [Go.WideShapes.add_plain] at h9
      rw [h9, List.getD_eq_getElem?_getD, List.getElem?_eq_getElem (by omega)]
      simp
theorem ints_nil (W : World) : SomeInts W (.slice none 0 0) := ⟨[], none, 0, rfl, Nat.le_refl _, Nat.zero_le _, fun z hz => absurd hz (by simp), .inl rfl⟩
end Go.Proofs.YtbdfjboojokgdaaDoor
namespace Go.Proofs.YtbdfjboojokgdaaDoor
open Go.RowKit

theorem lawN_nodup (n : Int) (k : Nat) (hk : k ≤ 3) : (lawN n k).Nodup := by
  have h := aroundI_bd n 4 (by omega)
  unfold lawN
  generalize aroundI n 4 = m at *
  have hm : m = 0 ∨ m = 1 ∨ m = 2 ∨ m = 3 := by omega
  have hk' : k = 0 ∨ k = 1 ∨ k = 2 ∨ k = 3 := by omega
  rcases hm with rfl | rfl | rfl | rfl <;> rcases hk' with rfl | rfl | rfl | rfl <;> decide
def lawP (n : Int) (zss : List (List Int)) (k : Nat) : List (ByteArray × Ty) := (lawN n k).zip (lawT zss k)
theorem lawP_fst (n : Int) {zss : List (List Int)} {k : Nat} (h : k ≤ zss.length) : (lawP n zss k).map (·.1) = lawN n k := List.map_fst_zip (by rw [lawN_len, lawT_len h]; omega)
theorem lawP_snd (n : Int) {zss : List (List Int)} {k : Nat} (h : k ≤ zss.length) : (lawP n zss k).map (·.2) = lawT zss k := List.map_snd_zip (by rw [lawN_len, lawT_len h]; omega)
theorem lawP_puts (n : Int) {zss : List (List Int)} {k : Nat} (hk : k ≤ 3) (h : k ≤ zss.length) : Puts (lawP n zss k) := by
  refine ⟨fun p hp => ?_, by rw [lawP_fst n h]; exact lawN_nodup n k hk, ?_⟩
  · obtain ⟨h1, h2⟩ := List.of_mem_zip (show (p.1, p.2) ∈ (lawN n k).zip (lawT zss k) from hp)
    unfold lawN at h1
    unfold lawT at h2
    obtain ⟨i, _, e1⟩ := List.mem_map.1 h1
    obtain ⟨zs, _, e2⟩ := List.mem_map.1 h2
    exact ⟨by rw [← e1, nameS_size]; omega, by rw [← e2]; exact fit_made zs⟩
  · have := congrArg List.length (lawP_fst n h)
    rw [List.length_map, lawN_len] at this
    omega
set_option maxRecDepth 100000 in
set_option maxHeartbeats 2000000 in
theorem typesPuts_law (P : Nat → Prop) (v1 v3 : Value) (zs : List Int) (zss : List (List Int)) (n : Int) (w : World) (h1 : IntsAt P w v1 zs) (h3 : MatAt w zss v3) (hn1 : -9223372036854775808 ≤ n) (hn2 : n ≤ 9223372036854775807) (htab : TabW w) : Calls Tryd.prog 5 #[v1, .int .i64 n, v3] w (TrueB w) := by
  have hc1 := made_any P v1 zs w h1
  have HM := Lib.hid (fun w' (hb : Below w.heap.size w w') => names_any n v3 zss w' (MatAt.on h3 hb) hn1 hn2)
  have HTAB := Lib.hid htab
  obtain ⟨A0, c0, rfl⟩ := h1.slice
  obtain ⟨A9, c9, rfl, _⟩ := h3
  have ft := fit_made zs
  generalize madeZ zs = t at *
  have HC1 := Lib.hid hc1
  clear hc1 h1 htab
  go_enter Tryd.func5, Tryd.ntmps5
  go_wp2_with fail
  refine HC1.out.mono ?_
  rintro e y1 ⟨tv, rfl, ht, hb1⟩
  obtain ⟨f0, n0, s0, A0, l0, c0, rfl⟩ := ht.flat
  obtain ⟨W, eW, q1, b1, z1⟩ := one_box y1 (.int .i64 f0) (.int .i64 n0) (.string s0) (.slice A0 l0 c0) 25
  have HT := Lib.hid (ht.all.on b1)
  have HEW := Lib.hid eW
  have HQ := Lib.hid q1
  have HB := Lib.hid (hb1.trans (b1.mono hb1.size))
  clear ht hb1 eW q1 b1 z1 HC1 hn1 hn2
  generalize hg1 : y1.heap.size = g1 at *
  go_wp2_with fail
  rw [HEW.out]
  refine (HM.out W HB.out).mono ?_
  rintro e V ⟨k, nv, bv, rfl, hk3, hkz, hnv, hbv, hbV⟩
  obtain ⟨An, cn, rfl, _, _⟩ := hnv.shape
  obtain ⟨Ab, cb, rfl, _, _⟩ := hbv.form
  have hp := lawP_puts n hk3 hkz
  generalize (lawN n k).length = ln at hnv ⊢
  generalize (lawT zss k).length = lb at hbv ⊢
  rw [← lawP_fst n hkz] at hnv
  rw [← lawP_snd n hkz] at hbv
  have HNV := Lib.hid hnv
  have HBV := Lib.hid hbv
  have HTV := Lib.hid (HT.out.on hbV)
  have HQV := Lib.hid (HQ.out.on hbV)
  have HBB := Lib.hid (HB.out.trans (hbV.mono HB.out.size))
  clear hnv hbv hbV HT HQ HB HM HEW
  go_upto_region 3 with (fail)
  refine puts_reg3 HQV HTV HNV HBV ft hp (HTAB.out.on HBB.out) ?_
  rintro x0 x1 x2 x3 x4 x5 x6 x7 x8 x9 x10 x11 x12 q rfl hq
  go_wp2_with fail
  go_ret
  exact ⟨rfl, HBB.out.trans (hq.mono HBB.out.size)⟩
theorem typesPuts_walk (a : Option Addr) (len cap : Nat) (n : Int) (b : Option Addr) (len2 cap2 : Nat) (w : World) (h1 : SomeInts w (.slice a len cap)) (hn1 : -9223372036854775808 ≤ n) (hn2 : n ≤ 9223372036854775807) (h2 : SomeMat w (.slice b len2 cap2)) (htab : TabW w) : Calls Tryd.prog 5 #[.slice a len cap, .int .i64 n, .slice b len2 cap2] w (TrueB w) := by
  obtain ⟨zs, h1⟩ := h1
  obtain ⟨zss, h2⟩ := h2
  exact typesPuts_law _ _ _ zs zss n w h1 h2 hn1 hn2 htab
end Go.Proofs.YtbdfjboojokgdaaDoor
namespace Go.Proofs.YtbdfjboojokgdaaDoor
open Go.RowKit

theorem mat_nil (W : World) : SomeMat W (.slice none 0 0) := ⟨[], none, 0, rfl, Nat.le_refl _, Nat.zero_le _, .inl rfl⟩
theorem mat_of_rows {W : World} {a : Addr} {len cap : Nat} {A : Nat → Option Addr} {L C : Nat → Nat} {Z : Nat → List Int} (hl : len ≤ cap) (hm : cap ≤ maxLen)
    (h : ∀ r, r < cap → W.cell? (a.add r) = some (.slice (A r) (L r) (C r)) ∧ L r ≤ C r ∧ C r ≤ maxLen ∧ (Z r).length = C r ∧ (∀ n ∈ Z r, (Lit.int .i64 n).wf = true) ∧ (A r = none → C r = 0) ∧
        ∀ a', A r = some a' → 0 ≤ a'.block ∧ ∀ c, c < C r → W.cell? (a'.add c) = some (.int .i64 ((Z r).getD c 0))) :
    SomeMat W (.slice (some a) len cap) := by
  have hrow : ∀ r, r < cap → IntsAt (fun b => b < W.heap.size) W (.slice (A r) (L r) (C r)) ((Z r).take (L r)) := by
    intro r hr
    obtain ⟨_, h1, h2, h3, h4, h5, h6⟩ := h r hr
    cases hA : A r with
    | none =>
      have hc := h5 hA
      have hz : Z r = [] := List.eq_nil_of_length_eq_zero (by omega)
      have hL : L r = 0 := by omega
      rw [hz, hL, hc]
      exact ⟨none, 0, rfl, Nat.le_refl _, Nat.zero_le _, fun z hz => absurd hz (by simp), .inl rfl⟩
    | some x => exact ints_of_cells x _ _ _ h1 h2 h3 (fun i hi => (h6 x hA).2 i (by omega)) h4
  refine ⟨(List.range len).map fun r => (Z r).take (L r), some a, cap, by simp, by simpa using hl, hm, ?_⟩
  rcases Nat.eq_zero_or_pos len with h0 | h0
  · subst h0; exact .inl rfl
  · obtain ⟨b, off, spot⟩ := a
    have hc := (h 0 (by omega)).1
    have hspot : spot = none := by simpa [Addr.add] using World.cell?_spot hc
    subst hspot
    have hb : b < W.heap.size := by
      have := World.block_lt_of_cell? W _ hc
      simpa [Addr.add] using this
    refine .inr ⟨b, off, rfl, hb, hb, fun i hi => ?_⟩
    simp only [List.length_map, List.length_range] at hi
    have h9 := (h i (by omega)).1
    rw [Go.WideShapes.add_plain] at h9
    refine ⟨_, h9, ?_⟩
    simpa using hrow i (by omega)
end Go.Proofs.YtbdfjboojokgdaaDoor
namespace Go.Proofs.YtbdfjboojokgdaaDoor
open Go.RowKit

theorem tab_of_one {W : World} (h : laidMetH Tryd.prog [("internal/strconv.uint64pow10", Lib.tabData .u64 Lib.pow10Tab)] W) : TabW W := by
  rw [MakeChecks.laidMetH_plain _ _ _ (by kernel_rfl)] at h
  obtain ⟨ps, ⟨g', t', cs, fuel, p, q, hg', ht', hvar, hd, _, _⟩, _⟩ := h
  have hg : Tryd.prog.globalNamed "internal/strconv.uint64pow10" = some 2 := by kernel_rfl
  have hty : (Tryd.prog.globals[2]?).map (·.type) = some 210 := by kernel_rfl
  obtain rfl := Option.some.inj (hg.symm.trans hg')
  obtain rfl := Option.some.inj (hty.symm.trans ht')
  have hc := Lib.cells_of_tab Tryd.underlying210 Tryd.underlying203 (by kernel_rfl) (by kernel_rfl) hd
  unfold TabW Lib.TabIs
  rw [hvar, ← hc]
theorem tab_of_typesComposes {W : World} (h : laidMetH Tryd.prog Rows.typesComposesRow.laid W) : TabW W := by
  have h9 := laidMetH.filter (fun x => x.1 == "internal/strconv.uint64pow10") h
  have e : Rows.typesComposesRow.laid.filter (fun x => x.1 == "internal/strconv.uint64pow10") = [("internal/strconv.uint64pow10", Lib.tabData .u64 Lib.pow10Tab)] := by kernel_rfl
  rw [e] at h9
  exact tab_of_one h9
theorem tab_of_typesPuts {W : World} (h : laidMetH Tryd.prog Rows.typesPutsRow.laid W) : TabW W := by
  have h9 := laidMetH.filter (fun x => x.1 == "internal/strconv.uint64pow10") h
  have e : Rows.typesPutsRow.laid.filter (fun x => x.1 == "internal/strconv.uint64pow10") = [("internal/strconv.uint64pow10", Lib.tabData .u64 Lib.pow10Tab)] := by kernel_rfl
  rw [e] at h9
  exact tab_of_one h9
theorem tab_of_typesCatches {W : World} (h : laidMetH Tryd.prog Rows.typesCatchesRow.laid W) : TabW W := by
  have h9 := laidMetH.filter (fun x => x.1 == "internal/strconv.uint64pow10") h
  have e : Rows.typesCatchesRow.laid.filter (fun x => x.1 == "internal/strconv.uint64pow10") = [("internal/strconv.uint64pow10", Lib.tabData .u64 Lib.pow10Tab)] := by kernel_rfl
  rw [e] at h9
  exact tab_of_one h9
end Go.Proofs.YtbdfjboojokgdaaDoor
