/- The document's Made. Conditions: the slice reads as numbers. -/
import Derived.Test.YtjfhncbfbhkhgaaMadB
namespace Go.Proofs.Ytjfhncbfbhkhgaa
open Go.RowKit
set_option maxRecDepth 100000 in
set_option maxHeartbeats 4000000 in
theorem made_any {A : Option Addr} {l c : Nat} {w : World} (h : SomeInts w (.slice A l c)) : Calls Try.prog 8 #[.slice A l c] w (MadeRes w) := by
  obtain ⟨zs, hz⟩ := h
  have hl9 := hz.at
  obtain ⟨rfl, hlc, hcm, _⟩ := hl9
  unfold maxLen at hcm
  have HZ := Lib.hid hz
  clear hz
  have HNM := Lib.hid (names_any (w.alloc (.cells #[.slice none 0 0, .slice none 0 0, .slice none 0 0, .slice none 0 0] 28)))
  go_enter Try.func8, Try.ntmps8
  go_wp2_with fail
  with_reducible refine HNM.out.mono ?_
  rintro e w1 ⟨⟨g1, g2, rfl, hs1, hs2, hg1, hg2⟩, hb1⟩
  have HBW1 : Hid (Below w.heap.size w w1) := Lib.hid ((below_new w _).trans (hb1.mono (by simp)))
  have HP0 := Lib.hid (pick_int (w := w1.alloc (.cells #[.slice none 0 0, .slice none 0 0, .slice none 0 0, .slice none 0 0] 28)) (HZ.out.on (HBW1.out.trans ((below_new w1 _).mono HBW1.out.size))) 0 (by omega))
  have HS1 := Lib.hid hs1
  have HS2 := Lib.hid hs2
  have hrb : w1.heap[w.heap.size]? = some (.cells #[.slice none 0 0, .slice none 0 0, .slice none 0 0, .slice none 0 0] 28) := (hb1.block _ (by simp)).trans (by rw [alloc_get, if_pos rfl])
  have HRB := Lib.hid hrb
  have hm0 : MadI w1.heap.size [] [] w1 (w1.alloc (.cells #[.slice none 0 0, .slice none 0 0, .slice none 0 0, .slice none 0 0] 28)) := ⟨⟨.slice none 0 0, .slice none 0 0, by rw [alloc_get, if_pos rfl], World.ownsRow_nil _ _ _ _, World.ownsRow_nil _ _ _ _⟩, fun x h => (by cases h), below_new _ _⟩
  have HM0 := Lib.hid hm0
  clear hs1 hs2 hb1 hrb hm0
  go_wp2_with fail
  with_reducible refine HP0.out.mono ?_
  rintro e w2 ⟨⟨n, rfl, hn0, hn1⟩, hb2⟩
  have HM2 := Lib.hid (HM0.out.on hb2)
  obtain ⟨N, hN⟩ : ∃ N, w1.heap.size = N := ⟨_, rfl⟩
  rw [hN] at HM2
  have HN := Lib.hid hN
  clear hb2 HM0 HP0 HNM
  go_wp2_with fail
  go_loopw [7] (fun v wr => ∃ i : Nat, v = .int .i64 i ∧ i ≤ 5 ∧ ∃ L, L.length = i ∧ GoodC (L.map (·.1)) ∧ MadI N L [] w1 wr) (fun v _ => 6 - (intOf v).toNat)
  case atStart => exact ⟨0, rfl, by omega, [], rfl, GoodC.nil, HM2.out⟩
  case round =>
    obtain ⟨i, rfl, hi, L, hL, hgood, hM⟩ := hrel
    have hr0 : 0 ≤ n.tmod 6 := Int.tmod_nonneg _ hn0
    have hr1 : n.tmod 6 < 6 := Int.tmod_lt_of_pos _ (by omega)
    generalize hrr : n.tmod 6 = r at *
    have HM := Lib.hid hM
    have HG := Lib.hid hgood
    have HNC : Hid (∀ u, Below N w1 u → ∀ (j : Nat) y, names5[j]? = some y → u.cell? ⟨g1, j, none⟩ = some (.string y)) := Lib.hid (fun u hu j y hy => by
      obtain ⟨hj, rfl⟩ := List.getElem?_eq_some_iff.1 hy
      obtain ⟨b, off, e1, hb, hc⟩ := HS1.out.at j hj
      injection e1 with e1; injection e1 with e1 e2 _
      subst e1 e2
      rw [Nat.zero_add] at hc
      exact (hu.cell (p := ⟨g1, j, none⟩) (by rw [← HN.out]; exact hb)).trans hc)
    have HNC2 : Hid (∀ u, Below N w1 u → ∀ (j : Nat) y, cons3[j]? = some y → u.cell? ⟨g2, j, none⟩ = some (.string y)) := Lib.hid (fun u hu j y hy => by
      obtain ⟨hj, rfl⟩ := List.getElem?_eq_some_iff.1 hy
      obtain ⟨b, off, e1, hb, hc⟩ := HS2.out.at j hj
      injection e1 with e1; injection e1 with e1 e2 _
      subst e1 e2
      rw [Nat.zero_add] at hc
      exact (hu.cell (p := ⟨g2, j, none⟩) (by rw [← HN.out]; exact hb)).trans hc)
    clear hM hgood
    by_cases hlt : (i : Int) < r
    · have hi4 : i ≤ 4 := by omega
      obtain ⟨nm, hnm⟩ : ∃ nm, names5[i]? = some nm := ⟨_, List.getElem?_eq_getElem (show i < 5 by omega)⟩
      have HNM := Lib.hid hnm
      have HP := Lib.hid (pick_int (HZ.out.on (HBW1.out.trans (HM.out.bl.mono (by have := HBW1.out.size; rw [HN.out] at this; exact this)))) ((i : Int) + 1) (by omega))
      go_wp2_with fail
      with_reducible refine HP.out.mono ?_
      rintro e w3 ⟨⟨k, rfl, hk0, hk1⟩, hb3⟩
      have HM3 := Lib.hid (HM.out.on hb3)
      have hc3 : w3.cell? ⟨g1, i, none⟩ = some (.string nm) := HNC.out w3 HM3.out.bl i nm hnm
      have hii : (0 : Int) ≤ (i : Int) := by omega
      have hi5 : (i : Int) < 5 := by omega
      obtain ⟨B, hB⟩ : ∃ B, w3.heap.size = B := ⟨_, rfl⟩
      have hcur : CurI w3.heap.size nm (10 * (i : Int) + 1) [] [] w3 (w3.alloc (.cells #[.string nm, .int .i64 (10 * (i : Int) + 1), .string ⟨#[97]⟩, .slice none 0 0, .slice none 0 0, .slice none 0 0] 59)) := ⟨⟨.slice none 0 0, .slice none 0 0, by rw [alloc_get, if_pos rfl], World.ownsRow_nil _ _ _ _, World.ownsRow_nil _ _ _ _⟩, below_new _ _⟩
      rw [hB] at hcur
      have HCUR := Lib.hid hcur
      have HB := Lib.hid hB
      clear hb3 HP hnm hcur HM HM2
      go_wp2_with fail
      go_loopw [10] (fun v wr => ∃ j : Nat, v = .int .i64 j ∧ j ≤ 2 ∧ ∃ S, S.length ≤ j ∧ (∀ s ∈ S, s ∈ names5) ∧ CurI B nm (10 * (i : Int) + 1) S [] w3 wr) (fun v _ => 3 - (intOf v).toNat)
      case atStart => exact ⟨0, rfl, by omega, [], Nat.le_refl _, fun s h => (by cases h), HCUR.out⟩
      case round =>
        obtain ⟨j, rfl, hj, S, hS, hSn, hcur⟩ := hrel
        have hq0 : 0 ≤ k.tmod 3 := Int.tmod_nonneg _ hk0
        have hq1 : k.tmod 3 < 3 := Int.tmod_lt_of_pos _ (by omega)
        generalize hqq : k.tmod 3 = q at *
        have HC := Lib.hid hcur
        have HSN := Lib.hid hSn
        clear hcur hSn
        by_cases hjq : (j : Int) < q
        · have hj1 : j ≤ 1 := by omega
          obtain ⟨a1, ha1, ea1⟩ : ∃ a1 : Nat, a1 < 5 ∧ (k / (3 + 5 * (j : Int))).tmod ((i : Int) + 1) = (a1 : Int) := tmod_nat (Int.ediv_nonneg hk0 (by omega)) (by omega) (by omega)
          obtain ⟨a2, ha2, ea2⟩ : ∃ a2 : Nat, a2 < 5 ∧ (k / (3 + (j : Int))).tmod 5 = (a2 : Int) := tmod_nat (Int.ediv_nonneg hk0 (by omega)) (by omega) (by omega)

          by_cases hb7 : (k % 7 == 6) = true
          · by_cases hai : (a2 : Int) < (i : Int)
            · have HREC : Hid (CurI B nm (10 * (i : Int) + 1) S [] w3 wr) := Lib.hid HC.out
              obtain ⟨y, hy⟩ : ∃ y, names5[a2]? = some y := ⟨_, List.getElem?_eq_getElem (show a2 < 5 by omega)⟩
              have HYM := Lib.hid (List.mem_of_getElem? hy)
              obtain ⟨sv, mv, b0, o1, o2⟩ := HC.out.out
              obtain ⟨As, cs, rfl, _, _⟩ := own_form o1
              obtain ⟨Am, cm, rfl, _, _⟩ := own_form o2
              have hyc : wr.cell? ⟨g1, a2, none⟩ = some (.string y) := HNC.out wr (HM3.out.bl.trans (HC.out.bl.mono (by have := HM3.out.lt; rw [HB.out] at this; exact Nat.le_of_lt this))) a2 y hy
              have x4 : wr.cell? ⟨B, 4, none⟩ = some (.slice As S.length cs) := by simp [World.cell?, b0]
              have x4' : (wr.alloc (.cells #[.string y] 9)).cell? ⟨B, 4, none⟩ = some (.slice As S.length cs) := ((below_new wr _).cell (p := ⟨B, 4, none⟩) HC.out.lt).trans x4
              have ha0 : (0 : Int) ≤ (a2 : Int) := by omega
              have ha5 : (a2 : Int) < 5 := by omega
              obtain ⟨i9, hi9, hz9, hs9, hb9⟩ := info_parts Try.info9
              have hbz : Below wr.heap.size wr (wr.alloc (.cells #[.string y] 9)).drew := (below_new wr _).drew
              have HOWZ := Lib.hid (own_on o1 hbz)
              have HNEW := Lib.hid (one_new wr (.string y) 9)
              have H63 : Hid (S.length + 1 ≤ maxLen) := Lib.hid (by unfold maxLen; omega)
              have HBY : Hid ((S.length + 1) * 16 ≤ 140737488355328) := Lib.hid (by omega)
              have HBASE : Hid (B + 1 ≤ (wr.alloc (.cells #[.string y] 9)).drew.heap.size) := Lib.hid (by have := hbz.size; have := HC.out.lt; omega)
              have HPP : Hid (∀ (gg cap : Nat) (w9 : World), w9.ownsRow (B + 1) 9 1 (.slice (some ⟨gg, 0, none⟩) (S.length + 1) cap) (S.length + 1) (S.map .string ++ [.string y]) → (wr.alloc (.cells #[.string y] 9)).drew.grownBy w9 (Value.slice As S.length cs).ownBlock → CurI B nm (10 * (i : Int) + 1) (S ++ [y]) [] w3 (w9.setCell ⟨B, 4, none⟩ (.slice (some ⟨gg, 0, none⟩) (S.length + 1) cap)) ∧ w9.cell? ⟨B, 4, none⟩ = some (.slice As S.length cs) ∧ w9.frozen? ⟨B, 4, none⟩ = false) := Lib.hid (fun gg cap w9 h1 h2 => HREC.out.sup b0 o1 o2 hbz h1 h2)
              have HSY : Hid (∀ s ∈ S ++ [y], s ∈ names5) := Lib.hid (fun s hs => (List.mem_append.1 hs).elim (HSN.out s) (fun h => by rw [List.mem_singleton.1 h]; exact HYM.out))
              have HSL : Hid ((S ++ [y]).length ≤ j + 1) := Lib.hid (by rw [List.length_append, List.length_singleton]; omega)
              clear hy b0 o1 o2 hbz
              generalize hsl : S.length = sl at *
              generalize S.map Value.string = sx at *
              go_wp2_with fail
              go_region_law (first | (refine step_append_lies _ rfl (.tmp 70) (.tmp 75) 40 rfl (B + 1) 9 i9 (.string ⟨#[]⟩) 1 16 Try.underlying40 hi9 hz9 hs9 hb9 rfl (by decide) (.slice As sl cs) sl sx rfl HOWZ.out ⟨wr.heap.size, 0, none⟩ 1 1 [.string y] rfl rfl HNEW.out (one_str y) (by decide) H63.out HBY.out HBASE.out (wr.heap.size + 1) (by show (wr.alloc _).heap.size = _; simp) ?_; intro gg cap w9 h9 g9 hat _; obtain ⟨k1, k2, k3⟩ := HPP.out gg cap w9 h9 g9; have QQ := Lib.hid k1; clear k1 h9 g9 hat))
              all_goals
                clear k2 k3
                go_wp2
                go_roundw
                case rel => exact ⟨j + 1, by go_num, by omega, S ++ [y], HSL.out, HSY.out, QQ.out⟩
                case measure => simp [intOf]; omega
            · have hai' : (i : Int) ≤ (a2 : Int) := by omega
              clear hai
              have HREC : Hid (CurI B nm (10 * (i : Int) + 1) S [] w3 wr) := Lib.hid HC.out
              obtain ⟨y, hy⟩ : ∃ y, names5[a2]? = some y := ⟨_, List.getElem?_eq_getElem (show a2 < 5 by omega)⟩
              have HYM := Lib.hid (List.mem_of_getElem? hy)
              obtain ⟨sv, mv, b0, o1, o2⟩ := HC.out.out
              obtain ⟨As, cs, rfl, _, _⟩ := own_form o1
              obtain ⟨Am, cm, rfl, _, _⟩ := own_form o2
              have hyc : wr.cell? ⟨g1, a2, none⟩ = some (.string y) := HNC.out wr (HM3.out.bl.trans (HC.out.bl.mono (by have := HM3.out.lt; rw [HB.out] at this; exact Nat.le_of_lt this))) a2 y hy
              have x4 : wr.cell? ⟨B, 4, none⟩ = some (.slice As S.length cs) := by simp [World.cell?, b0]
              have x4' : (wr.alloc (.cells #[.string y] 9)).cell? ⟨B, 4, none⟩ = some (.slice As S.length cs) := ((below_new wr _).cell (p := ⟨B, 4, none⟩) HC.out.lt).trans x4
              have ha0 : (0 : Int) ≤ (a2 : Int) := by omega
              have ha5 : (a2 : Int) < 5 := by omega
              obtain ⟨i9, hi9, hz9, hs9, hb9⟩ := info_parts Try.info9
              have hbz : Below wr.heap.size wr (wr.alloc (.cells #[.string y] 9)).drew := (below_new wr _).drew
              have HOWZ := Lib.hid (own_on o1 hbz)
              have HNEW := Lib.hid (one_new wr (.string y) 9)
              have H63 : Hid (S.length + 1 ≤ maxLen) := Lib.hid (by unfold maxLen; omega)
              have HBY : Hid ((S.length + 1) * 16 ≤ 140737488355328) := Lib.hid (by omega)
              have HBASE : Hid (B + 1 ≤ (wr.alloc (.cells #[.string y] 9)).drew.heap.size) := Lib.hid (by have := hbz.size; have := HC.out.lt; omega)
              have HPP : Hid (∀ (gg cap : Nat) (w9 : World), w9.ownsRow (B + 1) 9 1 (.slice (some ⟨gg, 0, none⟩) (S.length + 1) cap) (S.length + 1) (S.map .string ++ [.string y]) → (wr.alloc (.cells #[.string y] 9)).drew.grownBy w9 (Value.slice As S.length cs).ownBlock → CurI B nm (10 * (i : Int) + 1) (S ++ [y]) [] w3 (w9.setCell ⟨B, 4, none⟩ (.slice (some ⟨gg, 0, none⟩) (S.length + 1) cap)) ∧ w9.cell? ⟨B, 4, none⟩ = some (.slice As S.length cs) ∧ w9.frozen? ⟨B, 4, none⟩ = false) := Lib.hid (fun gg cap w9 h1 h2 => HREC.out.sup b0 o1 o2 hbz h1 h2)
              have HSY : Hid (∀ s ∈ S ++ [y], s ∈ names5) := Lib.hid (fun s hs => (List.mem_append.1 hs).elim (HSN.out s) (fun h => by rw [List.mem_singleton.1 h]; exact HYM.out))
              have HSL : Hid ((S ++ [y]).length ≤ j + 1) := Lib.hid (by rw [List.length_append, List.length_singleton]; omega)
              clear hy b0 o1 o2 hbz
              generalize hsl : S.length = sl at *
              generalize S.map Value.string = sx at *
              go_wp2_with fail
              go_region_law (first | (refine step_append_lies _ rfl (.tmp 70) (.tmp 75) 40 rfl (B + 1) 9 i9 (.string ⟨#[]⟩) 1 16 Try.underlying40 hi9 hz9 hs9 hb9 rfl (by decide) (.slice As sl cs) sl sx rfl HOWZ.out ⟨wr.heap.size, 0, none⟩ 1 1 [.string y] rfl rfl HNEW.out (one_str y) (by decide) H63.out HBY.out HBASE.out (wr.heap.size + 1) (by show (wr.alloc _).heap.size = _; simp) ?_; intro gg cap w9 h9 g9 hat _; obtain ⟨k1, k2, k3⟩ := HPP.out gg cap w9 h9 g9; have QQ := Lib.hid k1; clear k1 h9 g9 hat))
              all_goals
                clear k2 k3
                go_wp2
                go_roundw
                case rel => exact ⟨j + 1, by go_num, by omega, S ++ [y], HSL.out, HSY.out, QQ.out⟩
                case measure => simp [intOf]; omega
          · have hb7f : (k % 7 == 6) = false := by simpa using hb7
            clear hb7
            by_cases hai : (a1 : Int) < (i : Int)
            · have HREC : Hid (CurI B nm (10 * (i : Int) + 1) S [] w3 wr) := Lib.hid HC.out
              obtain ⟨y, hy⟩ : ∃ y, names5[a1]? = some y := ⟨_, List.getElem?_eq_getElem (show a1 < 5 by omega)⟩
              have HYM := Lib.hid (List.mem_of_getElem? hy)
              obtain ⟨sv, mv, b0, o1, o2⟩ := HC.out.out
              obtain ⟨As, cs, rfl, _, _⟩ := own_form o1
              obtain ⟨Am, cm, rfl, _, _⟩ := own_form o2
              have hyc : wr.cell? ⟨g1, a1, none⟩ = some (.string y) := HNC.out wr (HM3.out.bl.trans (HC.out.bl.mono (by have := HM3.out.lt; rw [HB.out] at this; exact Nat.le_of_lt this))) a1 y hy
              have x4 : wr.cell? ⟨B, 4, none⟩ = some (.slice As S.length cs) := by simp [World.cell?, b0]
              have x4' : (wr.alloc (.cells #[.string y] 9)).cell? ⟨B, 4, none⟩ = some (.slice As S.length cs) := ((below_new wr _).cell (p := ⟨B, 4, none⟩) HC.out.lt).trans x4
              have ha0 : (0 : Int) ≤ (a1 : Int) := by omega
              have ha5 : (a1 : Int) < 5 := by omega
              obtain ⟨i9, hi9, hz9, hs9, hb9⟩ := info_parts Try.info9
              have hbz : Below wr.heap.size wr (wr.alloc (.cells #[.string y] 9)).drew := (below_new wr _).drew
              have HOWZ := Lib.hid (own_on o1 hbz)
              have HNEW := Lib.hid (one_new wr (.string y) 9)
              have H63 : Hid (S.length + 1 ≤ maxLen) := Lib.hid (by unfold maxLen; omega)
              have HBY : Hid ((S.length + 1) * 16 ≤ 140737488355328) := Lib.hid (by omega)
              have HBASE : Hid (B + 1 ≤ (wr.alloc (.cells #[.string y] 9)).drew.heap.size) := Lib.hid (by have := hbz.size; have := HC.out.lt; omega)
              have HPP : Hid (∀ (gg cap : Nat) (w9 : World), w9.ownsRow (B + 1) 9 1 (.slice (some ⟨gg, 0, none⟩) (S.length + 1) cap) (S.length + 1) (S.map .string ++ [.string y]) → (wr.alloc (.cells #[.string y] 9)).drew.grownBy w9 (Value.slice As S.length cs).ownBlock → CurI B nm (10 * (i : Int) + 1) (S ++ [y]) [] w3 (w9.setCell ⟨B, 4, none⟩ (.slice (some ⟨gg, 0, none⟩) (S.length + 1) cap)) ∧ w9.cell? ⟨B, 4, none⟩ = some (.slice As S.length cs) ∧ w9.frozen? ⟨B, 4, none⟩ = false) := Lib.hid (fun gg cap w9 h1 h2 => HREC.out.sup b0 o1 o2 hbz h1 h2)
              have HSY : Hid (∀ s ∈ S ++ [y], s ∈ names5) := Lib.hid (fun s hs => (List.mem_append.1 hs).elim (HSN.out s) (fun h => by rw [List.mem_singleton.1 h]; exact HYM.out))
              have HSL : Hid ((S ++ [y]).length ≤ j + 1) := Lib.hid (by rw [List.length_append, List.length_singleton]; omega)
              clear hy b0 o1 o2 hbz
              generalize hsl : S.length = sl at *
              generalize S.map Value.string = sx at *
              go_wp2_with fail
              go_region_law (first | (refine step_append_lies _ rfl (.tmp 70) (.tmp 75) 40 rfl (B + 1) 9 i9 (.string ⟨#[]⟩) 1 16 Try.underlying40 hi9 hz9 hs9 hb9 rfl (by decide) (.slice As sl cs) sl sx rfl HOWZ.out ⟨wr.heap.size, 0, none⟩ 1 1 [.string y] rfl rfl HNEW.out (one_str y) (by decide) H63.out HBY.out HBASE.out (wr.heap.size + 1) (by show (wr.alloc _).heap.size = _; simp) ?_; intro gg cap w9 h9 g9 hat _; obtain ⟨k1, k2, k3⟩ := HPP.out gg cap w9 h9 g9; have QQ := Lib.hid k1; clear k1 h9 g9 hat))
              all_goals
                clear k2 k3
                go_wp2
                go_roundw
                case rel => exact ⟨j + 1, by go_num, by omega, S ++ [y], HSL.out, HSY.out, QQ.out⟩
                case measure => simp [intOf]; omega
            · have hai' : (i : Int) ≤ (a1 : Int) := by omega
              clear hai
              go_wp2
              go_roundw
              case rel => exact ⟨j + 1, by go_num, by omega, S, by omega, HSN.out, HC.out⟩
              case measure => simp [intOf]; omega
        · have hjq' : q ≤ (j : Int) := by omega
          have HSS : Hid (S.length ≤ 2) := Lib.hid (by omega)
          obtain ⟨d9, hd9, hd9', h9a, h9b⟩ := tdiv_both (m := 9) hk0 (by omega)
          obtain ⟨t, ht, et, et'⟩ := tmod_both (x := d9) (m := 3) h9a (by omega)
          clear hjq hj hS
          go_wp2_with fail
          go_loopw [12] (fun v wr => ∃ j : Nat, v = .int .i64 j ∧ j ≤ 2 ∧ ∃ M, M.length ≤ j ∧ (∀ m ∈ M, m.1.size ≤ 2) ∧ CurI B nm (10 * (i : Int) + 1) S M w3 wr) (fun v _ => 3 - (intOf v).toNat)
          case atStart => exact ⟨0, rfl, by omega, [], Nat.le_refl _, fun s h => (by cases h), HC.out⟩
          case round =>
            obtain ⟨j, rfl, hj, M, hMl, hMs, hcur⟩ := hrel
            have HC := Lib.hid hcur
            have HMS := Lib.hid hMs
            clear hcur hMs
            by_cases hjt : (j : Int) < (t : Int)
            · have hj1 : j ≤ 1 := by omega
              obtain ⟨a3, ha3, ea3, ea3'⟩ := tmod_both (x := (i : Int) * 2 + (j : Int)) (m := 5) (by omega) (by omega)
              have hv1 : IntKind.i64.wrap ((i : Int) * 2) = (i : Int) * 2 := IntWalk.i64_in _ (by omega)
              have hv2 : IntKind.i64.wrap ((i : Int) * 2 + (j : Int)) = (i : Int) * 2 + (j : Int) := IntWalk.i64_in _ (by omega)
              have hv3 : IntKind.i64.wrap (a3 : Int) = (a3 : Int) := IntWalk.i64_in _ (by omega)
              have hv4 : IntKind.i64.wrap (10 * (i : Int)) = 10 * (i : Int) := IntWalk.i64_in _ (by omega)
              have hv5 : IntKind.i64.wrap (10 * (i : Int) + 2) = 10 * (i : Int) + 2 := IntWalk.i64_in _ (by omega)
              have hv6 : IntKind.i64.wrap (10 * (i : Int) + 2 + (j : Int)) = 10 * (i : Int) + 2 + (j : Int) := IntWalk.i64_in _ (by omega)
              obtain ⟨y, hy⟩ : ∃ y, names5[a3]? = some y := ⟨_, List.getElem?_eq_getElem (show a3 < 5 by omega)⟩
              have hys : y.size = 1 := names5_size y (List.mem_of_getElem? hy)
              have HSZ : Hid ((⟨#[109]⟩ ++ y : ByteArray).size ≤ 2) := Lib.hid (by rw [ByteArray.size_append]; show 1 + y.size ≤ 2; omega)
              have hsum : ∀ q : World, (Op.stringOp .add ⟨#[109]⟩ y).run Try.prog q = .ok (.string (⟨#[109]⟩ ++ y)) q := fun q => run_string_add_sum q _ _ (by show 1 + _ ≤ _; omega)
              obtain ⟨sv, mv, b0, o1, o2⟩ := HC.out.out
              obtain ⟨As, cs, rfl, _, _⟩ := own_form o1
              obtain ⟨Am, cm, rfl, _, _⟩ := own_form o2
              have hyc : wr.cell? ⟨g1, a3, none⟩ = some (.string y) := HNC.out wr (HM3.out.bl.trans (HC.out.bl.mono (by have := HM3.out.lt; rw [HB.out] at this; exact Nat.le_of_lt this))) a3 y hy
              have x5 : wr.cell? ⟨B, 5, none⟩ = some (.slice Am M.length cm) := by simp [World.cell?, b0]
              have x5' : (wr.alloc (.cells #[.string (⟨#[109]⟩ ++ y), .int .i64 (10 * (i : Int) + 2 + (j : Int)), .slice none 0 0, .slice none 0 0, .slice none 0 0, .int .i64 0, .int .i64 0, .string ⟨#[]⟩, .slice none 0 0] 81)).cell? ⟨B, 5, none⟩ = some (.slice Am M.length cm) := ((below_new wr _).cell (p := ⟨B, 5, none⟩) HC.out.lt).trans x5
              have ha0 : (0 : Int) ≤ (a3 : Int) := by omega
              obtain ⟨i81, hi81, hz81, hs81, hb81⟩ := info_parts Try.info81
              have hbz : Below wr.heap.size wr (wr.alloc (.cells #[.string (⟨#[109]⟩ ++ y), .int .i64 (10 * (i : Int) + 2 + (j : Int)), .slice none 0 0, .slice none 0 0, .slice none 0 0, .int .i64 0, .int .i64 0, .string ⟨#[]⟩, .slice none 0 0] 81)).drew := (below_new wr _).drew
              have HOWZ := Lib.hid (own_on o2 hbz)
              have HNEW : Hid (∀ k u, (sigC (⟨#[109]⟩ ++ y, 10 * (i : Int) + 2 + (j : Int)))[k]? = some u → (wr.alloc (.cells #[.string (⟨#[109]⟩ ++ y), .int .i64 (10 * (i : Int) + 2 + (j : Int)), .slice none 0 0, .slice none 0 0, .slice none 0 0, .int .i64 0, .int .i64 0, .string ⟨#[]⟩, .slice none 0 0] 81)).drew.cell? ((⟨wr.heap.size, 0, none⟩ : Addr).add k) = some u) := Lib.hid (new_cells wr _ 81)
              have H63 : Hid (M.length + 1 ≤ maxLen) := Lib.hid (by unfold maxLen; omega)
              have HBY : Hid ((M.length + 1) * 152 ≤ 140737488355328) := Lib.hid (by omega)
              have HBASE : Hid (B + 1 ≤ (wr.alloc (.cells #[.string (⟨#[109]⟩ ++ y), .int .i64 (10 * (i : Int) + 2 + (j : Int)), .slice none 0 0, .slice none 0 0, .slice none 0 0, .int .i64 0, .int .i64 0, .string ⟨#[]⟩, .slice none 0 0] 81)).drew.heap.size) := Lib.hid (by have := hbz.size; have := HC.out.lt; omega)
              have HPP : Hid (∀ (gg cap : Nat) (w9 : World), w9.ownsRow (B + 1) 81 9 (.slice (some ⟨gg, 0, none⟩) (M.length + 1) cap) (M.length + 1) (sigCs M ++ sigC (⟨#[109]⟩ ++ y, 10 * (i : Int) + 2 + (j : Int))) → (wr.alloc (.cells #[.string (⟨#[109]⟩ ++ y), .int .i64 (10 * (i : Int) + 2 + (j : Int)), .slice none 0 0, .slice none 0 0, .slice none 0 0, .int .i64 0, .int .i64 0, .string ⟨#[]⟩, .slice none 0 0] 81)).drew.grownBy w9 (Value.slice Am M.length cm).ownBlock → CurI B nm (10 * (i : Int) + 1) S (M ++ [(⟨#[109]⟩ ++ y, 10 * (i : Int) + 2 + (j : Int))]) w3 (w9.setCell ⟨B, 5, none⟩ (.slice (some ⟨gg, 0, none⟩) (M.length + 1) cap)) ∧ w9.cell? ⟨B, 5, none⟩ = some (.slice Am M.length cm) ∧ w9.frozen? ⟨B, 5, none⟩ = false) := Lib.hid (fun gg cap w9 h1 h2 => HC.out.mth b0 o1 o2 hbz h1 h2)
              have HSY : Hid (∀ m ∈ M ++ [(⟨#[109]⟩ ++ y, 10 * (i : Int) + 2 + (j : Int))], m.1.size ≤ 2) := Lib.hid (fun s hs => (List.mem_append.1 hs).elim (HMS.out s) (fun h => by rw [List.mem_singleton.1 h]; exact HSZ.out))
              have HSL : Hid ((M ++ [((⟨#[109]⟩ ++ y : ByteArray), 10 * (i : Int) + 2 + (j : Int))]).length ≤ j + 1) := Lib.hid (by rw [List.length_append, List.length_singleton]; omega)
              have HONE := Lib.hid (sig_one (⟨#[109]⟩ ++ y, 10 * (i : Int) + 2 + (j : Int)))
              clear hy b0 o1 o2 hbz hys
              generalize hsl : M.length = sl at *
              generalize sigCs M = sx at *
              go_wp2_with fail
              go_region_law (first | (refine step_append_lies _ rfl (.tmp 86) (.tmp 102) 57 rfl (B + 1) 81 i81 _ 9 152 Try.underlying57 hi81 hz81 hs81 hb81 rfl (by decide) (.slice Am sl cm) sl sx rfl HOWZ.out ⟨wr.heap.size, 0, none⟩ 1 1 (sigC (⟨#[109]⟩ ++ y, 10 * (i : Int) + 2 + (j : Int))) rfl rfl HNEW.out HONE.out (by decide) H63.out HBY.out HBASE.out (wr.heap.size + 1) (by show (wr.alloc _).heap.size = _; simp) ?_; intro gg cap w9 h9 g9 hat _; obtain ⟨k1, k2, k3⟩ := HPP.out gg cap w9 h9 g9; have QQ := Lib.hid k1; clear k1 h9 g9 hat))
              all_goals
                clear k2 k3
                go_wp2
                go_roundw
                case rel => exact ⟨j + 1, by go_num, by omega, _, HSL.out, HSY.out, QQ.out⟩
                case measure => simp [intOf]; omega
            · have hjt' : (t : Int) ≤ (j : Int) := by omega
              obtain ⟨sv, mv, b0, o1, o2⟩ := HC.out.out
              obtain ⟨As, cs, rfl, _, _⟩ := own_form o1
              obtain ⟨Am, cm, rfl, _, _⟩ := own_form o2
              have hm : MadI N L [] w1 wr := HM3.out.on (by rw [HB.out]; exact HC.out.bl)
              obtain ⟨cv, iv, p0, p1, p2⟩ := hm.out
              obtain ⟨Ac, cc, rfl, _, _⟩ := own_form p1
              have y1 : wr.cell? ⟨N, 1, none⟩ = some (.slice Ac L.length cc) := by simp [World.cell?, p0]
              obtain ⟨z0, z1, z2, z3, z4, z5⟩ : wr.cell? ⟨B, 0, none⟩ = some (.string nm) ∧ wr.cell? ⟨B, 1, none⟩ = some (.int .i64 (10 * (i : Int) + 1)) ∧ wr.cell? ⟨B, 2, none⟩ = some (.string ⟨#[97]⟩) ∧ wr.cell? ⟨B, 3, none⟩ = some (.slice none 0 0) ∧ wr.cell? ⟨B, 4, none⟩ = some (.slice As S.length cs) ∧ wr.cell? ⟨B, 5, none⟩ = some (.slice Am M.length cm) := by simp [World.cell?, b0]
              obtain ⟨x, hx⟩ : ∃ x : Cls × Value × Value, x = (⟨nm, 10 * (i : Int) + 1, ⟨#[97]⟩, S, M⟩, .slice As S.length cs, .slice Am M.length cm) := ⟨_, rfl⟩
              obtain ⟨i59, hi59, hz59, hs59, hb59⟩ := info_parts Try.info59
              have hNB : N < B := by have := HM3.out.lt; rw [HB.out] at this; exact this
              have low : ∀ {e : TypeId} {s n : Nat} {v : Value} {xs : List Value}, wr.ownsRow (B + 1) e s v n xs → wr.ownsRow (N + 1) e s v n xs := fun h => ⟨h.1, h.2.imp id (fun ⟨g, cap, cur, e, hg, r⟩ => ⟨g, cap, cur, e, by omega, r⟩)⟩
              have hx1 : wr.ownsRow (N + 1) 9 1 x.2.1 x.1.supers.length (x.1.supers.map .string) := by rw [hx]; exact low o1
              have hx2 : wr.ownsRow (N + 1) 81 9 x.2.2 x.1.meths.length (sigCs x.1.meths) := by rw [hx]; exact low o2
              have hbz : Below wr.heap.size wr (wr.alloc (.cells #[.string nm, .int .i64 (10 * (i : Int) + 1), .string ⟨#[97]⟩, .slice none 0 0, .slice As S.length cs, .slice Am M.length cm] 59)) := below_new wr _
              have HPP : Hid (∀ (v' : Value) (w9 : World), w9.ownsRow (N + 1) 59 6 v' (L.length + 1) (clsCs L ++ clsC x) → (wr.alloc (.cells #[.string nm, .int .i64 (10 * (i : Int) + 1), .string ⟨#[97]⟩, .slice none 0 0, .slice As S.length cs, .slice Am M.length cm] 59)).grownBy w9 (Value.slice Ac L.length cc).ownBlock → MadI N (L ++ [x]) [] w1 (w9.setCell ⟨N, 1, none⟩ v') ∧ w9.cell? ⟨N, 1, none⟩ = some (.slice Ac L.length cc) ∧ w9.frozen? ⟨N, 1, none⟩ = false) := Lib.hid (fun v' w9 h1 h2 => hm.put p0 p1 p2 hx1 hx2 hbz h1 h2)
              have HOW := Lib.hid (own_on p1 hbz)
              have HNW : Hid (∀ k u, (clsC x)[k]? = some u → (wr.alloc (.cells #[.string nm, .int .i64 (10 * (i : Int) + 1), .string ⟨#[97]⟩, .slice none 0 0, .slice As S.length cs, .slice Am M.length cm] 59)).cell? ((⟨wr.heap.size, 0, none⟩ : Addr).add k) = some u) := Lib.hid (by rw [hx]; exact new_cells wr _ 59)
              have HONE : Hid (∀ u ∈ clsC x, u.oneCell' = true) := Lib.hid (by rw [hx]; exact cls_one _ rfl rfl)
              have HLX : Hid ((clsC x).length = 1 * 6) := Lib.hid (by rw [hx]; rfl)
              have H63 : Hid (L.length + 1 ≤ maxLen) := Lib.hid (by unfold maxLen; omega)
              have HBY : Hid ((L.length + 1) * 112 ≤ 140737488355328) := Lib.hid (by omega)
              have HBASE : Hid (N + 1 ≤ (wr.alloc (.cells #[.string nm, .int .i64 (10 * (i : Int) + 1), .string ⟨#[97]⟩, .slice none 0 0, .slice As S.length cs, .slice Am M.length cm] 59)).heap.size) := Lib.hid (by have := hbz.size; have := hm.lt; omega)
              have HGG : Hid (GoodC ((L ++ [x]).map (·.1))) := Lib.hid (by
                rw [List.map_append]
                refine HG.out.put (c := x.1) ?_ ?_ ?_
                · rw [List.length_map, hL, hx]; exact HNM.out
                · rw [hx]; exact ⟨HSS.out, HSN.out⟩
                · rw [hx]; exact ⟨by show M.length ≤ 2; omega, HMS.out⟩)
              have HLL : Hid ((L ++ [x]).length = i + 1) := Lib.hid (by rw [List.length_append, List.length_singleton, hL])
              clear b0 o1 o2 hm p0 p1 p2 low hx1 hx2 hbz hjt
              generalize hcx : clsCs L = cx at *
              generalize hln : L.length = ln at *
              generalize hsn : S.length = sn at *
              generalize hmn : M.length = mn at *
              have HX := Lib.hid hx
              clear hx hsn hmn hln hcx hL
              go_wp2_with (at_builtin; refine wpList_append_own_at _ rfl (.tmp 106) (.tmp 108) 24 rfl (N + 1) 59 i59 _ 6 112 Try.underlying24 hi59 hz59 hs59 hb59 rfl (by decide) _ ln cx rfl HOW.out ⟨wr.heap.size, 0, none⟩ 1 1 (clsC x) rfl HLX.out HNW.out HONE.out H63.out HBY.out HBASE.out ?_; intro v' w9 hown2 hg2 _ hat2; obtain ⟨p1, p3, p4⟩ := HPP.out v' w9 hown2 hg2; obtain ⟨A3, c3, rfl, _⟩ := own_form hown2; have HP1 := Lib.hid p1; clear p1 hown2 hat2)
              go_roundw
              case rel => exact ⟨i + 1, by go_num, by omega, L ++ [x], HLL.out, HGG.out, HP1.out⟩
              case measure => simp [intOf]; omega
    · have hge : r ≤ (i : Int) := by omega
      obtain ⟨d6, hd6, hd6', h6a, h6b⟩ := tdiv_both (m := 6) hn0 (by omega)
      obtain ⟨t6, ht6, et6, et6'⟩ := tmod_both (x := d6) (m := 3) h6a (by omega)
      have HLEN : Hid (L.length = i) := Lib.hid hL
      clear hlt HM2 hL
      go_wp2_with fail
      go_loopw [13] (fun v wr => ∃ i : Nat, v = .int .i64 i ∧ i ≤ 20 ∧ 6 ≤ i ∧ ∃ I, I.length ≤ i ∧ (∀ x ∈ I, x.cls.size ≤ maxLen ∧ x.con.size ≤ maxLen) ∧ MadI N L I w1 wr) (fun v _ => 21 - (intOf v).toNat)
      case atStart => exact ⟨6, rfl, by omega, by omega, [], by simp, fun s h => (by cases h), HM.out⟩
      case round =>
        obtain ⟨i, rfl, hi20, hi6, I, hIl, hIs, hM4⟩ := hrel
        have HM4 := Lib.hid hM4
        have HIS := Lib.hid hIs
        clear hM4 hIs HM
        by_cases hgo : i < 20 ∧ i < zs.length
        · obtain ⟨hgo1, hgo2⟩ := hgo
          have hgi1 : (i : Int) < 20 := by omega
          have hgi2 : (i : Int) < (zs.length : Int) := by omega
          have HP := Lib.hid (pick_int (HZ.out.on (HBW1.out.trans (HM4.out.bl.mono (by have := HBW1.out.size; rw [HN.out] at this; exact this)))) (i : Int) (by omega))
          go_wp2_with fail
          with_reducible refine HP.out.mono ?_
          rintro e w3 ⟨⟨k, rfl, hk0, hk1⟩, hb3⟩
          have HM5 := Lib.hid (HM4.out.on hb3)
          clear hb3 HP HM4
          by_cases hb4 : (k % 4 == 3) = true
          · go_wp2_with fail
            go_roundw
            case rel => exact ⟨i + 1, by go_num, by omega, by omega, I, by omega, HIS.out, HM5.out⟩
            case measure => simp [intOf]; omega
          · have hb4f : (k % 4 == 3) = false := by simpa using hb4
            clear hb4
            obtain ⟨d4, hd4, hd4', h4a, h4b⟩ := tdiv_both (m := 4) hk0 (by omega)
            obtain ⟨b1, hb1, eb1, eb1'⟩ := tmod_both (x := d4) (m := 5) h4a (by omega)
            obtain ⟨d20, hd20, hd20', h20a, h20b⟩ := tdiv_both (m := 20) hk0 (by omega)
            obtain ⟨b2, hb2, eb2, eb2'⟩ := tmod_both (x := d20) (m := 3) h20a (by omega)
            obtain ⟨d60, hd60, hd60', h60a, h60b⟩ : ∃ d : Int, k.tdiv 60 = d ∧ k / 60 = d ∧ 0 ≤ d ∧ d ≤ 200000000000000000 := ⟨k / 60, Int.tdiv_eq_ediv_of_nonneg hk0, rfl, by omega, by omega⟩
            obtain ⟨b3, hb3, eb3, eb3'⟩ := tmod_both (x := (i : Int) * 37 + d60) (m := 300) (by omega) (by omega)
            have hv1 : IntKind.i64.wrap d4 = d4 := IntWalk.i64_in _ (by omega)
            have hv2 : IntKind.i64.wrap (b1 : Int) = (b1 : Int) := IntWalk.i64_in _ (by omega)
            have hv3 : IntKind.i64.wrap d20 = d20 := IntWalk.i64_in _ (by omega)
            have hv4 : IntKind.i64.wrap (b2 : Int) = (b2 : Int) := IntWalk.i64_in _ (by omega)
            have hv5 : IntKind.i64.wrap d60 = d60 := IntWalk.i64_in _ (by omega)
            have hv6 : IntKind.i64.wrap ((i : Int) * 37) = (i : Int) * 37 := IntWalk.i64_in _ (by omega)
            have hv7 : IntKind.i64.wrap ((i : Int) * 37 + d60) = (i : Int) * 37 + d60 := IntWalk.i64_in _ (by omega)
            have hv8 : IntKind.i64.wrap (b3 : Int) = (b3 : Int) := IntWalk.i64_in _ (by omega)
            have hv9 : IntKind.i64.wrap (100 + (b3 : Int)) = 100 + (b3 : Int) := IntWalk.i64_in _ (by omega)
            obtain ⟨y, hy⟩ : ∃ y, names5[b1]? = some y := ⟨_, List.getElem?_eq_getElem (show b1 < 5 by omega)⟩
            obtain ⟨u, hu⟩ : ∃ u, cons3[b2]? = some u := ⟨_, List.getElem?_eq_getElem (show b2 < 3 by omega)⟩
            have hx9 : y.size ≤ maxLen ∧ u.size ≤ maxLen := ⟨by rw [names5_size y (List.mem_of_getElem? hy)]; decide, cons3_size u (List.mem_of_getElem? hu)⟩
            obtain ⟨cv, iv, p0, p1, p2⟩ := HM5.out.out
            obtain ⟨Ac, cc, rfl, _, _⟩ := own_form p1
            obtain ⟨Ai, ci, rfl, _, _⟩ := own_form p2
            have hNl : N < w3.heap.size := HM5.out.lt
            have y2 : w3.cell? ⟨N, 2, none⟩ = some (.slice Ai I.length ci) := by simp [World.cell?, p0]
            have hyc : w3.cell? ⟨g1, b1, none⟩ = some (.string y) := HNC.out w3 HM5.out.bl b1 y hy
            have huc : w3.cell? ⟨g2, b2, none⟩ = some (.string u) := HNC2.out w3 HM5.out.bl b2 u hu
            obtain ⟨i70, hi70, hz70, hs70, hb70⟩ := info_parts Try.info70
            have hbz : Below w3.heap.size w3 (w3.alloc (.cells #[.string y, .int .i64 (100 + (b3 : Int)), .string u, .slice none 0 0, .slice none 0 0, .slice none 0 0] 70)).drew := (below_new w3 _).drew
            have y2' : (w3.alloc (.cells #[.string y, .int .i64 (100 + (b3 : Int)), .string u, .slice none 0 0, .slice none 0 0, .slice none 0 0] 70)).cell? ⟨N, 2, none⟩ = some (.slice Ai I.length ci) := ((below_new w3 _).cell (p := ⟨N, 2, none⟩) hNl).trans y2
            have HOWZ := Lib.hid (own_on p2 hbz)
            have HNEW : Hid (∀ k j, (insC ⟨y, u, 100 + (b3 : Int)⟩)[k]? = some j → (w3.alloc (.cells #[.string y, .int .i64 (100 + (b3 : Int)), .string u, .slice none 0 0, .slice none 0 0, .slice none 0 0] 70)).drew.cell? ((⟨w3.heap.size, 0, none⟩ : Addr).add k) = some j) := Lib.hid (new_cells w3 _ 70)
            have HONE : Hid (∀ j ∈ insC ⟨y, u, 100 + (b3 : Int)⟩, j.oneCell' = true) := Lib.hid (fun j hj => insCs_one [⟨y, u, 100 + (b3 : Int)⟩] j (by simpa [insCs] using hj))
            have H63 : Hid (I.length + 1 ≤ maxLen) := Lib.hid (by unfold maxLen; omega)
            have HBY : Hid ((I.length + 1) * 112 ≤ 140737488355328) := Lib.hid (by omega)
            have HBASE : Hid (N + 1 ≤ (w3.alloc (.cells #[.string y, .int .i64 (100 + (b3 : Int)), .string u, .slice none 0 0, .slice none 0 0, .slice none 0 0] 70)).drew.heap.size) := Lib.hid (by have := hbz.size; omega)
            have HPP : Hid (∀ (gg cap : Nat) (w9 : World), w9.ownsRow (N + 1) 70 6 (.slice (some ⟨gg, 0, none⟩) (I.length + 1) cap) (I.length + 1) (insCs I ++ insC ⟨y, u, 100 + (b3 : Int)⟩) → (w3.alloc (.cells #[.string y, .int .i64 (100 + (b3 : Int)), .string u, .slice none 0 0, .slice none 0 0, .slice none 0 0] 70)).drew.grownBy w9 (Value.slice Ai I.length ci).ownBlock → MadI N L (I ++ [⟨y, u, 100 + (b3 : Int)⟩]) w1 (w9.setCell ⟨N, 2, none⟩ (.slice (some ⟨gg, 0, none⟩) (I.length + 1) cap)) ∧ w9.cell? ⟨N, 2, none⟩ = some (.slice Ai I.length ci) ∧ w9.frozen? ⟨N, 2, none⟩ = false) := Lib.hid (fun gg cap w9 h1 h2 => HM5.out.ins p0 p1 p2 hbz h1 h2)
            have HSY : Hid (∀ x ∈ I ++ [(⟨y, u, 100 + (b3 : Int)⟩ : Ins)], x.cls.size ≤ maxLen ∧ x.con.size ≤ maxLen) := Lib.hid (fun s hs => (List.mem_append.1 hs).elim (HIS.out s) (fun h => by rw [List.mem_singleton.1 h]; exact hx9))
            have HSL : Hid ((I ++ [(⟨y, u, 100 + (b3 : Int)⟩ : Ins)]).length ≤ i + 1) := Lib.hid (by rw [List.length_append, List.length_singleton]; omega)
            clear hy hu p0 p1 p2 hbz hx9
            generalize hsl : I.length = sl at *
            generalize insCs I = sx at *
            go_wp2_with fail
            go_region_law (first | (refine step_append_lies _ rfl (.tmp 128) (.tmp 149) 25 rfl (N + 1) 70 i70 _ 6 112 Try.underlying25 hi70 hz70 hs70 hb70 rfl (by decide) (.slice Ai sl ci) sl sx rfl HOWZ.out ⟨w3.heap.size, 0, none⟩ 1 1 (insC ⟨y, u, 100 + (b3 : Int)⟩) rfl rfl HNEW.out HONE.out (by decide) H63.out HBY.out HBASE.out (w3.heap.size + 1) (by show (w3.alloc _).heap.size = _; simp) ?_; intro gg cap w9 h9 g9 hat _; obtain ⟨k1, k2, k3⟩ := HPP.out gg cap w9 h9 g9; have QQ := Lib.hid k1; clear k1 h9 g9 hat))
            all_goals
              clear k2 k3
              go_wp2
              go_roundw
              case rel => exact ⟨i + 1, by go_num, by omega, by omega, _, HSL.out, HSY.out, QQ.out⟩
              case measure => simp [intOf]; omega
        · obtain ⟨cv, iv, p0, p1, p2⟩ := HM4.out.out
          obtain ⟨Ac, cc, rfl, _, _⟩ := own_form p1
          obtain ⟨Ai, ci, rfl, _, _⟩ := own_form p2
          obtain ⟨y0, y1, y2, y3⟩ : wr.cell? ⟨N, 0, none⟩ = some (.slice none 0 0) ∧ wr.cell? ⟨N, 1, none⟩ = some (.slice Ac L.length cc) ∧ wr.cell? ⟨N, 2, none⟩ = some (.slice Ai I.length ci) ∧ wr.cell? ⟨N, 3, none⟩ = some (.slice none 0 0) := by simp [World.cell?, p0]
          have HCL := Lib.hid (HM4.out.classes p1)
          have HIN := Lib.hid (InstsAt.of_own p2)
          have HIV : Hid (Value.slice Ai I.length ci = .slice none 0 0 ∨ ∃ ad n c, Value.slice Ai I.length ci = .slice (some ad) n c) := Lib.hid (by
            rcases p2.2 with ⟨h1, _⟩ | ⟨g, cap, cur, h1, _⟩
            · exact .inl h1
            · exact .inr ⟨_, _, _, h1⟩)
          have HOI : Hid (OkI I) := Lib.hid ⟨HIS.out, by omega⟩
          have hRN : w.heap.size < N := by rw [← HN.out]; exact lt_of_block HRB.out
          have hNl : N < wr.heap.size := HM4.out.lt
          have hRb : wr.heap[w.heap.size]? = some (.cells #[.slice none 0 0, .slice none 0 0, .slice none 0 0, .slice none 0 0] 28) := (HM4.out.bl.block _ hRN).trans HRB.out
          have HRR := Lib.hid hRb
          have HBW : Hid (Below w.heap.size w wr) := Lib.hid (HBW1.out.trans (HM4.out.bl.mono (Nat.le_of_lt hRN)))
          have HHW := Lib.hid (whole_any (Q := fun b => b < wr.heap.size) (HCL.out.mono (fun b h => h.2)) (HIN.out.mono (fun b _ h => h)) (fun b h => h) HG.out.ok HOI.out)
          have hcond : ¬ (i : Int) < 20 ∨ ((i : Int) < 20 ∧ ¬ (i : Int) < (zs.length : Int)) := by omega
          clear p0 p1 p2 hgo hRb
          generalize hll : L.length = ll at *
          generalize hil : I.length = il at *
          by_cases hw6 : (0 : Int) < (t6 : Int)
          · rcases hcond with hc1 | ⟨hc1, hc2⟩
            all_goals
              go_wp2_with fail
              with_reducible refine HHW.out.mono ?_
              rintro e w9 ⟨L9, v9, rfl, hins, hok, hnil, hb9⟩
              obtain ⟨A9, c9, rfl, _⟩ : ∃ A c, v9 = .slice A L9.length c ∧ True := by obtain ⟨A, c, e, _⟩ := hins; exact ⟨A, c, e, trivial⟩
              have hR9 : w9.heap[w.heap.size]? = some (.cells #[.slice none 0 0, .slice none 0 0, .slice none 0 0, .slice none 0 0] 28) := (hb9.block _ (by omega)).trans HRR.out
              have hf := fin_made hR9 hRN rfl (HBW.out.trans (hb9.mono (by omega))) ((HCL.out.keep hb9.size (fun b _ hl => hb9.block b hl)).mono (fun b h => ⟨h.1, Nat.lt_of_lt_of_le h.2 hb9.size⟩)) (hins.mono (fun b h _ => Nat.lt_of_lt_of_le (Nat.lt_trans hRN hNl) h)) hnil HG.out hok
              have HF1 := Lib.hid hf.1
              have HF2 := Lib.hid hf.2
              obtain ⟨q0, q1, q2, q3⟩ : w9.cell? ⟨w.heap.size, 0, none⟩ = some (.slice none 0 0) ∧ w9.cell? ⟨w.heap.size, 1, none⟩ = some (.slice none 0 0) ∧ w9.cell? ⟨w.heap.size, 2, none⟩ = some (.slice none 0 0) ∧ w9.cell? ⟨w.heap.size, 3, none⟩ = some (.slice none 0 0) := by simp [World.cell?, hR9]
              have f0 : ∀ j, w9.frozen? ⟨w.heap.size, j, none⟩ = false := fun j => by simp [World.frozen?, hR9]
              clear hf hins hok hnil hb9 hR9
              go_wp2_with fail
              refine ⟨rfl, _, results_row1 rfl _ _ w.heap.size 28 _ (0, 0) _ rfl HF2.out Try.underlying28 Try.size28, HF1.out⟩
          · have hw6' : (t6 : Int) ≤ 0 := by omega
            have hf := fin_made HRR.out hRN rfl HBW.out HCL.out (HIN.out.mono (fun b h _ => Nat.lt_of_lt_of_le hRN (Nat.le_of_lt h.1))) HIV.out HG.out HOI.out
            have HF1 := Lib.hid hf.1
            have HF2 := Lib.hid hf.2
            obtain ⟨q0, q1, q2, q3⟩ : wr.cell? ⟨w.heap.size, 0, none⟩ = some (.slice none 0 0) ∧ wr.cell? ⟨w.heap.size, 1, none⟩ = some (.slice none 0 0) ∧ wr.cell? ⟨w.heap.size, 2, none⟩ = some (.slice none 0 0) ∧ wr.cell? ⟨w.heap.size, 3, none⟩ = some (.slice none 0 0) := by have h9 := HRR.out; simp [World.cell?, h9]
            have f0 : ∀ j, wr.frozen? ⟨w.heap.size, j, none⟩ = false := fun j => by have h9 := HRR.out; simp [World.frozen?, h9]
            clear hf hw6
            rcases hcond with hc1 | ⟨hc1, hc2⟩
            all_goals
              go_wp2_with fail
              refine ⟨rfl, _, results_row1 rfl _ _ w.heap.size 28 _ (0, 0) _ rfl HF2.out Try.underlying28 Try.size28, HF1.out⟩
end Go.Proofs.Ytjfhncbfbhkhgaa
