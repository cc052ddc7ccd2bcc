/- What is read of the texts of TreadDeep (chapter 5): brackets one in the other, and rows of predicates. What the rows' condition gives: the list of symbols stands in memory as the program's text lays it. The walk of TreadDeep (chapter 5): it tells true for every two numbers. Condition: the list of symbols stands in memory as the program's text lays it. Slices of numbers, as a call is handed them. No conditions but those that each theorem names. -/
import Derived.Test.YtbdfjboojokgdaaDoorJP49
import Derived.Test.YtbdfjboojokgdaaDoorJP48
import Derived.Test.YtbdfjboojokgdaaDoorJP38
import Derived.Test.YtbdfjboojokgdaaDoorJP41
import Derived.Test.YtbdfjboojokgdaaDoorRows
import Derived.Lib.LaidTab
import Derived.MakeChecks
import Derived.OpenShut
import Derived.Test.YtbdfjboojokgdaaDoorJP17
import Derived.ProofKit
namespace Go.Proofs.YtbdfjboojokgdaaDoor
open Go.RowKit Lx

def depB : Nat → ByteArray
  | 0 => ⟨#[97]⟩
  | k + 1 => ⟨#[40]⟩ ++ depB k ++ ⟨#[41]⟩
theorem depB_size : ∀ k, (depB k).size = 2 * k + 1
  | 0 => rfl
  | k + 1 => by
    have h1 : (⟨#[40]⟩ : ByteArray).size = 1 := rfl
    have h2 : (⟨#[41]⟩ : ByteArray).size = 1 := rfl
    simp only [depB, ByteArray.size_append, depB_size k]; omega
def restT (k : Nat) : List Tok := match readT (depB k).data.toList with | .ok _ r => r | _ => []
theorem deep_ok (k : Nat) (h1 : 36 ≤ k) (h2 : k ≤ 40) : readT (depB k).data.toList = .ok (.var ⟨#[97]⟩) (restT k) := by
  have h : k = 36 ∨ k = 37 ∨ k = 38 ∨ k = 39 ∨ k = 40 := by omega
  clear h1 h2
  rcases h with rfl | rfl | rfl | rfl | rfl
  all_goals (show _ = _; kernel_rfl)
theorem deep_no (k : Nat) (h1 : 40 < k) (h2 : k ≤ 43) : readT (depB k).data.toList = .no 13 40 := by
  have h : k = 41 ∨ k = 42 ∨ k = 43 := by omega
  clear h1 h2
  rcases h with rfl | rfl | rfl
  all_goals (show _ = _; kernel_rfl)
/-- The text of so many predicates. -/
def manyB (k : Nat) : ByteArray := ctxS [0, 1, 2] k ++ ⟨#[97]⟩
def manyPs (k : Nat) : List (ByteArray × Ty) := match readS (manyB k).data.toList with | .ok ps _ _ => ps | _ => []
def manyR (k : Nat) : List Tok := match readS (manyB k).data.toList with | .ok _ _ r => r | _ => []
def Ty.shortB : Ty → Bool
  | .var s => decide (s.size ≤ 1099511627776)
  | .con s => decide (s.size ≤ 1099511627776)
  | .app a b => a.shortB && b.shortB
  | .all s a => decide (s.size ≤ 1099511627776) && a.shortB
  | .hole _ => true
theorem shortB_ok : ∀ t : Ty, t.shortB = true → t.short
  | .var s, h => of_decide_eq_true (p := s.size ≤ 1099511627776) h
  | .con s, h => of_decide_eq_true (p := s.size ≤ 1099511627776) h
  | .app a b, h => by simp only [Ty.shortB, Bool.and_eq_true] at h; exact ⟨shortB_ok a h.1, shortB_ok b h.2⟩
  | .all s a, h => by simp only [Ty.shortB, Bool.and_eq_true] at h; exact ⟨of_decide_eq_true h.1, shortB_ok a h.2⟩
  | .hole _, _ => trivial
/-- Is what is read small? -/
def smallB (s : List UInt8) : Bool := match lexL s with
  | .error _ => true
  | .ok l => match schemeRaw l with
    | .ok ps t _ => ps.all (fun p => p.2.shortB) && t.shortB && decide ((funs (ps.map (·.2)) t).sz ≤ 274877906944)
    | .no _ _ => true
theorem smallB_ok {s : List UInt8} (h : smallB s = true) (l : List Tok) (hl : lexL s = .ok l) (ps : List (ByteArray × Ty)) (t : Ty) (r : List Tok) (hr : schemeRaw l = .ok ps t r) : (∀ p ∈ ps, p.2.short) ∧ t.short ∧ (funs (ps.map (·.2)) t).sz ≤ 274877906944 := by
  unfold smallB at h
  rw [hl] at h
  simp only at h
  rw [hr] at h
  simp only [Bool.and_eq_true, List.all_eq_true] at h
  exact ⟨fun p hp => shortB_ok _ (h.1.1 p hp), shortB_ok _ h.1.2, of_decide_eq_true h.2⟩
theorem many_small (k : Nat) (h1 : 12 ≤ k) (h2 : k ≤ 19) : smallB (manyB k).data.toList = true := by
  have h : k = 12 ∨ k = 13 ∨ k = 14 ∨ k = 15 ∨ k = 16 ∨ k = 17 ∨ k = 18 ∨ k = 19 := by omega
  clear h1 h2
  rcases h with rfl | rfl | rfl | rfl | rfl | rfl | rfl | rfl
  all_goals (show _ = _; kernel_rfl)
theorem many_ok (k : Nat) (h1 : 12 ≤ k) (h2 : k ≤ 16) : readS (manyB k).data.toList = .ok (manyPs k) (.var ⟨#[97]⟩) (manyR k) := by
  have h : k = 12 ∨ k = 13 ∨ k = 14 ∨ k = 15 ∨ k = 16 := by omega
  clear h1 h2
  rcases h with rfl | rfl | rfl | rfl | rfl
  all_goals (show _ = _; kernel_rfl)
theorem many_len (k : Nat) (h1 : 12 ≤ k) (h2 : k ≤ 16) : (manyPs k).length = k := by
  have h : k = 12 ∨ k = 13 ∨ k = 14 ∨ k = 15 ∨ k = 16 := by omega
  clear h1 h2
  rcases h with rfl | rfl | rfl | rfl | rfl
  all_goals (show _ = _; kernel_rfl)
theorem many_no (k : Nat) (h1 : 16 < k) (h2 : k ≤ 19) : readS (manyB k).data.toList = .no 2 0 := by
  have h : k = 17 ∨ k = 18 ∨ k = 19 := by omega
  clear h1 h2
  rcases h with rfl | rfl | rfl
  all_goals (show _ = _; kernel_rfl)
end Go.Proofs.YtbdfjboojokgdaaDoor
namespace Go.Proofs.YtbdfjboojokgdaaDoor.Lx
open Go.RowKit

/-- An array of strings that reads as these texts holds them, cell for cell. -/
theorem cells_of_strs {H : Type} {enc : TypeId × Value → H} {P : Program} {w : World} {base : Nat} {sp : Nat → Bool} {held : Bool} {fuel : Nat} {t e : TypeId} {n : Nat} {cs : List Value} {zs : List (List UInt8)} {p : List MemPlace}
    (ht : P.underlying t = some (.array n e)) (he : P.underlying e = some .string) (hce : P.cellsOf e = 1) (hct : P.cellsOf t = n)
    (h : DataW.trod enc P w base sp held fuel t cs = some (.agg (zs.map fun z => .lit (.string z)), p)) : cs = zs.map fun z => Value.string ⟨z.toArray⟩ := by
  cases fuel with
  | zero => simp [DataW.trod] at h
  | succ fuel =>
    simp only [DataW.trod, ht, hce, hct, Nat.mul_one] at h
    split at h
    · rename_i hl
      obtain ⟨xs, hm, hx⟩ := Option.map_eq_some_iff.1 h
      have hxs : xs.map (·.1) = zs.map fun z => (DataW.lit (.string z) : DataW H) := by
        have := congrArg Prod.fst hx
        simpa using this
      have hxl : xs.length = n := by simpa using Lib.mapM_length hm
      have hzl : zs.length = n := by
        have := congrArg List.length hxs
        simp at this
        omega
      apply List.ext_getElem?
      intro i
      by_cases hi : i < n
      · obtain ⟨b, hb, hf⟩ := Lib.mapM_at hm i i (by simp [hi])
        obtain ⟨z, hc, rfl, _⟩ := DataW.trod_string he hf
        have h1 : cs[i]? = some (.string z) := by
          have := congrArg (·[0]?) hc
          simpa [List.getElem?_take, List.getElem?_drop] using this
        have h2 : (xs.map (·.1))[i]? = some (DataW.lit (.string z.data.toList) : DataW H) := by simp [hb]
        rw [hxs] at h2
        simp only [List.getElem?_map, Option.map_eq_some_iff, DataW.lit.injEq, Lit.string.injEq] at h2
        obtain ⟨z', hz', rfl⟩ := h2
        simp [h1, hz']
      · rw [List.getElem?_eq_none (by omega), List.getElem?_eq_none (by simp; omega)]
    · cases h

theorem syms_of_laid {W : World} (h : laidMetH Tryd.prog [("fugue/lex.symbols", Rows.laid_fugue_lex_symbols)] W) : SymsIn W := by
  rw [MakeChecks.laidMetH_plain _ _ _ (by kernel_rfl)] at h
  obtain ⟨ps, ⟨g', t', cs, fuel, p, q, hg', ht', hvar, hd, _, _⟩, _⟩ := h
  have hg : Tryd.prog.globalNamed "fugue/lex.symbols" = some 0 := by kernel_rfl
  have hty : (Tryd.prog.globals[0]?).map (·.type) = some 189 := by kernel_rfl
  obtain rfl := Option.some.inj (hg.symm.trans hg')
  obtain rfl := Option.some.inj (hty.symm.trans ht')
  have hc := cells_of_strs (zs := symsL) Tryd.underlying189 Tryd.underlying9 (by kernel_rfl) (by kernel_rfl) hd
  have hcell : Texts 0 symsL W := by
    intro i hi
    have h9 := World.var?_cell hg hvar i
    rw [← Array.getElem?_toList, hc] at h9
    simpa [hi] using h9
  refine ⟨hcell, ?_⟩
  have h9 := hcell 0 (by decide)
  rcases Nat.eq_zero_or_pos W.heap.size with h8 | h8
  · exfalso
    simp [World.cell?, Array.eq_empty_of_size_eq_zero h8] at h9
  · exact h8
/-- A slice of numbers that came in, as the walks ask for it. -/
theorem intRow_of_cells {W : World} (x : Addr) (len : Nat) (zs : List Int) (hl : len ≤ zs.length) (hcell : ∀ i, i < zs.length → W.cell? (x.add i) = some (.int .i64 (zs.getD i 0))) (hwz : ∀ n ∈ zs, (Lit.int .i64 n).wf = true) : IntRow W.heap.size W (some x) len := by
  rcases Nat.eq_zero_or_pos len with h0 | h0
  · exact .inl h0
  · obtain ⟨b, off, spot⟩ := x
    have hc := hcell 0 (by omega)
    have hspot : spot = none := by simpa [Addr.add] using World.cell?_spot hc
    subst hspot
    refine .inr ⟨b, off, rfl, ?_, fun i hi => ?_⟩
    · have := World.block_lt_of_cell? W _ hc
      simpa [Addr.add] using this
    · have h9 := hcell i (by omega)
      have hm : zs.getD i 0 ∈ zs := by
        rw [List.getD_eq_getElem?_getD, List.getElem?_eq_getElem (by omega)]
        exact List.getElem_mem _
      have hb := Go.bounds_i64 (hwz _ hm)
      exact ⟨zs.getD i 0, hb.1, hb.2, by rw [Go.WideShapes.add_plain] at h9; exact h9⟩
end Go.Proofs.YtbdfjboojokgdaaDoor.Lx
namespace Go.Proofs.YtbdfjboojokgdaaDoor
open Go.RowKit Lx

theorem ctxS_size (zs : List Int) (M : Nat) : (ctxS zs M).size ≤ 5 * M + 6 := by
  have h3 := ctxB_size zs M
  have h5 : (⟨#[40]⟩ : ByteArray).size = 1 := rfl
  have h6 : (⟨#[41, 32, 61, 62, 32]⟩ : ByteArray).size = 5 := rfl
  have h7 : (⟨#[32, 61, 62, 32]⟩ : ByteArray).size = 4 := rfl
  have h8 : (⟨#[]⟩ : ByteArray).size = 0 := rfl
  unfold ctxS
  split
  · omega
  · split
    · simp only [ByteArray.size_append]; omega
    · simp only [ByteArray.size_append]; omega
theorem deep_res (K : Nat) (w : World) (hS : SymsIn w) (h1 : 36 ≤ K) (h2 : K ≤ 43) : Calls Tryd.prog 48 #[.string (depB K)] w fun e w' => ∃ (f nn : Int) (s : ByteArray) (A : Option Addr) (l c : Nat) (er pl : Int), e = .returned (.tuple #[.agg #[.int .i64 f, .int .i64 nn, .string s, .slice A l c], .agg #[.int .i64 er, .int .i64 pl]]) ∧ Below w.heap.size w w' ∧ ((K ≤ 40 ∧ er = 0 ∧ pl = 0 ∧ s = ⟨#[97]⟩) ∨ (40 < K ∧ er = 13 ∧ pl = 40 ∧ f = 0)) := by
  have hC := readType_any (depB K) w hS (by rw [depB_size]; omega)
  by_cases h : K ≤ 40
  · rw [deep_ok K h1 h] at hC
    refine hC.mono (fun e w' hr => ?_)
    obtain ⟨f, n, s, A, l, c, rfl, hty, hb⟩ := hr
    obtain ⟨A', c', e9, _⟩ := hty.form
    injection e9 with e9
    simp only [Array.mk.injEq, List.cons.injEq, Value.int.injEq, Value.string.injEq, Value.slice.injEq] at e9
    exact ⟨f, n, s, A, l, c, 0, 0, rfl, hb, .inl ⟨h, rfl, rfl, e9.2.2.1⟩⟩
  · rw [deep_no K (by omega) h2] at hC
    refine hC.mono (fun e w' hr => ?_)
    obtain ⟨rfl, hb⟩ := hr
    exact ⟨0, 0, ⟨#[]⟩, none, 0, 0, 13, 40, rfl, hb, .inr ⟨by omega, rfl, rfl, rfl⟩⟩
theorem many_res (M : Nat) (w : World) (hS : SymsIn w) (h1 : 12 ≤ M) (h2 : M ≤ 19) : Calls Tryd.prog 49 #[.string (manyB M)] w fun e w' => ∃ (Av : Option Addr) (nv cv : Nat) (Ap : Option Addr) (np cp : Nat) (f nn : Int) (s : ByteArray) (A : Option Addr) (l c : Nat) (er pl : Int), e = .returned (.tuple #[.agg #[.slice Av nv cv, .slice none 0 0, .slice Ap np cp, .int .i64 f, .int .i64 nn, .string s, .slice A l c], .agg #[.int .i64 er, .int .i64 pl]]) ∧ Below w.heap.size w w' ∧ ((M ≤ 16 ∧ er = 0 ∧ pl = 0 ∧ np = M) ∨ (16 < M ∧ er = 2 ∧ pl = 0 ∧ nv = 0)) := by
  have hz : (manyB M).size ≤ 1099511627776 := by
    have h3 := ctxB_size [0, 1, 2] M
    have h4 : (⟨#[97]⟩ : ByteArray).size = 1 := rfl
    have h5 : (⟨#[40]⟩ : ByteArray).size = 1 := rfl
    have h6 : (⟨#[41, 32, 61, 62, 32]⟩ : ByteArray).size = 5 := rfl
    unfold manyB ctxS
    rw [if_neg (by omega), if_neg (by rintro ⟨h, _⟩; omega)]
    simp only [ByteArray.size_append]; omega
  have hC := readScheme_any (manyB M) w hS hz (smallB_ok (many_small M h1 h2))
  by_cases h : M ≤ 16
  · rw [many_ok M h1 h] at hC
    refine hC.mono (fun e w' hr => ?_)
    obtain ⟨Av, nv, cv, Ap, cp, f, n, s, A, l, c, rfl, _, _, _, hb⟩ := hr
    exact ⟨Av, nv, cv, Ap, _, cp, f, n, s, A, l, c, 0, 0, rfl, hb, .inl ⟨h, rfl, rfl, many_len M h1 h⟩⟩
  · rw [many_no M (by omega) h2] at hC
    refine hC.mono (fun e w' hr => ?_)
    obtain ⟨rfl, hb⟩ := hr
    exact ⟨none, 0, 0, none, 0, 0, 0, 0, ⟨#[]⟩, none, 0, 0, 2, 0, rfl, hb, .inr ⟨by omega, rfl, rfl, rfl⟩⟩
theorem box_type (w : World) (x0 x1 x2 x3 y0 y1 : Value) : ∃ W, (w.alloc (.cells #[x0, x1, x2, x3] 25)).alloc (.cells #[y0, y1] 50) = W ∧
    W.heap[w.heap.size]? = some (.cells #[x0, x1, x2, x3] 25) ∧ W.heap[w.heap.size + 1]? = some (.cells #[y0, y1] 50) ∧ Below w.heap.size w W ∧ W.heap.size = w.heap.size + 2 := by
  refine ⟨_, rfl, ?_, ?_, below2 w _ _, by simp⟩
  · exact ((below_new _ _).block _ (by simp)).trans (MapKept.heap_alloc w (.cells #[x0, x1, x2, x3] 25)).1
  · simpa using (MapKept.heap_alloc (w.alloc (.cells #[x0, x1, x2, x3] 25)) (.cells #[y0, y1] 50)).1
theorem three_ints (w : World) : IntsAt (fun _ => True) (w.alloc (.cells #[.int .i64 0, .int .i64 1, .int .i64 2] 3)) (.slice (some ⟨w.heap.size, 0, none⟩) 3 3) [0, 1, 2] := by
  have h := (MapKept.heap_alloc w (.cells #[.int .i64 0, .int .i64 1, .int .i64 2] 3)).1
  refine ⟨_, _, rfl, Nat.le_refl _, by unfold maxLen; decide, fun z hz => ?_, .inr ⟨_, _, rfl, trivial, by simp, fun i hi => ?_⟩⟩
  · simp at hz; omega
  · have h2 : i = 0 ∨ i = 1 ∨ i = 2 := by simp at hi; omega
    rcases h2 with rfl | rfl | rfl
    · simp only [World.cell?, h]; rfl
    · simp only [World.cell?, h]; rfl
    · simp only [World.cell?, h]; rfl
set_option maxRecDepth 100000 in
set_option maxHeartbeats 2000000 in
theorem treadDeep_law (n m : Int) (w : World) (hS : SymsIn w) (hn1 : -9223372036854775808 ≤ n) (hn2 : n ≤ 9223372036854775807) (hm1 : -9223372036854775808 ≤ m) (hm2 : m ≤ 9223372036854775807) : Calls Tryd.prog 10 #[.int .i64 n, .int .i64 m] w (TrueB w) := by
  have HA := Lib.hid (fun W => around_is n 8 W hn1 hn2 (by omega) (by omega))
  have HB := Lib.hid (fun W => around_is m 8 W hm1 hm2 (by omega) (by omega))
  have ha := aroundI_bd n 8 (by omega)
  have hb := aroundI_bd m 8 (by omega)
  obtain ⟨a, ea⟩ : ∃ a : Nat, aroundI n 8 = a := ⟨(aroundI n 8).toNat, by omega⟩
  obtain ⟨b, eb⟩ : ∃ b : Nat, aroundI m 8 = b := ⟨(aroundI m 8).toNat, by omega⟩
  rw [ea] at HA ha
  rw [eb] at HB hb
  clear ea eb
  have ha8 : a < 8 := by omega
  have hb8 : b < 8 := by omega
  have hai : (a : Int) < 8 := by omega
  have ha0 : (0 : Int) ≤ (a : Int) := by omega
  have hbi : (b : Int) < 8 := by omega
  have hb0 : (0 : Int) ≤ (b : Int) := by omega
  clear ha hb
  have HS := Lib.hid hS
  clear hS
  go_enter Tryd.func10, Tryd.ntmps10
  go_wp2_with fail
  (with_reducible refine (HA.out _).mono ?_)
  rintro e0 w0 ⟨rfl, rfl⟩
  obtain ⟨K, hK⟩ : ∃ K : Nat, K = 36 + a := ⟨_, rfl⟩
  have hKb : (K : Int) ≤ 43 := by omega
  have hK00 : (0 : Int) ≤ (K : Int) := by omega
  go_wp2
  go_loopw [6, 7] (fun s i wr => ∃ j : Nat, j ≤ K ∧ i = .int .i64 j ∧ s = .string (depB j) ∧ w = wr) (fun _ i _ => K - (intOf i).toNat)
  case atStart => exact ⟨0, Nat.zero_le _, rfl, rfl, rfl⟩
  case round =>
    obtain ⟨j, hj, rfl, rfl, rfl⟩ := hrel
    by_cases hlt : j < K
    · have hji : (j : Int) < 36 + (a : Int) := by omega
      have hj0 : (0 : Int) ≤ (j : Int) := by omega
      have hz := depB_size j
      have hd1 : ∀ q : World, (Op.stringOp .add ⟨#[40]⟩ (depB j)).run Tryd.prog q = .ok (.string (⟨#[40]⟩ ++ depB j)) q := fun q => run_string_add_sum q _ _ (by show 1 + _ ≤ _; omega)
      have hd2 : ∀ q : World, (Op.stringOp .add (⟨#[40]⟩ ++ depB j) ⟨#[41]⟩).run Tryd.prog q = .ok (.string (⟨#[40]⟩ ++ depB j ++ ⟨#[41]⟩)) q := fun q => run_string_add_sum q _ _ (by rw [ByteArray.size_append]; show 1 + _ + 1 ≤ _; omega)
      go_wp2
      go_roundw
      case rel => exact ⟨j + 1, by omega, by go_num, rfl, by first | rfl | trivial⟩
      case measure => simp [intOf]; omega
    · have hji : ¬ (j : Int) < 36 + (a : Int) := by omega
      obtain rfl : j = K := by omega
      have HD := Lib.hid (deep_res (36 + a) w HS.out (by omega) (by omega))
      have hMi : ((12 + b : Nat) : Int) = 12 + (b : Int) := by omega
      go_wp2_with fail
      (with_reducible refine HD.out.mono ?_)
      rintro e1 y ⟨f, nn, s, A, l, c, er, pl, rfl, hby, hcase⟩
      obtain ⟨Y, eY, k0, k1, b1, z1⟩ := box_type y (.int .i64 f) (.int .i64 nn) (.string s) (.slice A l c) (.int .i64 er) (.int .i64 pl)
      have HBY := Lib.hid (hby.trans (b1.mono hby.size))
      have HEY := Lib.hid eY
      have HK0 := Lib.hid k0
      have HK1 := Lib.hid k1
      have HZY := Lib.hid z1
      clear eY b1 k0 k1 z1 hby
      go_upto_region 8 with (fail)
      rw [HEY.out]
      go_wp2_with fail
      (with_reducible refine (HB.out _).mono ?_)
      rintro e2 y2 ⟨rfl, rfl⟩
      have hn := below_new Y (.cells #[.int .i64 0, .int .i64 1, .int .i64 2] 3)
      have hcx := context_any _ [0, 1, 2] _ (12 + b) _ (three_ints Y) (by omega)
      rw [hMi] at hcx
      have HCX := Lib.hid hcx
      clear hcx
      have HN := Lib.hid hn
      clear hn
      go_wp2_with fail
      (with_reducible refine HCX.out.mono ?_)
      rintro e3 z ⟨rfl, hbz⟩
      have HBZ := Lib.hid (HN.out.trans (hbz.mono HN.out.size))
      have hmr := many_res (12 + b) z (HS.out.on (HBY.out.trans (HBZ.out.mono HBY.out.size))) (by omega) (by omega)
      unfold manyB at hmr
      have hcz := ctxS_size [0, 1, 2] (12 + b)
      have hadd : ∀ q : World, (Op.stringOp .add (ctxS [0, 1, 2] (12 + b)) ⟨#[97]⟩).run Tryd.prog q = .ok (.string (ctxS [0, 1, 2] (12 + b) ++ ⟨#[97]⟩)) q := fun q => run_string_add_sum q _ _ (by show _ + 1 ≤ _; omega)
      have HMR := Lib.hid hmr
      clear hmr
      clear hbz
      go_wp2_with fail
      (with_reducible refine HMR.out.mono ?_)
      rintro e4 x ⟨Av, nv, cv, Ap, np, cp, f2, nn2, s2, A2, l2, c2, er2, pl2, rfl, hbx, hcase2⟩
      obtain ⟨X, eX, k0, k1, b1, z1⟩ := box_scheme x (.slice Av nv cv) (.slice none 0 0) (.slice Ap np cp) (.int .i64 f2) (.int .i64 nn2) (.string s2) (.slice A2 l2 c2) (.int .i64 er2) (.int .i64 pl2)
      have hYX := HBZ.out.trans ((hbx.trans (b1.mono hbx.size)).mono HBZ.out.size)
      have hwX := HBY.out.trans (hYX.mono HBY.out.size)
      have hzy := HZY.out
      have hys : Y.heap.size ≤ X.heap.size := hYX.size
      have hYx : y.heap.size + 1 < x.heap.size := by have := HBZ.out.size; have := hbx.size; omega
      obtain ⟨p0, p1, p2, p3, p4, p5, p6, p7, p8⟩ := four_cells ((hYX.block y.heap.size (by omega)).trans HK0.out)
      obtain ⟨q0, q1, q2, q3, q4⟩ := pair_cells ((hYX.block (y.heap.size + 1) (by omega)).trans HK1.out)
      obtain ⟨u0, u1, u2, u3, u4, u5, u6, u7, u8, u9, u10, u11, u12, u13, u14⟩ := seven_cells k0
      obtain ⟨v0, v1, v2, v3, v4⟩ := pair_cells k1
      have HEX := Lib.hid eX
      have HWX := Lib.hid hwX
      have HLV := Lib.hid (livesT_any X (HS.out.on hwX))
      have heq := eq_at
      have hgd := guard_at
      clear eX k0 k1 b1 z1 hbx hYX hwX hK hKb hK00 hj hlt hji hzy
      rcases hcase with ⟨hc, rfl, rfl, rfl⟩ | ⟨hc, rfl, rfl, rfl⟩
      · have hci : (36 : Int) + (a : Int) ≤ 40 := by omega
        have hcj : ¬ (40 : Int) < 36 + (a : Int) := by omega
        rcases hcase2 with ⟨hd, rfl, rfl, rfl⟩ | ⟨hd, rfl, rfl, rfl⟩
        · have hdi : ¬ (16 : Int) < 12 + (b : Int) := by omega
          go_upto_region 10 with (fail)
          rw [HEX.out]
          go_wp2_with fail
          (with_reducible refine HLV.out.mono ?_)
          rintro e5 x5 ⟨rfl, hb5⟩
          go_wp2
          go_ret
          exact ⟨rfl, HWX.out.trans (hb5.mono HWX.out.size)⟩
        · have hdi : (16 : Int) < 12 + (b : Int) := by omega
          go_upto_region 10 with (fail)
          rw [HEX.out]
          go_wp2_with fail
          (with_reducible refine HLV.out.mono ?_)
          rintro e5 x5 ⟨rfl, hb5⟩
          go_wp2
          go_ret
          exact ⟨rfl, HWX.out.trans (hb5.mono HWX.out.size)⟩
      · have hci : ¬ (36 : Int) + (a : Int) ≤ 40 := by omega
        have hcj : (40 : Int) < 36 + (a : Int) := by omega
        rcases hcase2 with ⟨hd, rfl, rfl, rfl⟩ | ⟨hd, rfl, rfl, rfl⟩
        · have hdi : ¬ (16 : Int) < 12 + (b : Int) := by omega
          go_upto_region 10 with (fail)
          rw [HEX.out]
          go_wp2_with fail
          (with_reducible refine HLV.out.mono ?_)
          rintro e5 x5 ⟨rfl, hb5⟩
          go_wp2
          go_ret
          exact ⟨rfl, HWX.out.trans (hb5.mono HWX.out.size)⟩
        · have hdi : (16 : Int) < 12 + (b : Int) := by omega
          go_upto_region 10 with (fail)
          rw [HEX.out]
          go_wp2_with fail
          (with_reducible refine HLV.out.mono ?_)
          rintro e5 x5 ⟨rfl, hb5⟩
          go_wp2
          go_ret
          exact ⟨rfl, HWX.out.trans (hb5.mono HWX.out.size)⟩
theorem treadDeep_walk (n m : Int) (w : World) (hn1 : -9223372036854775808 ≤ n) (hn2 : n ≤ 9223372036854775807) (hm1 : -9223372036854775808 ≤ m) (hm2 : m ≤ 9223372036854775807) (hS : SymsIn w) : Calls Tryd.prog 10 #[.int .i64 n, .int .i64 m] w (TrueB w) := treadDeep_law n m w hS hn1 hn2 hm1 hm2
end Go.Proofs.YtbdfjboojokgdaaDoor
namespace Go.Proofs.YtbdfjboojokgdaaDoor
open Go.RowKit

/-- A slice that reads as some numbers. -/
def SomeInts (w : World) (v : Value) : Prop := ∃ zs, IntsAt (fun b => b < w.heap.size) w v zs
theorem ints_of_cells {W : World} (x : Addr) (len cap : Nat) (zs : List Int) (hl : len ≤ cap) (hm : cap ≤ maxLen) (hz : zs.length = cap) (hcell : ∀ i, i < zs.length → W.cell? (x.add i) = some (.int .i64 (zs.getD i 0))) (hwz : ∀ n ∈ zs, (Lit.int .i64 n).wf = true) :
    IntsAt (fun b => b < W.heap.size) W (.slice (some x) len cap) (zs.take len) := by
  have hlen : (zs.take len).length = len := by rw [List.length_take]; omega
  refine ⟨some x, cap, by rw [hlen], by omega, hm, fun z hz => ?_, ?_⟩
  · have := Go.bounds_i64 (hwz z (List.mem_of_mem_take hz)); omega
  · rcases Nat.eq_zero_or_pos len with h0 | h0
    · subst h0; exact .inl (by simp)
    · obtain ⟨b, off, spot⟩ := x
      have hc := hcell 0 (by omega)
      have hspot : spot = none := by simpa [Addr.add] using World.cell?_spot hc
      subst hspot
      have hb : b < W.heap.size := by
        have := World.block_lt_of_cell? W _ hc
        simpa [Addr.add] using this
      refine .inr ⟨b, off, rfl, hb, hb, fun i hi => ?_⟩
      have h9 := hcell i (by omega)
      rw [Go.WideShapes.add_plain] at h9
      rw [h9, List.getD_eq_getElem?_getD, List.getElem?_eq_getElem (by omega)]
      simp
theorem ints_nil (W : World) : SomeInts W (.slice none 0 0) := ⟨[], none, 0, rfl, Nat.le_refl _, Nat.zero_le _, fun z hz => absurd hz (by simp), .inl rfl⟩
end Go.Proofs.YtbdfjboojokgdaaDoor
