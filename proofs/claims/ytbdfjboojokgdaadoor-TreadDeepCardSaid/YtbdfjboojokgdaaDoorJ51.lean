/- The contracts of the document's Gap and Texts and of the laws' source (chapter 2). Condition: the slices of numbers read as numbers. What the rows' condition gives: the list of symbols stands in memory as the program's text lays it. The walk of TreadDeep (chapter 5): it tells true for every two numbers. Condition: the list of symbols stands in memory as the program's text lays it. -/
import Derived.Test.YtbdfjboojokgdaaDoorJ50
import Derived.Test.YtbdfjboojokgdaaDoorJ17
import Derived.Test.YtbdfjboojokgdaaDoorJ39
import Derived.Test.YtbdfjboojokgdaaDoorRows
import Derived.Lib.LaidTab
import Derived.MakeChecks
import Derived.OpenShut
namespace Go.Proofs.YtbdfjboojokgdaaDoor.Lx
open Go.RowKit

def SV (x : List UInt8) : Value := .string ⟨x.toArray⟩
/-- A slice of numbers that came in: it lies below block B. -/
def IntRow (B : Nat) (w : World) (A : Option Addr) (len : Nat) : Prop :=
  len = 0 ∨ ∃ b off, A = some ⟨b, off, none⟩ ∧ b < B ∧ ∀ i, i < len → ∃ z : Int, -9223372036854775808 ≤ z ∧ z ≤ 9223372036854775807 ∧ w.cell? ⟨b, off + i, none⟩ = some (.int .i64 z)
theorem IntRow.below {B X len : Nat} {A : Option Addr} {w w' : World} (h : IntRow B w A len) (hb : Below X w w') (hB : B ≤ X) : IntRow B w' A len := by
  rcases h with h | ⟨b, off, e, hlt, hc⟩
  · exact .inl h
  · refine .inr ⟨b, off, e, hlt, fun i hi => ?_⟩
    obtain ⟨z, z1, z2, hz⟩ := hc i hi
    exact ⟨z, z1, z2, (hb.cell (p := ⟨b, off + i, none⟩) (by show b < X; omega)).trans hz⟩
theorem Tryd.info9 : (Tryd.prog.info? 9).map (fun i => (i.zero, i.size, i.bytes)) = some (some (.string ⟨#[]⟩), 1, 16) := by kernel_rfl
theorem one_str (x : ByteArray) : ∀ u ∈ [Value.string x], u.oneCell' = true := by intro u hu; simp at hu; subst hu; rfl

/-- The call returned some blanks that may stand between tokens. -/
def SomeGap (w : World) (e : Ending) (w' : World) : Prop := ∃ g ∈ gapsL, e = .returned (.string ⟨g.toArray⟩) ∧ Below w.heap.size w w'
/-- What Texts made: texts of tokens, as many as there are numbers, thirty at most. -/
def SomeTexts (w : World) (len : Nat) (e : Ending) (w' : World) : Prop := ∃ (strs : List (List UInt8)) (v : Value), e = .returned v ∧ strs.length = min len 30 ∧ (∀ x ∈ strs, x ∈ textsL) ∧ w'.ownsRow (w.heap.size + 1) 9 1 v strs.length (strs.map SV) ∧ Below w.heap.size w w'

set_option maxRecDepth 100000 in
set_option maxHeartbeats 1000000 in
theorem texts_any (A : Option Addr) (len cap : Nat) (w : World) (hr : IntRow w.heap.size w A len) (hlen : len ≤ 9223372036854775807) :
    Calls Tryd.prog 81 #[.slice A len cap] w (SomeTexts w len) := by
  have HR := Lib.hid hr
  clear hr
  obtain ⟨j0, hj, hy0, hy1, hy2⟩ := info_parts Tryd.info9
  go_enter Tryd.func81, Tryd.ntmps81
  go_wp2
  have hN : Texts w.heap.size textsL (w.alloc (.cells (textsL.map (fun l => Value.string ⟨l.toArray⟩)).toArray 9)) := texts_new w textsL 9
  go_loopw [4, 5] (fun v i wr => ∃ (k : Nat) (strs : List (List UInt8)), k ≤ len ∧ k ≤ 30 ∧ i = .int .i64 k ∧ Hid (strs.length = k) ∧ Hid (∀ x ∈ strs, x ∈ textsL) ∧ wr.ownsRow (w.heap.size + 1) 9 1 v strs.length (strs.map SV) ∧ Below (w.heap.size + 1) (w.alloc (.cells (textsL.map (fun l => Value.string ⟨l.toArray⟩)).toArray 9)) wr) (fun _ i _ => 30 - (intOf i).toNat)
  case atStart => exact ⟨0, [], Nat.zero_le _, by omega, rfl, rfl, (fun x hx => absurd hx (by simp)), World.ownsRow_nil _ _ _ _, Below.refl _ _⟩
  case round =>
    obtain ⟨k, strs, hk, hk30, rfl, hsl, hall, hown, hb⟩ := hrel
    have hsz : w.heap.size + 1 ≤ wr.heap.size := by have := hb.size; simpa using this
    have HBW : Hid (Below w.heap.size w wr) := ((Below.refl _ _).alloc (Nat.le_refl _) _).trans (hb.mono (by omega))
    have HT := Lib.hid (hN.below (w' := wr) (X := w.heap.size + 1) hb (Nat.lt_succ_self _))
    have HB := Lib.hid hb
    have hs30 : strs.length ≤ 30 := by rw [hsl.out]; exact hk30
    clear hN hb
    by_cases hlt : k < len
    · by_cases h30 : k < 30
      · obtain ⟨b, off, rfl, hbB, hc⟩ : ∃ b off, A = some ⟨b, off, none⟩ ∧ b < w.heap.size ∧ ∀ i, i < len → ∃ z : Int, -9223372036854775808 ≤ z ∧ z ≤ 9223372036854775807 ∧ w.cell? ⟨b, off + i, none⟩ = some (.int .i64 z) := by
          rcases HR.out with h0 | h0
          · omega
          · exact h0
        obtain ⟨z, z1, z2, hz⟩ := hc k hlt
        have hzr : wr.cell? ⟨b, off + k, none⟩ = some (.int .i64 z) := (HBW.out.cell (p := ⟨b, off + k, none⟩) hbB).trans hz
        clear hc hz
        have h30' : decide ((k : Int) < 30) = true := by simp; omega
        have hki : (k : Int) < (len : Int) := by omega
        have hk0 : (0 : Int) ≤ (k : Int) := by omega
        go_wp2_with fail
        refine (around_any z 34 _ z1 z2 (by omega) (by omega)).mono ?_
        rintro e w' ⟨q, hq, rfl, rfl⟩
        have hql : q < textsL.length := by show q < 34; omega
        have hcq := HT.out q hql
        have hmem : textsL[q] ∈ textsL := List.getElem_mem hql
        generalize textsL[q] = t at *
        have hq0 : (0 : Int) ≤ (q : Int) := by omega
        go_wp2_with (at_builtin; refine wpList_append_own _ rfl (.tmp 17) (.tmp 28) 28 rfl (w.heap.size + 1) 9 j0 (.string ⟨#[]⟩) 1 16 Tryd.underlying28 hj hy0 hy1 hy2 rfl (by decide) _ _ _ rfl (hown.alloc _) ⟨wr.heap.size, 0, none⟩ 1 1 [.string ⟨t.toArray⟩] rfl rfl (cell_one_new _ _ _) (one_str _) (by unfold maxLen; omega) (by omega) (by simp; omega) ?_; intro v' w2 hown2 hg2 _)
        have HB3 : Below (w.heap.size + 1) (w.alloc (.cells (textsL.map (fun l => Value.string ⟨l.toArray⟩)).toArray 9)) w2 := (HB.out.alloc hsz _).grown (row := u4.ownBlock) hg2 (by simp; omega) (fun x hx => (hown.lt x hx).1)
        have hown3 : w2.ownsRow (w.heap.size + 1) 9 1 v' (strs ++ [t]).length ((strs ++ [t]).map SV) := by
          rw [List.map_append, List.length_append]; exact hown2
        clear hown2 hg2
        go_roundw
        case rel => exact ⟨k + 1, strs ++ [t], by omega, by omega, by go_num, by show (strs ++ [t]).length = k + 1; rw [List.length_append, hsl.out]; rfl, fun x hx => by rcases List.mem_append.1 hx with h9 | h9; exact hall.out x h9; rw [List.mem_singleton.1 h9]; exact hmem, hown3, HB3⟩
        case measure => simp [intOf]; omega
      · have h30' : decide ((k : Int) < 30) = false := by simp; omega
        go_wp2
        go_ret
        exact ⟨strs, _, rfl, by rw [hsl.out]; omega, hall.out, hown, HBW.out⟩
    · have hd : decide (k < len) = false := by simpa using hlt
      go_wp2
      go_ret
      exact ⟨strs, _, rfl, by rw [hsl.out]; omega, hall.out, hown, HBW.out⟩

/-- A slice of texts: it lies below block B. -/
def StrRow (B : Nat) (w : World) (A : Option Addr) (strs : List (List UInt8)) : Prop :=
  strs = [] ∨ ∃ g, A = some ⟨g, 0, none⟩ ∧ g < B ∧ ∀ i (h : i < strs.length), w.cell? ⟨g, i, none⟩ = some (SV strs[i])
theorem StrRow.below {B X : Nat} {A : Option Addr} {strs : List (List UInt8)} {w w' : World} (h : StrRow B w A strs) (hb : Below X w w') (hB : B ≤ X) : StrRow B w' A strs := by
  rcases h with h | ⟨g, e, hg, hc⟩
  · exact .inl h
  · exact .inr ⟨g, e, hg, fun i hi => (hb.cell (p := ⟨g, i, none⟩) (by show g < X; omega)).trans (hc i hi)⟩
theorem strRow_of_own {w : World} {base : Nat} {v : Value} {strs : List (List UInt8)} (h : w.ownsRow base 9 1 v strs.length (strs.map SV)) : ∃ A c, v = .slice A strs.length c ∧ StrRow w.heap.size w A strs := by
  rcases h.2 with ⟨hv, h0⟩ | ⟨g, cap, cur, hv, hg, hh, _⟩
  · exact ⟨none, 0, by rw [hv, h0], .inl (List.eq_nil_of_length_eq_zero h0)⟩
  · subst hv
    refine ⟨_, cap, rfl, .inr ⟨g, rfl, ?_, fun i hi => ?_⟩⟩
    · rcases Nat.lt_or_ge g w.heap.size with h9 | h9
      · exact h9
      · rw [Array.getElem?_eq_none h9] at hh; cases hh
    · rw [h.cellAt i (by omega)]; simp [hi]

/-- What source made: these texts, each with blanks ahead. -/
def SomeSource (w : World) (strs : List (List UInt8)) (e : Ending) (w' : World) : Prop := ∃ ps : List (List UInt8 × List UInt8), ps.map (·.2) = strs ∧ Fine ps ∧ e = .returned (.string ⟨(srcL ps).toArray⟩) ∧ Below w.heap.size w w'
theorem srcL_snoc (ps : List (List UInt8 × List UInt8)) (g t : List UInt8) : srcL (ps ++ [(g, t)]) = srcL ps ++ g ++ t := by simp [srcL]
theorem append_mk2 (a b : List UInt8) : (⟨a.toArray⟩ : ByteArray) ++ ⟨b.toArray⟩ = ⟨(a ++ b).toArray⟩ := by
  apply ByteArray.ext
  simp [ByteArray.data_append]

end Go.Proofs.YtbdfjboojokgdaaDoor.Lx
namespace Go.Proofs.YtbdfjboojokgdaaDoor.Lx
open Go.RowKit

/-- An array of strings that reads as these texts holds them, cell for cell. -/
theorem cells_of_strs {H : Type} {enc : TypeId × Value → H} {P : Program} {w : World} {base : Nat} {sp : Nat → Bool} {held : Bool} {fuel : Nat} {t e : TypeId} {n : Nat} {cs : List Value} {zs : List (List UInt8)} {p : List MemPlace}
    (ht : P.underlying t = some (.array n e)) (he : P.underlying e = some .string) (hce : P.cellsOf e = 1) (hct : P.cellsOf t = n)
    (h : DataW.trod enc P w base sp held fuel t cs = some (.agg (zs.map fun z => .lit (.string z)), p)) : cs = zs.map fun z => Value.string ⟨z.toArray⟩ := by
  cases fuel with
  | zero => simp [DataW.trod] at h
  | succ fuel =>
    simp only [DataW.trod, ht, hce, hct, Nat.mul_one] at h
    split at h
    · rename_i hl
      obtain ⟨xs, hm, hx⟩ := Option.map_eq_some_iff.1 h
      have hxs : xs.map (·.1) = zs.map fun z => (DataW.lit (.string z) : DataW H) := by
        have := congrArg Prod.fst hx
        simpa using this
      have hxl : xs.length = n := by simpa using Lib.mapM_length hm
      have hzl : zs.length = n := by
        have := congrArg List.length hxs
        simp at this
        omega
      apply List.ext_getElem?
      intro i
      by_cases hi : i < n
      · obtain ⟨b, hb, hf⟩ := Lib.mapM_at hm i i (by simp [hi])
        obtain ⟨z, hc, rfl, _⟩ := DataW.trod_string he hf
        have h1 : cs[i]? = some (.string z) := by
          have := congrArg (·[0]?) hc
          simpa [List.getElem?_take, List.getElem?_drop] using this
        have h2 : (xs.map (·.1))[i]? = some (DataW.lit (.string z.data.toList) : DataW H) := by simp [hb]
        rw [hxs] at h2
        simp only [List.getElem?_map, Option.map_eq_some_iff, DataW.lit.injEq, Lit.string.injEq] at h2
        obtain ⟨z', hz', rfl⟩ := h2
        simp [h1, hz']
      · rw [List.getElem?_eq_none (by omega), List.getElem?_eq_none (by simp; omega)]
    · cases h

theorem syms_of_laid {W : World} (h : laidMetH Tryd.prog [("fugue/lex.symbols", Rows.laid_fugue_lex_symbols)] W) : SymsIn W := by
  rw [MakeChecks.laidMetH_plain _ _ _ (by kernel_rfl)] at h
  obtain ⟨ps, ⟨g', t', cs, fuel, p, q, hg', ht', hvar, hd, _, _⟩, _⟩ := h
  have hg : Tryd.prog.globalNamed "fugue/lex.symbols" = some 0 := by kernel_rfl
  have hty : (Tryd.prog.globals[0]?).map (·.type) = some 189 := by kernel_rfl
  obtain rfl := Option.some.inj (hg.symm.trans hg')
  obtain rfl := Option.some.inj (hty.symm.trans ht')
  have hc := cells_of_strs (zs := symsL) Tryd.underlying189 Tryd.underlying9 (by kernel_rfl) (by kernel_rfl) hd
  have hcell : Texts 0 symsL W := by
    intro i hi
    have h9 := World.var?_cell hg hvar i
    rw [← Array.getElem?_toList, hc] at h9
    simpa [hi] using h9
  refine ⟨hcell, ?_⟩
  have h9 := hcell 0 (by decide)
  rcases Nat.eq_zero_or_pos W.heap.size with h8 | h8
  · exfalso
    simp [World.cell?, Array.eq_empty_of_size_eq_zero h8] at h9
  · exact h8
/-- A slice of numbers that came in, as the walks ask for it. -/
theorem intRow_of_cells {W : World} (x : Addr) (len : Nat) (zs : List Int) (hl : len ≤ zs.length) (hcell : ∀ i, i < zs.length → W.cell? (x.add i) = some (.int .i64 (zs.getD i 0))) (hwz : ∀ n ∈ zs, (Lit.int .i64 n).wf = true) : IntRow W.heap.size W (some x) len := by
  rcases Nat.eq_zero_or_pos len with h0 | h0
  · exact .inl h0
  · obtain ⟨b, off, spot⟩ := x
    have hc := hcell 0 (by omega)
    have hspot : spot = none := by simpa [Addr.add] using World.cell?_spot hc
    subst hspot
    refine .inr ⟨b, off, rfl, ?_, fun i hi => ?_⟩
    · have := World.block_lt_of_cell? W _ hc
      simpa [Addr.add] using this
    · have h9 := hcell i (by omega)
      have hm : zs.getD i 0 ∈ zs := by
        rw [List.getD_eq_getElem?_getD, List.getElem?_eq_getElem (by omega)]
        exact List.getElem_mem _
      have hb := Go.bounds_i64 (hwz _ hm)
      exact ⟨zs.getD i 0, hb.1, hb.2, by rw [Go.WideShapes.add_plain] at h9; exact h9⟩
end Go.Proofs.YtbdfjboojokgdaaDoor.Lx
namespace Go.Proofs.YtbdfjboojokgdaaDoor
open Go.RowKit Lx

theorem ctxS_size (zs : List Int) (M : Nat) : (ctxS zs M).size ≤ 5 * M + 6 := by
  have h3 := ctxB_size zs M
  have h5 : (⟨#[40]⟩ : ByteArray).size = 1 := rfl
  have h6 : (⟨#[41, 32, 61, 62, 32]⟩ : ByteArray).size = 5 := rfl
  have h7 : (⟨#[32, 61, 62, 32]⟩ : ByteArray).size = 4 := rfl
  have h8 : (⟨#[]⟩ : ByteArray).size = 0 := rfl
  unfold ctxS
  split
  · omega
  · split
    · simp only [ByteArray.size_append]; omega
    · simp only [ByteArray.size_append]; omega
theorem deep_res (K : Nat) (w : World) (hS : SymsIn w) (h1 : 36 ≤ K) (h2 : K ≤ 43) : Calls Tryd.prog 48 #[.string (depB K)] w fun e w' => ∃ (f nn : Int) (s : ByteArray) (A : Option Addr) (l c : Nat) (er pl : Int), e = .returned (.tuple #[.agg #[.int .i64 f, .int .i64 nn, .string s, .slice A l c], .agg #[.int .i64 er, .int .i64 pl]]) ∧ Below w.heap.size w w' ∧ ((K ≤ 40 ∧ er = 0 ∧ pl = 0 ∧ s = ⟨#[97]⟩) ∨ (40 < K ∧ er = 13 ∧ pl = 40 ∧ f = 0)) := by
  have hC := readType_any (depB K) w hS (by rw [depB_size]; omega)
  by_cases h : K ≤ 40
  · rw [deep_ok K h1 h] at hC
    refine hC.mono (fun e w' hr => ?_)
    obtain ⟨f, n, s, A, l, c, rfl, hty, hb⟩ := hr
    obtain ⟨A', c', e9, _⟩ := hty.form
    injection e9 with e9
    simp only [Array.mk.injEq, List.cons.injEq, Value.int.injEq, Value.string.injEq, Value.slice.injEq] at e9
    exact ⟨f, n, s, A, l, c, 0, 0, rfl, hb, .inl ⟨h, rfl, rfl, e9.2.2.1⟩⟩
  · rw [deep_no K (by omega) h2] at hC
    refine hC.mono (fun e w' hr => ?_)
    obtain ⟨rfl, hb⟩ := hr
    exact ⟨0, 0, ⟨#[]⟩, none, 0, 0, 13, 40, rfl, hb, .inr ⟨by omega, rfl, rfl, rfl⟩⟩
theorem many_res (M : Nat) (w : World) (hS : SymsIn w) (h1 : 12 ≤ M) (h2 : M ≤ 19) : Calls Tryd.prog 49 #[.string (manyB M)] w fun e w' => ∃ (Av : Option Addr) (nv cv : Nat) (Ap : Option Addr) (np cp : Nat) (f nn : Int) (s : ByteArray) (A : Option Addr) (l c : Nat) (er pl : Int), e = .returned (.tuple #[.agg #[.slice Av nv cv, .slice none 0 0, .slice Ap np cp, .int .i64 f, .int .i64 nn, .string s, .slice A l c], .agg #[.int .i64 er, .int .i64 pl]]) ∧ Below w.heap.size w w' ∧ ((M ≤ 16 ∧ er = 0 ∧ pl = 0 ∧ np = M) ∨ (16 < M ∧ er = 2 ∧ pl = 0 ∧ nv = 0)) := by
  have hz : (manyB M).size ≤ 1099511627776 := by
    have h3 := ctxB_size [0, 1, 2] M
    have h4 : (⟨#[97]⟩ : ByteArray).size = 1 := rfl
    have h5 : (⟨#[40]⟩ : ByteArray).size = 1 := rfl
    have h6 : (⟨#[41, 32, 61, 62, 32]⟩ : ByteArray).size = 5 := rfl
    unfold manyB ctxS
    rw [if_neg (by omega), if_neg (by rintro ⟨h, _⟩; omega)]
    simp only [ByteArray.size_append]; omega
  have hC := readScheme_any (manyB M) w hS hz (smallB_ok (many_small M h1 h2))
  by_cases h : M ≤ 16
  · rw [many_ok M h1 h] at hC
    refine hC.mono (fun e w' hr => ?_)
    obtain ⟨Av, nv, cv, Ap, cp, f, n, s, A, l, c, rfl, _, _, _, hb⟩ := hr
    exact ⟨Av, nv, cv, Ap, _, cp, f, n, s, A, l, c, 0, 0, rfl, hb, .inl ⟨h, rfl, rfl, many_len M h1 h⟩⟩
  · rw [many_no M (by omega) h2] at hC
    refine hC.mono (fun e w' hr => ?_)
    obtain ⟨rfl, hb⟩ := hr
    exact ⟨none, 0, 0, none, 0, 0, 0, 0, ⟨#[]⟩, none, 0, 0, 2, 0, rfl, hb, .inr ⟨by omega, rfl, rfl, rfl⟩⟩
theorem box_type (w : World) (x0 x1 x2 x3 y0 y1 : Value) : ∃ W, (w.alloc (.cells #[x0, x1, x2, x3] 25)).alloc (.cells #[y0, y1] 50) = W ∧
    W.heap[w.heap.size]? = some (.cells #[x0, x1, x2, x3] 25) ∧ W.heap[w.heap.size + 1]? = some (.cells #[y0, y1] 50) ∧ Below w.heap.size w W ∧ W.heap.size = w.heap.size + 2 := by
  refine ⟨_, rfl, ?_, ?_, below2 w _ _, by simp⟩
  · exact ((below_new _ _).block _ (by simp)).trans (MapKept.heap_alloc w (.cells #[x0, x1, x2, x3] 25)).1
  · simpa using (MapKept.heap_alloc (w.alloc (.cells #[x0, x1, x2, x3] 25)) (.cells #[y0, y1] 50)).1
theorem three_ints (w : World) : IntsAt (fun _ => True) (w.alloc (.cells #[.int .i64 0, .int .i64 1, .int .i64 2] 3)) (.slice (some ⟨w.heap.size, 0, none⟩) 3 3) [0, 1, 2] := by
  have h := (MapKept.heap_alloc w (.cells #[.int .i64 0, .int .i64 1, .int .i64 2] 3)).1
  refine ⟨_, _, rfl, Nat.le_refl _, by unfold maxLen; decide, fun z hz => ?_, .inr ⟨_, _, rfl, trivial, by simp, fun i hi => ?_⟩⟩
  · simp at hz; omega
  · have h2 : i = 0 ∨ i = 1 ∨ i = 2 := by simp at hi; omega
    rcases h2 with rfl | rfl | rfl
    · simp only [World.cell?, h]; rfl
    · simp only [World.cell?, h]; rfl
    · simp only [World.cell?, h]; rfl
set_option maxRecDepth 100000 in
set_option maxHeartbeats 2000000 in
theorem treadDeep_law (n m : Int) (w : World) (hS : SymsIn w) (hn1 : -9223372036854775808 ≤ n) (hn2 : n ≤ 9223372036854775807) (hm1 : -9223372036854775808 ≤ m) (hm2 : m ≤ 9223372036854775807) : Calls Tryd.prog 10 #[.int .i64 n, .int .i64 m] w (TrueB w) := by
  have HA := Lib.hid (fun W => around_is n 8 W hn1 hn2 (by omega) (by omega))
  have HB := Lib.hid (fun W => around_is m 8 W hm1 hm2 (by omega) (by omega))
  have ha := aroundI_bd n 8 (by omega)
  have hb := aroundI_bd m 8 (by omega)
  obtain ⟨a, ea⟩ : ∃ a : Nat, aroundI n 8 = a := ⟨(aroundI n 8).toNat, by omega⟩
  obtain ⟨b, eb⟩ : ∃ b : Nat, aroundI m 8 = b := ⟨(aroundI m 8).toNat, by omega⟩
  rw [ea] at HA ha
  rw [eb] at HB hb
  clear ea eb
  have ha8 : a < 8 := by omega
  have hb8 : b < 8 := by omega
  have hai : (a : Int) < 8 := by omega
  have ha0 : (0 : Int) ≤ (a : Int) := by omega
  have hbi : (b : Int) < 8 := by omega
  have hb0 : (0 : Int) ≤ (b : Int) := by omega
  clear ha hb
  have HS := Lib.hid hS
  clear hS
  go_enter Tryd.func10, Tryd.ntmps10
  go_wp2_with fail
  (with_reducible refine (HA.out _).mono ?_)
  rintro e0 w0 ⟨rfl, rfl⟩
  obtain ⟨K, hK⟩ : ∃ K : Nat, K = 36 + a := ⟨_, rfl⟩
  have hKb : (K : Int) ≤ 43 := by omega
  have hK00 : (0 : Int) ≤ (K : Int) := by omega
  go_wp2
  go_loopw [6, 7] (fun s i wr => ∃ j : Nat, j ≤ K ∧ i = .int .i64 j ∧ s = .string (depB j) ∧ w = wr) (fun _ i _ => K - (intOf i).toNat)
  case atStart => exact ⟨0, Nat.zero_le _, rfl, rfl, rfl⟩
  case round =>
    obtain ⟨j, hj, rfl, rfl, rfl⟩ := hrel
    by_cases hlt : j < K
    · have hji : (j : Int) < 36 + (a : Int) := by omega
      have hj0 : (0 : Int) ≤ (j : Int) := by omega
      have hz := depB_size j
      have hd1 : ∀ q : World, (Op.stringOp .add ⟨#[40]⟩ (depB j)).run Tryd.prog q = .ok (.string (⟨#[40]⟩ ++ depB j)) q := fun q => run_string_add_sum q _ _ (by show 1 + _ ≤ _; omega)
      have hd2 : ∀ q : World, (Op.stringOp .add (⟨#[40]⟩ ++ depB j) ⟨#[41]⟩).run Tryd.prog q = .ok (.string (⟨#[40]⟩ ++ depB j ++ ⟨#[41]⟩)) q := fun q => run_string_add_sum q _ _ (by rw [ByteArray.size_append]; show 1 + _ + 1 ≤ _; omega)
      go_wp2
      go_roundw
      case rel => exact ⟨j + 1, by omega, by go_num, rfl, by first | rfl | trivial⟩
      case measure => simp [intOf]; omega
    · have hji : ¬ (j : Int) < 36 + (a : Int) := by omega
      obtain rfl : j = K := by omega
      have HD := Lib.hid (deep_res (36 + a) w HS.out (by omega) (by omega))
      have hMi : ((12 + b : Nat) : Int) = 12 + (b : Int) := by omega
      go_wp2_with fail
      (with_reducible refine HD.out.mono ?_)
      rintro e1 y ⟨f, nn, s, A, l, c, er, pl, rfl, hby, hcase⟩
      obtain ⟨Y, eY, k0, k1, b1, z1⟩ := box_type y (.int .i64 f) (.int .i64 nn) (.string s) (.slice A l c) (.int .i64 er) (.int .i64 pl)
      have HBY := Lib.hid (hby.trans (b1.mono hby.size))
      have HEY := Lib.hid eY
      have HK0 := Lib.hid k0
      have HK1 := Lib.hid k1
      have HZY := Lib.hid z1
      clear eY b1 k0 k1 z1 hby
      go_upto_region 8 with (fail)
      rw [HEY.out]
      go_wp2_with fail
      (with_reducible refine (HB.out _).mono ?_)
      rintro e2 y2 ⟨rfl, rfl⟩
      have hn := below_new Y (.cells #[.int .i64 0, .int .i64 1, .int .i64 2] 3)
      have hcx := context_any _ [0, 1, 2] _ (12 + b) _ (three_ints Y) (by omega)
      rw [hMi] at hcx
      have HCX := Lib.hid hcx
      clear hcx
      have HN := Lib.hid hn
      clear hn
      go_wp2_with fail
      (with_reducible refine HCX.out.mono ?_)
      rintro e3 z ⟨rfl, hbz⟩
      have HBZ := Lib.hid (HN.out.trans (hbz.mono HN.out.size))
      have hmr := many_res (12 + b) z (HS.out.on (HBY.out.trans (HBZ.out.mono HBY.out.size))) (by omega) (by omega)
      unfold manyB at hmr
      have hcz := ctxS_size [0, 1, 2] (12 + b)
      have hadd : ∀ q : World, (Op.stringOp .add (ctxS [0, 1, 2] (12 + b)) ⟨#[97]⟩).run Tryd.prog q = .ok (.string (ctxS [0, 1, 2] (12 + b) ++ ⟨#[97]⟩)) q := fun q => run_string_add_sum q _ _ (by show _ + 1 ≤ _; omega)
      have HMR := Lib.hid hmr
      clear hmr
      clear hbz
      go_wp2_with fail
      (with_reducible refine HMR.out.mono ?_)
      rintro e4 x ⟨Av, nv, cv, Ap, np, cp, f2, nn2, s2, A2, l2, c2, er2, pl2, rfl, hbx, hcase2⟩
      obtain ⟨X, eX, k0, k1, b1, z1⟩ := box_scheme x (.slice Av nv cv) (.slice none 0 0) (.slice Ap np cp) (.int .i64 f2) (.int .i64 nn2) (.string s2) (.slice A2 l2 c2) (.int .i64 er2) (.int .i64 pl2)
      have hYX := HBZ.out.trans ((hbx.trans (b1.mono hbx.size)).mono HBZ.out.size)
      have hwX := HBY.out.trans (hYX.mono HBY.out.size)
      have hzy := HZY.out
      have hys : Y.heap.size ≤ X.heap.size := hYX.size
      have hYx : y.heap.size + 1 < x.heap.size := by have := HBZ.out.size; have := hbx.size; omega
      obtain ⟨p0, p1, p2, p3, p4, p5, p6, p7, p8⟩ := four_cells ((hYX.block y.heap.size (by omega)).trans HK0.out)
      obtain ⟨q0, q1, q2, q3, q4⟩ := pair_cells ((hYX.block (y.heap.size + 1) (by omega)).trans HK1.out)
      obtain ⟨u0, u1, u2, u3, u4, u5, u6, u7, u8, u9, u10, u11, u12, u13, u14⟩ := seven_cells k0
      obtain ⟨v0, v1, v2, v3, v4⟩ := pair_cells k1
      have HEX := Lib.hid eX
      have HWX := Lib.hid hwX
      have HLV := Lib.hid (livesT_any X (HS.out.on hwX))
      have heq := eq_at
      have hgd := guard_at
      clear eX k0 k1 b1 z1 hbx hYX hwX hK hKb hK00 hj hlt hji hzy
      rcases hcase with ⟨hc, rfl, rfl, rfl⟩ | ⟨hc, rfl, rfl, rfl⟩
      · have hci : (36 : Int) + (a : Int) ≤ 40 := by omega
        have hcj : ¬ (40 : Int) < 36 + (a : Int) := by omega
        rcases hcase2 with ⟨hd, rfl, rfl, rfl⟩ | ⟨hd, rfl, rfl, rfl⟩
        · have hdi : ¬ (16 : Int) < 12 + (b : Int) := by omega
          go_upto_region 10 with (fail)
          rw [HEX.out]
          go_wp2_with fail
          (with_reducible refine HLV.out.mono ?_)
          rintro e5 x5 ⟨rfl, hb5⟩
          go_wp2
          go_ret
          exact ⟨rfl, HWX.out.trans (hb5.mono HWX.out.size)⟩
        · have hdi : (16 : Int) < 12 + (b : Int) := by omega
          go_upto_region 10 with (fail)
          rw [HEX.out]
          go_wp2_with fail
          (with_reducible refine HLV.out.mono ?_)
          rintro e5 x5 ⟨rfl, hb5⟩
          go_wp2
          go_ret
          exact ⟨rfl, HWX.out.trans (hb5.mono HWX.out.size)⟩
      · have hci : ¬ (36 : Int) + (a : Int) ≤ 40 := by omega
        have hcj : (40 : Int) < 36 + (a : Int) := by omega
        rcases hcase2 with ⟨hd, rfl, rfl, rfl⟩ | ⟨hd, rfl, rfl, rfl⟩
        · have hdi : ¬ (16 : Int) < 12 + (b : Int) := by omega
          go_upto_region 10 with (fail)
          rw [HEX.out]
          go_wp2_with fail
          (with_reducible refine HLV.out.mono ?_)
          rintro e5 x5 ⟨rfl, hb5⟩
          go_wp2
          go_ret
          exact ⟨rfl, HWX.out.trans (hb5.mono HWX.out.size)⟩
        · have hdi : (16 : Int) < 12 + (b : Int) := by omega
          go_upto_region 10 with (fail)
          rw [HEX.out]
          go_wp2_with fail
          (with_reducible refine HLV.out.mono ?_)
          rintro e5 x5 ⟨rfl, hb5⟩
          go_wp2
          go_ret
          exact ⟨rfl, HWX.out.trans (hb5.mono HWX.out.size)⟩
theorem treadDeep_walk (n m : Int) (w : World) (hn1 : -9223372036854775808 ≤ n) (hn2 : n ≤ 9223372036854775807) (hm1 : -9223372036854775808 ≤ m) (hm2 : m ≤ 9223372036854775807) (hS : SymsIn w) : Calls Tryd.prog 10 #[.int .i64 n, .int .i64 m] w (TrueB w) := treadDeep_law n m w hS hn1 hn2 hm1 hm2
end Go.Proofs.YtbdfjboojokgdaaDoor
