/- The walk of TreadDeep (chapter 5): it tells true for every two numbers. Condition: the list of symbols stands in memory as the program's text lays it. What TreadVars' walk wants besides (chapter 5): a scheme's source is read back by tread.ReadScheme; an append of a row of texts to an own one. Conditions: those that each theorem names. -/
import Derived.Test.YtbdfjboojokgdaaDoorJV46
import Derived.Test.YtbdfjboojokgdaaDoorJV34
import Derived.Test.YtbdfjboojokgdaaDoorJV43
import Derived.Deep.AppendLies
namespace Go.Proofs.YtbdfjboojokgdaaDoor
open Go.RowKit Lx

theorem ctxS_size (zs : List Int) (M : Nat) : (ctxS zs M).size ≤ 5 * M + 6 := by
  have h3 := ctxB_size zs M
  have h5 : (⟨#[40]⟩ : ByteArray).size = 1 := rfl
  have h6 : (⟨#[41, 32, 61, 62, 32]⟩ : ByteArray).size = 5 := rfl
  have h7 : (⟨#[32, 61, 62, 32]⟩ : ByteArray).size = 4 := rfl
  have h8 : (⟨#[]⟩ : ByteArray).size = 0 := rfl
  unfold ctxS
  split
  · omega
  · split
    · simp only [ByteArray.size_append]; omega
    · simp only [ByteArray.size_append]; omega
theorem deep_res (K : Nat) (w : World) (hS : SymsIn w) (h1 : 36 ≤ K) (h2 : K ≤ 43) : Calls Tryd.prog 48 #[.string (depB K)] w fun e w' => ∃ (f nn : Int) (s : ByteArray) (A : Option Addr) (l c : Nat) (er pl : Int), e = .returned (.tuple #[.agg #[.int .i64 f, .int .i64 nn, .string s, .slice A l c], .agg #[.int .i64 er, .int .i64 pl]]) ∧ Below w.heap.size w w' ∧ ((K ≤ 40 ∧ er = 0 ∧ pl = 0 ∧ s = ⟨#[97]⟩) ∨ (40 < K ∧ er = 13 ∧ pl = 40 ∧ f = 0)) := by
  have hC := readType_any (depB K) w hS (by rw [depB_size]; omega)
  by_cases h : K ≤ 40
  · rw [deep_ok K h1 h] at hC
    refine hC.mono (fun e w' hr => ?_)
    obtain ⟨f, n, s, A, l, c, rfl, hty, hb⟩ := hr
    obtain ⟨A', c', e9, _⟩ := hty.form
    injection e9 with e9
    simp only [Array.mk.injEq, List.cons.injEq, Value.int.injEq, Value.string.injEq, Value.slice.injEq] at e9
    exact ⟨f, n, s, A, l, c, 0, 0, rfl, hb, .inl ⟨h, rfl, rfl, e9.2.2.1⟩⟩
  · rw [deep_no K (by omega) h2] at hC
    refine hC.mono (fun e w' hr => ?_)
    obtain ⟨rfl, hb⟩ := hr
    exact ⟨0, 0, ⟨#[]⟩, none, 0, 0, 13, 40, rfl, hb, .inr ⟨by omega, rfl, rfl, rfl⟩⟩
theorem many_res (M : Nat) (w : World) (hS : SymsIn w) (h1 : 12 ≤ M) (h2 : M ≤ 19) : Calls Tryd.prog 49 #[.string (manyB M)] w fun e w' => ∃ (Av : Option Addr) (nv cv : Nat) (Ap : Option Addr) (np cp : Nat) (f nn : Int) (s : ByteArray) (A : Option Addr) (l c : Nat) (er pl : Int), e = .returned (.tuple #[.agg #[.slice Av nv cv, .slice none 0 0, .slice Ap np cp, .int .i64 f, .int .i64 nn, .string s, .slice A l c], .agg #[.int .i64 er, .int .i64 pl]]) ∧ Below w.heap.size w w' ∧ ((M ≤ 16 ∧ er = 0 ∧ pl = 0 ∧ np = M) ∨ (16 < M ∧ er = 2 ∧ pl = 0 ∧ nv = 0)) := by
  have hz : (manyB M).size ≤ 1099511627776 := by
    have h3 := ctxB_size [0, 1, 2] M
    have h4 : (⟨#[97]⟩ : ByteArray).size = 1 := rfl
    have h5 : (⟨#[40]⟩ : ByteArray).size = 1 := rfl
    have h6 : (⟨#[41, 32, 61, 62, 32]⟩ : ByteArray).size = 5 := rfl
    unfold manyB ctxS
    rw [if_neg (by omega), if_neg (by rintro ⟨h, _⟩; omega)]
    simp only [ByteArray.size_append]; omega
  have hC := readScheme_any (manyB M) w hS hz (smallB_ok (many_small M h1 h2))
  by_cases h : M ≤ 16
  · rw [many_ok M h1 h] at hC
    refine hC.mono (fun e w' hr => ?_)
    obtain ⟨Av, nv, cv, Ap, cp, f, n, s, A, l, c, rfl, _, _, _, hb⟩ := hr
    exact ⟨Av, nv, cv, Ap, _, cp, f, n, s, A, l, c, 0, 0, rfl, hb, .inl ⟨h, rfl, rfl, many_len M h1 h⟩⟩
  · rw [many_no M (by omega) h2] at hC
    refine hC.mono (fun e w' hr => ?_)
    obtain ⟨rfl, hb⟩ := hr
    exact ⟨none, 0, 0, none, 0, 0, 0, 0, ⟨#[]⟩, none, 0, 0, 2, 0, rfl, hb, .inr ⟨by omega, rfl, rfl, rfl⟩⟩
theorem box_type (w : World) (x0 x1 x2 x3 y0 y1 : Value) : ∃ W, (w.alloc (.cells #[x0, x1, x2, x3] 25)).alloc (.cells #[y0, y1] 50) = W ∧
    W.heap[w.heap.size]? = some (.cells #[x0, x1, x2, x3] 25) ∧ W.heap[w.heap.size + 1]? = some (.cells #[y0, y1] 50) ∧ Below w.heap.size w W ∧ W.heap.size = w.heap.size + 2 := by
  refine ⟨_, rfl, ?_, ?_, below2 w _ _, by simp⟩
  · exact ((below_new _ _).block _ (by simp)).trans (MapKept.heap_alloc w (.cells #[x0, x1, x2, x3] 25)).1
  · simpa using (MapKept.heap_alloc (w.alloc (.cells #[x0, x1, x2, x3] 25)) (.cells #[y0, y1] 50)).1
theorem three_ints (w : World) : IntsAt (fun _ => True) (w.alloc (.cells #[.int .i64 0, .int .i64 1, .int .i64 2] 3)) (.slice (some ⟨w.heap.size, 0, none⟩) 3 3) [0, 1, 2] := by
  have h := (MapKept.heap_alloc w (.cells #[.int .i64 0, .int .i64 1, .int .i64 2] 3)).1
  refine ⟨_, _, rfl, Nat.le_refl _, by unfold maxLen; decide, fun z hz => ?_, .inr ⟨_, _, rfl, trivial, by simp, fun i hi => ?_⟩⟩
  · simp at hz; omega
  · have h2 : i = 0 ∨ i = 1 ∨ i = 2 := by simp at hi; omega
    rcases h2 with rfl | rfl | rfl
    · simp only [World.cell?, h]; rfl
    · simp only [World.cell?, h]; rfl
    · simp only [World.cell?, h]; rfl
set_option maxRecDepth 100000 in
set_option maxHeartbeats 2000000 in
theorem treadDeep_law (n m : Int) (w : World) (hS : SymsIn w) (hn1 : -9223372036854775808 ≤ n) (hn2 : n ≤ 9223372036854775807) (hm1 : -9223372036854775808 ≤ m) (hm2 : m ≤ 9223372036854775807) : Calls Tryd.prog 10 #[.int .i64 n, .int .i64 m] w (TrueB w) := by
  have HA := Lib.hid (fun W => around_is n 8 W hn1 hn2 (by omega) (by omega))
  have HB := Lib.hid (fun W => around_is m 8 W hm1 hm2 (by omega) (by omega))
  have ha := aroundI_bd n 8 (by omega)
  have hb := aroundI_bd m 8 (by omega)
  obtain ⟨a, ea⟩ : ∃ a : Nat, aroundI n 8 = a := ⟨(aroundI n 8).toNat, by omega⟩
  obtain ⟨b, eb⟩ : ∃ b : Nat, aroundI m 8 = b := ⟨(aroundI m 8).toNat, by omega⟩
  rw [ea] at HA ha
  rw [eb] at HB hb
  clear ea eb
  have ha8 : a < 8 := by omega
  have hb8 : b < 8 := by omega
  have hai : (a : Int) < 8 := by omega
  have ha0 : (0 : Int) ≤ (a : Int) := by omega
  have hbi : (b : Int) < 8 := by omega
  have hb0 : (0 : Int) ≤ (b : Int) := by omega
  clear ha hb
  have HS := Lib.hid hS
  clear hS
  go_enter Tryd.func10, Tryd.ntmps10
  go_wp2_with fail
  (with_reducible refine (HA.out _).mono ?_)
  rintro e0 w0 ⟨rfl, rfl⟩
  obtain ⟨K, hK⟩ : ∃ K : Nat, K = 36 + a := ⟨_, rfl⟩
  have hKb : (K : Int) ≤ 43 := by omega
  have hK00 : (0 : Int) ≤ (K : Int) := by omega
  go_wp2
  go_loopw [6, 7] (fun s i wr => ∃ j : Nat, j ≤ K ∧ i = .int .i64 j ∧ s = .string (depB j) ∧ w = wr) (fun _ i _ => K - (intOf i).toNat)
  case atStart => exact ⟨0, Nat.zero_le _, rfl, rfl, rfl⟩
  case round =>
    obtain ⟨j, hj, rfl, rfl, rfl⟩ := hrel
    by_cases hlt : j < K
    · have hji : (j : Int) < 36 + (a : Int) := by omega
      have hj0 : (0 : Int) ≤ (j : Int) := by omega
      have hz := depB_size j
      have hd1 : ∀ q : World, (Op.stringOp .add ⟨#[40]⟩ (depB j)).run Tryd.prog q = .ok (.string (⟨#[40]⟩ ++ depB j)) q := fun q => run_string_add_sum q _ _ (by show 1 + _ ≤ _; omega)
      have hd2 : ∀ q : World, (Op.stringOp .add (⟨#[40]⟩ ++ depB j) ⟨#[41]⟩).run Tryd.prog q = .ok (.string (⟨#[40]⟩ ++ depB j ++ ⟨#[41]⟩)) q := fun q => run_string_add_sum q _ _ (by rw [ByteArray.size_append]; show 1 + _ + 1 ≤ _; omega)
      go_wp2
      go_roundw
      case rel => exact ⟨j + 1, by omega, by go_num, rfl, by first | rfl | trivial⟩
      case measure => simp [intOf]; omega
    · have hji : ¬ (j : Int) < 36 + (a : Int) := by omega
      obtain rfl : j = K := by omega
      have HD := Lib.hid (deep_res (36 + a) w HS.out (by omega) (by omega))
      have hMi : ((12 + b : Nat) : Int) = 12 + (b : Int) := by omega
      go_wp2_with fail
      (with_reducible refine HD.out.mono ?_)
      rintro e1 y ⟨f, nn, s, A, l, c, er, pl, rfl, hby, hcase⟩
      obtain ⟨Y, eY, k0, k1, b1, z1⟩ := box_type y (.int .i64 f) (.int .i64 nn) (.string s) (.slice A l c) (.int .i64 er) (.int .i64 pl)
      have HBY := Lib.hid (hby.trans (b1.mono hby.size))
      have HEY := Lib.hid eY
      have HK0 := Lib.hid k0
      have HK1 := Lib.hid k1
      have HZY := Lib.hid z1
      clear eY b1 k0 k1 z1 hby
      go_upto_region 8 with (fail)
      rw [HEY.out]
      go_wp2_with fail
      (with_reducible refine (HB.out _).mono ?_)
      rintro e2 y2 ⟨rfl, rfl⟩
      have hn := below_new Y (.cells #[.int .i64 0, .int .i64 1, .int .i64 2] 3)
      have hcx := context_any _ [0, 1, 2] _ (12 + b) _ (three_ints Y) (by omega)
      rw [hMi] at hcx
      have HCX := Lib.hid hcx
      clear hcx
      have HN := Lib.hid hn
      clear hn
      go_wp2_with fail
      (with_reducible refine HCX.out.mono ?_)
      rintro e3 z ⟨rfl, hbz⟩
      have HBZ := Lib.hid (HN.out.trans (hbz.mono HN.out.size))
      have hmr := many_res (12 + b) z (HS.out.on (HBY.out.trans (HBZ.out.mono HBY.out.size))) (by omega) (by omega)
      unfold manyB at hmr
      have hcz := ctxS_size [0, 1, 2] (12 + b)
      have hadd : ∀ q : World, (Op.stringOp .add (ctxS [0, 1, 2] (12 + b)) ⟨#[97]⟩).run Tryd.prog q = .ok (.string (ctxS [0, 1, 2] (12 + b) ++ ⟨#[97]⟩)) q := fun q => run_string_add_sum q _ _ (by show _ + 1 ≤ _; omega)
      have HMR := Lib.hid hmr
      clear hmr
      clear hbz
      go_wp2_with fail
      (with_reducible refine HMR.out.mono ?_)
      rintro e4 x ⟨Av, nv, cv, Ap, np, cp, f2, nn2, s2, A2, l2, c2, er2, pl2, rfl, hbx, hcase2⟩
      obtain ⟨X, eX, k0, k1, b1, z1⟩ := box_scheme x (.slice Av nv cv) (.slice none 0 0) (.slice Ap np cp) (.int .i64 f2) (.int .i64 nn2) (.string s2) (.slice A2 l2 c2) (.int .i64 er2) (.int .i64 pl2)
      have hYX := HBZ.out.trans ((hbx.trans (b1.mono hbx.size)).mono HBZ.out.size)
      have hwX := HBY.out.trans (hYX.mono HBY.out.size)
      have hzy := HZY.out
      have hys : Y.heap.size ≤ X.heap.size := hYX.size
      have hYx : y.heap.size + 1 < x.heap.size := by have := HBZ.out.size; have := hbx.size; omega
      obtain ⟨p0, p1, p2, p3, p4, p5, p6, p7, p8⟩ := four_cells ((hYX.block y.heap.size (by omega)).trans HK0.out)
      obtain ⟨q0, q1, q2, q3, q4⟩ := pair_cells ((hYX.block (y.heap.size + 1) (by omega)).trans HK1.out)
      obtain ⟨u0, u1, u2, u3, u4, u5, u6, u7, u8, u9, u10, u11, u12, u13, u14⟩ := seven_cells k0
      obtain ⟨v0, v1, v2, v3, v4⟩ := pair_cells k1
      have HEX := Lib.hid eX
      have HWX := Lib.hid hwX
      have HLV := Lib.hid (livesT_any X (HS.out.on hwX))
      have heq := eq_at
      have hgd := guard_at
      clear eX k0 k1 b1 z1 hbx hYX hwX hK hKb hK00 hj hlt hji hzy
      rcases hcase with ⟨hc, rfl, rfl, rfl⟩ | ⟨hc, rfl, rfl, rfl⟩
      · have hci : (36 : Int) + (a : Int) ≤ 40 := by omega
        have hcj : ¬ (40 : Int) < 36 + (a : Int) := by omega
        rcases hcase2 with ⟨hd, rfl, rfl, rfl⟩ | ⟨hd, rfl, rfl, rfl⟩
        · have hdi : ¬ (16 : Int) < 12 + (b : Int) := by omega
          go_upto_region 10 with (fail)
          rw [HEX.out]
          go_wp2_with fail
          (with_reducible refine HLV.out.mono ?_)
          rintro e5 x5 ⟨rfl, hb5⟩
          go_wp2
          go_ret
          exact ⟨rfl, HWX.out.trans (hb5.mono HWX.out.size)⟩
        · have hdi : (16 : Int) < 12 + (b : Int) := by omega
          go_upto_region 10 with (fail)
          rw [HEX.out]
          go_wp2_with fail
          (with_reducible refine HLV.out.mono ?_)
          rintro e5 x5 ⟨rfl, hb5⟩
          go_wp2
          go_ret
          exact ⟨rfl, HWX.out.trans (hb5.mono HWX.out.size)⟩
      · have hci : ¬ (36 : Int) + (a : Int) ≤ 40 := by omega
        have hcj : (40 : Int) < 36 + (a : Int) := by omega
        rcases hcase2 with ⟨hd, rfl, rfl, rfl⟩ | ⟨hd, rfl, rfl, rfl⟩
        · have hdi : ¬ (16 : Int) < 12 + (b : Int) := by omega
          go_upto_region 10 with (fail)
          rw [HEX.out]
          go_wp2_with fail
          (with_reducible refine HLV.out.mono ?_)
          rintro e5 x5 ⟨rfl, hb5⟩
          go_wp2
          go_ret
          exact ⟨rfl, HWX.out.trans (hb5.mono HWX.out.size)⟩
        · have hdi : (16 : Int) < 12 + (b : Int) := by omega
          go_upto_region 10 with (fail)
          rw [HEX.out]
          go_wp2_with fail
          (with_reducible refine HLV.out.mono ?_)
          rintro e5 x5 ⟨rfl, hb5⟩
          go_wp2
          go_ret
          exact ⟨rfl, HWX.out.trans (hb5.mono HWX.out.size)⟩
theorem treadDeep_walk (n m : Int) (w : World) (hn1 : -9223372036854775808 ≤ n) (hn2 : n ≤ 9223372036854775807) (hm1 : -9223372036854775808 ≤ m) (hm2 : m ≤ 9223372036854775807) (hS : SymsIn w) : Calls Tryd.prog 10 #[.int .i64 n, .int .i64 m] w (TrueB w) := treadDeep_law n m w hS hn1 hn2 hm1 hm2
end Go.Proofs.YtbdfjboojokgdaaDoor
namespace Go.Proofs.YtbdfjboojokgdaaDoor
open Go.RowKit Lx

theorem funs_szB (t : Ty) : ∀ (l : List Ty), (∀ x ∈ l, x.sz ≤ 1) → (funs l t).sz ≤ 4 * l.length + t.sz
  | [], _ => by simp [funs]
  | a :: r, h => by
    have h1 := h a (List.mem_cons_self ..)
    have h2 := funs_szB t r (fun x hx => h x (List.mem_cons_of_mem _ hx))
    simp only [funs, Ty.fn, Ty.sz, List.length_cons]
    omega
theorem scheme_back (t : Ty) (zs : List Int) (k : Nat) (hG : GoodT t) (hz : t.sz ≤ 97) (hd : t.dep ≤ 10) (hk : k ≤ 4) (q : World) (hS : SymsIn q) :
    Calls Tryd.prog 49 #[.string (ctxS zs k ++ ⟨t.pr.toArray⟩)] q fun e q1 => (∃ u, e = .returned (.tuple #[u, e00]) ∧ SchP (funs ((psL (pairsZ zs k)).map (·.2)) t).free (psL (pairsZ zs k)) (fun b => q.heap.size ≤ b) q1 u) ∧ Below q.heap.size q q1 := by
  have hcs := ctxS_size zs k
  have hpl := hG.pr_len
  have hcl : (ctxS zs k).data.toList.length = (ctxS zs k).size := Array.length_toList
  obtain ⟨e, hread⟩ := read_ctx zs k hG (by omega) (by omega) (by omega)
  have hdata : (ctxS zs k ++ ⟨t.pr.toArray⟩ : ByteArray).data.toList = (ctxS zs k).data.toList ++ t.pr := by simp
  have hsize : (ctxS zs k ++ ⟨t.pr.toArray⟩ : ByteArray).size ≤ 1099511627776 := by
    rw [ByteArray.size_append]
    have : (⟨t.pr.toArray⟩ : ByteArray).size = t.pr.length := by show t.pr.toArray.size = _; simp
    omega
  have hC := readScheme_any (ctxS zs k ++ ⟨t.pr.toArray⟩) q hS hsize (fun l hl ps' t' r hr => by
    rw [hdata] at hl
    unfold readS at hread
    rw [hl] at hread
    simp only [hr] at hread
    cases r with
    | nil => cases hread
    | cons c r =>
      simp only at hread
      split at hread
      · injection hread with e1 e2 e3
        subst e1; subst e2
        refine ⟨fun p hp => ?_, good_short hG, ?_⟩
        · obtain ⟨s, hs, e9⟩ := pairs_var zs k p hp
          rw [e9]; show s.size ≤ _; omega
        · have h9 := funs_szB t' ((psL (pairsZ zs k)).map (·.2)) (fun x hx => by
            obtain ⟨p, hp, rfl⟩ := List.mem_map.1 hx
            obtain ⟨s, hs, e9⟩ := pairs_var zs k p hp
            rw [e9]; exact Nat.le_refl _)
          rw [List.length_map, psL_len, pairsZ_len] at h9
          omega
      · cases hread)
  rw [hdata, hread] at hC
  refine hC.mono ?_
  rintro e1 q1 ⟨Av, nv, cv, Ap, cp, f, n, s, A, l, c, rfl, ho, hp, ht, hb⟩
  exact ⟨⟨_, rfl, Av, nv, cv, Ap, cp, f, n, s, A, l, c, rfl, ho.strs.mono (fun b h => h.1), hp.psp⟩, hb⟩
/-! ### An append -/
/-- A slice that tells so many texts. -/
def SrcS (w : World) (u : Value) (fl : List ByteArray) : Prop := ∃ A c, u = .slice A fl.length c ∧ (fl = [] ∨ ∃ a : Addr, A = some a ∧ ∀ j x, (fl.map Value.string)[j]? = some x → w.cell? (a.add j) = some x)
theorem OwnS.src {base : Nat} {w : World} {v : Value} {fl : List ByteArray} (h : OwnS base w v fl) : SrcS w v fl := by
  by_cases he : fl = []
  · obtain ⟨A, c, e⟩ := own_form h
    exact ⟨A, c, e, .inl he⟩
  · have hfp := List.length_pos_iff.2 he
    obtain ⟨g, c, e, _, _⟩ := World.ownsRow.form h hfp
    subst e
    exact ⟨_, c, rfl, .inr ⟨_, rfl, World.ownsRow.cells h (g := g) rfl⟩⟩
theorem wpList_append_strs {ops : Array Oper} {rest : List Oper} {o : Oper} {a : Act} {Q : Exit → Act → World → Prop} {w : World} (hgd : o.guard = none) (s x : Operand)
    (ho : o.op = .call { callee := .builtin .append, args := #[s, x], argTypes := #[28, 28] }) (base : Nat) (v u : Value) (ks fl : List ByteArray) (hs : a.eval s = v) (hx : a.eval x = u)
    (hown : OwnS base w v ks) (hsrc : SrcS w u fl) (hlen : ks.length + fl.length ≤ 1048576) (hbase : base ≤ w.heap.size)
    (h : ∀ v' w', OwnS base w' v' (ks ++ fl) → w.grownBy w' v.ownBlock → wpList Tryd.prog ops Q rest (a.put o.dst v') w') : wpList Tryd.prog ops Q (o :: rest) a w := by
  obtain ⟨i9, hi9, hz90, hz9s, hz9b⟩ := info_parts' Tryd.info9
  obtain ⟨A, c, e1, hc⟩ := hsrc
  obtain ⟨Ak, ck, e2, hck, _⟩ := own_cap hown
  subst e1
  by_cases hf : fl = []
  · subst hf
    refine wpList_plain hgd fun _ hK => ?_
    have hrun := run_append_zero w o.type Ak A ks.length ck c hck
    unfold Oper.wp execOp
    rw [e2] at hs
    simp only [ho, resolve, invoke, builtin, Sem.run_bind, Sem.run_pure, Result.andThen_ok, List.map_toArray, List.map_cons, List.map_nil, hs, hx, List.length_nil, hrun]
    rw [← e2]
    exact hK _ _ (h v w (by simpa using hown) (World.grownBy.refl _ _))
  · rcases hc with hc | ⟨ad, rfl, hc⟩
    · exact absurd hc hf
    · have hfp := List.length_pos_iff.2 hf
      refine Go.wpList_append_lies w hgd s x 28 ho base 9 i9 (.string ⟨#[]⟩) 1 16 Tryd.underlying28 hi9 hz90 hz9s hz9b rfl (by decide) v ks.length (ks.map Value.string) hs hown ad fl.length c (fl.map Value.string) hx (by simp) hc (fun z hz => by simp at hz; obtain ⟨y, _, rfl⟩ := hz; rfl) hfp (by unfold maxLen; omega) (by omega) hbase w.heap.size rfl (fun g cap w' h2 h3 _ _ => h _ w' ?_ h3)
      show w'.ownsRow base 9 1 _ (ks ++ fl).length ((ks ++ fl).map Value.string)
      rw [List.length_append, List.map_append]
      exact h2
end Go.Proofs.YtbdfjboojokgdaaDoor
