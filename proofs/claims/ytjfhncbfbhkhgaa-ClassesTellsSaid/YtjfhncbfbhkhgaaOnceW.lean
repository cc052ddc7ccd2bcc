/- ClassesOnce: the walk. Conditions: the slice reads as numbers, the numbers are of 64 bits. -/
import Derived.Test.YtjfhncbfbhkhgaaMad
import Derived.Test.YtjfhncbfbhkhgaaLawM
namespace Go.Proofs.Ytjfhncbfbhkhgaa
open Go.RowKit
theorem below_step {w a b : World} (h : Below w.heap.size w a) (k : Below a.heap.size a b) : Below w.heap.size w b := h.trans (k.mono h.size)
theorem once_math {I : List Ins} (h : overL [] I = []) {n : Nat} {x : Ins} (hx : I[n]? = some x) : instF I 0 x.cls x.con = some n := by
  obtain ⟨k, hk⟩ := Option.isSome_iff_exists.1 (instF_has (n := 0) (List.mem_of_getElem? hx) rfl rfl)
  obtain ⟨y, hy, h1, h2⟩ := instF_some hk
  rw [hk, over_one h hy hx h1 h2]
set_option maxRecDepth 100000 in
set_option maxHeartbeats 4000000 in
theorem classesOnce_law (A : Option Addr) (l c : Nat) (a b : Int) (w : World) (h : SomeInts w (.slice A l c)) (ha1 : -9223372036854775808 ≤ a) (ha2 : a ≤ 9223372036854775807) (hb1 : -9223372036854775808 ≤ b) (hb2 : b ≤ 9223372036854775807) :
    Calls Try.prog 7 #[.slice A l c, .int .i64 a, .int .i64 b] w (TrueB w) := by
  have HMD := Lib.hid (made_any h)
  have HLV := Lib.hid lives_any
  clear h
  go_enter Try.func7, Try.ntmps7
  go_wp2_with fail
  with_reducible refine HMD.out.mono ?_
  rintro e w1 ⟨C, I, cv, iv, rfl, hcl, hin, hiv, hgc, hoi, hb1'⟩
  have HNW := Lib.hid (new_any hcl hin hiv (fun b h => h) hgc.ok hoi hgc.mths.1 hgc.mths.2)
  have HB1 := Lib.hid hb1'
  have HGC := Lib.hid hgc
  have HOI := Lib.hid hoi
  clear hcl hin hiv hgc hoi hb1' HMD
  go_wp2_with fail
  with_reducible refine HNW.out.mono ?_
  rintro e w2 ⟨hb2', G, d, S, _, _, ⟨hne, rfl⟩ | ⟨hz, Q, eb, cb, mb, pb, iv2, rfl, hQ, hE⟩⟩
  · have HB2 := Lib.hid (below_step HB1.out hb2')
    have HL := Lib.hid (HLV.out (w2.alloc (.cells #[.int .i64 (newT C I G).1, .int .i64 (newT C I G).2] 34)))
    clear hb2' HNW hne
    generalize (newT C I G).1 = ee at *
    generalize (newT C I G).2 = aa at *
    go_wp2_with fail
    with_reducible refine HL.out.mono ?_
    rintro e w3 ⟨rfl, hb3⟩
    have HB3 := Lib.hid (below_step HB2.out (below_step (below_new w2 _) hb3))
    clear hb3
    go_wp2_with fail
    show bodyPost _ _ _ _ _ _
    go_ret
    exact ⟨rfl, HB3.out⟩
  · have HB2 := Lib.hid (below_step HB1.out hb2')
    obtain ⟨_, hov, _⟩ := (newT_zero C I G).1 hz
    have HOV := Lib.hid hov
    have HE2 := Lib.hid (hE.on (below_new w2 (.cells #[.int .i64 0, .int .i64 0] 34)))
    have HB3 := Lib.hid (below_step HB2.out (below_new w2 (.cells #[.int .i64 0, .int .i64 0] 34)))
    have HLN := Lib.hid (len_any HE2.out)
    clear hb2' HNW hz hov hE
    go_wp2_with fail
    generalize w2.alloc (.cells #[.int .i64 0, .int .i64 0] 34) = W2 at *
    with_reducible refine HLN.out.mono ?_
    rintro e w3 ⟨rfl, hb3⟩
    have HE3 := Lib.hid (HE2.out.on hb3)
    have HB4 := Lib.hid (below_step HB3.out hb3)
    have hIl := HOI.out.len
    clear hb3 HLN HB3
    by_cases h0 : I.length = 0
    · have h0i : (I.length : Int) = 0 := by omega
      have HL := Lib.hid (HLV.out w3)
      clear h0
      go_wp2_with fail
      with_reducible refine HL.out.mono ?_
      rintro e w4 ⟨rfl, hb4⟩
      have HB5 := Lib.hid (below_step HB4.out hb4)
      clear hb4
      go_wp2_with fail
      show bodyPost _ _ _ _ _ _
      go_ret
      exact ⟨rfl, HB5.out⟩
    · have h0i : ¬ (I.length : Int) = 0 := by omega
      have h0b : ((I.length : Int) == 0) = false := by simpa using h0
      have HLN3 := Lib.hid (len_any HE3.out)
      go_wp2_with fail
      with_reducible refine HLN3.out.mono ?_
      rintro e w4 ⟨rfl, hb4⟩
      have HE4 := Lib.hid (HE3.out.on hb4)
      have HB5 := Lib.hid (below_step HB4.out hb4)
      have HMA := Lib.hid (mod_any ⟨ha1, ha2⟩ (m := I.length) ⟨by omega, by omega⟩ w4)
      obtain ⟨n, hn⟩ : ∃ n : Nat, a % (I.length : Int) = (n : Int) := Int.eq_ofNat_of_zero_le (Int.emod_nonneg _ (by omega))
      obtain ⟨m, hm⟩ : ∃ m : Nat, b % (I.length : Int) = (m : Int) := Int.eq_ofNat_of_zero_le (Int.emod_nonneg _ (by omega))
      have hnl : n < I.length := by have := Int.emod_lt_of_pos a (show (0 : Int) < (I.length : Int) by omega); omega
      have hml : m < I.length := by have := Int.emod_lt_of_pos b (show (0 : Int) < (I.length : Int) by omega); omega
      rw [hn] at HMA
      clear hb4 HLN3 HE3 HB4
      go_wp2_with fail
      with_reducible refine HMA.out.mono ?_
      rintro e w5 ⟨rfl, hb5⟩
      have HE5 := Lib.hid (HE4.out.on hb5)
      have HB6 := Lib.hid (below_step HB5.out hb5)
      have HLN5 := Lib.hid (len_any HE5.out)
      clear hb5 HMA HE4 HB5
      go_wp2_with fail
      with_reducible refine HLN5.out.mono ?_
      rintro e w6 ⟨rfl, hb6⟩
      have HE6 := Lib.hid (HE5.out.on hb6)
      have HB7 := Lib.hid (below_step HB6.out hb6)
      have HMB := Lib.hid (mod_any ⟨hb1, hb2⟩ (m := I.length) ⟨by omega, by omega⟩ w6)
      rw [hm] at HMB
      clear hb6 HLN5 HE5 HB6
      go_wp2_with fail
      with_reducible refine HMB.out.mono ?_
      rintro e w7 ⟨rfl, hb7⟩
      have HE7 := Lib.hid (HE6.out.on hb7)
      have HB8 := Lib.hid (below_step HB7.out hb7)
      obtain ⟨x, hx⟩ : ∃ x, I[n]? = some x := ⟨_, List.getElem?_eq_getElem hnl⟩
      obtain ⟨y, hy⟩ : ∃ y, I[m]? = some y := ⟨_, List.getElem?_eq_getElem hml⟩
      have hxa : atI I (n : Int) = x := by unfold atI; rw [if_pos (by omega)]; simp [hx]
      have hya : atI I (m : Int) = y := by unfold atI; rw [if_pos (by omega)]; simp [hy]
      have hxs := HOI.out.size x (List.mem_of_getElem? hx)
      have HAX := Lib.hid (at_any HE7.out (n : Int))
      rw [hxa] at HAX
      unfold insV at HAX
      have HIF : Hid (instF I 0 x.cls x.con = some n) := Lib.hid (once_math HOV.out hx)
      have HDF : Hid (n = m ∨ ¬ (x.cls = y.cls ∧ x.con = y.con)) := Lib.hid (by
        by_cases e : n = m
        · exact .inl e
        · exact .inr (fun h => e (over_one HOV.out hx hy h.1 h.2)))
      clear hb7 HMB HE6 HB7 hx hxa
      go_wp2_with fail
      with_reducible refine HAX.out.mono ?_
      rintro e w8 ⟨rfl, hb8⟩
      have hb8' := below_step hb8 (below_new w8 (.cells #[.string x.cls, .int .i64 x.atp, .string x.con, .slice none 0 0, .slice none 0 0, .slice none 0 0] 70))
      have HE8 := Lib.hid (HE7.out.on hb8')
      have HB9 := Lib.hid (below_step HB8.out hb8')
      obtain ⟨W8, hW8⟩ : ∃ W8, w8.alloc (.cells #[.string x.cls, .int .i64 x.atp, .string x.con, .slice none 0 0, .slice none 0 0, .slice none 0 0] 70) = W8 := ⟨_, rfl⟩
      rw [hW8] at HE8 HB9
      have x0 : W8.heap[w8.heap.size]? = some (.cells #[.string x.cls, .int .i64 x.atp, .string x.con, .slice none 0 0, .slice none 0 0, .slice none 0 0] 70) := by rw [← hW8, alloc_get, if_pos rfl]
      have HX0 := Lib.hid x0
      have HAY := Lib.hid (at_any HE8.out (m : Int))
      rw [hya] at HAY
      unfold insV at HAY
      clear hb8 hb8' HAX HE7 HB8 hya x0
      have HW8 := Lib.hid hW8
      clear hW8
      go_wp2_with fail
      rw [HW8.out]
      clear HW8
      with_reducible refine HAY.out.mono ?_
      rintro e w9 ⟨rfl, hb9⟩
      have hb9' := below_step hb9 (below_new w9 (.cells #[.string y.cls, .int .i64 y.atp, .string y.con, .slice none 0 0, .slice none 0 0, .slice none 0 0] 70))
      have HE9 := Lib.hid (HE8.out.on hb9')
      have HB10 := Lib.hid (below_step HB9.out hb9')
      obtain ⟨W9, hW9⟩ : ∃ W9, w9.alloc (.cells #[.string y.cls, .int .i64 y.atp, .string y.con, .slice none 0 0, .slice none 0 0, .slice none 0 0] 70) = W9 := ⟨_, rfl⟩
      have hq9 := (hb9'.block _ (lt_of_block HX0.out)).trans HX0.out
      have hx90 := cell_of_row _ _ 0 _ _ _ hq9
      have hx92 := cell_of_row _ _ 2 _ _ _ hq9
      simp only [List.getElem?_toArray, List.getElem?_cons_zero, List.getElem?_cons_succ] at hx90 hx92
      rw [hW9] at HE9 HB10
      have hX9 := hb9'.block _ (lt_of_block HX0.out)
      rw [hW9] at hX9
      have HX9 := Lib.hid (hX9.trans HX0.out)
      have HY9 : Hid (W9.heap[w9.heap.size]? = some (.cells #[.string y.cls, .int .i64 y.atp, .string y.con, .slice none 0 0, .slice none 0 0, .slice none 0 0] 70)) := Lib.hid (by rw [← hW9, alloc_get, if_pos rfl])
      have HIN := Lib.hid (inst_any HE9.out x.cls x.con hxs.1 hxs.2)
      have hhd : headH I ⟨(x.cls, x.con), hxs.1, hxs.2⟩ = some n := HIF.out
      rw [hhd] at HIN
      simp only [Option.getD_some, Option.isSome_some] at HIN
      clear hb9 hb9' HAY HE8 HB9 hX9 hhd hq9
      have HW9 := Lib.hid hW9
      clear hW9
      go_wp2_with fail
      rw [HW9.out]
      clear HW9
      with_reducible refine HIN.out.mono ?_
      rintro e w10 ⟨rfl, hb10⟩
      have HB11 := Lib.hid (below_step HB10.out hb10)
      have hX10 := (hb10.block _ (lt_of_block HX9.out)).trans HX9.out
      have hY10 := (hb10.block _ (lt_of_block HY9.out)).trans HY9.out
      obtain ⟨q0, q1⟩ : w10.cell? ⟨w8.heap.size, 0, none⟩ = some (.string x.cls) ∧ w10.cell? ⟨w8.heap.size, 2, none⟩ = some (.string x.con) := by simp [World.cell?, hX10]
      obtain ⟨q2, q3⟩ : w10.cell? ⟨w9.heap.size, 0, none⟩ = some (.string y.cls) ∧ w10.cell? ⟨w9.heap.size, 2, none⟩ = some (.string y.con) := by simp [World.cell?, hY10]
      have HL := Lib.hid (HLV.out w10)
      have hdf := HDF.out
      clear hb10 HIN HE9 HB10 hX10 hY10 hx90 hx92
      have hnn : ((n : Int) == (n : Int)) = true := by simp
      have hxy : n = m ∨ ¬ (x.cls = y.cls) ∨ ¬ (x.con = y.con) := by
        rcases hdf with h | h
        · exact .inl h
        · by_cases e : x.cls = y.cls
          · exact .inr (.inr (fun h9 => h ⟨e, h9⟩))
          · exact .inr (.inl e)
      clear hdf
      by_cases e : n = m
      · subst e
        clear hxy
        go_wp2_with fail
        with_reducible refine HL.out.mono ?_
        rintro e w11 ⟨rfl, hb11⟩
        have HB12 := Lib.hid (below_step HB11.out hb11)
        clear hb11
        go_wp2_with fail
        show bodyPost _ _ _ _ _ _
        go_ret
        exact ⟨rfl, HB12.out⟩
      · have hnm : ((n : Int) == (m : Int)) = false := beq_eq_false_iff_ne.2 (by omega)
        by_cases e1 : x.cls = y.cls
        · have e2 : ¬ x.con = y.con := (hxy.resolve_left e).resolve_left (fun h => h e1)
          have hne1 : (x.cls.toList == y.cls.toList) = true := by rw [← beq_toListBytes, beq_iff_eq]; exact e1
          have hne2 : (x.con.toList == y.con.toList) = false := by rw [← beq_toListBytes, beq_eq_false_iff_ne]; exact e2
          clear e1 e2 hxy
          go_wp2_with fail
          with_reducible refine HL.out.mono ?_
          rintro e w11 ⟨rfl, hb11⟩
          have HB12 := Lib.hid (below_step HB11.out hb11)
          clear hb11
          go_wp2_with fail
          show bodyPost _ _ _ _ _ _
          go_ret
          exact ⟨rfl, HB12.out⟩
        · have hne1 : (x.cls.toList == y.cls.toList) = false := by rw [← beq_toListBytes, beq_eq_false_iff_ne]; exact e1
          clear e1 hxy
          go_wp2_with fail
          with_reducible refine HL.out.mono ?_
          rintro e w11 ⟨rfl, hb11⟩
          have HB12 := Lib.hid (below_step HB11.out hb11)
          clear hb11
          go_wp2_with fail
          show bodyPost _ _ _ _ _ _
          go_ret
          exact ⟨rfl, HB12.out⟩
end Go.Proofs.Ytjfhncbfbhkhgaa
