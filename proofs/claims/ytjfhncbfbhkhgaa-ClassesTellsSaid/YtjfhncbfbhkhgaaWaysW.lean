/- ClassesWays: the walk. Conditions: the slice reads as numbers, the numbers are of 64 bits. -/
import Derived.Test.YtjfhncbfbhkhgaaOnceW
import Derived.Test.YtjfhncbfbhkhgaaLawM
namespace Go.Proofs.Ytjfhncbfbhkhgaa
open Go.RowKit
/-- A way that is found, or none. -/
theorem path_form {C : List Cls} {a x : ByteArray} {w w' : World} {e : Ending} (h : PathRes C a x w e w') : Below w.heap.size w w' ∧ ∃ (is : Bool) (u : List Nat) (A : Option Addr) (c : Nat), e = .returned (.tuple #[.slice A u.length c, .bool is]) ∧ u.length ≤ maxLen ∧ is = decide (x ∈ aboveF (supF C) (hasF C) (C.length + 1) [] a) ∧
    (is = true → goW (supF C) a u = some x ∧ Least (supF C) a x u) ∧ (is = false → u = []) ∧ ∀ i (h : i < u.length), ∃ g, A = some ⟨g, 0, none⟩ ∧ g < w'.heap.size ∧ w'.cell? ⟨g, i, none⟩ = some (.int .i64 (u[i] : Nat)) := by
  obtain ⟨hb, ⟨h1, rfl⟩ | ⟨h1, u, rv, hl, rfl, ho⟩⟩ := h
  · refine ⟨hb, false, [], none, 0, rfl, Nat.zero_le _, ?_, fun h => (by cases h), fun _ => rfl, fun i h => by simp at h⟩
    refine (decide_eq_false (fun hm => ?_)).symm
    obtain ⟨h2, h3⟩ := (above_mem a x).1 hm
    obtain ⟨u, hu⟩ := way_goW h3
    rcases h1 with h1 | h1
    · rw [h1] at h2; cases h2
    · exact h1 u hu
  · obtain ⟨A, c, rfl, hc, hm⟩ := own_form ho
    refine ⟨hb, true, u, A, c, rfl, Nat.le_trans hc hm, (decide_eq_true ((above_mem a x).2 ⟨h1, goW_way u hl.1⟩)).symm, fun _ => ⟨hl.1, hl⟩, fun h => (by cases h), fun i hi => ?_⟩
    obtain ⟨g, c', e, _, h2, _, _⟩ := own_some ho (by omega)
    injection e with e1 e2 e3
    subst e1 e3
    refine ⟨g, rfl, h2, ?_⟩
    have h9 := World.ownsRow.cellAt ho i (by omega)
    rw [h9, List.getElem?_map, List.getElem?_eq_getElem hi]; rfl
/-- A step of a way. -/
theorem way_step {C : List Cls} {a b z : ByteArray} {u : List Nat} {i : Nat} (h : goW (supF C) a u = some b) (hi : i < u.length) (hz : goW (supF C) a (u.take i) = some z) : ∃ c z', clsOf C z = some c ∧ c.supers[u[i]]? = some z' ∧ goW (supF C) a (u.take (i + 1)) = some z' ∧ z' ∈ univ C := by
  have h1 : goW (supF C) a (u.take i ++ u.drop i) = some b := by rw [List.take_append_drop]; exact h
  rw [goW_append, hz, List.drop_eq_getElem_cons hi] at h1
  have h2 : (supF C z)[u[i]]?.bind (fun y => goW (supF C) y (u.drop (i + 1))) = some b := h1
  cases hj : (supF C z)[u[i]]? with
  | none => rw [hj] at h2; cases h2
  | some z' =>
    have hm := List.mem_of_getElem? hj
    cases hc : clsOf C z with
    | none => unfold supF at hj; rw [hc] at hj; simp at hj
    | some c =>
      have e : supF C z = c.supers := by unfold supF; rw [hc]
      refine ⟨c, z', rfl, by rw [← e]; exact hj, ?_, (supF_mem hm).1⟩
      rw [List.take_add_one, List.getElem?_eq_getElem hi]
      show goW (supF C) a (u.take i ++ [u[i]]) = some z'
      rw [goW_snoc, hz]; exact hj
theorem field70_0 (a b c d e f : Value) (w : World) : (Instr.field 70 (.agg #[a, b, c, d, e, f]) 0).run Try.prog w = .ok a w := by kernel_rfl
theorem atI_or (I : List Ins) (n : Int) : atI I n ∈ I ∨ atI I n = zIns := by
  unfold atI
  by_cases h : 0 ≤ n
  · rw [if_pos h]
    cases e : I[n.toNat]? with
    | none => exact .inr rfl
    | some x => exact .inl (List.mem_of_getElem? e)
  · rw [if_neg h]; exact .inr rfl
theorem GoodC.noname {C : List Cls} (h : GoodC C) : hasF C ⟨#[]⟩ = false := by
  cases e : hasF C ⟨#[]⟩ with
  | false => rfl
  | true =>
    have := hasF_mem e
    rw [h.names] at this
    exact absurd (List.mem_of_mem_take this) (by decide)
/-- What is above an instance's class has one of its constructor. -/
theorem ups_of {C : List Cls} {I : List Ins} (hg : GoodC C) (h : lackL C I I = []) {n : Int} {c : ByteArray} (hc : c ∈ aboveF (supF C) (hasF C) (C.length + 1) [] (atI I n).cls) : ∃ k, instF I 0 c (atI I n).con = some k := by
  obtain ⟨h1, h2⟩ := (above_mem _ _).1 hc
  rcases atI_or I n with hx | hx
  · obtain ⟨y, hy, e1, e2⟩ := ups_have h h2 hx rfl
    exact Option.isSome_iff_exists.1 (instF_iff.2 ⟨y, hy, e1, e2⟩)
  · rw [hx] at h2
    have h3 := way_first (next := supF C) (cls := hasF C) (fun x h => supF_none h) h2 h1
    have h4 : hasF C zIns.cls = false := hg.noname
    rw [h4] at h3; cases h3
theorem atI_size {I : List Ins} (h : OkI I) (n : Int) : (atI I n).cls.size ≤ maxLen ∧ (atI I n).con.size ≤ maxLen := by
  rcases atI_or I n with hx | hx
  · exact h.size _ hx
  · rw [hx]; exact ⟨Nat.zero_le _, Nat.zero_le _⟩
theorem atI_end (I : List Ins) : atI I (I.length : Int) = zIns := by
  unfold atI; rw [if_pos (by omega)]; simp
set_option maxRecDepth 100000 in
set_option maxHeartbeats 4000000 in
theorem classesWays_law (A : Option Addr) (l c : Nat) (a b n : Int) (w : World) (h : SomeInts w (.slice A l c)) (ha1 : -9223372036854775808 ≤ a) (ha2 : a ≤ 9223372036854775807) (hb1 : -9223372036854775808 ≤ b) (hb2 : b ≤ 9223372036854775807) (_ : -9223372036854775808 ≤ n) (_ : n ≤ 9223372036854775807) :
    Calls Try.prog 5 #[.slice A l c, .int .i64 a, .int .i64 b, .int .i64 n] w (TrueB w) := by
  have HMD := Lib.hid (made_any h)
  have HLV := Lib.hid lives_any
  clear h
  go_enter Try.func5, Try.ntmps5
  go_wp2_with fail
  with_reducible refine HMD.out.mono ?_
  rintro e w1 ⟨C, I, cv, iv, rfl, hcl, hin, hiv, hgc, hoi, hb1'⟩
  have HNW := Lib.hid (new_any hcl hin hiv (fun b h => h) hgc.ok hoi hgc.mths.1 hgc.mths.2)
  have HB1 := Lib.hid hb1'
  have HGC := Lib.hid hgc
  have HOI := Lib.hid hoi
  clear hcl hin hiv hgc hoi hb1' HMD
  go_wp2_with fail
  with_reducible refine HNW.out.mono ?_
  rintro e w2 ⟨hb2', G, d, S, _, _, ⟨hne, rfl⟩ | ⟨hz, Q, eb, cb, mb, pb, iv2, rfl, hQ, hE⟩⟩
  · have HB2 := Lib.hid (below_step HB1.out hb2')
    have HL := Lib.hid (HLV.out (w2.alloc (.cells #[.int .i64 (newT C I G).1, .int .i64 (newT C I G).2] 34)))
    clear hb2' HNW hne
    generalize (newT C I G).1 = ee at *
    generalize (newT C I G).2 = aa at *
    go_wp2_with fail
    with_reducible refine HL.out.mono ?_
    rintro e w3 ⟨rfl, hb3⟩
    have HB3 := Lib.hid (below_step HB2.out (below_step (below_new w2 _) hb3))
    clear hb3
    go_wp2_with fail
    show bodyPost _ _ _ _ _ _
    go_ret
    exact ⟨rfl, HB3.out⟩
  · have HB2 := Lib.hid (below_step HB1.out hb2')
    obtain ⟨_, hov, hlk⟩ := (newT_zero C I G).1 hz
    have HLK := Lib.hid hlk
    have HE2 := Lib.hid (hE.on (below_new w2 (.cells #[.int .i64 0, .int .i64 0] 34)))
    have HB3 := Lib.hid (below_step HB2.out (below_new w2 (.cells #[.int .i64 0, .int .i64 0] 34)))
    have HQ2 : Hid (∀ b, Q b → b < (w2.alloc (.cells #[.int .i64 0, .int .i64 0] 34)).heap.size) := Lib.hid (fun b hb => Nat.lt_of_lt_of_le (hQ b hb) (below_new w2 _).size)
    have HNS := Lib.hid (names_any (w2.alloc (.cells #[.int .i64 0, .int .i64 0] 34)))
    clear hb2' HNW hz hov hlk hE hQ
    go_wp2_with fail
    generalize w2.alloc (.cells #[.int .i64 0, .int .i64 0] 34) = W2 at *
    with_reducible refine HNS.out.mono ?_
    rintro e w3 ⟨⟨g1, g2, rfl, hs1, _, _, _⟩, hb3⟩
    have HE3 := Lib.hid (HE2.out.on hb3)
    have HB4 := Lib.hid (below_step HB3.out hb3)
    have HQ3 : Hid (∀ b, Q b → b < w3.heap.size) := Lib.hid (fun b hb => Nat.lt_of_lt_of_le (HQ2.out b hb) hb3.size)
    have HNC : Hid (∀ u, Below w3.heap.size w3 u → ∀ (j : Nat) y, names5[j]? = some y → u.cell? ⟨g1, j, none⟩ = some (.string y)) := Lib.hid (fun u hu j y hy => by
      obtain ⟨hj, rfl⟩ := List.getElem?_eq_some_iff.1 hy
      obtain ⟨b, off, e1, hb, hc⟩ := hs1.at j hj
      injection e1 with e1; injection e1 with e1 e2 _
      subst e1 e2
      rw [Nat.zero_add] at hc
      exact (hu.cell (p := ⟨g1, j, none⟩) hb).trans hc)
    have HMA := Lib.hid (mod_any ⟨ha1, ha2⟩ (m := 5) ⟨by omega, by omega⟩ w3)
    obtain ⟨ai, hai⟩ : ∃ n : Nat, a % 5 = (n : Int) := Int.eq_ofNat_of_zero_le (Int.emod_nonneg _ (by omega))
    obtain ⟨bi, hbi⟩ : ∃ n : Nat, b % 5 = (n : Int) := Int.eq_ofNat_of_zero_le (Int.emod_nonneg _ (by omega))
    have hai5 : ai < 5 := by omega
    have hbi5 : bi < 5 := by omega
    obtain ⟨s, hs⟩ : ∃ s, names5[ai]? = some s := ⟨_, List.getElem?_eq_getElem (show ai < 5 from hai5)⟩
    obtain ⟨t, ht⟩ : ∃ t, names5[bi]? = some t := ⟨_, List.getElem?_eq_getElem (show bi < 5 from hbi5)⟩
    have hsz : s.size ≤ maxLen := by rw [names5_size s (List.mem_of_getElem? hs)]; decide
    have htz : t.size ≤ maxLen := by rw [names5_size t (List.mem_of_getElem? ht)]; decide
    rw [hai] at HMA
    have ha0 : (0 : Int) ≤ (ai : Int) := by omega
    have hb0 : (0 : Int) ≤ (bi : Int) := by omega
    have ha5 : (ai : Int) < 5 := by omega
    have hb5 : (bi : Int) < 5 := by omega
    clear hs1 hb3 HNS HE2 HB3 HQ2
    go_wp2_with fail
    with_reducible refine HMA.out.mono ?_
    rintro e w4 ⟨rfl, hb4⟩
    have hc4 := HNC.out w4 hb4 ai s hs
    have HMB := Lib.hid (mod_any ⟨hb1, hb2⟩ (m := 5) ⟨by omega, by omega⟩ w4)
    rw [hbi] at HMB
    have HB4w := Lib.hid hb4
    clear hb4 HMA
    go_wp2_with fail
    with_reducible refine HMB.out.mono ?_
    rintro e w5 ⟨rfl, hb5'⟩
    have hb35 := below_step HB4w.out hb5'
    have hc5 := HNC.out w5 hb35 bi t ht
    have HE5 := Lib.hid (HE3.out.on hb35)
    have HB5 := Lib.hid (below_step HB4.out hb35)
    have HQ5 : Hid (∀ b, Q b → b < w5.heap.size) := Lib.hid (fun b hb => Nat.lt_of_lt_of_le (HQ3.out b hb) hb35.size)
    have HPA := Lib.hid (path_any HE5.out HQ5.out HGC.out.ok hsz htz)
    clear hb5' hb35 HMB HB4w HE3 HB4 HQ3 HNC hc4 hs ht
    go_wp2_with fail
    with_reducible refine HPA.out.mono ?_
    rintro e w6 hp
    obtain ⟨hb6, is, u, Ap, cp, rfl, hul, hisd, hist, hisf, hcell⟩ := path_form hp
    have HE6 := Lib.hid (HE5.out.on hb6)
    have HB6 := Lib.hid (below_step HB5.out hb6)
    have HQ6 : Hid (∀ b, Q b → b < w6.heap.size) := Lib.hid (fun b hb => Nat.lt_of_lt_of_le (HQ5.out b hb) hb6.size)
    have HAB := Lib.hid (above_any HE6.out HQ6.out HGC.out.ok s hsz)
    have HISD := Lib.hid hisd
    have HCL := Lib.hid hcell
    have HIT := Lib.hid hist
    have HIF := Lib.hid hisf
    unfold maxLen at hul
    clear hp hb6 HPA HE5 HB5 HQ5 hcell hist hisf hc5 hisd
    go_wp2_with fail
    with_reducible refine HAB.out.mono ?_
    rintro e w7 ⟨rv, up, rfl, hup, hupe, hupl, hb7⟩
    have hupe := hupe (C.length + 1) (by omega)
    obtain ⟨Au, cu, rfl, _⟩ := own_form hup
    have HUP := Lib.hid (hup.strs)
    have HE7 := Lib.hid (HE6.out.on hb7)
    have HB7 := Lib.hid (below_step HB6.out hb7)
    have HQ7 : Hid (∀ b, Q b → b < w7.heap.size) := Lib.hid (fun b hb => Nat.lt_of_lt_of_le (HQ6.out b hb) hb7.size)
    have HCL7 : Hid (∀ W, Below w7.heap.size w7 W → ∀ i (h : i < u.length), ∃ g, Ap = some ⟨g, 0, none⟩ ∧ W.cell? ⟨g, i, none⟩ = some (.int .i64 (u[i] : Nat))) := Lib.hid (fun W hW i h => by
      obtain ⟨g, e, hg, hc⟩ := HCL.out i h
      have hbW := below_step hb7 hW
      exact ⟨g, e, (hbW.cell (p := ⟨g, i, none⟩) hg).trans hc⟩)
    have HUPE := Lib.hid hupe
    clear hup hb7 HAB HE6 HB6 HQ6 HCL hupe
    go_wp2_with fail
    obtain ⟨Z0, hZ0⟩ : ∃ Z0, w7 = Z0 := ⟨_, rfl⟩
    go_loopw [18, 19] (fun z v wr => ∃ i : Nat, v = .int .i64 i ∧ i ≤ u.length ∧ ∃ y, z = .string y ∧ y.size ≤ maxLen ∧ goW (supF C) s (u.take i) = some y ∧ Below w7.heap.size w7 wr) (fun _ v _ => u.length - (intOf v).toNat)
    case atStart => exact ⟨0, rfl, Nat.zero_le _, s, rfl, hsz, rfl, Below.refl _ _⟩
    case round =>
      obtain ⟨i, rfl, hi, y, rfl, hysz, hgo, hbr⟩ := hrel
      have HBR := Lib.hid hbr
      have HGO := Lib.hid hgo
      have HER := Lib.hid (HE7.out.on hbr)
      clear hbr hgo
      by_cases hiu : i < u.length
      · have hii : (i : Int) < (u.length : Int) := by omega
        have hi0 : (0 : Int) ≤ (i : Int) := by omega
        have HISt : Hid (is = true) := Lib.hid (by
          cases h : is with
          | true => rfl
          | false => have := HIF.out h; rw [this] at hiu; simp at hiu)
        obtain ⟨k, y', hk, hky, hgo', hy'⟩ := way_step (HIT.out HISt.out).1 hiu HGO.out
        have HCA := Lib.hid (class_any HER.out y hysz)
        have HK := Lib.hid hk
        have HKY := Lib.hid hky
        have HGO' := Lib.hid hgo'
        have hysz' := HGC.out.ok.size y' hy'
        have hkl : u[i] < k.supers.length := (List.getElem?_eq_some_iff.1 hky).1
        obtain ⟨p, hp⟩ : ∃ p, u[i] = p := ⟨_, rfl⟩
        have HPI : Hid (∃ h : i < u.length, u[i] = p) := Lib.hid ⟨hiu, hp⟩
        rw [hp] at hkl HKY
        clear hk hky hgo' hy' hp
        go_wp2_with fail
        with_reducible refine HCA.out.mono ?_
        rintro e w8 ⟨⟨k2, sv, As, ns, ms, hk2, rfl, hsv⟩ | ⟨hk2, rfl⟩, hb8⟩
        · have ek : k2 = k := by have := HK.out; rw [hk2] at this; injection this
          subst ek
          obtain ⟨Asv, csv, rfl, _, hsm⟩ := hsv.form
          unfold maxLen at hsm
          unfold clsV
          obtain ⟨W8, hW8⟩ : ∃ W8, w8.alloc (.cells #[.string k2.name, .int .i64 k2.atp, .string k2.var, .slice none 0 0, .slice Asv k2.supers.length csv, .slice As ns ms] 59) = W8 := ⟨_, rfl⟩
          have hbW : Below w8.heap.size w8 W8 := by rw [← hW8]; exact below_new w8 _
          have hbR := below_step (below_step HBR.out hb8) hbW
          obtain ⟨b9, o9, e9, hl9, hc9⟩ := (hsv.on hbW).at p hkl
          subst e9
          obtain ⟨g9, e10, hc10⟩ := HCL7.out W8 hbR i hiu
          subst e10
          have hc11 : W8.cell? ⟨g9, i, none⟩ = some (.int .i64 (p : Nat)) := by obtain ⟨h, e⟩ := HPI.out; rw [← e]; exact hc10
          have hc12 : W8.cell? ⟨b9, o9 + p, none⟩ = some (.string y') := by
            obtain ⟨h, e⟩ := List.getElem?_eq_some_iff.1 HKY.out
            rw [← e]; exact hc9
          have hx0 : W8.heap[w8.heap.size]? = some (.cells #[.string k2.name, .int .i64 k2.atp, .string k2.var, .slice none 0 0, .slice (some ⟨b9, o9, none⟩) k2.supers.length csv, .slice As ns ms] 59) := by rw [← hW8, alloc_get, if_pos rfl]
          have hc13 : W8.cell? ⟨w8.heap.size, 4, none⟩ = some (.slice (some ⟨b9, o9, none⟩) k2.supers.length csv) := by simp [World.cell?, hx0]
          have hp0 : (0 : Int) ≤ (p : Int) := by omega
          have hp1 : (p : Int) < (k2.supers.length : Int) := by omega
          have HREL : Hid (∃ j : Nat, Value.int .i64 ((i : Int) + 1) = .int .i64 j ∧ j ≤ u.length ∧ ∃ z, Value.string y' = .string z ∧ z.size ≤ maxLen ∧ goW (supF C) s (u.take j) = some z ∧ Below w7.heap.size w7 W8.drew.drew) := Lib.hid ⟨i + 1, by go_num, by omega, y', rfl, hysz', HGO'.out, hbR.drew.drew⟩
          have HW8 := Lib.hid hW8
          clear hW8 hbW hbR hx0 hc9 hc10 hl9 hsv hb8 hk2 HCA
          go_upto_region 14 with (fail)
          rw [HW8.out]
          clear HW8
          have hpn : ¬ (p : Int) < 0 := by omega
          have hpg : ¬ (p : Int) ≥ (k2.supers.length : Int) := by omega
          have hpg' : ¬ (k2.supers.length : Int) ≤ (p : Int) := by omega
          go_region
          go_wp2_with fail
          go_region
          go_wp2_with fail
          go_roundw
          case rel => exact HREL.out
          case measure => simp [intOf]; omega
        · exact absurd HK.out (by rw [hk2]; simp)
      · have hiu' : i = u.length := by omega
        subst hiu'
        have HYT : Hid (is = true → y = t) := Lib.hid (fun h => by
          have h1 := (HIT.out h).1
          have h2 := HGO.out
          rw [List.take_length, h1] at h2; injection h2 with h2; exact h2.symm)
        have HAT := Lib.hid (at_any HER.out n)
        obtain ⟨x, hx⟩ : ∃ x, atI I n = x := ⟨_, rfl⟩
        obtain ⟨hxz1, hxz2⟩ := atI_size HOI.out n
        have HUPS : Hid (∀ c ∈ aboveF (supF C) (hasF C) (C.length + 1) [] x.cls, ∃ k, instF I 0 c x.con = some k) := Lib.hid (fun c hc => by rw [← hx] at hc ⊢; exact ups_of HGC.out HLK.out hc)
        rw [hx] at HAT hxz1 hxz2
        unfold insV at HAT
        have HBR2 := Lib.hid (below_step HB7.out HBR.out)
        have HQR : Hid (∀ b, Q b → b < wr.heap.size) := Lib.hid (fun b hb => Nat.lt_of_lt_of_le (HQ7.out b hb) HBR.out.size)
        have HUP2 := Lib.hid (HUP.out.on HBR.out)
        clear hiu hx HCL7 HGO HIF HIT HLK HBR HE7 HB7 HQ7 HUP
        go_wp2_with fail
        with_reducible refine HAT.out.mono ?_
        rintro e w10 ⟨rfl, hb10⟩
        obtain ⟨W10, hW10⟩ : ∃ W10, w10.alloc (.cells #[.string x.cls, .int .i64 x.atp, .string x.con, .slice none 0 0, .slice none 0 0, .slice none 0 0] 70) = W10 := ⟨_, rfl⟩
        have hbW : Below w10.heap.size w10 W10 := by rw [← hW10]; exact below_new w10 _
        have hbX := below_step hb10 hbW
        have hx0 : W10.heap[w10.heap.size]? = some (.cells #[.string x.cls, .int .i64 x.atp, .string x.con, .slice none 0 0, .slice none 0 0, .slice none 0 0] 70) := by rw [← hW10, alloc_get, if_pos rfl]
        have hxc : W10.cell? ⟨w10.heap.size, 0, none⟩ = some (.string x.cls) := by simp [World.cell?, hx0]
        have HX0 := Lib.hid hx0
        have HE10 := Lib.hid (HER.out.on hbX)
        have HB10 := Lib.hid (below_step HBR2.out hbX)
        have HUP10 := Lib.hid (HUP2.out.on hbX)
        have HQ10 : Hid (∀ b, Q b → b < W10.heap.size) := Lib.hid (fun b hb => Nat.lt_of_lt_of_le (HQR.out b hb) hbX.size)
        have HAB := Lib.hid (above_any HE10.out HQ10.out HGC.out.ok x.cls hxz1)
        have HW := Lib.hid hW10
        clear hW10 hbW hbX hx0 hb10 HAT HER HBR2 HQR HUP2
        go_upto_region 18 with (fail)
        rw [HW.out]
        clear HW
        go_wp2_with fail
        with_reducible refine HAB.out.mono ?_
        rintro e w11 ⟨rv2, L2, rfl, hL2, hL2e, hL2l, hb11⟩
        have hL2e := hL2e (C.length + 1) (by omega)
        obtain ⟨A2, c2, rfl, _⟩ := own_form hL2
        have HL2 := Lib.hid hL2.strs
        have HUPS2 : Hid (∀ c ∈ L2, ∃ k, instF I 0 c x.con = some k) := Lib.hid (by rw [hL2e]; exact HUPS.out)
        have hX11 := (hb11.block _ (lt_of_block HX0.out)).trans HX0.out
        have HX11 := Lib.hid hX11
        have HE11 := Lib.hid (HE10.out.on hb11)
        have HB11 := Lib.hid (below_step HB10.out hb11)
        have HUP11 := Lib.hid (HUP10.out.on hb11)
        have HLS : Hid (∀ c ∈ L2, c.size ≤ maxLen) := Lib.hid (fun c hc => by
          rw [hL2e] at hc
          exact HGC.out.ok.size c (List.mem_append_left _ (hasF_mem ((above_mem _ _).1 hc).1)))
        clear hL2 hL2e hX11 hb11 HAB HE10 HB10 HUP10 HQ10 HX0 HUPS hxc
        go_wp2_with fail
        go_loopw [24] (fun v wr => ∃ j : Nat, v = .int .i64 j ∧ j ≤ L2.length ∧ Below w11.heap.size w11 wr) (fun v _ => L2.length - (intOf v).toNat)
        case atStart => exact ⟨0, rfl, Nat.zero_le _, Below.refl _ _⟩
        case round =>
          obtain ⟨j, rfl, hj, hbr⟩ := hrel
          have HBR := Lib.hid hbr
          have HER := Lib.hid (HE11.out.on hbr)
          clear hbr
          by_cases hjl : j < L2.length
          · have hji : (j : Int) < (L2.length : Int) := by omega
            have hj0 : (0 : Int) ≤ (j : Int) := by omega
            obtain ⟨c, hc⟩ : ∃ c, L2[j]? = some c := ⟨_, List.getElem?_eq_getElem hjl⟩
            obtain ⟨b9, o9, e9, hl9, hc9⟩ := (HL2.out.on HBR.out).at j hjl
            subst e9
            have hc9' : wr.cell? ⟨b9, o9 + j, none⟩ = some (.string c) := by
              obtain ⟨h, e⟩ := List.getElem?_eq_some_iff.1 hc
              rw [← e]; exact hc9
            have hX := (HBR.out.block _ (lt_of_block HX11.out)).trans HX11.out
            have hxl := lt_of_block hX
            have hx2 : wr.cell? ⟨w10.heap.size, 2, none⟩ = some (.string x.con) := by simp [World.cell?, hX]
            obtain ⟨k, hk⟩ := HUPS2.out c (List.mem_of_getElem? hc)
            have hcs := HLS.out c (List.mem_of_getElem? hc)
            have HIN := Lib.hid (inst_any (HER.out.on (Below.refl _ wr).drew) c x.con hcs hxz2)
            have hhd : headH I ⟨(c, x.con), hcs, hxz2⟩ = some k := hk
            rw [hhd] at HIN
            simp only [Option.getD_some, Option.isSome_some] at HIN
            have hS0 : wr.drew.cell? ⟨b9, o9 + j, none⟩ = some (.string c) ∧ wr.drew.cell? ⟨w10.heap.size, 2, none⟩ = some (.string x.con) := ⟨hc9', hx2⟩
            have HKC : Hid (∀ u, Below wr.drew.heap.size wr.drew u → u.cell? ⟨b9, o9 + j, none⟩ = some (.string c) ∧ u.cell? ⟨w10.heap.size, 2, none⟩ = some (.string x.con)) := Lib.hid fun u hu => ⟨(hu.cell (p := ⟨b9, o9 + j, none⟩) hl9).trans hc9', (hu.cell (p := ⟨w10.heap.size, 2, none⟩) hxl).trans hx2⟩
            clear hc hc9 hX hxl hk hhd
            go_wp2_with fail
            go_region_held3 (fun u => u.cell? ⟨b9, o9 + j, none⟩ = some (.string c) ∧ u.cell? ⟨w10.heap.size, 2, none⟩ = some (.string x.con)) (first | exact hS0 | exact hS1) (first | (go_at_call 21; (with_reducible refine HIN.out.mono ?_); rintro e w12 ⟨rfl, hb12⟩; have HB12 := Lib.hid hb12; have hS1 := HKC.out w12 hb12; clear hb12))
            all_goals
              have HREL := Lib.hid (below_step HBR.out ((Below.refl _ wr).drew.trans HB12.out))
              go_wp2_with fail
              go_roundw
              case rel => exact ⟨j + 1, by go_num, by omega, HREL.out⟩
              case measure => simp [intOf]; omega
          · have hjl' : j = L2.length := by omega
            subst hjl'
            have HB12 := Lib.hid (below_step HB11.out HBR.out)
            have HUP12 := Lib.hid (HUP11.out.on HBR.out)
            have HCA := Lib.hid (class_any HER.out s hsz)
            clear hjl HBR HB11 HUP11 HE11 HX11 HL2 HUPS2 HLS
            go_wp2_with fail
            with_reducible refine HCA.out.mono ?_
            rintro e w13 ⟨hcls, hb13⟩
            have HE13 := Lib.hid (HER.out.on hb13)
            have HB13 := Lib.hid (below_step HB12.out hb13)
            have HUP13 := Lib.hid (HUP12.out.on hb13)
            have hdec : decide (t ∈ up) = is := by rw [HUPE.out, HISD.out]
            have hposi := above_pos (C := C) s
            rw [← HUPE.out] at hposi
            rcases hcls with ⟨k2, sv, As, ns, ms, hk2, rfl, hsv⟩ | ⟨hk2, rfl⟩
            · obtain ⟨Asv, csv, rfl, _, _⟩ := hsv.form
              unfold clsV
              have hup0 : (0 : Int) < (up.length : Int) := by have := hposi.2 (by unfold hasF; rw [hk2]; rfl); omega
              have hup1 : ¬ up = [] := fun h => by rw [h] at hup0; simp at hup0
              obtain ⟨W13, hW13⟩ : ∃ W13, w13.alloc (.cells #[.string k2.name, .int .i64 k2.atp, .string k2.var, .slice none 0 0, .slice Asv k2.supers.length csv, .slice As ns ms] 59) = W13 := ⟨_, rfl⟩
              have hbW : Below w13.heap.size w13 W13 := by rw [← hW13]; exact below_new w13 _
              have HI29 := Lib.hid (in29_any (HUP13.out.on hbW) t)
              rw [hdec] at HI29
              have HE14 := Lib.hid (HE13.out.on hbW)
              have HB14 := Lib.hid (below_step HB13.out hbW)
              have HW13 := Lib.hid hW13
              clear hW13 hbW hb13 hdec hposi hk2 HCA HER HB12 HUP12 HE13 HB13 HUP13 hsv
              go_upto_region 26 with (fail)
              rw [HW13.out]
              clear HW13
              go_wp2_with fail
              with_reducible refine HI29.out.mono ?_
              rintro e w14 ⟨rfl, hb14⟩
              have HE15 := Lib.hid (HE14.out.on hb14)
              have HB15 := Lib.hid (below_step HB14.out hb14)
              have HLN := Lib.hid (len_any HE15.out)
              clear hb14 HI29 HE14 HB14
              have hyt : is = true → (y == t) = true ∧ (y.toList == t.toList) = true := fun h => by rw [HYT.out h]; simp
              cases is with
              | true =>
                obtain ⟨hyt1, hyt2⟩ := hyt rfl
                go_wp2_with fail
                with_reducible refine HLN.out.mono ?_
                rintro e w15 ⟨rfl, hb15⟩
                have HB16 := Lib.hid (below_step HB15.out hb15)
                have HA0 := Lib.hid (at_any (HE15.out.on hb15) (I.length : Int))
                rw [atI_end] at HA0
                unfold insV zIns at HA0
                clear hb15 HLN HE15 HB15
                go_wp2_with fail
                with_reducible refine HA0.out.mono ?_
                rintro e w16 ⟨rfl, hb16⟩
                have HB17 := Lib.hid (below_step HB16.out hb16)
                have HL := Lib.hid (HLV.out w16)
                have hfld := field70_0 (.string ⟨#[]⟩) (.int .i64 0) (.string ⟨#[]⟩) (.slice none 0 0) (.slice none 0 0) (.slice none 0 0) w16
                clear hb16 HA0 HB16
                go_wp2_with fail
                with_reducible refine HL.out.mono ?_
                rintro e w17 ⟨rfl, hb17⟩
                have HB18 := Lib.hid (below_step HB17.out hb17)
                clear hb17
                go_wp2_with fail
                show bodyPost _ _ _ _ _ _
                go_ret
                exact ⟨rfl, HB18.out⟩
              | false =>
                go_wp2_with fail
                with_reducible refine HLN.out.mono ?_
                rintro e w15 ⟨rfl, hb15⟩
                have HB16 := Lib.hid (below_step HB15.out hb15)
                have HA0 := Lib.hid (at_any (HE15.out.on hb15) (I.length : Int))
                rw [atI_end] at HA0
                unfold insV zIns at HA0
                clear hb15 HLN HE15 HB15
                go_wp2_with fail
                with_reducible refine HA0.out.mono ?_
                rintro e w16 ⟨rfl, hb16⟩
                have HB17 := Lib.hid (below_step HB16.out hb16)
                have HL := Lib.hid (HLV.out w16)
                have hfld := field70_0 (.string ⟨#[]⟩) (.int .i64 0) (.string ⟨#[]⟩) (.slice none 0 0) (.slice none 0 0) (.slice none 0 0) w16
                clear hb16 HA0 HB16
                go_wp2_with fail
                with_reducible refine HL.out.mono ?_
                rintro e w17 ⟨rfl, hb17⟩
                have HB18 := Lib.hid (below_step HB17.out hb17)
                clear hb17
                go_wp2_with fail
                show bodyPost _ _ _ _ _ _
                go_ret
                exact ⟨rfl, HB18.out⟩
            · unfold zCls
              have hup0 : ¬ (0 : Int) < (up.length : Int) := by
                intro h9
                have := hposi.1 (by omega)
                unfold hasF at this; rw [hk2] at this; cases this
              have hup1 : up = [] := List.eq_nil_of_length_eq_zero (by omega)
              obtain ⟨W13, hW13⟩ : ∃ W13, w13.alloc (.cells #[.string ⟨#[]⟩, .int .i64 0, .string ⟨#[]⟩, .slice none 0 0, .slice none 0 0, .slice none 0 0] 59) = W13 := ⟨_, rfl⟩
              have hbW : Below w13.heap.size w13 W13 := by rw [← hW13]; exact below_new w13 _
              have HI29 := Lib.hid (in29_any (HUP13.out.on hbW) t)
              rw [hdec, show up.length = 0 by rw [hup1]; rfl] at HI29
              have HE14 := Lib.hid (HE13.out.on hbW)
              have HB14 := Lib.hid (below_step HB13.out hbW)
              have HW13 := Lib.hid hW13
              clear hW13 hbW hb13 hdec hposi hk2 HCA HER HB12 HUP12 HE13 HB13 HUP13 
              go_upto_region 26 with (fail)
              rw [HW13.out]
              clear HW13
              go_wp2_with fail
              with_reducible refine HI29.out.mono ?_
              rintro e w14 ⟨rfl, hb14⟩
              have HE15 := Lib.hid (HE14.out.on hb14)
              have HB15 := Lib.hid (below_step HB14.out hb14)
              have HLN := Lib.hid (len_any HE15.out)
              clear hb14 HI29 HE14 HB14
              have hyt : is = true → (y == t) = true ∧ (y.toList == t.toList) = true := fun h => by rw [HYT.out h]; simp
              cases is with
              | true =>
                obtain ⟨hyt1, hyt2⟩ := hyt rfl
                go_wp2_with fail
                with_reducible refine HLN.out.mono ?_
                rintro e w15 ⟨rfl, hb15⟩
                have HB16 := Lib.hid (below_step HB15.out hb15)
                have HA0 := Lib.hid (at_any (HE15.out.on hb15) (I.length : Int))
                rw [atI_end] at HA0
                unfold insV zIns at HA0
                clear hb15 HLN HE15 HB15
                go_wp2_with fail
                with_reducible refine HA0.out.mono ?_
                rintro e w16 ⟨rfl, hb16⟩
                have HB17 := Lib.hid (below_step HB16.out hb16)
                have HL := Lib.hid (HLV.out w16)
                have hfld := field70_0 (.string ⟨#[]⟩) (.int .i64 0) (.string ⟨#[]⟩) (.slice none 0 0) (.slice none 0 0) (.slice none 0 0) w16
                clear hb16 HA0 HB16
                go_wp2_with fail
                with_reducible refine HL.out.mono ?_
                rintro e w17 ⟨rfl, hb17⟩
                have HB18 := Lib.hid (below_step HB17.out hb17)
                clear hb17
                go_wp2_with fail
                show bodyPost _ _ _ _ _ _
                go_ret
                exact ⟨rfl, HB18.out⟩
              | false =>
                go_wp2_with fail
                with_reducible refine HLN.out.mono ?_
                rintro e w15 ⟨rfl, hb15⟩
                have HB16 := Lib.hid (below_step HB15.out hb15)
                have HA0 := Lib.hid (at_any (HE15.out.on hb15) (I.length : Int))
                rw [atI_end] at HA0
                unfold insV zIns at HA0
                clear hb15 HLN HE15 HB15
                go_wp2_with fail
                with_reducible refine HA0.out.mono ?_
                rintro e w16 ⟨rfl, hb16⟩
                have HB17 := Lib.hid (below_step HB16.out hb16)
                have HL := Lib.hid (HLV.out w16)
                have hfld := field70_0 (.string ⟨#[]⟩) (.int .i64 0) (.string ⟨#[]⟩) (.slice none 0 0) (.slice none 0 0) (.slice none 0 0) w16
                clear hb16 HA0 HB16
                go_wp2_with fail
                with_reducible refine HL.out.mono ?_
                rintro e w17 ⟨rfl, hb17⟩
                have HB18 := Lib.hid (below_step HB17.out hb17)
                clear hb17
                go_wp2_with fail
                show bodyPost _ _ _ _ _ _
                go_ret
                exact ⟨rfl, HB18.out⟩
end Go.Proofs.Ytjfhncbfbhkhgaa
