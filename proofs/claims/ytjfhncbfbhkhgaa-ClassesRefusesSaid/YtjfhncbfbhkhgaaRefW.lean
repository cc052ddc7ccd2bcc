/- ClassesRefuses: the walk. Conditions: the slice reads as numbers. -/
import Derived.Test.YtjfhncbfbhkhgaaRef
import Derived.Test.YtjfhncbfbhkhgaaMad
import Derived.Test.YtjfhncbfbhkhgaaTur
import Derived.Laws.StructEq
namespace Go.Proofs.Ytjfhncbfbhkhgaa
open Go.RowKit
theorem goodRev {C : List Cls} (h : GoodC C) : OkC C.reverse ∧ (Ytjfhncbfbhkhgaa.mths C.reverse).length ≤ 536870912 ∧ ∀ c ∈ C.reverse, c.meths.length ≤ 536870912 ∧ ∀ m ∈ c.meths, m.1.size ≤ maxLen := by
  have hl := h.len
  have hu : ∀ u, u ∈ univ C.reverse → u ∈ univ C := fun u hu => by
    unfold univ at *
    rcases List.mem_append.1 hu with h1 | h1
    · exact List.mem_append_left _ (by rw [List.map_reverse] at h1; exact List.mem_reverse.1 h1)
    · refine List.mem_append_right _ ?_
      obtain ⟨l, hl, hu⟩ := List.mem_flatten.1 h1
      obtain ⟨c, hc, rfl⟩ := List.mem_map.1 hl
      exact List.mem_flatten.2 ⟨_, List.mem_map.2 ⟨c, List.mem_reverse.1 hc, rfl⟩, hu⟩
  refine ⟨⟨fun u h9 => h.ok.size u (hu u h9), ?_⟩, ?_, fun c hc => h.mths.2 c (List.mem_reverse.1 hc)⟩
  · unfold univ
    rw [List.length_append, List.length_map, List.length_flatten, List.map_map, List.length_reverse]
    have := sum_le (List.length ∘ fun x : Cls => x.supers) 2 C.reverse (fun c hc => (h.sup c (List.mem_reverse.1 hc)).1)
    rw [List.length_reverse] at this
    omega
  · unfold Ytjfhncbfbhkhgaa.mths
    rw [List.length_flatten, List.map_map]
    have := sum_le (List.length ∘ fun c : Cls => mthsK c.name 0 c.meths) 2 C.reverse (fun c hc => by
      show (mthsK c.name 0 c.meths).length ≤ 2
      rw [mthsK_len]; exact (h.mth c (List.mem_reverse.1 hc)).1)
    rw [List.length_reverse] at this
    omega
theorem belowS {w a b : World} (h : Below w.heap.size w a) (k : Below a.heap.size a b) : Below w.heap.size w b := h.trans (k.mono h.size)
set_option maxRecDepth 100000 in
@[go_sem] theorem eq34 (a b c d : Int) (w : World) : (Op.equalIn 10000 34 (.agg #[.int .i64 a, .int .i64 b]) (.agg #[.int .i64 c, .int .i64 d])).run Try.prog w = .ok (a == c && b == d) w := by
  have u3 := Try.underlying3
  have u32 := Try.underlying32
  have hS : Try.prog.underlying 34 = some (.struct (Try.prog.fieldsOf 34)) := by kernel_rfl
  have hp : Try.prog.stoodInHeld 34 = false := by kernel_rfl
  rw [show (10000 : Nat) = 9999 + 1 from rfl, run_equalIn_agg w 9999 34 _ _ hS hp]
  simp only [Program.fieldsOf, Try.underlying34]
  go_simp
  by_cases h1 : a = c <;> by_cases h2 : b = d <;> simp [h1, h2]
/-- What New gives, in one form. -/
theorem new_ref {C : List Cls} {I : List Ins} {w w' : World} {e : Ending} (h : NewRes C I w e w') : Below w.heap.size w w' ∧ ∃ px, e = .returned (.tuple #[.pointer px, .agg #[.int .i64 (refT C I).1, .int .i64 (refT C I).2]]) ∧ (((refT C I).1 = 0 ∧ ∃ ad, px = some ad) ∨ ((refT C I).1 ≠ 0 ∧ px = none)) := by
  obtain ⟨hb, G, d, S, hwk, hdn, hor⟩ := h
  have hr := newT_ref (I := I) hwk hdn
  refine ⟨hb, ?_⟩
  rcases hor with ⟨h1, rfl⟩ | ⟨h1, Q, eb, cb, mb, pb, iv, rfl, h2, h3⟩
  · rw [hr] at h1 ⊢
    exact ⟨_, rfl, .inr ⟨h1, rfl⟩⟩
  · have hz := (newT_zero C I G).1 h1
    have h0 : refT C I = (0, 0) := by
      rw [← hr]; unfold newT; rw [hz.1, hz.2.1, hz.2.2]; rfl
    rw [h0]
    exact ⟨_, rfl, .inl ⟨rfl, _, rfl⟩⟩
theorem refused_any2 {Q : Nat → Prop} {C : List Cls} {I : List Ins} {n m : Nat} (hn : n = C.length) (hm : m = I.length) (hC : OkC C) {Ac Ai : Option Addr} {cc ci : Nat} {w : World} (hcl : ClassesAt Q w (.slice Ac n cc) C) (hin : InstsAt Q w (.slice Ai m ci) I) (hQ : ∀ b, Q b → b < w.heap.size) :
    Calls Try.prog 11 #[.agg #[.slice none 0 0, .slice Ac n cc, .slice Ai m ci, .slice none 0 0]] w fun e w' => e = .returned (.agg #[.int .i64 (refT C I).1, .int .i64 (refT C I).2]) ∧ Below w.heap.size w w' := by
  subst hn hm
  exact refused_any hC hcl hin hQ
set_option maxRecDepth 100000 in
set_option maxHeartbeats 4000000 in
theorem classesRefuses_law (A : Option Addr) (l c : Nat) (w : World) (h : SomeInts w (.slice A l c)) :
    Calls Try.prog 3 #[.slice A l c] w (TrueB w) := by
  have HMD := Lib.hid (made_any h)
  have HLV := Lib.hid lives_any
  clear h
  go_enter Try.func3, Try.ntmps3
  go_wp2_with fail
  with_reducible refine HMD.out.mono ?_
  rintro e w1 ⟨C, I, cv, iv, rfl, hcl, hin, hiv, hgc, hoi, hb1'⟩
  obtain ⟨Ac, cc, rfl⟩ : ∃ A c, cv = .slice A C.length c := by obtain ⟨A, c, e, _⟩ := hcl; exact ⟨A, c, e⟩
  obtain ⟨Ai, ci, rfl⟩ : ∃ A c, iv = .slice A I.length c := by obtain ⟨A, c, e, _⟩ := hin; exact ⟨A, c, e⟩
  obtain ⟨W1, hW1⟩ : ∃ W1, w1.alloc (.cells #[.slice none 0 0, .slice Ac C.length cc, .slice Ai I.length ci, .slice none 0 0] 28) = W1 := ⟨_, rfl⟩
  have hbW : Below w1.heap.size w1 W1 := by rw [← hW1]; exact below_new w1 _
  have hx0 : W1.heap[w1.heap.size]? = some (.cells #[.slice none 0 0, .slice Ac C.length cc, .slice Ai I.length ci, .slice none 0 0] 28) := by rw [← hW1, alloc_get, if_pos rfl]
  obtain ⟨q0, q1, q2, q3⟩ : W1.cell? ⟨w1.heap.size, 0, none⟩ = some (.slice none 0 0) ∧ W1.cell? ⟨w1.heap.size, 1, none⟩ = some (.slice Ac C.length cc) ∧ W1.cell? ⟨w1.heap.size, 2, none⟩ = some (.slice Ai I.length ci) ∧ W1.cell? ⟨w1.heap.size, 3, none⟩ = some (.slice none 0 0) := by simp [World.cell?, hx0]
  have hQ1 : ∀ b, b < w1.heap.size → b < W1.heap.size := fun b hb => Nat.lt_of_lt_of_le hb hbW.size
  have hc1 := (hcl.keep hbW.size (fun b _ hl => hbW.block b hl)).mono hQ1
  have hi1 := (hin.keep hbW.size (fun b _ hl => hbW.block b hl)).mono (fun b h _ => hQ1 b h)
  have HCL := Lib.hid hc1
  have HIN := Lib.hid hi1
  have HIV := Lib.hid hiv
  have HGC := Lib.hid hgc
  have HOI := Lib.hid hoi
  have HX0 := Lib.hid hx0
  have HTU := Lib.hid (turned_any hc1 hi1 (fun b h => h) (by have := hgc.len; omega) hoi.len)
  have HB1 := Lib.hid (belowS hb1' hbW)
  have HW := Lib.hid hW1
  clear hcl hin hiv hgc hoi hb1' HMD hW1 hbW hx0 hQ1 hc1 hi1
  go_upto_region 2 with (fail)
  rw [HW.out]
  clear HW
  go_wp2_with fail
  with_reducible refine HTU.out.mono ?_
  rintro e w2 ⟨cv3, iv3, rfl, hc3, hi3, hv3, hb3⟩
  obtain ⟨At, ct, rfl⟩ : ∃ A c, cv3 = .slice A C.length c := by obtain ⟨A, c, e, _⟩ := hc3; exact ⟨A, c, by rw [e, List.length_reverse]⟩
  obtain ⟨Aj, cj, rfl⟩ : ∃ A c, iv3 = .slice A I.length c := by obtain ⟨A, c, e, _⟩ := hi3; exact ⟨A, c, by rw [e, List.length_reverse]⟩
  obtain ⟨W2, hW2⟩ : ∃ W2, w2.alloc (.cells #[.slice none 0 0, .slice At C.length ct, .slice Aj I.length cj, .slice none 0 0] 28) = W2 := ⟨_, rfl⟩
  have hbW : Below w2.heap.size w2 W2 := by rw [← hW2]; exact below_new w2 _
  have hbX := belowS hb3 hbW
  -- all that the later worlds keep
  have HOI' : OkI I.reverse := ⟨fun x hx => HOI.out.size x (List.mem_reverse.1 hx), by rw [List.length_reverse]; exact HOI.out.len⟩
  have hx1 : W2.heap[w1.heap.size]? = some (.cells #[.slice none 0 0, .slice Ac C.length cc, .slice Ai I.length ci, .slice none 0 0] 28) := (hbX.block _ (lt_of_block HX0.out)).trans HX0.out
  have hx2 : W2.heap[w2.heap.size]? = some (.cells #[.slice none 0 0, .slice At C.length ct, .slice Aj I.length cj, .slice none 0 0] 28) := by rw [← hW2, alloc_get, if_pos rfl]
  have hQ2 : ∀ b, b < w2.heap.size → b < W2.heap.size := fun b hb => Nat.lt_of_lt_of_le hb hbW.size
  have hQ1 : ∀ b, b < W1.heap.size → b < W2.heap.size := fun b hb => Nat.lt_of_lt_of_le hb hbX.size
  have KC1 := Lib.hid ((HCL.out.keep hbX.size (fun b _ hl => hbX.block b hl)).mono hQ1)
  have KI1 := Lib.hid ((HIN.out.keep hbX.size (fun b _ hl => hbX.block b hl)).mono (fun b h _ => hQ1 b h))
  have KC2 := Lib.hid ((hc3.keep hbW.size (fun b _ hl => hbW.block b hl)).mono hQ2)
  have KI2 := Lib.hid ((hi3.keep hbW.size (fun b _ hl => hbW.block b hl)).mono (fun b h _ => hQ2 b h))
  have KV2 := Lib.hid hv3
  have HBW2 := Lib.hid (belowS HB1.out hbX)
  have KX1 := Lib.hid hx1
  have KX2 := Lib.hid hx2
  have hP : ∀ y, Below W2.heap.size W2 y → (y.cell? ⟨w1.heap.size, 0, none⟩ = some (.slice none 0 0) ∧ y.cell? ⟨w1.heap.size, 1, none⟩ = some (.slice Ac C.length cc) ∧ y.cell? ⟨w1.heap.size, 2, none⟩ = some (.slice Ai I.length ci) ∧ y.cell? ⟨w1.heap.size, 3, none⟩ = some (.slice none 0 0)) ∧ (y.cell? ⟨w2.heap.size, 0, none⟩ = some (.slice none 0 0) ∧ y.cell? ⟨w2.heap.size, 1, none⟩ = some (.slice At C.length ct) ∧ y.cell? ⟨w2.heap.size, 2, none⟩ = some (.slice Aj I.length cj) ∧ y.cell? ⟨w2.heap.size, 3, none⟩ = some (.slice none 0 0)) := fun y hy => by
    have h1 := (hy.block _ (lt_of_block KX1.out)).trans KX1.out
    have h2 := (hy.block _ (lt_of_block KX2.out)).trans KX2.out
    exact ⟨by simp [World.cell?, h1], by simp [World.cell?, h2]⟩
  have HP := Lib.hid hP
  have HW := Lib.hid hW2
  obtain ⟨⟨p0, p1, p2, p3⟩, _⟩ := hP W2 (Below.refl _ _)
  have HNW := Lib.hid (new_any KC1.out KI1.out HIV.out (fun b h => h) HGC.out.ok HOI.out HGC.out.mths.1 HGC.out.mths.2)
  clear hP hx1 hx2 hQ1 hQ2 hbX hbW hW2 hc3 hi3 hv3 hb3 HTU HCL HIN HX0 HB1 q0 q1 q2 q3
  go_upto_region 3 with (fail)
  rw [HW.out]
  clear HW
  go_wp2_with fail
  with_reducible refine HNW.out.mono ?_
  rintro e w3 hnr
  obtain ⟨hb3, px, rfl, hpx⟩ := new_ref hnr
  obtain ⟨R, hR⟩ : ∃ R, refT C I = R := ⟨_, rfl⟩
  rw [hR] at hpx ⊢
  have HR := Lib.hid hR
  have HPX := Lib.hid hpx
  obtain ⟨R1, R2⟩ := R
  obtain ⟨W3, hW3⟩ : ∃ W3, w3.alloc (.cells #[.int .i64 R1, .int .i64 R2] 34) = W3 := ⟨_, rfl⟩
  have hbW : Below w3.heap.size w3 W3 := by rw [← hW3]; exact below_new w3 _
  have hb23 := belowS hb3 hbW
  have E3 := Lib.hid (show W3.heap[w3.heap.size]? = some (.cells #[.int .i64 R1, .int .i64 R2] 34) by rw [← hW3, alloc_get, if_pos rfl])
  have HB23 := Lib.hid hb23
  obtain ⟨_, ⟨p0, p1, p2, p3⟩⟩ := HP.out W3 hb23
  have hQ3 : ∀ b, b < W2.heap.size → b < W3.heap.size := fun b hb => Nat.lt_of_lt_of_le hb hb23.size
  have HNW2 := Lib.hid (new_any ((KC2.out.keep hb23.size (fun b _ hl => hb23.block b hl)).mono hQ3) ((KI2.out.keep hb23.size (fun b _ hl => hb23.block b hl)).mono (fun b h _ => hQ3 b h)) KV2.out (fun b h => h) (goodRev HGC.out).1 HOI' (goodRev HGC.out).2.1 (goodRev HGC.out).2.2)
  have HW := Lib.hid hW3
  clear hnr hpx hR hb3 hbW hb23 hQ3 hW3 HNW
  go_upto_region 4 with (fail)
  rw [HW.out]
  clear HW
  go_wp2_with fail
  with_reducible refine HNW2.out.mono ?_
  rintro e w4 hnr
  obtain ⟨hb4, px', rfl, hpx'⟩ := new_ref hnr
  obtain ⟨R', hR'⟩ : ∃ R', refT C.reverse I.reverse = R' := ⟨_, rfl⟩
  rw [hR'] at hpx' ⊢
  have HR' := Lib.hid hR'
  have HPX' := Lib.hid hpx'
  obtain ⟨R3, R4⟩ := R'
  obtain ⟨W4, hW4⟩ : ∃ W4, w4.alloc (.cells #[.int .i64 R3, .int .i64 R4] 34) = W4 := ⟨_, rfl⟩
  have hbW : Below w4.heap.size w4 W4 := by rw [← hW4]; exact below_new w4 _
  have hb34 := belowS hb4 hbW
  have E4 := Lib.hid (show W4.heap[w4.heap.size]? = some (.cells #[.int .i64 R3, .int .i64 R4] 34) by rw [← hW4, alloc_get, if_pos rfl])
  have HB34 := Lib.hid hb34
  have hb24 := belowS HB23.out hb34
  have HB24 := Lib.hid hb24
  obtain ⟨⟨p0, p1, p2, p3⟩, _⟩ := HP.out W4 hb24
  have hQ4 : ∀ b, b < W2.heap.size → b < W4.heap.size := fun b hb => Nat.lt_of_lt_of_le hb hb24.size
  have HRF := Lib.hid (refused_any HGC.out.ok ((KC1.out.keep hb24.size (fun b _ hl => hb24.block b hl)).mono hQ4) ((KI1.out.keep hb24.size (fun b _ hl => hb24.block b hl)).mono (fun b h _ => hQ4 b h)) (fun b h => h))
  rw [HR.out] at HRF
  have HW := Lib.hid hW4
  clear hnr hpx' hR' hb4 hbW hb34 hb24 hQ4 hW4 HNW2
  go_upto_region 5 with (fail)
  rw [HW.out]
  clear HW
  go_wp2_with fail
  with_reducible refine HRF.out.mono ?_
  rintro e w5 ⟨rfl, hb5⟩
  obtain ⟨W5, hW5⟩ : ∃ W5, w5.alloc (.cells #[.int .i64 R1, .int .i64 R2] 34) = W5 := ⟨_, rfl⟩
  have hbW : Below w5.heap.size w5 W5 := by rw [← hW5]; exact below_new w5 _
  have hb45 := belowS hb5 hbW
  have E5 := Lib.hid (show W5.heap[w5.heap.size]? = some (.cells #[.int .i64 R1, .int .i64 R2] 34) by rw [← hW5, alloc_get, if_pos rfl])
  have HB45 := Lib.hid hb45
  have hb25 := belowS HB24.out hb45
  have HB25 := Lib.hid hb25
  obtain ⟨_, ⟨p0, p1, p2, p3⟩⟩ := HP.out W5 hb25
  have hQ5 : ∀ b, b < W2.heap.size → b < W5.heap.size := fun b hb => Nat.lt_of_lt_of_le hb hb25.size
  have HRF2 := Lib.hid (refused_any2 List.length_reverse.symm List.length_reverse.symm (goodRev HGC.out).1 ((KC2.out.keep hb25.size (fun b _ hl => hb25.block b hl)).mono hQ5) ((KI2.out.keep hb25.size (fun b _ hl => hb25.block b hl)).mono (fun b h _ => hQ5 b h)) (fun b h => h))
  rw [HR'.out] at HRF2
  have HW := Lib.hid hW5
  clear hb5 hbW hb45 hb25 hQ5 hW5 HRF
  go_upto_region 6 with (fail)
  rw [HW.out]
  clear HW
  go_wp2_with fail
  with_reducible refine HRF2.out.mono ?_
  rintro e w6 ⟨rfl, hb6⟩
  obtain ⟨W6, hW6⟩ : ∃ W6, w6.alloc (.cells #[.int .i64 R3, .int .i64 R4] 34) = W6 := ⟨_, rfl⟩
  have hbW : Below w6.heap.size w6 W6 := by rw [← hW6]; exact below_new w6 _
  have hb56 := belowS hb6 hbW
  have hb46 := belowS HB45.out hb56
  have hb36 := belowS HB34.out hb46
  have h6 : W6.heap[w6.heap.size]? = some (.cells #[.int .i64 R3, .int .i64 R4] 34) := by rw [← hW6, alloc_get, if_pos rfl]
  have h5 := (hb56.block _ (lt_of_block E5.out)).trans E5.out
  have h4 := (hb46.block _ (lt_of_block E4.out)).trans E4.out
  have h3 := (hb36.block _ (lt_of_block E3.out)).trans E3.out
  obtain ⟨a0, a1⟩ : W6.cell? ⟨w3.heap.size, 0, none⟩ = some (.int .i64 R1) ∧ W6.cell? ⟨w3.heap.size, 1, none⟩ = some (.int .i64 R2) := by simp [World.cell?, h3]
  obtain ⟨b0, b1⟩ : W6.cell? ⟨w4.heap.size, 0, none⟩ = some (.int .i64 R3) ∧ W6.cell? ⟨w4.heap.size, 1, none⟩ = some (.int .i64 R4) := by simp [World.cell?, h4]
  obtain ⟨c0, c1⟩ : W6.cell? ⟨w5.heap.size, 0, none⟩ = some (.int .i64 R1) ∧ W6.cell? ⟨w5.heap.size, 1, none⟩ = some (.int .i64 R2) := by simp [World.cell?, h5]
  obtain ⟨d0, d1⟩ : W6.cell? ⟨w6.heap.size, 0, none⟩ = some (.int .i64 R3) ∧ W6.cell? ⟨w6.heap.size, 1, none⟩ = some (.int .i64 R4) := by simp [World.cell?, h6]
  have HB6 := Lib.hid (belowS HBW2.out (belowS HB25.out hb56))
  have HL := Lib.hid (HLV.out W6)
  have HW := Lib.hid hW6
  have hq1 : (R1 == R1) = true := by simp
  have hq2 : (R2 == R2) = true := by simp
  have hq3 : (R3 == R3) = true := by simp
  have hq4 : (R4 == R4) = true := by simp
  clear hb6 hbW hb56 hb46 hb36 hW6 h6 h5 h4 h3 HRF2 E3 E4 E5 HP KX1 KX2 KC1 KC2 KI1 KI2 HB45 HB34 HB24 HB25 HB23 p0 p1 p2 p3
  have fin1 : ∃ q1 : Bool, (R1 != 0) = q1 ∧ px = (if q1 then none else px) ∧ (q1 = false → ∃ ad, px = some ad) := by
    rcases HPX.out with ⟨h, ad, rfl⟩ | ⟨h, rfl⟩
    · exact ⟨false, by simpa using h, rfl, fun _ => ⟨ad, rfl⟩⟩
    · exact ⟨true, by simpa using h, rfl, fun e => by cases e⟩
  have fin2 : ∃ q1 : Bool, (R3 != 0) = q1 ∧ px' = (if q1 then none else px') ∧ (q1 = false → ∃ ad, px' = some ad) := by
    rcases HPX'.out with ⟨h, ad, rfl⟩ | ⟨h, rfl⟩
    · exact ⟨false, by simpa using h, rfl, fun _ => ⟨ad, rfl⟩⟩
    · exact ⟨true, by simpa using h, rfl, fun e => by cases e⟩
  obtain ⟨q1, hn1, e1, f1⟩ := fin1
  obtain ⟨q2, hn2, e2, f2⟩ := fin2
  clear HPX HPX' HR HR'
  cases q1 <;> cases q2
  all_goals
    first
      | obtain ⟨ad, rfl⟩ := f1 rfl
      | (have e1' : px = none := e1; subst e1')
    first
      | obtain ⟨ad', rfl⟩ := f2 rfl
      | (have e2' : px' = none := e2; subst e2')
    clear f1 f2 e1 e2
    go_upto_region 7 with (fail)
    rw [HW.out]
    clear HW
    go_wp2_with fail
    with_reducible refine HL.out.mono ?_
    rintro e w7 ⟨rfl, hb7⟩
    have HB7 := Lib.hid (belowS HB6.out hb7)
    clear hb7
    go_wp2_with fail
    show bodyPost _ _ _ _ _ _
    go_ret
    exact ⟨rfl, HB7.out⟩
end Go.Proofs.Ytjfhncbfbhkhgaa
