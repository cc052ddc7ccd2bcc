/- ClassesTurned: the walk. Conditions: the slice reads as numbers, the numbers are of 64 bits. -/
import Derived.Test.YtjfhncbfbhkhgaaTur
import Derived.Test.YtjfhncbfbhkhgaaWaysW
namespace Go.Proofs.Ytjfhncbfbhkhgaa
theorem nodup_rev {α : Type} {l : List α} : l.reverse.Nodup ↔ l.Nodup := (List.reverse_perm l).nodup_iff
theorem clsOf_iff : ∀ {C : List Cls} {x : ByteArray} {c : Cls}, (C.map (·.name)).Nodup → (clsOf C x = some c ↔ c ∈ C ∧ c.name = x)
  | [], x, c, _ => ⟨fun h => (by cases h), fun h => (by cases h.1)⟩
  | d :: l, x, c, hn => by
    obtain ⟨h1, h2⟩ := List.nodup_cons.1 hn
    constructor
    · exact clsOf_mem
    · rintro ⟨hc, he⟩
      unfold clsOf
      rcases List.mem_cons.1 hc with rfl | hc
      · rw [if_pos he]
      · rw [if_neg (fun e => h1 (by show d.name ∈ _; rw [e, ← he]; exact List.mem_map.2 ⟨c, hc, rfl⟩))]
        exact (clsOf_iff h2).2 ⟨hc, he⟩
theorem clsOf_rev {C : List Cls} (hn : (C.map (·.name)).Nodup) (x : ByteArray) : clsOf C.reverse x = clsOf C x := by
  have hn' : (C.reverse.map (·.name)).Nodup := by rw [List.map_reverse]; exact nodup_rev.2 hn
  cases h : clsOf C x with
  | some c => exact (clsOf_iff hn').2 ⟨List.mem_reverse.2 ((clsOf_iff hn).1 h).1, ((clsOf_iff hn).1 h).2⟩
  | none =>
    cases g : clsOf C.reverse x with
    | none => rfl
    | some d =>
      have := (clsOf_iff hn).2 ⟨List.mem_reverse.1 ((clsOf_iff hn').1 g).1, ((clsOf_iff hn').1 g).2⟩
      rw [h] at this; cases this
theorem supF_rev {C : List Cls} (hn : (C.map (·.name)).Nodup) : supF C.reverse = supF C := by
  funext x; unfold supF; rw [clsOf_rev hn]
theorem hasF_rev {C : List Cls} (hn : (C.map (·.name)).Nodup) : hasF C.reverse = hasF C := by
  funext x; unfold hasF; rw [clsOf_rev hn]
def hdI (x : Ins) : ByteArray × ByteArray := (x.cls, x.con)
theorem over_heads {I : List Ins} : overL [] I = [] ↔ (I.map hdI).Nodup := by
  constructor
  · intro h
    rw [List.nodup_iff_pairwise_ne, List.pairwise_iff_getElem]
    intro i j hi hj hij e
    simp only [List.length_map] at hi hj
    simp only [List.getElem_map] at e
    have := over_one h (k := i) (j := j) (x := I[i]) (y := I[j]) (List.getElem?_eq_getElem hi) (List.getElem?_eq_getElem hj) (congrArg Prod.fst e) (congrArg Prod.snd e)
    omega
  · intro h
    refine nil_of_one I [] (fun k x hx => ⟨rfl, fun j y hj hy hh => ?_⟩)
    rw [List.nodup_iff_pairwise_ne, List.pairwise_iff_getElem] at h
    obtain ⟨h1, rfl⟩ := List.getElem?_eq_some_iff.1 hx
    obtain ⟨h2, rfl⟩ := List.getElem?_eq_some_iff.1 hy
    refine h j k (by simpa using h2) (by simpa using h1) hj ?_
    simp only [List.getElem_map]
    exact Prod.ext hh.1 hh.2
theorem head_one {I : List Ins} (h : (I.map hdI).Nodup) {x y : Ins} (hx : x ∈ I) (hy : y ∈ I) (e : hdI x = hdI y) : x = y := by
  obtain ⟨i, hi⟩ := List.getElem?_of_mem hx
  obtain ⟨j, hj⟩ := List.getElem?_of_mem hy
  have := over_one (over_heads.2 h) hi hj (congrArg Prod.fst e) (congrArg Prod.snd e)
  subst this
  rw [hi] at hj; injection hj
theorem lack_rev {C : List Cls} {I : List Ins} (hn : (C.map (·.name)).Nodup) : lackL C.reverse I.reverse I.reverse = [] ↔ lackL C I I = [] := by
  rw [lack_nil, lack_nil, supF_rev hn]
  simp only [List.mem_reverse]
theorem self_rev {C : List Cls} (hn : (C.map (·.name)).Nodup) (n : ByteArray) : Self C.reverse n ↔ Self C n := by
  unfold Self; rw [supF_rev hn]
theorem newT_rev {C : List Cls} {I : List Ins} (hn : (C.map (·.name)).Nodup) {d d' : DS ByteArray (List ByteArray)} {S S' : List ByteArray} {G G' : List (List ByteArray)}
    (hw : Walks (leaveK (supF C)) ⟨[], [], []⟩ (namesF C []) d) (hd : Downs (belF (supF C) (namesF C [])) [] [] d.st.reverse S G)
    (hw' : Walks (leaveK (supF C.reverse)) ⟨[], [], []⟩ (namesF C.reverse []) d') (hd' : Downs (belF (supF C.reverse) (namesF C.reverse [])) [] [] d'.st.reverse S' G') :
    (newT C.reverse I.reverse G').1 = 0 ↔ (newT C I G).1 = 0 := by
  rw [newT_zero, newT_zero, loop_nil hw hd, loop_nil hw' hd', lack_rev hn, over_heads, over_heads, List.map_reverse, nodup_rev]
  simp only [self_rev hn]
theorem inst_rev {I : List Ins} (a b : ByteArray) : (instF I.reverse 0 a b).isSome = (instF I 0 a b).isSome := by
  rw [Bool.eq_iff_iff, instF_iff, instF_iff]
  simp only [List.mem_reverse]
open Go.RowKit
theorem GoodC.rev {C : List Cls} (h : GoodC C) : OkC C.reverse ∧ (Ytjfhncbfbhkhgaa.mths C.reverse).length ≤ 536870912 ∧ ∀ c ∈ C.reverse, c.meths.length ≤ 536870912 ∧ ∀ m ∈ c.meths, m.1.size ≤ maxLen := by
  have hl := h.len
  have hu : ∀ u, u ∈ univ C.reverse → u ∈ univ C := fun u hu => by
    unfold univ at *
    rcases List.mem_append.1 hu with h1 | h1
    · exact List.mem_append_left _ (by rw [List.map_reverse] at h1; exact List.mem_reverse.1 h1)
    · refine List.mem_append_right _ ?_
      obtain ⟨l, hl, hu⟩ := List.mem_flatten.1 h1
      obtain ⟨c, hc, rfl⟩ := List.mem_map.1 hl
      exact List.mem_flatten.2 ⟨_, List.mem_map.2 ⟨c, List.mem_reverse.1 hc, rfl⟩, hu⟩
  refine ⟨⟨fun u h9 => h.ok.size u (hu u h9), ?_⟩, ?_, fun c hc => h.mths.2 c (List.mem_reverse.1 hc)⟩
  · unfold univ
    rw [List.length_append, List.length_map, List.length_flatten, List.map_map, List.length_reverse]
    have := sum_le (List.length ∘ fun x : Cls => x.supers) 2 C.reverse (fun c hc => (h.sup c (List.mem_reverse.1 hc)).1)
    rw [List.length_reverse] at this
    omega
  · unfold Ytjfhncbfbhkhgaa.mths
    rw [List.length_flatten, List.map_map]
    have := sum_le (List.length ∘ fun c : Cls => mthsK c.name 0 c.meths) 2 C.reverse (fun c hc => by
      show (mthsK c.name 0 c.meths).length ≤ 2
      rw [mthsK_len]; exact (h.mth c (List.mem_reverse.1 hc)).1)
    rw [List.length_reverse] at this
    omega
theorem above_rev {C : List Cls} (h : GoodC C) (a : ByteArray) : aboveF (supF C.reverse) (hasF C.reverse) (C.reverse.length + 1) [] a = aboveF (supF C) (hasF C) (C.length + 1) [] a := by
  rw [supF_rev h.nodup, hasF_rev h.nodup, List.length_reverse]
theorem field70_1 (a b c d e f : Value) (w : World) : (Instr.field 70 (.agg #[a, b, c, d, e, f]) 1).run Try.prog w = .ok b w := by kernel_rfl
theorem inst_same {I : List Ins} (h : overL [] I = []) {a b : ByteArray} {n m : Nat} (h1 : instF I 0 a b = some n) (h2 : instF I.reverse 0 a b = some m) : atI I n = atI I.reverse m := by
  obtain ⟨x, hx, e1, e2⟩ := instF_some h1
  obtain ⟨y, hy, e3, e4⟩ := instF_some h2
  have hxy : x = y := head_one (over_heads.1 h) (List.mem_of_getElem? hx) (List.mem_reverse.1 (List.mem_of_getElem? hy)) (Prod.ext (e1.trans e3.symm) (e2.trans e4.symm))
  unfold atI
  rw [if_pos (by omega), if_pos (by omega)]
  simp [hx, hy, hxy]
set_option maxRecDepth 100000 in
set_option maxHeartbeats 4000000 in
theorem classesTurned_law (A : Option Addr) (l c : Nat) (a b n : Int) (w : World) (h : SomeInts w (.slice A l c)) (ha1 : -9223372036854775808 ≤ a) (ha2 : a ≤ 9223372036854775807) (hb1 : -9223372036854775808 ≤ b) (hb2 : b ≤ 9223372036854775807) (hn1 : -9223372036854775808 ≤ n) (hn2 : n ≤ 9223372036854775807) :
    Calls Try.prog 6 #[.slice A l c, .int .i64 a, .int .i64 b, .int .i64 n] w (TrueB w) := by
  have HMD := Lib.hid (made_any h)
  have HLV := Lib.hid lives_any
  clear h
  go_enter Try.func6, Try.ntmps6
  go_wp2_with fail
  with_reducible refine HMD.out.mono ?_
  rintro e w1 ⟨C, I, cv, iv, rfl, hcl, hin, hiv, hgc, hoi, hb1'⟩
  obtain ⟨Ac, cc, rfl⟩ : ∃ A c, cv = .slice A C.length c := by obtain ⟨A, c, e, _⟩ := hcl; exact ⟨A, c, e⟩
  obtain ⟨Ai, ci, rfl⟩ : ∃ A c, iv = .slice A I.length c := by obtain ⟨A, c, e, _⟩ := hin; exact ⟨A, c, e⟩
  obtain ⟨W1, hW1⟩ : ∃ W1, w1.alloc (.cells #[.slice none 0 0, .slice Ac C.length cc, .slice Ai I.length ci, .slice none 0 0] 28) = W1 := ⟨_, rfl⟩
  have hbW : Below w1.heap.size w1 W1 := by rw [← hW1]; exact below_new w1 _
  have hx0 : W1.heap[w1.heap.size]? = some (.cells #[.slice none 0 0, .slice Ac C.length cc, .slice Ai I.length ci, .slice none 0 0] 28) := by rw [← hW1, alloc_get, if_pos rfl]
  obtain ⟨q0, q1, q2, q3⟩ : W1.cell? ⟨w1.heap.size, 0, none⟩ = some (.slice none 0 0) ∧ W1.cell? ⟨w1.heap.size, 1, none⟩ = some (.slice Ac C.length cc) ∧ W1.cell? ⟨w1.heap.size, 2, none⟩ = some (.slice Ai I.length ci) ∧ W1.cell? ⟨w1.heap.size, 3, none⟩ = some (.slice none 0 0) := by simp [World.cell?, hx0]
  have hQ1 : ∀ b, b < w1.heap.size → b < W1.heap.size := fun b hb => Nat.lt_of_lt_of_le hb hbW.size
  have HCL := Lib.hid ((hcl.keep hbW.size (fun b _ hl => hbW.block b hl)).mono hQ1)
  have HIN := Lib.hid ((hin.keep hbW.size (fun b _ hl => hbW.block b hl)).mono (fun b h _ => hQ1 b h))
  have HIV := Lib.hid hiv
  have HX0 := Lib.hid hx0
  have HB1 := Lib.hid (below_step hb1' hbW)
  have HGC := Lib.hid hgc
  have HOI := Lib.hid hoi
  have HNW := Lib.hid (new_any HCL.out HIN.out hiv (fun b h => h) hgc.ok hoi hgc.mths.1 hgc.mths.2)
  have HW := Lib.hid hW1
  clear hcl hin hiv hgc hoi hb1' HMD hW1 hbW hx0 hQ1
  go_upto_region 2 with (fail)
  rw [HW.out]
  clear HW
  go_wp2_with fail
  with_reducible refine HNW.out.mono ?_
  rintro e w2 ⟨hb2', G, d, S, hwk, hdn, hor⟩
  have HWK := Lib.hid hwk
  have HDN := Lib.hid hdn
  -- what New tells, in one form
  obtain ⟨e1, e2, pv, rfl, hpv⟩ : ∃ (e1 e2 : Int) (pv : Value), e = .returned (.tuple #[pv, .agg #[.int .i64 e1, .int .i64 e2]]) ∧ ((e1 ≠ 0 ∧ (newT C I G).1 ≠ 0 ∧ pv = .pointer none) ∨ (e1 = 0 ∧ (newT C I G).1 = 0 ∧ ∃ Q eb cb mb pb iv, pv = .pointer (some ⟨eb, 0, none⟩) ∧ (∀ b, Q b → b < w2.heap.size) ∧ EnvAt Q C (lookF (mths C)) I (headH I) eb cb mb pb iv w2)) := by
    rcases hor with ⟨h1, rfl⟩ | ⟨h1, Q, eb, cb, mb, pb, iv, rfl, h2, h3⟩
    · exact ⟨_, _, _, rfl, .inl ⟨h1, h1, rfl⟩⟩
    · exact ⟨_, _, _, rfl, .inr ⟨rfl, h1, Q, eb, cb, mb, pb, iv, rfl, h2, h3⟩⟩
  obtain ⟨W2, hW2⟩ : ∃ W2, w2.alloc (.cells #[.int .i64 e1, .int .i64 e2] 34) = W2 := ⟨_, rfl⟩
  have hbW : Below w2.heap.size w2 W2 := by rw [← hW2]; exact below_new w2 _
  have hbX := below_step hb2' hbW
  have hx0 := (hbX.block _ (lt_of_block HX0.out)).trans HX0.out
  obtain ⟨s0, s1, s2, s3⟩ : W2.cell? ⟨w1.heap.size, 0, none⟩ = some (.slice none 0 0) ∧ W2.cell? ⟨w1.heap.size, 1, none⟩ = some (.slice Ac C.length cc) ∧ W2.cell? ⟨w1.heap.size, 2, none⟩ = some (.slice Ai I.length ci) ∧ W2.cell? ⟨w1.heap.size, 3, none⟩ = some (.slice none 0 0) := by simp [World.cell?, hx0]
  have HE2x : Hid (W2.heap[w2.heap.size]? = some (.cells #[.int .i64 e1, .int .i64 e2] 34)) := Lib.hid (by rw [← hW2, alloc_get, if_pos rfl])
  have HB2 := Lib.hid (below_step HB1.out hbX)
  have hQ2 : ∀ b, b < W1.heap.size → b < W2.heap.size := fun b hb => Nat.lt_of_lt_of_le hb hbX.size
  have HTU := Lib.hid (turned_any ((HCL.out.keep hbX.size (fun b _ hl => hbX.block b hl)).mono hQ2) ((HIN.out.keep hbX.size (fun b _ hl => hbX.block b hl)).mono (fun b h _ => hQ2 b h)) (fun b h => h) (by have := HGC.out.len; omega) HOI.out.len)
  have HPV : Hid ((e1 ≠ 0 ∧ (newT C I G).1 ≠ 0 ∧ pv = .pointer none) ∨ (e1 = 0 ∧ (newT C I G).1 = 0 ∧ ∃ Q eb cb mb pb iv, pv = .pointer (some ⟨eb, 0, none⟩) ∧ (∀ b, Q b → b < W2.heap.size) ∧ EnvAt Q C (lookF (mths C)) I (headH I) eb cb mb pb iv W2)) := Lib.hid (hpv.imp id (fun ⟨h1, h2, Q, eb, cb, mb, pb, iv, h3, h4, h5⟩ => ⟨h1, h2, Q, eb, cb, mb, pb, iv, h3, fun b hb => Nat.lt_of_lt_of_le (h4 b hb) hbW.size, h5.on hbW⟩))
  have HW := Lib.hid hW2
  have hpf : (∃ x, pv = .pointer x) := by rcases hpv with ⟨_, _, h⟩ | ⟨_, _, _, _, _, _, _, _, h, _⟩ <;> exact ⟨_, h⟩
  obtain ⟨px, rfl⟩ := hpf
  clear hwk hdn hor hb2' hW2 hbW hbX hx0 hQ2 hpv HNW HX0 HCL HIN HB1 q0 q1 q2 q3
  go_upto_region 3 with (fail)
  rw [HW.out]
  clear HW
  go_wp2_with fail
  with_reducible refine HTU.out.mono ?_
  rintro e w3 ⟨cv3, iv3, rfl, hc3, hi3, hv3, hb3⟩
  have HB3 := Lib.hid (below_step HB2.out hb3)
  have HOI' : OkI I.reverse := ⟨fun x hx => HOI.out.size x (List.mem_reverse.1 hx), by rw [List.length_reverse]; exact HOI.out.len⟩
  have HNW := Lib.hid (new_any hc3 hi3 hv3 (fun b h => h) HGC.out.rev.1 HOI' HGC.out.rev.2.1 HGC.out.rev.2.2)
  have HX3 := Lib.hid ((hb3.block _ (lt_of_block HE2x.out)).trans HE2x.out)
  have HPV3 : Hid ((e1 ≠ 0 ∧ (newT C I G).1 ≠ 0 ∧ Value.pointer px = .pointer none) ∨ (e1 = 0 ∧ (newT C I G).1 = 0 ∧ ∃ Q eb cb mb pb iv, Value.pointer px = .pointer (some ⟨eb, 0, none⟩) ∧ (∀ b, Q b → b < w3.heap.size) ∧ EnvAt Q C (lookF (mths C)) I (headH I) eb cb mb pb iv w3)) := Lib.hid (HPV.out.imp id (fun ⟨h1, h2, Q, eb, cb, mb, pb, iv, h3, h4, h5⟩ => ⟨h1, h2, Q, eb, cb, mb, pb, iv, h3, fun b hb => Nat.lt_of_lt_of_le (h4 b hb) hb3.size, h5.on hb3⟩))
  clear hc3 hi3 hv3 hb3 HTU HPV HB2 HE2x s0 s1 s2 s3
  go_wp2_with fail
  with_reducible refine HNW.out.mono ?_
  rintro e w4 ⟨hb4, G', d', S', hwk', hdn', hor⟩
  have hiff := newT_rev (I := I) HGC.out.nodup HWK.out HDN.out hwk' hdn'
  obtain ⟨f1, f2, pv, rfl, hpv⟩ : ∃ (f1 f2 : Int) (pv : Value), e = .returned (.tuple #[pv, .agg #[.int .i64 f1, .int .i64 f2]]) ∧ ((f1 ≠ 0 ∧ (newT C.reverse I.reverse G').1 ≠ 0 ∧ pv = .pointer none) ∨ (f1 = 0 ∧ (newT C.reverse I.reverse G').1 = 0 ∧ ∃ Q eb cb mb pb iv, pv = .pointer (some ⟨eb, 0, none⟩) ∧ (∀ b, Q b → b < w4.heap.size) ∧ EnvAt Q C.reverse (lookF (mths C.reverse)) I.reverse (headH I.reverse) eb cb mb pb iv w4)) := by
    rcases hor with ⟨h1, rfl⟩ | ⟨h1, Q, eb, cb, mb, pb, iv, rfl, h2, h3⟩
    · exact ⟨_, _, _, rfl, .inl ⟨h1, h1, rfl⟩⟩
    · exact ⟨_, _, _, rfl, .inr ⟨rfl, h1, Q, eb, cb, mb, pb, iv, rfl, h2, h3⟩⟩
  obtain ⟨W4, hW4⟩ : ∃ W4, w4.alloc (.cells #[.int .i64 f1, .int .i64 f2] 34) = W4 := ⟨_, rfl⟩
  have hbW : Below w4.heap.size w4 W4 := by rw [← hW4]; exact below_new w4 _
  have hbX := below_step hb4 hbW
  have hx3 := (hbX.block _ (lt_of_block HX3.out)).trans HX3.out
  have hx4 : W4.heap[w4.heap.size]? = some (.cells #[.int .i64 f1, .int .i64 f2] 34) := by rw [← hW4, alloc_get, if_pos rfl]
  have s0 : W4.cell? ⟨w2.heap.size, 0, none⟩ = some (.int .i64 e1) := by simp [World.cell?, hx3]
  have s1 : W4.cell? ⟨w4.heap.size, 0, none⟩ = some (.int .i64 f1) := by simp [World.cell?, hx4]
  have HB4 := Lib.hid (below_step HB3.out hbX)
  have HW := Lib.hid hW4
  rcases HPV3.out with ⟨he1, hz, hpx⟩ | ⟨he1, hz, Q, eb, cb, mb, pb, iv, hpx, hQ, hE⟩
  · injection hpx with hpx
    subst hpx
    rcases hpv with ⟨hf1, hz', rfl⟩ | ⟨_, hz', _⟩
    · have HL := Lib.hid (HLV.out W4)
      have he1' : (e1 != 0) = true := by simpa using he1
      have hf1' : (f1 != 0) = true := by simpa using hf1
      clear hwk' hdn' hor hiff hW4 hbW hbX hx3 hx4 hb4 HPV3 HB3 HX3 HWK HDN hz hz'
      go_upto_region 4 with (fail)
      rw [HW.out]
      clear HW
      go_wp2_with fail
      with_reducible refine HL.out.mono ?_
      rintro e w5 ⟨rfl, hb5⟩
      have HB5 := Lib.hid (below_step HB4.out hb5)
      clear hb5
      go_wp2_with fail
      show bodyPost _ _ _ _ _ _
      go_ret
      exact ⟨rfl, HB5.out⟩
    · exact absurd (hiff.1 hz') hz
  · injection hpx with hpx
    subst hpx
    rcases hpv with ⟨hf1, hz', rfl⟩ | ⟨hf1, hz', Q', eb', cb', mb', pb', iv', rfl, hQ', hE'⟩
    · exact absurd (hiff.2 hz) hz'
    · have HOV := Lib.hid ((newT_zero C I G).1 hz).2.1
      have HE4 := Lib.hid (hE.on hbX)
      have HF4 := Lib.hid (hE'.on hbW)
      have HQ4 : Hid (∀ b, Q b → b < W4.heap.size) := Lib.hid (fun b hb => Nat.lt_of_lt_of_le (hQ b hb) hbX.size)
      have HQF4 : Hid (∀ b, Q' b → b < W4.heap.size) := Lib.hid (fun b hb => Nat.lt_of_lt_of_le (hQ' b hb) hbW.size)
      have HNS := Lib.hid (names_any W4)
      clear hwk' hdn' hor hiff hW4 hbW hbX hx3 hx4 hb4 HPV3 HB3 HX3 HWK HDN hz hz' hQ hE hQ' hE' he1 hf1 s0 s1
      go_upto_region 4 with (fail)
      rw [HW.out]
      clear HW
      go_wp2_with fail
      with_reducible refine HNS.out.mono ?_
      rintro e w5 ⟨⟨g1, g2, rfl, hs1, hs2, _, _⟩, hb5⟩
      have HE5 := Lib.hid (HE4.out.on hb5)
      have HF5 := Lib.hid (HF4.out.on hb5)
      have HB5 := Lib.hid (below_step HB4.out hb5)
      have HQ5 : Hid (∀ b, Q b → b < w5.heap.size) := Lib.hid (fun b hb => Nat.lt_of_lt_of_le (HQ4.out b hb) hb5.size)
      have HQF5 : Hid (∀ b, Q' b → b < w5.heap.size) := Lib.hid (fun b hb => Nat.lt_of_lt_of_le (HQF4.out b hb) hb5.size)
      have HNC : Hid (∀ u, Below w5.heap.size w5 u → ∀ (j : Nat) y, names5[j]? = some y → u.cell? ⟨g1, j, none⟩ = some (.string y)) := Lib.hid (fun u hu j y hy => by
        obtain ⟨hj, rfl⟩ := List.getElem?_eq_some_iff.1 hy
        obtain ⟨b, off, e1, hb, hc⟩ := hs1.at j hj
        injection e1 with e1; injection e1 with e1 e2 _
        subst e1 e2
        rw [Nat.zero_add] at hc
        exact (hu.cell (p := ⟨g1, j, none⟩) hb).trans hc)
      have HNC2 : Hid (∀ u, Below w5.heap.size w5 u → ∀ (j : Nat) y, cons3[j]? = some y → u.cell? ⟨g2, j, none⟩ = some (.string y)) := Lib.hid (fun u hu j y hy => by
        obtain ⟨hj, rfl⟩ := List.getElem?_eq_some_iff.1 hy
        obtain ⟨b, off, e1, hb, hc⟩ := hs2.at j hj
        injection e1 with e1; injection e1 with e1 e2 _
        subst e1 e2
        rw [Nat.zero_add] at hc
        exact (hu.cell (p := ⟨g2, j, none⟩) hb).trans hc)
      obtain ⟨ai, hai⟩ : ∃ n : Nat, a % 5 = (n : Int) := Int.eq_ofNat_of_zero_le (Int.emod_nonneg _ (by omega))
      obtain ⟨bi, hbi⟩ : ∃ n : Nat, b % 5 = (n : Int) := Int.eq_ofNat_of_zero_le (Int.emod_nonneg _ (by omega))
      obtain ⟨ni, hni⟩ : ∃ k : Nat, n % 3 = (k : Int) := Int.eq_ofNat_of_zero_le (Int.emod_nonneg _ (by omega))
      have hai5 : ai < 5 := by omega
      have hbi5 : bi < 5 := by omega
      have hni3 : ni < 3 := by omega
      obtain ⟨s, hs⟩ : ∃ s, names5[ai]? = some s := ⟨_, List.getElem?_eq_getElem (show ai < 5 from hai5)⟩
      obtain ⟨t, ht⟩ : ∃ t, names5[bi]? = some t := ⟨_, List.getElem?_eq_getElem (show bi < 5 from hbi5)⟩
      obtain ⟨u, hu⟩ : ∃ u, cons3[ni]? = some u := ⟨_, List.getElem?_eq_getElem (show ni < 3 from hni3)⟩
      have hsz : s.size ≤ maxLen := by rw [names5_size s (List.mem_of_getElem? hs)]; decide
      have htz : t.size ≤ maxLen := by rw [names5_size t (List.mem_of_getElem? ht)]; decide
      have huz : u.size ≤ maxLen := cons3_size u (List.mem_of_getElem? hu)
      have HMA := Lib.hid (mod_any ⟨ha1, ha2⟩ (m := 5) ⟨by omega, by omega⟩ w5)
      rw [hai] at HMA
      have ha0 : (0 : Int) ≤ (ai : Int) := by omega
      have hb0 : (0 : Int) ≤ (bi : Int) := by omega
      have hn0 : (0 : Int) ≤ (ni : Int) := by omega
      have ha5 : (ai : Int) < 5 := by omega
      have hb5' : (bi : Int) < 5 := by omega
      have hn3 : (ni : Int) < 3 := by omega
      clear hs1 hs2 hb5 HNS HE4 HF4 HB4 HQ4 HQF4
      go_wp2_with fail
      with_reducible refine HMA.out.mono ?_
      rintro e w6 ⟨rfl, hb6⟩
      have hc6 := HNC.out w6 hb6 ai s hs
      have HMB := Lib.hid (mod_any ⟨hb1, hb2⟩ (m := 5) ⟨by omega, by omega⟩ w6)
      rw [hbi] at HMB
      have HB6w := Lib.hid hb6
      clear hb6 HMA
      go_wp2_with fail
      with_reducible refine HMB.out.mono ?_
      rintro e w7 ⟨rfl, hb7⟩
      have hb57 := below_step HB6w.out hb7
      have hc7 := HNC.out w7 hb57 bi t ht
      have HMC := Lib.hid (mod_any ⟨hn1, hn2⟩ (m := 3) ⟨by omega, by omega⟩ w7)
      rw [hni] at HMC
      have HB7w := Lib.hid hb57
      clear hb7 hb57 HMB HB6w hc6
      go_wp2_with fail
      with_reducible refine HMC.out.mono ?_
      rintro e w8 ⟨rfl, hb8⟩
      have hb58 := below_step HB7w.out hb8
      have hc8 := HNC2.out w8 hb58 ni u hu
      have HE8 := Lib.hid (HE5.out.on hb58)
      have HF8 := Lib.hid (HF5.out.on hb58)
      have HB8 := Lib.hid (below_step HB5.out hb58)
      have HQ8 : Hid (∀ b, Q b → b < w8.heap.size) := Lib.hid (fun b hb => Nat.lt_of_lt_of_le (HQ5.out b hb) hb58.size)
      have HQF8 : Hid (∀ b, Q' b → b < w8.heap.size) := Lib.hid (fun b hb => Nat.lt_of_lt_of_le (HQF5.out b hb) hb58.size)
      have HPA := Lib.hid (path_any HE8.out HQ8.out HGC.out.ok hsz htz)
      clear hb8 hb58 HMC HB7w HE5 HF5 HB5 HQ5 HQF5 HNC HNC2 hs ht hu hc7
      go_wp2_with fail
      with_reducible refine HPA.out.mono ?_
      rintro e w9 hp
      obtain ⟨hb9, is, u1, A1, c1, rfl, hr1, hisd, hr2⟩ := path_form hp
      clear hr1 hr2
      have HE9 := Lib.hid (HE8.out.on hb9)
      have HF9 := Lib.hid (HF8.out.on hb9)
      have HB9 := Lib.hid (below_step HB8.out hb9)
      have HQ9 : Hid (∀ b, Q b → b < w9.heap.size) := Lib.hid (fun b hb => Nat.lt_of_lt_of_le (HQ8.out b hb) hb9.size)
      have HQF9 : Hid (∀ b, Q' b → b < w9.heap.size) := Lib.hid (fun b hb => Nat.lt_of_lt_of_le (HQF8.out b hb) hb9.size)
      have HPB := Lib.hid (path_any HF9.out HQF9.out HGC.out.rev.1 hsz htz)
      have HISD := Lib.hid hisd
      clear hp hb9 hisd HPA HE8 HF8 HB8 HQ8 HQF8 hc8
      go_wp2_with fail
      with_reducible refine HPB.out.mono ?_
      rintro e w10 hp
      obtain ⟨hb10, was, u2, A2, c2, rfl, hr1, hwas, hr2⟩ := path_form hp
      clear hr1 hr2
      have hww : was = is := by rw [hwas, HISD.out, above_rev HGC.out]
      subst hww
      have HE10 := Lib.hid (HE9.out.on hb10)
      have HF10 := Lib.hid (HF9.out.on hb10)
      have HB10 := Lib.hid (below_step HB9.out hb10)
      have HQ10 : Hid (∀ b, Q b → b < w10.heap.size) := Lib.hid (fun b hb => Nat.lt_of_lt_of_le (HQ9.out b hb) hb10.size)
      have HQF10 : Hid (∀ b, Q' b → b < w10.heap.size) := Lib.hid (fun b hb => Nat.lt_of_lt_of_le (HQF9.out b hb) hb10.size)
      have HI1 := Lib.hid (inst_any HE10.out s u hsz huz)
      clear hp hb10 hwas HPB HE9 HF9 HB9 HQ9 HQF9 HISD
      obtain ⟨o1, ho1⟩ : ∃ o, instF I 0 s u = o := ⟨_, rfl⟩
      obtain ⟨o2, ho2⟩ : ∃ o, instF I.reverse 0 s u = o := ⟨_, rfl⟩
      have hhd1 : headH I ⟨(s, u), hsz, huz⟩ = o1 := ho1
      have hhd2 : headH I.reverse ⟨(s, u), hsz, huz⟩ = o2 := ho2
      have hoo : o2.isSome = o1.isSome := by rw [← ho1, ← ho2]; exact inst_rev s u
      rw [hhd1] at HI1
      go_wp2_with fail
      with_reducible refine HI1.out.mono ?_
      rintro e w11 ⟨rfl, hb11⟩
      have HE11 := Lib.hid (HE10.out.on hb11)
      have HF11 := Lib.hid (HF10.out.on hb11)
      have HB11 := Lib.hid (below_step HB10.out hb11)
      have HQ11 : Hid (∀ b, Q b → b < w11.heap.size) := Lib.hid (fun b hb => Nat.lt_of_lt_of_le (HQ10.out b hb) hb11.size)
      have HQF11 : Hid (∀ b, Q' b → b < w11.heap.size) := Lib.hid (fun b hb => Nat.lt_of_lt_of_le (HQF10.out b hb) hb11.size)
      have HI2 := Lib.hid (inst_any HF11.out s u hsz huz)
      rw [hhd2] at HI2
      clear hb11 HI1 HE10 HF10 HB10 HQ10 HQF10 hhd1 hhd2
      go_wp2_with fail
      with_reducible refine HI2.out.mono ?_
      rintro e w12 ⟨rfl, hb12⟩
      have HE12 := Lib.hid (HE11.out.on hb12)
      have HF12 := Lib.hid (HF11.out.on hb12)
      have HB12 := Lib.hid (below_step HB11.out hb12)
      have HQ12 : Hid (∀ b, Q b → b < w12.heap.size) := Lib.hid (fun b hb => Nat.lt_of_lt_of_le (HQ11.out b hb) hb12.size)
      have HQF12 : Hid (∀ b, Q' b → b < w12.heap.size) := Lib.hid (fun b hb => Nat.lt_of_lt_of_le (HQF11.out b hb) hb12.size)
      clear hb12 HI2 HE11 HF11 HB11 HQ11 HQF11
      cases o1 with
      | none =>
        cases o2 with
        | some m => cases hoo
        | none =>
          have HAB := Lib.hid (above_any HE12.out HQ12.out HGC.out.ok s hsz)
          have HE14 := HE12
          have HF14 := HF12
          have HB14 := HB12
          have HQ14 := HQ12
          have HQF14 := HQF12
          clear HE12 HF12 HB12 HQ12 HQF12 ho1 ho2 hoo
          go_wp2_with fail
          with_reducible refine HAB.out.mono ?_
          rintro e w15 ⟨rv, L1, rfl, hL1, hL1e, hL1l, hb15⟩
          have hL1e := hL1e (C.length + 1) (by omega)
          obtain ⟨Ax, cx, rfl, _⟩ := own_form hL1
          have HL1 := Lib.hid hL1e
          have HF15 := Lib.hid (HF14.out.on hb15)
          have HE15 := Lib.hid (HE14.out.on hb15)
          have HB15 := Lib.hid (below_step HB14.out hb15)
          have HQF15 : Hid (∀ b, Q' b → b < w15.heap.size) := Lib.hid (fun b hb => Nat.lt_of_lt_of_le (HQF14.out b hb) hb15.size)
          have HAB2 := Lib.hid (above_any HF15.out HQF15.out HGC.out.rev.1 s hsz)
          clear hL1 hL1e hb15 HAB HE14 HF14 HB14 HQF14 HQ14
          go_wp2_with fail
          with_reducible refine HAB2.out.mono ?_
          rintro e w16 ⟨rv, L2, rfl, hL2, hL2e, hL2l, hb16⟩
          have hL2e := hL2e (C.reverse.length + 1) (by omega)
          rw [above_rev HGC.out, ← HL1.out] at hL2e
          subst hL2e
          obtain ⟨Ay, cy, rfl, _⟩ := own_form hL2
          have HF16 := Lib.hid (HF15.out.on hb16)
          have HB16 := Lib.hid (below_step HB15.out hb16)
          have HN1 := Lib.hid (len_any (HE15.out.on hb16))
          clear hL2 hb16 HAB2 HE15 HF15 HB15 HQF15 HL1
          go_wp2_with fail
          with_reducible refine HN1.out.mono ?_
          rintro e w17 ⟨rfl, hb17⟩
          have HB17 := Lib.hid (below_step HB16.out hb17)
          have HN2 := Lib.hid (len_any (HF16.out.on hb17))
          rw [List.length_reverse] at HN2
          clear hb17 HN1 HB16 HF16
          go_wp2_with fail
          with_reducible refine HN2.out.mono ?_
          rintro e w18 ⟨rfl, hb18⟩
          have HB18 := Lib.hid (below_step HB17.out hb18)
          have HL := Lib.hid (HLV.out w18)
          clear hb18 HN2 HB17
          go_wp2_with fail
          with_reducible refine HL.out.mono ?_
          rintro e w19 ⟨rfl, hb19⟩
          have HB19 := Lib.hid (below_step HB18.out hb19)
          clear hb19
          go_wp2_with fail
          show bodyPost _ _ _ _ _ _
          go_ret
          exact ⟨rfl, HB19.out⟩
      | some n1 =>
        cases o2 with
        | none => cases hoo
        | some m1 =>
          have HA1 := Lib.hid (at_any HE12.out (n1 : Int))
          have hxy := inst_same HOV.out ho1 ho2
          generalize atI I (n1 : Int) = x at *
          unfold insV at HA1
          have HXY := Lib.hid hxy
          clear ho1 ho2 hoo hxy
          simp only [Option.getD_some, Option.isSome_some]
          go_wp2_with fail
          with_reducible refine HA1.out.mono ?_
          rintro e w13 ⟨rfl, hb13⟩
          have HE13 := Lib.hid (HE12.out.on hb13)
          have HF13 := Lib.hid (HF12.out.on hb13)
          have HB13 := Lib.hid (below_step HB12.out hb13)
          have HQ13 : Hid (∀ b, Q b → b < w13.heap.size) := Lib.hid (fun b hb => Nat.lt_of_lt_of_le (HQ12.out b hb) hb13.size)
          have HQF13 : Hid (∀ b, Q' b → b < w13.heap.size) := Lib.hid (fun b hb => Nat.lt_of_lt_of_le (HQF12.out b hb) hb13.size)
          have HA2 := Lib.hid (at_any HF13.out (m1 : Int))
          rw [← HXY.out] at HA2
          unfold insV at HA2
          have hfl1 := fun W : World => field70_1 (.string x.cls) (.int .i64 x.atp) (.string x.con) (.slice none 0 0) (.slice none 0 0) (.slice none 0 0) W
          clear hb13 HA1 HE12 HF12 HB12 HQ12 HQF12
          go_wp2_with fail
          with_reducible refine HA2.out.mono ?_
          rintro e w14 ⟨rfl, hb14⟩
          have HE14 := Lib.hid (HE13.out.on hb14)
          have HF14 := Lib.hid (HF13.out.on hb14)
          have HB14 := Lib.hid (below_step HB13.out hb14)
          have HQ14 : Hid (∀ b, Q b → b < w14.heap.size) := Lib.hid (fun b hb => Nat.lt_of_lt_of_le (HQ13.out b hb) hb14.size)
          have HQF14 : Hid (∀ b, Q' b → b < w14.heap.size) := Lib.hid (fun b hb => Nat.lt_of_lt_of_le (HQF13.out b hb) hb14.size)
          have HAB := Lib.hid (above_any HE14.out HQ14.out HGC.out.ok s hsz)
          clear hb14 HA2 HE13 HF13 HB13 HQ13 HQF13
          go_wp2_with fail
          with_reducible refine HAB.out.mono ?_
          rintro e w15 ⟨rv, L1, rfl, hL1, hL1e, hL1l, hb15⟩
          have hL1e := hL1e (C.length + 1) (by omega)
          obtain ⟨Ax, cx, rfl, _⟩ := own_form hL1
          have HL1 := Lib.hid hL1e
          have HF15 := Lib.hid (HF14.out.on hb15)
          have HE15 := Lib.hid (HE14.out.on hb15)
          have HB15 := Lib.hid (below_step HB14.out hb15)
          have HQF15 : Hid (∀ b, Q' b → b < w15.heap.size) := Lib.hid (fun b hb => Nat.lt_of_lt_of_le (HQF14.out b hb) hb15.size)
          have HAB2 := Lib.hid (above_any HF15.out HQF15.out HGC.out.rev.1 s hsz)
          clear hL1 hL1e hb15 HAB HE14 HF14 HB14 HQF14 HQ14
          go_wp2_with fail
          with_reducible refine HAB2.out.mono ?_
          rintro e w16 ⟨rv, L2, rfl, hL2, hL2e, hL2l, hb16⟩
          have hL2e := hL2e (C.reverse.length + 1) (by omega)
          rw [above_rev HGC.out, ← HL1.out] at hL2e
          subst hL2e
          obtain ⟨Ay, cy, rfl, _⟩ := own_form hL2
          have HF16 := Lib.hid (HF15.out.on hb16)
          have HB16 := Lib.hid (below_step HB15.out hb16)
          have HN1 := Lib.hid (len_any (HE15.out.on hb16))
          clear hL2 hb16 HAB2 HE15 HF15 HB15 HQF15 HL1
          go_wp2_with fail
          with_reducible refine HN1.out.mono ?_
          rintro e w17 ⟨rfl, hb17⟩
          have HB17 := Lib.hid (below_step HB16.out hb17)
          have HN2 := Lib.hid (len_any (HF16.out.on hb17))
          rw [List.length_reverse] at HN2
          clear hb17 HN1 HB16 HF16
          go_wp2_with fail
          with_reducible refine HN2.out.mono ?_
          rintro e w18 ⟨rfl, hb18⟩
          have HB18 := Lib.hid (below_step HB17.out hb18)
          have HL := Lib.hid (HLV.out w18)
          clear hb18 HN2 HB17
          go_wp2_with fail
          with_reducible refine HL.out.mono ?_
          rintro e w19 ⟨rfl, hb19⟩
          have HB19 := Lib.hid (below_step HB18.out hb19)
          clear hb19
          go_wp2_with fail
          show bodyPost _ _ _ _ _ _
          go_ret
          exact ⟨rfl, HB19.out⟩
end Go.Proofs.Ytjfhncbfbhkhgaa
