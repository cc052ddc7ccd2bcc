/- KindsOf (chapter 3), the law's walk. Condition: the two arguments read as slices of numbers. -/
import Derived.Test.YtomhojpoaicioaaPOf
import Derived.Test.YtomhojpoaicioaaROf
import Derived.Test.YtomhojpoaicioaaLSame
import Derived.Test.YtomhojpoaicioaaKindS
import Derived.Test.YtomhojpoaicioaaRowN
import Derived.Test.YtomhojpoaicioaaFresh
import Derived.Test.YtomhojpoaicioaaKind
import Derived.Test.YtomhojpoaicioaaLives
import Derived.Test.YtomhojpoaicioaaOpen
import Derived.Deep.DeepCutAuto
import Derived.Deep.RegionLaw
import Derived.Deep.RegionHeld3
import Derived.Test.YtomhojpoaicioaaEqual
import Derived.Test.YtomhojpoaicioaaRowM
namespace Go.Proofs.Ytomhojpoaicioaa
open Go.RowKit Tm

theorem ground_arr {a b : Tm} (h : Ground (.arr a b)) : Ground a ∧ Ground b := by
  refine ⟨fun n => ?_, fun n => ?_⟩
  · have h9 : (a.occ n || b.occ n) = false := h n
    exact (Bool.or_eq_false_iff.1 h9).1
  · have h9 : (a.occ n || b.occ n) = false := h n
    exact (Bool.or_eq_false_iff.1 h9).2
theorem unif_ground : ∀ (f : Nat) (σ : Sb) (a b : Tm), Ground a → Ground b → unif f σ a b = .error 99 ∨ (a = b ∧ unif f σ a b = .ok σ) ∨ (a ≠ b ∧ unif f σ a b = .error 30)
  | 0, _, _, _, _, _ => .inl rfl
  | f + 1, σ, .var n, b, ha, _ => by have h9 := ha n; simp [occ] at h9
  | f + 1, σ, .star, .var n, _, hb => by have h9 := hb n; simp [occ] at h9
  | f + 1, σ, .star, .star, _, _ => .inr (.inl ⟨rfl, rfl⟩)
  | f + 1, σ, .star, .arr b1 b2, _, _ => .inr (.inr ⟨(fun h => by cases h), rfl⟩)
  | f + 1, σ, .arr a1 a2, .var n, _, hb => by have h9 := hb n; simp [occ] at h9
  | f + 1, σ, .arr a1 a2, .star, _, _ => .inr (.inr ⟨(fun h => by cases h), rfl⟩)
  | f + 1, σ, .arr a1 a2, .arr b1 b2, ha, hb => by
    have e : unif (f + 1) σ (.arr a1 a2) (.arr b1 b2) = match unif f σ a1 b1 with | .error e => .error e | .ok σ' => unif f σ' a2 b2 := by
      conv => lhs; unfold unif
      simp only [sub, ground_sub (ground_arr ha).1, ground_sub (ground_arr ha).2, ground_sub (ground_arr hb).1, ground_sub (ground_arr hb).2]
      cases unif f σ a1 b1 <;> rfl
    rw [e]
    rcases unif_ground f σ a1 b1 (ground_arr ha).1 (ground_arr hb).1 with h | ⟨h1, h⟩ | ⟨h1, h⟩
    · rw [h]; exact .inl rfl
    · rw [h]
      rcases unif_ground f σ a2 b2 (ground_arr ha).2 (ground_arr hb).2 with q | ⟨q1, q⟩ | ⟨q1, q⟩
      · exact .inl q
      · exact .inr (.inl ⟨by rw [h1, q1], q⟩)
      · exact .inr (.inr ⟨fun h9 => by injection h9 with _ h9; exact q1 h9, q⟩)
    · rw [h]; exact .inr (.inr ⟨fun h9 => by injection h9 with h9; exact h1 h9, rfl⟩)
theorem ground_vars {t : Tm} (h : Ground t) (N : Nat) : VarsTo N t := fun m hm => by rw [h m] at hm; cases hm
/-- Two kinds' terms: made one just if the kinds are the same, and nothing is known by it. -/
theorem ans_kinds {N : Nat} {σ : Sb} (hi : Idem σ) (hv : InV N σ) (a b : K) : ∃ r, Ans σ (ofK a) (ofK b) r ∧ (a = b → r = .ok σ) ∧ (a ≠ b → r = .error 30) := by
  obtain ⟨r, f, e, ne⟩ := ans_is hi hv (ground_vars (ofK_ground a) N) (ground_vars (ofK_ground b) N)
  refine ⟨r, ⟨f, e, ne⟩, fun h => ?_, fun h => ?_⟩
  · rcases unif_ground f σ (ofK a) (ofK b) (ofK_ground a) (ofK_ground b) with q | ⟨_, q⟩ | ⟨q1, _⟩
    · exact absurd (e.symm.trans q) ne
    · exact e.symm.trans q
    · exact absurd (congrArg ofK h) q1
  · rcases unif_ground f σ (ofK a) (ofK b) (ofK_ground a) (ofK_ground b) with q | ⟨q1, _⟩ | ⟨_, q⟩
    · exact absurd (e.symm.trans q) ne
    · exact absurd (ofK_inj q1) h
    · exact e.symm.trans q
/-- A new variable is made one with a kind's term. -/
theorem ans_new (n : Nat) (a : K) : Ans var (.var n) (ofK a) (.ok (bindS var n (ofK a))) := by
  have hg := ofK_ground a
  refine ⟨1, ?_, fun h => by cases h⟩
  have ho := hg n
  generalize ofK a = t at *
  cases t with
  | var m => have h9 := hg m; simp [occ] at h9
  | star => rfl
  | arr b1 b2 =>
    have e : unif 1 var (.var n) (.arr b1 b2) = bindT var n ((Tm.arr b1 b2).sub var) := rfl
    rw [e, sub_var]
    unfold bindT
    rw [if_neg (by rw [ho]; exact Bool.false_ne_true)]
theorem bind_new (n : Nat) (a : K) : (bindS var n (ofK a)) n = ofK a := by
  show (single n (ofK a)) n = ofK a
  unfold single
  rw [if_pos rfl]
theorem arrN_ofK (k : K) : arrN (ofK k) + 1 = K.sz k := by
  refine K.induct (P := fun k => arrN (ofK k) + 1 = K.sz k) ?_ ?_ k
  · rw [ofK_nil, K.sz_mk]; rfl
  · intro k l hk hl
    rw [ofK_cons, K.sz_mk]
    rw [K.sz_mk] at hl
    simp only [arrN, List.map_cons, List.sum_cons]
    omega
theorem depth_arrK : ∀ t : Tm, t.depth ≤ arrN t
  | .var _ => Nat.le_refl _
  | .star => Nat.le_refl _
  | .arr a b => by have h1 := depth_arrK a; have h2 := depth_arrK b; simp only [depth, arrN]; omega
theorem arr_ofK {k : K} (h : K.sz k ≤ 81) : arrN (ofK k) ≤ 80 ∧ (ofK k).depth ≤ 80 := by
  have h1 := arrN_ofK k
  have h2 := depth_arrK (ofK k)
  omega
end Go.Proofs.Ytomhojpoaicioaa
namespace Go.Proofs.Ytomhojpoaicioaa
open Go.RowKit Tm

theorem madeO_sz : ∀ (f : Nat) (l : List Int), K.sz (madeK f l).1 ≤ 3 ^ f
  | 0, l => by show K.sz (.mk []) ≤ 1; rw [K.sz_mk]; simp
  | f + 1, [] => by show K.sz (.mk []) ≤ _; rw [K.sz_mk]; exact Nat.one_le_pow _ _ (by omega)
  | f + 1, z :: l => by
    show K.sz (.mk (manyK (madeK f) (howMany z) l).1) ≤ _
    rw [K.sz_mk]
    have key : ∀ n l, ((manyK (madeK f) n l).1.map K.sz).sum ≤ n * 3 ^ f := by
      intro n
      induction n with
      | zero => intro l; simp [manyK]
      | succ n ih =>
        intro l
        simp only [manyK, List.map_append, List.sum_append, List.map_cons, List.map_nil, List.sum_cons, List.sum_nil]
        have h1 := ih l
        have h2 := madeO_sz f (manyK (madeK f) n l).2
        rw [Nat.succ_mul]; omega
    have h1 := key (howMany z) l
    have h2 : howMany z * 3 ^ f ≤ 2 * 3 ^ f := Nat.mul_le_mul_right _ (howMany_le z)
    have h3 : 1 ≤ 3 ^ f := Nat.one_le_pow _ _ (by omega)
    rw [Nat.pow_succ]; omega
theorem kindO_sz (zs : List Int) : K.sz (kindZ zs) ≤ 81 := madeO_sz 4 _
set_option maxRecDepth 100000 in
set_option maxHeartbeats 1000000 in
theorem freshq_any (P : Nat → Prop) (w : World) (sb mb sz : Nat) (made : Int) (kn : Kn) (h : SolAt P w sb mb sz made kn) (hP : ¬ P sb) (hmb : mb ≠ sb) (hm0 : 0 ≤ made) (hm : made < 1000000) :
    Calls Try.prog 23 #[.pointer (some ⟨sb, 0, none⟩)] w fun e w' => e = .returned (.agg #[.int .i64 1, .int .i64 (made + 1), .slice none 0 0]) ∧ SolAt P w' sb mb sz (made + 1) kn ∧ (∀ b, b < w.heap.size → b ≠ sb → w'.heap[b]? = w.heap[b]?) ∧ w.heap.size ≤ w'.heap.size ∧ Quiet w w' := by
  have s0 := h.c0
  have s1 := h.c1
  have sf := h.f0
  have slt := h.lt
  have HS := Lib.hid h
  clear h
  go_enter Try.func23, Try.ntmps23
  go_wp2_with fail
  have hS1 : SolAt P (w.setCell ⟨sb, 0, none⟩ (.int .i64 (made + 1))) sb mb sz (made + 1) kn := by
    have h := HS.out
    refine ⟨by simp [go_sem, s0], by simp [go_sem, s1], by simp [go_sem, sf], by simpa using slt, ?_⟩
    obtain ⟨f, hM, hf⟩ := h.known
    refine ⟨f, hM.setCell hmb _, fun x => ?_⟩
    have h9 := hf x
    cases e : kn x with
    | none => rw [e] at h9; exact h9
    | some t => rw [e] at h9; obtain ⟨v, e1, e2⟩ := h9; exact ⟨v, e1, e2.keep (.setCell hP _)⟩
  have hblk : ∀ b, b ≠ sb → (w.setCell ⟨sb, 0, none⟩ (.int .i64 (made + 1))).heap[b]? = w.heap[b]? := fun b hb => Below.heap_setCell _ _ _ _ (fun e => hb (by have e' : b = sb := e; exact e'))
  have HQ : Hid (Quiet w (w.setCell ⟨sb, 0, none⟩ (.int .i64 (made + 1)))) := .setCell _ _ _
  have hz1 : (w.setCell ⟨sb, 0, none⟩ (.int .i64 (made + 1))).heap.size = w.heap.size := by simp
  generalize w.setCell ⟨sb, 0, none⟩ (.int .i64 (made + 1)) = w1 at *
  have hb2 := below_new w1 (.cells #[.int .i64 0, .int .i64 0, .slice none 0 0] 49)
  have r0 : (w1.alloc (.cells #[.int .i64 0, .int .i64 0, .slice none 0 0] 49)).cell? ⟨w1.heap.size, 0, none⟩ = some (.int .i64 0) := by simp [go_sem]
  have r1 : (w1.alloc (.cells #[.int .i64 0, .int .i64 0, .slice none 0 0] 49)).cell? ⟨w1.heap.size, 1, none⟩ = some (.int .i64 0) := by simp [go_sem]
  have r2 : (w1.alloc (.cells #[.int .i64 0, .int .i64 0, .slice none 0 0] 49)).cell? ⟨w1.heap.size, 2, none⟩ = some (.slice none 0 0) := by simp [go_sem]
  have fz : ∀ i, (w1.alloc (.cells #[.int .i64 0, .int .i64 0, .slice none 0 0] 49)).frozen? ⟨w1.heap.size, i, none⟩ = false := fun i => by simp [go_sem]
  have hz2 : w1.heap.size < (w1.alloc (.cells #[.int .i64 0, .int .i64 0, .slice none 0 0] 49)).heap.size := by simp
  rw [hz1] at r0 r1 r2 fz hz2
  generalize w1.alloc (.cells #[.int .i64 0, .int .i64 0, .slice none 0 0] 49) = w2 at *
  refine (variable_any _ _).mono ?_
  rintro e w5 ⟨rfl, hb5⟩
  have g0 := (hb5.cell (p := ⟨w.heap.size, 0, none⟩) hz2).trans r0
  have g1 := (hb5.cell (p := ⟨w.heap.size, 1, none⟩) hz2).trans r1
  have g2 := (hb5.cell (p := ⟨w.heap.size, 2, none⟩) hz2).trans r2
  have h0 := (hb5.frozen (p := ⟨w.heap.size, 0, none⟩) hz2).trans (fz 0)
  have h1 := (hb5.frozen (p := ⟨w.heap.size, 1, none⟩) hz2).trans (fz 1)
  have h2 := (hb5.frozen (p := ⟨w.heap.size, 2, none⟩) hz2).trans (fz 2)
  have hb := hb2.trans (hb5.mono hb2.size)
  have hb6 := ((hb.setCell (p := ⟨w.heap.size, 0, none⟩) (Nat.le_of_eq hz1) (.int .i64 1)).setCell (p := ⟨w.heap.size, 1, none⟩) (Nat.le_of_eq hz1) (.int .i64 (made + 1))).setCell (p := ⟨w.heap.size, 2, none⟩) (Nat.le_of_eq hz1) (.slice none 0 0)
  have HB6 := Lib.hid hb6
  have HS1 := Lib.hid hS1
  have HBLK := Lib.hid hblk
  have HZ1 := Lib.hid hz1
  clear hb hb2 hb5 hb6 r0 r1 r2 fz hS1 hblk hz1 s0 s1 sf
  go_wp2
  refine bodyPost_ret (v := .agg #[.int .i64 1, .int .i64 (made + 1), .slice none 0 0]) (by simp [results, Try.results23, go_sem, g0, g1, g2]) rfl ⟨rfl, HS1.out.on HB6.out, fun b hlt hne => (HB6.out.block b (by rw [HZ1.out]; exact hlt)).trans (HBLK.out b hne), by have := HB6.out.size; rw [HZ1.out] at this; exact this, HQ.out.trans (.of_below HB6.out)⟩

abbrev NoB : Nat → Prop := fun _ => False
/-- What Equal of two kinds' terms answered. -/
def EqK (sb mb : Nat) (a b : K) (y : World) (e : Ending) (y' : World) : Prop := ∃ (q : Int) (s : KS), e = .returned (.int .i64 q) ∧ ((a = b ∧ q = 0) ∨ (a ≠ b ∧ q = 30)) ∧ Top NoB 5 y' sb mb 0 s var ∧ s.sz ≤ 200 ∧ Kept sb mb y y'
theorem eqk_any (y : World) (sb mb : Nat) (a b : K) (va vb : Value) (ha : K.sz a ≤ 81) (hb : K.sz b ≤ 81) (h : Top NoB 5 y sb mb 0 ⟨fun _ => none, 0, []⟩ var)
    (h1 : ZAt (PT NoB sb mb) y (emb (ofK a)) va) (h2 : ZAt (PT NoB sb mb) y (emb (ofK b)) vb) : Calls Try.prog 27 #[.pointer (some ⟨sb, 0, none⟩), va, vb] y (EqK sb mb a b y) := by
  obtain ⟨r, hr, r1, r2⟩ := ans_kinds (N := 5) idem_var inV_var a b
  have l1 := arr_ofK ha
  have l2 := arr_ofK hb
  have lv : leftN 5 var = 6 := left_var
  refine (equal_any NoB 5 1000 y sb mb 0 ⟨fun _ => none, 0, []⟩ var (ofK a) (ofK b) r va vb h h1 h2 hr (ofK_ground a 0) (ofK_ground b 0) (ground_vars (ofK_ground a) 5) (ground_vars (ofK_ground b) 5) (by show 0 + leftN 5 var + _ + _ ≤ 1000; omega) (by omega) (by omega) (fun b h => h.elim)).mono ?_
  rintro e y' ⟨hk, h9⟩
  by_cases hab : a = b
  · rw [r1 hab] at h9
    obtain ⟨rfl, s', hT, hs⟩ := h9
    have hs' : s'.sz + leftN 5 var ≤ 0 + leftN 5 var + (arrN (ofK a) + arrN (ofK b)) := hs
    exact ⟨0, s', rfl, .inl ⟨hab, rfl⟩, hT, by omega, hk⟩
  · rw [r2 hab] at h9
    obtain ⟨rfl, hT⟩ := h9
    exact ⟨30, _, rfl, .inr ⟨hab, rfl⟩, hT, Nat.zero_le _, hk⟩
/-- What Equal of a new variable and a kind's term answered. -/
def EqV (sb mb : Nat) (a : K) (y : World) (e : Ending) (y' : World) : Prop := ∃ (s : KS), e = .returned (.int .i64 0) ∧ Top NoB 5 y' sb mb 1 s (bindS var 1 (ofK a)) ∧ Kept sb mb y y'
theorem eqv_any (y : World) (sb mb : Nat) (a : K) (va vb : Value) (s : KS) (ha : K.sz a ≤ 81) (h : Top NoB 5 y sb mb 1 s var) (hs : s.sz ≤ 200)
    (h1 : ZAt (PT NoB sb mb) y (emb (.var 1)) va) (h2 : ZAt (PT NoB sb mb) y (emb (ofK a)) vb) : Calls Try.prog 27 #[.pointer (some ⟨sb, 0, none⟩), va, vb] y (EqV sb mb a y) := by
  have l1 := arr_ofK ha
  have lv : leftN 5 var = 6 := left_var
  refine (equal_any NoB 5 1000 y sb mb 1 s var (.var 1) (ofK a) _ va vb h h1 h2 (ans_new 1 a) rfl (ofK_ground a 0) (fun m hm => by simp [occ] at hm; omega) (ground_vars (ofK_ground a) 5) (by show s.sz + leftN 5 var + 0 + _ ≤ 1000; omega) (by omega) (by omega) (fun b h => h.elim)).mono ?_
  rintro e y' ⟨hk, rfl, s', hT, _⟩
  exact ⟨s', rfl, hT, hk⟩
theorem pt_of {sb mb B : Nat} (h1 : sb < B) (h2 : mb < B) : ∀ b, B ≤ b → PT NoB sb mb b := fun b hb => ⟨by omega, by omega, fun h => h⟩
set_option maxRecDepth 100000 in
set_option maxHeartbeats 4000000 in
theorem kindsOf_walk (P Q : Nat → Prop) (v1 v2 : Value) (zs ys : List Int) (w : World) (h1 : IntsAt P w v1 zs) (h2 : IntsAt Q w v2 ys) : Calls Try.prog 8 #[v1, v2] w (TrueB w) := by
  have hc1 : ∀ y, Below w.heap.size w y → Calls Try.prog 10 #[v1] y (KindMade y (kindZ zs)) := fun y hy => kind_any P v1 zs y (h1.on hy)
  have hc2 : ∀ y, Below w.heap.size w y → Calls Try.prog 10 #[v2] y (KindMade y (kindZ ys)) := fun y hy => kind_any Q v2 ys y (h2.on hy)
  have HS1 := Lib.hid (kindO_sz zs)
  have HS2 := Lib.hid (kindO_sz ys)
  obtain ⟨A1, c1, rfl, _⟩ := h1
  obtain ⟨A2, c2, rfl, _⟩ := h2
  generalize kindZ zs = a at *
  generalize kindZ ys = b at *
  have HC1 := Lib.hid hc1
  have HC2 := Lib.hid hc2
  have HN := Lib.hid (new_any w)
  clear hc1 hc2
  go_enter Try.func8, Try.ntmps8
  go_wp2_with fail
  refine HN.out.mono ?_
  rintro e w1 ⟨sb, mb, rfl, g1, g2, g3, hS, hb1⟩
  have HT1 : Hid (Top NoB 5 w1 sb mb 0 ⟨fun _ => none, 0, []⟩ var) := top_new hS g3
  have HB1 := Lib.hid hb1
  clear hS hb1
  go_wp2_with fail
  refine (HC1.out w1 HB1.out).mono ?_
  rintro e w2 ⟨kv1, rfl, hk1, hb2⟩
  obtain ⟨Aa, na, ca, rfl⟩ := kform hk1
  have hbn := below_new w2 (.cells #[.slice Aa na ca] 25)
  have hz2 : (w2.alloc (.cells #[.slice Aa na ca] 25)).heap.size = w2.heap.size + 1 := by simp
  have HX6 : Hid ((w2.alloc (.cells #[.slice Aa na ca] 25)).cell? ⟨w2.heap.size, 0, none⟩ = some (.slice Aa na ca)) := Lib.hid (by simp [go_sem])
  have HK1 := Lib.hid (hk1.on hbn)
  have HT2 := Lib.hid ((HT1.out.on hb2).on hbn)
  have HB2 := Lib.hid ((HB1.out.trans (hb2.mono HB1.out.size)).trans (hbn.mono (Nat.le_trans HB1.out.size hb2.size)))
  have hz12 := hb2.size
  clear hk1 hb2 hbn
  go_wp2_with fail
  generalize w2.alloc (.cells #[.slice Aa na ca] 25) = W2 at *
  refine (HC2.out W2 HB2.out).mono ?_
  rintro e w3 ⟨kv2, rfl, hk2, hb3⟩
  obtain ⟨Ab, nb, cb, rfl⟩ := kform hk2
  have hbn := below_new w3 (.cells #[.slice Ab nb cb] 25)
  have hz3 : (w3.alloc (.cells #[.slice Ab nb cb] 25)).heap.size = w3.heap.size + 1 := by simp
  have hz23 := hb3.size
  have hb34 := hb3.trans (hbn.mono hz23)
  have HX7 : Hid ((w3.alloc (.cells #[.slice Ab nb cb] 25)).cell? ⟨w3.heap.size, 0, none⟩ = some (.slice Ab nb cb)) := Lib.hid (by simp [go_sem])
  have HX6' := Lib.hid ((hb34.cell (p := ⟨w2.heap.size, 0, none⟩) (show w2.heap.size < W2.heap.size by omega)).trans HX6.out)
  have HKB := Lib.hid (hk2.on hbn)
  have HKA := Lib.hid (HK1.out.on hb34)
  have HT4 := Lib.hid (HT2.out.on hb34)
  have HB4 := Lib.hid (HB2.out.trans (hb34.mono HB2.out.size))
  clear hk2 hb3 hbn hb34
  go_wp2_with fail
  generalize w3.alloc (.cells #[.slice Ab nb cb] 25) = W4 at *
  have hx6 := HX6'.out
  have hx7 := HX7.out
  have l6 := World.block_lt_of_cell? W4 _ hx6
  have l7 := World.block_lt_of_cell? W4 _ hx7
  have lsb := HT4.out.sol.lt
  have lmb := HT4.out.sol.known.lt
  have hdr : Below W4.heap.size W4 W4.drew := (Below.refl _ _).drew
  have HCa : Hid (∀ y, Below W4.heap.size W4 y → Calls Try.prog 31 #[.agg #[.slice Aa na ca]] y (OfKRes y a)) := fun y hy => pof_any _ _ a _ y (Nat.le_refl _) (HKA.out.on hy)
  have HCb : Hid (∀ y, Below W4.heap.size W4 y → Calls Try.prog 31 #[.agg #[.slice Ab nb cb]] y (OfKRes y b)) := fun y hy => pof_any _ _ b _ y (Nat.le_refl _) (HKB.out.on hy)
  have HEQ : Hid (∀ y u v, Below W4.heap.size W4 y → ZAt (fun x => W4.heap.size ≤ x) y (emb (ofK a)) u → ZAt (fun x => W4.heap.size ≤ x) y (emb (ofK b)) v → Calls Try.prog 27 #[.pointer (some ⟨sb, 0, none⟩), u, v] y (EqK sb mb a b y)) := fun y u v hy q1 q2 =>
    eqk_any y sb mb a b u v HS1.out HS2.out (HT4.out.on hy) (q1.mono (pt_of lsb lmb)) (q2.mono (pt_of lsb lmb))
  go_cut [8] (fun v wx => ∃ (q : Int) (s : KS), v = .int .i64 q ∧ ((a = b ∧ q = 0) ∨ (a ≠ b ∧ q = 30)) ∧ Top NoB 5 wx sb mb 0 s var ∧ s.sz ≤ 200 ∧ Kept sb mb W4 wx)
  case first =>
    go_region_law (first
      | (go_simp; go_at_call 31; (with_reducible refine (HCa.out _ hdr).mono ?_); rintro e y1 ⟨u1, rfl, q1, hy1⟩; have hy1' := hdr.trans (hy1.mono hdr.size); have j7 := (hy1'.cell (p := ⟨w3.heap.size, 0, none⟩) l7).trans hx7)
      | (go_simp; go_at_call 31; (with_reducible refine (HCb.out _ hy1').mono ?_); rintro e y2 ⟨u2, rfl, q2, hy2⟩; have hy2' := hy1'.trans (hy2.mono hy1'.size); have q1' : ZAt (fun x => W4.heap.size ≤ x) y2 _ _ := (q1.on hy2).mono (fun x (hx : W4.drew.heap.size ≤ x) => (hx : W4.heap.size ≤ x)); have q2' : ZAt (fun x => W4.heap.size ≤ x) y2 _ _ := q2.mono (fun x (hx : y1.heap.size ≤ x) => Nat.le_trans hy1'.size hx))
      | (go_simp; go_at_call 27; (with_reducible refine (HEQ.out _ _ _ hy2' q1' q2').mono ?_); rintro e y3 ⟨qq, s3, rfl, hq3, hT3, hs3, hk3⟩))
    all_goals
      have HR : Hid (∃ (q : Int) (s : KS), Value.int .i64 qq = .int .i64 q ∧ ((a = b ∧ q = 0) ∨ (a ≠ b ∧ q = 30)) ∧ Top NoB 5 y3 sb mb 0 s var ∧ s.sz ≤ 200 ∧ Kept sb mb W4 y3) := ⟨qq, s3, rfl, hq3, hT3, hs3, (Kept.of_below hy2').trans hk3⟩
      clear hT3 hk3 hq3
      go_wp2_with fail
      go_meet
      exact HR.out
  case rest =>
    obtain ⟨q, s, rfl, hq, hT, hs, hkp⟩ := hcut
    obtain ⟨W5, rfl⟩ : ∃ x, x = wc := ⟨_, rfl⟩
    have HF := Lib.hid (freshq_any (PT NoB sb mb) W5 sb mb s.sz 0 s.kn hT.sol (fun h => h.1 rfl) (Ne.symm g3) (by omega) (by omega))
    have HT := Lib.hid hT
    have HKP := Lib.hid hkp
    have HQ := Lib.hid hq
    have hz45 := hkp.size
    clear hT hkp hq hx6 hx7 HEQ hdr
    go_wp2_with fail
    (with_reducible refine HF.out.mono ?_)
    rintro e w6 ⟨rfl, hS6, hb6, hz6, hq6⟩
    obtain ⟨W6, eW6⟩ : ∃ W6, W6 = w6.alloc (.cells #[.int .i64 1, .int .i64 1, .slice none 0 0] 49) := ⟨_, rfl⟩
    have hbn : Below w6.heap.size w6 W6 := by rw [eW6]; exact below_new w6 _
    have e9 : W6.cell? ⟨w6.heap.size, 0, none⟩ = some (.int .i64 1) ∧ W6.cell? ⟨w6.heap.size, 1, none⟩ = some (.int .i64 1) ∧ W6.cell? ⟨w6.heap.size, 2, none⟩ = some (.slice none 0 0) := by
      rw [eW6]; simp [go_sem]
    have hk56 : Kept sb mb W5 W6 := (Kept.mk hz6 (fun b hlt hp => hb6 b hlt hp.1) hq6).trans (.of_below hbn)
    have hk46 := HKP.out.trans hk56
    have HE9 := Lib.hid e9
    have HT6 : Hid (Top NoB 5 W6 sb mb 1 s var) := Top.mk (hS6.on hbn) HT.out.inv HT.out.ne HT.out.log
    have lsb1 := HT1.out.sol.lt
    have lmb1 := HT1.out.sol.known.lt
    have hn6 : w2.heap.size ≠ sb ∧ w2.heap.size ≠ mb := by constructor <;> omega
    have hn7 : w3.heap.size ≠ sb ∧ w3.heap.size ≠ mb := by constructor <;> omega
    have HX6'' := Lib.hid ((World.cell?_of_block (a := ⟨w2.heap.size, 0, none⟩) (hk46.block _ l6 hn6)).trans HX6'.out)
    have HX7'' := Lib.hid ((World.cell?_of_block (a := ⟨w3.heap.size, 0, none⟩) (hk46.block _ l7 hn7)).trans HX7.out)
    have HB6 := Lib.hid (HB4.out.trans (hk46.below g1 g2 HB4.out.size))
    have hP1 : ∀ b, w1.heap.size ≤ b → PT NoB sb mb b := pt_of lsb1 lmb1
    have HKA6 := Lib.hid ((HKA.out.mono (fun b hb => hP1 b hb)).keep hk46.keeps)
    have HKB6 := Lib.hid ((HKB.out.mono (fun b hb => hP1 b (Nat.le_trans (Nat.le_trans hz12 (Nat.le_trans (Nat.le_succ _) (Nat.le_of_eq hz2.symm))) hb))).keep hk46.keeps)
    have hz46 := hk46.size
    have hp6 := hz6
    have hz66 := hbn.size
    have l9 := World.block_lt_of_cell? W6 _ e9.1
    have lsb6 := HT6.out.sol.lt
    have lmb6 := HT6.out.sol.known.lt
    have HEW := Lib.hid eW6
    clear hk56 hk46 hS6 hb6 hq6 hbn e9 eW6 HF HCa HCb
    go_upto_region 8 with (fail)
    rw [← HEW.out]
    have hx6 := HX6''.out
    have x0 := HE9.out.1
    have x1 := HE9.out.2.1
    have x2 := HE9.out.2.2
    have hdr : Below W6.heap.size W6 W6.drew := (Below.refl _ _).drew
    have HCa : Hid (∀ y, Below W6.heap.size W6 y → Calls Try.prog 31 #[.agg #[.slice Aa na ca]] y (OfKRes y a)) := fun y hy => pof_any _ _ a _ y (Nat.le_refl _) (HKA6.out.on hy)
    have HEQ : Hid (∀ y v, Below W6.heap.size W6 y → ZAt (fun x => W6.heap.size ≤ x) y (emb (ofK a)) v → Calls Try.prog 27 #[.pointer (some ⟨sb, 0, none⟩), .agg #[.int .i64 1, .int .i64 1, .slice none 0 0], v] y (EqV sb mb a y)) := fun y v hy q2 =>
      eqv_any y sb mb a _ v s HS1.out (HT6.out.on hy) hs (.var 1 none 0 (by omega) (by omega)) (q2.mono (pt_of lsb6 lmb6))
    go_cut [10] (fun v wx => ∃ (s : KS), v = .int .i64 0 ∧ Top NoB 5 wx sb mb 1 s (bindS var 1 (ofK a)) ∧ Kept sb mb W6 wx)
    case first =>
      go_region_law (first
        | (go_simp; go_at_call 31; (with_reducible refine (HCa.out _ hdr).mono ?_); rintro e y1 ⟨u1, rfl, q1, hy1⟩; have hy1' := hdr.trans (hy1.mono hdr.size); have q1' : ZAt (fun x => W6.heap.size ≤ x) y1 _ _ := q1.mono (fun x (hx : W6.drew.heap.size ≤ x) => (hx : W6.heap.size ≤ x)); have i0 := (hy1'.cell (p := ⟨w6.heap.size, 0, none⟩) l9).trans x0; have i1 := (hy1'.cell (p := ⟨w6.heap.size, 1, none⟩) l9).trans x1; have i2 := (hy1'.cell (p := ⟨w6.heap.size, 2, none⟩) l9).trans x2)
        | (go_simp; go_at_call 27; (with_reducible refine (HEQ.out _ _ hy1' q1').mono ?_); rintro e y3 ⟨s3, rfl, hT3, hk3⟩))
      all_goals
        have HR : Hid (∃ (s : KS), Top NoB 5 y3 sb mb 1 s (bindS var 1 (ofK a)) ∧ Kept sb mb W6 y3) := ⟨s3, hT3, (Kept.of_below hy1').trans hk3⟩
        clear hT3 hk3
        go_wp2_with fail
        go_meet
        obtain ⟨s4, h4⟩ := HR.out
        exact ⟨s4, rfl, h4⟩
    case rest =>
      obtain ⟨s8, rfl, hT8, hk8⟩ := hcut
      obtain ⟨W8, rfl⟩ : ∃ x, x = wc := ⟨_, rfl⟩
      have hn9 : w6.heap.size ≠ sb ∧ w6.heap.size ≠ mb := by constructor <;> omega
      have j6 := (World.cell?_of_block (a := ⟨w2.heap.size, 0, none⟩) (hk8.block _ (Nat.lt_of_lt_of_le l6 (by omega)) hn6)).trans hx6
      have j7 := (World.cell?_of_block (a := ⟨w3.heap.size, 0, none⟩) (hk8.block _ (Nat.lt_of_lt_of_le l7 (by omega)) hn7)).trans HX7''.out
      have j0 := (World.cell?_of_block (a := ⟨w6.heap.size, 0, none⟩) (hk8.block _ l9 hn9)).trans x0
      have j1 := (World.cell?_of_block (a := ⟨w6.heap.size, 1, none⟩) (hk8.block _ l9 hn9)).trans x1
      have j2 := (World.cell?_of_block (a := ⟨w6.heap.size, 2, none⟩) (hk8.block _ l9 hn9)).trans x2
      have m6 := World.block_lt_of_cell? W8 _ j6
      have m7 := World.block_lt_of_cell? W8 _ j7
      have m9 := World.block_lt_of_cell? W8 _ j0
      have lsb8 := hT8.sol.lt
      have lmb8 := hT8.sol.known.lt
      have HT8 := Lib.hid hT8
      have HKA8 := Lib.hid (HKA6.out.keep hk8.keeps)
      have HKB8 := Lib.hid (HKB6.out.keep hk8.keeps)
      have HB8 := Lib.hid (HB6.out.trans (hk8.below g1 g2 HB6.out.size))
      have HGR : Hid (Den s8.kn (emb (ofK a)) (ofK a)) := by
        have h9 := hT8.inv.st.emb (ofK a) (ofK_ground a 0)
        rw [ground_sub (ofK_ground a)] at h9
        exact h9
      have HV : Hid (Den s8.kn (.var 1) (ofK a)) := by
        have h9 := hT8.inv.st.den 1 (Nat.le_refl _)
        rw [bind_new] at h9
        exact h9
      have HDP := Lib.hid (arr_ofK HS1.out).2
      have HKD := Lib.hid (kd_ofK a)
      have HC31 : Hid (∀ y, Below W8.heap.size W8 y → Calls Try.prog 31 #[.agg #[.slice Aa na ca]] y (OfKRes y a)) := fun y hy => pof_any _ _ a _ y (Nat.le_refl _) (HKA8.out.on hy)
      have HC32 : Hid (∀ y, Below W8.heap.size W8 y → Calls Try.prog 32 #[.agg #[.slice Aa na ca]] y (ROfRes y a)) := fun y hy => rof_any _ _ a _ y (Nat.le_refl _) (HKA8.out.on hy)
      have HC24 : Hid (∀ (R S : Nat → Prop) y u v, ZAt R y (emb (ofK a)) u → TAt S y (ofK a) v → Calls Try.prog 24 #[u, v] y (YesRes y)) := fun R S y u v p1 p2 => lsame_any R S (ofK a) u v y p1 p2
      have HC29 : Hid (∀ y u, Below W8.heap.size W8 y → ZAt (fun x => W8.heap.size ≤ x) y (emb (ofK a)) u → Calls Try.prog 29 #[.pointer (some ⟨sb, 0, none⟩), u] y (KindMade y a)) := fun y u hy p1 => by
        have h9 := kindP_any (fun x => PT NoB sb mb x ∧ x < y.heap.size) sb mb s8.sz 1 s8.kn _ (ofK a) (emb (ofK a)) u y (Nat.le_refl _) (HT8.out.sol.on hy).bound HGR.out (p1.mono (pt_of lsb8 lmb8)).bound (fun x h => h.2) (by have := HDP.out; omega)
        rw [HKD.out] at h9
        exact h9
      have HC29v : Hid (∀ y, Below W8.heap.size W8 y → Calls Try.prog 29 #[.pointer (some ⟨sb, 0, none⟩), .agg #[.int .i64 1, .int .i64 1, .slice none 0 0]] y (KindMade y a)) := fun y hy => by
        have h9 := kindP_any (fun x => PT NoB sb mb x ∧ x < y.heap.size) sb mb s8.sz 1 s8.kn _ (ofK a) (.var 1) (.agg #[.int .i64 1, .int .i64 1, .slice none 0 0]) y (Nat.le_refl _) (HT8.out.sol.on hy).bound HV.out (.var 1 none 0 (by omega) (by omega)) (fun x h => h.2) (by have := HDP.out; omega)
        rw [HKD.out] at h9
        exact h9
      have HC14 : Hid (∀ y v (R : Nat → Prop), Below W8.heap.size W8 y → KAt R y a v → Calls Try.prog 14 #[.agg #[v], .agg #[.slice Aa na ca]] y fun e y' => e = .returned (.bool true) ∧ Below y.heap.size y y') := fun y v R hy p1 => (refsame_any _ _ _ a a _ _ y (Nat.le_refl _) p1 (HKA8.out.on hy)).mono fun e y' h => ⟨by rw [h.1, eqK_true rfl], h.2⟩
      have HCab : Hid (∀ y, Below W8.heap.size W8 y → Calls Try.prog 14 #[.agg #[.slice Aa na ca], .agg #[.slice Ab nb cb]] y fun e y' => e = .returned (.bool (eqK a b)) ∧ Below y.heap.size y y') := fun y hy => refsame_any _ _ _ a b _ _ y (Nat.le_refl _) (HKA8.out.on hy) (HKB8.out.on hy)
      have keepS : Hid (∀ y, Below W8.heap.size W8 y → y.cell? ⟨w2.heap.size, 0, none⟩ = some (.slice Aa na ca) ∧ y.cell? ⟨w3.heap.size, 0, none⟩ = some (.slice Ab nb cb) ∧ y.cell? ⟨w6.heap.size, 0, none⟩ = some (.int .i64 1) ∧ y.cell? ⟨w6.heap.size, 1, none⟩ = some (.int .i64 1) ∧ y.cell? ⟨w6.heap.size, 2, none⟩ = some (.slice none 0 0)) := fun y hy => ⟨(hy.cell (p := ⟨w2.heap.size, 0, none⟩) m6).trans j6, (hy.cell (p := ⟨w3.heap.size, 0, none⟩) m7).trans j7, (hy.cell (p := ⟨w6.heap.size, 0, none⟩) m9).trans j0, (hy.cell (p := ⟨w6.heap.size, 1, none⟩) m9).trans j1, (hy.cell (p := ⟨w6.heap.size, 2, none⟩) m9).trans j2⟩
      have hS0 := keepS.out W8 (Below.refl _ _)
      have b0 : Below W8.heap.size W8 W8.drew := (Below.refl _ _).drew
      clear j6 j7 j0 j1 j2 hx6 x0 x1 x2 hT8 hk8 HCa HEQ
      have hqe : ∃ t, eqK a b = t ∧ ((t = true ∧ q = 0) ∨ (t = false ∧ q = 30)) := by
        rcases HQ.out with ⟨h1, h2⟩ | ⟨h1, h2⟩
        · exact ⟨true, eqK_true h1, .inl ⟨rfl, h2⟩⟩
        · exact ⟨false, eqK_false h1, .inr ⟨rfl, h2⟩⟩
      obtain ⟨t, ht, hqt⟩ := hqe
      rw [ht] at HCab
      clear ht HQ
      go_upto_region 9 with (fail)
      rcases hqt with ⟨rfl, rfl⟩ | ⟨rfl, rfl⟩
      · refine wp_region_noPanic ?_
        refine wp_region_held_drew (S := (fun y => y.cell? ⟨w2.heap.size, 0, none⟩ = some (.slice Aa na ca) ∧ y.cell? ⟨w3.heap.size, 0, none⟩ = some (.slice Ab nb cb) ∧ y.cell? ⟨w6.heap.size, 0, none⟩ = some (.int .i64 1) ∧ y.cell? ⟨w6.heap.size, 1, none⟩ = some (.int .i64 1) ∧ y.cell? ⟨w6.heap.size, 2, none⟩ = some (.slice none 0 0))) (by kernel_rfl) hS0 (fun hHeld => ?_)
        refine wpAnyH_take (i := 0) (oi := ⟨some 31, _, _, _, _, _⟩) (v := ?v0) rfl (by kernel_rfl) (by kernel_rfl) (by kernel_rfl) (fun _ _ _ h => h) (Or.inl ⟨by rfl, ?hy0⟩) (by assumption) ?rest0
        case hy0 => (intro w hSw; (try dsimp only at hSw); go_simp; (try with_reducible rfl))
        try simp only [Act.put, List.setIfInBounds_toArray, List.set_cons_zero, List.set_cons_succ]
        refine wpAnyH_take (i := 2) (oi := ⟨some 33, _, _, _, _, _⟩) (v := ?v2) rfl (by kernel_rfl) (by kernel_rfl) (by kernel_rfl) (fun _ _ _ h => h) (Or.inl ⟨by rfl, ?hy2⟩) (by assumption) ?rest2
        case hy2 => (intro w hSw; (try dsimp only at hSw); go_simp; (try with_reducible rfl))
        try simp only [Act.put, List.setIfInBounds_toArray, List.set_cons_zero, List.set_cons_succ]
        refine wpAnyH_ready (rs := [1]) (by kernel_rfl) (by simp) ?_
        refine AllReadyH.cons (o := ⟨some 32, _, _, _, _, _⟩) rfl (fun K hK => ?_) AllReadyH.nil
        go_simp
        go_at_call 31; (with_reducible refine (HC31.out _ b0).mono ?_); rintro e y1 ⟨u1, rfl, q1, d1⟩; have b1 := b0.trans (d1.mono b0.size); have hS1 := keepS.out y1 b1; obtain ⟨B1, e1, rfl⟩ := q1.form
        go_wp2_with fail
        refine hK.out _ _ hS1 (fun hHeld => ?_)
        clear hK K
        try simp only [Act.put, List.setIfInBounds_toArray, List.set_cons_zero, List.set_cons_succ]
        refine wpAnyH_ready (rs := [3]) (by kernel_rfl) (by simp) ?_
        refine AllReadyH.cons (o := ⟨some 34, _, _, _, _, _⟩) rfl (fun K hK => ?_) AllReadyH.nil
        go_simp
        go_at_call 32; (with_reducible refine (HC32.out _ b1).mono ?_); rintro e y2 ⟨u2, rfl, q2, d2⟩; have b2 := b1.trans (d2.mono b1.size); have hS2 := keepS.out y2 b2; obtain ⟨B2, e2, rfl⟩ := q2.form
        go_wp2_with fail
        refine hK.out _ _ hS2 (fun hHeld => ?_)
        clear hK K
        try simp only [Act.put, List.setIfInBounds_toArray, List.set_cons_zero, List.set_cons_succ]
        refine wpAnyH_ready (rs := [4]) (by kernel_rfl) (by simp) ?_
        refine AllReadyH.cons (o := ⟨some 35, _, _, _, _, _⟩) rfl (fun K hK => ?_) AllReadyH.nil
        go_simp
        go_at_call 24; (with_reducible refine (HC24.out _ _ _ _ _ (q1.on d2) q2).mono ?_); rintro e y3 ⟨rfl, d3⟩; have b3 := b2.trans (d3.mono b2.size); have hS3 := keepS.out y3 b3
        go_wp2_with fail
        refine hK.out _ _ hS3 (fun hHeld => ?_)
        clear hK K
        try simp only [Act.put, List.setIfInBounds_toArray, List.set_cons_zero, List.set_cons_succ]
        refine wpAnyH_take (i := 5) (oi := ⟨some 36, _, _, _, _, _⟩) (v := ?v5) rfl (by kernel_rfl) (by kernel_rfl) (by kernel_rfl) (fun _ _ _ h => h) (Or.inl ⟨by rfl, ?hy5⟩) (by assumption) ?rest5
        case hy5 => (intro w hSw; (try dsimp only at hSw); go_simp; (try with_reducible rfl))
        try simp only [Act.put, List.setIfInBounds_toArray, List.set_cons_zero, List.set_cons_succ]
        refine wpAnyH_take (i := 6) (oi := ⟨some 37, _, _, _, _, _⟩) (v := ?v6) rfl (by kernel_rfl) (by kernel_rfl) (by kernel_rfl) (fun _ _ _ h => h) (Or.inl ⟨by rfl, ?hy6⟩) (by assumption) ?rest6
        case hy6 => (intro w hSw; (try dsimp only at hSw); go_simp; (try with_reducible rfl))
        try simp only [Act.put, List.setIfInBounds_toArray, List.set_cons_zero, List.set_cons_succ]
        refine wpAnyH_take (i := 7) (oi := ⟨some 38, _, _, _, _, _⟩) (v := ?v7) rfl (by kernel_rfl) (by kernel_rfl) (by kernel_rfl) (fun _ _ _ h => h) (Or.inl ⟨by rfl, ?hy7⟩) (by assumption) ?rest7
        case hy7 => (intro w hSw; (try dsimp only at hSw); go_simp; (try with_reducible rfl))
        try simp only [Act.put, List.setIfInBounds_toArray, List.set_cons_zero, List.set_cons_succ]
        refine wpAnyH_take (i := 10) (oi := ⟨some 41, _, _, _, _, _⟩) (v := ?v10) rfl (by kernel_rfl) (by kernel_rfl) (by kernel_rfl) (fun _ _ _ h => h) (Or.inl ⟨by rfl, ?hy10⟩) (by assumption) ?rest10
        case hy10 => (intro w hSw; (try dsimp only at hSw); go_simp; (try with_reducible rfl))
        try simp only [Act.put, List.setIfInBounds_toArray, List.set_cons_zero, List.set_cons_succ]
        refine wpAnyH_ready (rs := [8]) (by kernel_rfl) (by simp) ?_
        refine AllReadyH.cons (o := ⟨some 39, _, _, _, _, _⟩) rfl (fun K hK => ?_) AllReadyH.nil
        go_simp
        go_at_call 31; (with_reducible refine (HC31.out _ b3).mono ?_); rintro e y4 ⟨u4, rfl, q4, d4⟩; have b4 := b3.trans (d4.mono b3.size); have hS4 := keepS.out y4 b4; obtain ⟨B4, e4, rfl⟩ := q4.form; have q4' := q4.mono (fun x (hx : y3.heap.size ≤ x) => Nat.le_trans b3.size hx)
        go_wp2_with fail
        refine hK.out _ _ hS4 (fun hHeld => ?_)
        clear hK K
        try simp only [Act.put, List.setIfInBounds_toArray, List.set_cons_zero, List.set_cons_succ]
        refine wpAnyH_ready (rs := [9]) (by kernel_rfl) (by simp) ?_
        refine AllReadyH.cons (o := ⟨some 40, _, _, _, _, _⟩) rfl (fun K hK => ?_) AllReadyH.nil
        go_simp
        go_at_call 29; (with_reducible refine (HC29.out _ _ b4 q4').mono ?_); rintro e y5 ⟨kv5, rfl, k5, d5⟩; have b5 := b4.trans (d5.mono b4.size); have hS5 := keepS.out y5 b5; obtain ⟨B5, n5, e5, rfl⟩ := kform k5
        go_wp2_with fail
        refine hK.out _ _ hS5 (fun hHeld => ?_)
        clear hK K
        try simp only [Act.put, List.setIfInBounds_toArray, List.set_cons_zero, List.set_cons_succ]
        refine wpAnyH_ready (rs := [11]) (by kernel_rfl) (by simp) ?_
        refine AllReadyH.cons (o := ⟨some 42, _, _, _, _, _⟩) rfl (fun K hK => ?_) AllReadyH.nil
        go_simp
        go_at_call 14; (with_reducible refine (HC14.out _ _ _ b5 k5).mono ?_); rintro e y6 ⟨rfl, d6⟩; have b6 := b5.trans (d6.mono b5.size); have hS6 := keepS.out y6 b6
        go_wp2_with fail
        refine hK.out _ _ hS6 (fun hHeld => ?_)
        clear hK K
        try simp only [Act.put, List.setIfInBounds_toArray, List.set_cons_zero, List.set_cons_succ]
        refine wpAnyH_take (i := 12) (oi := ⟨some 43, _, _, _, _, _⟩) (v := ?v12) rfl (by kernel_rfl) (by kernel_rfl) (by kernel_rfl) (fun _ _ _ h => h) (Or.inl ⟨by rfl, ?hy12⟩) (by assumption) ?rest12
        case hy12 => (intro w hSw; (try dsimp only at hSw); go_simp; (try with_reducible rfl))
        try simp only [Act.put, List.setIfInBounds_toArray, List.set_cons_zero, List.set_cons_succ]
        refine wpAnyH_take (i := 13) (oi := ⟨some 44, _, _, _, _, _⟩) (v := ?v13) rfl (by kernel_rfl) (by kernel_rfl) (by kernel_rfl) (fun _ _ _ h => h) (Or.inl ⟨by rfl, ?hy13⟩) (by assumption) ?rest13
        case hy13 => (intro w hSw; (try dsimp only at hSw); go_simp; (try with_reducible rfl))
        try simp only [Act.put, List.setIfInBounds_toArray, List.set_cons_zero, List.set_cons_succ]
        refine wpAnyH_take (i := 14) (oi := ⟨some 45, _, _, _, _, _⟩) (v := ?v14) rfl (by kernel_rfl) (by kernel_rfl) (by kernel_rfl) (fun _ _ _ h => h) (Or.inl ⟨by rfl, ?hy14⟩) (by assumption) ?rest14
        case hy14 => (intro w hSw; (try dsimp only at hSw); go_simp; (try with_reducible rfl))
        try simp only [Act.put, List.setIfInBounds_toArray, List.set_cons_zero, List.set_cons_succ]
        refine wpAnyH_take (i := 15) (oi := ⟨some 46, _, _, _, _, _⟩) (v := ?v15) rfl (by kernel_rfl) (by kernel_rfl) (by kernel_rfl) (fun _ _ _ h => h) (Or.inl ⟨by rfl, ?hy15⟩) (by assumption) ?rest15
        case hy15 => (intro w hSw; (try dsimp only at hSw); go_simp; (try with_reducible rfl))
        try simp only [Act.put, List.setIfInBounds_toArray, List.set_cons_zero, List.set_cons_succ]
        refine wpAnyH_take (i := 16) (oi := ⟨some 47, _, _, _, _, _⟩) (v := ?v16) rfl (by kernel_rfl) (by kernel_rfl) (by kernel_rfl) (fun _ _ _ h => h) (Or.inl ⟨by rfl, ?hy16⟩) (by assumption) ?rest16
        case hy16 => (intro w hSw; (try dsimp only at hSw); go_simp; (try with_reducible rfl))
        try simp only [Act.put, List.setIfInBounds_toArray, List.set_cons_zero, List.set_cons_succ]
        refine wpAnyH_take (i := 17) (oi := ⟨some 48, _, _, _, _, _⟩) (v := ?v17) rfl (by kernel_rfl) (by kernel_rfl) (by kernel_rfl) (fun _ _ _ h => h) (Or.inl ⟨by rfl, ?hy17⟩) (by assumption) ?rest17
        case hy17 => (intro w hSw; (try dsimp only at hSw); go_simp; (try with_reducible rfl))
        try simp only [Act.put, List.setIfInBounds_toArray, List.set_cons_zero, List.set_cons_succ]
        refine wpAnyH_ready (rs := [18]) (by kernel_rfl) (by simp) ?_
        refine AllReadyH.cons (o := ⟨some 49, _, _, _, _, _⟩) rfl (fun K hK => ?_) AllReadyH.nil
        go_simp
        go_at_call 14; (with_reducible refine (HCab.out _ b6).mono ?_); rintro e y7 ⟨rfl, d7⟩; have b7 := b6.trans (d7.mono b6.size); have hS7 := keepS.out y7 b7
        go_wp2_with fail
        refine hK.out _ _ hS7 (fun hHeld => ?_)
        clear hK K
        try simp only [Act.put, List.setIfInBounds_toArray, List.set_cons_zero, List.set_cons_succ]
        refine wpAnyH_take (i := 19) (oi := ⟨some 50, _, _, _, _, _⟩) (v := ?v19) rfl (by kernel_rfl) (by kernel_rfl) (by kernel_rfl) (fun _ _ _ h => h) (Or.inl ⟨by rfl, ?hy19⟩) (by assumption) ?rest19
        case hy19 => (intro w hSw; (try dsimp only at hSw); go_simp; (try with_reducible rfl))
        try simp only [Act.put, List.setIfInBounds_toArray, List.set_cons_zero, List.set_cons_succ]
        refine wpAnyH_take (i := 20) (oi := ⟨some 51, _, _, _, _, _⟩) (v := ?v20) rfl (by kernel_rfl) (by kernel_rfl) (by kernel_rfl) (fun _ _ _ h => h) (Or.inl ⟨by rfl, ?hy20⟩) (by assumption) ?rest20
        case hy20 => (intro w hSw; (try dsimp only at hSw); go_simp; (try with_reducible rfl))
        try simp only [Act.put, List.setIfInBounds_toArray, List.set_cons_zero, List.set_cons_succ]
        refine wpAnyH_take (i := 21) (oi := ⟨some 52, _, _, _, _, _⟩) (v := ?v21) rfl (by kernel_rfl) (by kernel_rfl) (by kernel_rfl) (fun _ _ _ h => h) (Or.inl ⟨by rfl, ?hy21⟩) (by assumption) ?rest21
        case hy21 => (intro w hSw; (try dsimp only at hSw); go_simp; (try with_reducible rfl))
        try simp only [Act.put, List.setIfInBounds_toArray, List.set_cons_zero, List.set_cons_succ]
        refine wpAnyH_take (i := 22) (oi := ⟨some 53, _, _, _, _, _⟩) (v := ?v22) rfl (by kernel_rfl) (by kernel_rfl) (by kernel_rfl) (fun _ _ _ h => h) (Or.inl ⟨by rfl, ?hy22⟩) (by assumption) ?rest22
        case hy22 => (intro w hSw; (try dsimp only at hSw); go_simp; (try with_reducible rfl))
        try simp only [Act.put, List.setIfInBounds_toArray, List.set_cons_zero, List.set_cons_succ]
        refine wpAnyH_take (i := 23) (oi := ⟨some 54, _, _, _, _, _⟩) (v := ?v23) rfl (by kernel_rfl) (by kernel_rfl) (by kernel_rfl) (fun _ _ _ h => h) (Or.inl ⟨by rfl, ?hy23⟩) (by assumption) ?rest23
        case hy23 => (intro w hSw; (try dsimp only at hSw); go_simp; (try with_reducible rfl))
        try simp only [Act.put, List.setIfInBounds_toArray, List.set_cons_zero, List.set_cons_succ]
        refine wpAnyH_take (i := 24) (oi := ⟨some 55, _, _, _, _, _⟩) (v := ?v24) rfl (by kernel_rfl) (by kernel_rfl) (by kernel_rfl) (fun _ _ _ h => h) (Or.inl ⟨by rfl, ?hy24⟩) (by assumption) ?rest24
        case hy24 => (intro w hSw; (try dsimp only at hSw); go_simp; (try with_reducible rfl))
        try simp only [Act.put, List.setIfInBounds_toArray, List.set_cons_zero, List.set_cons_succ]
        refine wpAnyH_take (i := 25) (oi := ⟨some 56, _, _, _, _, _⟩) (v := undef) rfl (by kernel_rfl) (by kernel_rfl) (by kernel_rfl) (fun _ _ _ h => h) (Or.inr ⟨by rfl, rfl⟩) (by assumption) ?_
        try simp only [Act.put, List.setIfInBounds_toArray, List.set_cons_zero, List.set_cons_succ]
        refine wpAnyH_take (i := 26) (oi := ⟨some 57, _, _, _, _, _⟩) (v := undef) rfl (by kernel_rfl) (by kernel_rfl) (by kernel_rfl) (fun _ _ _ h => h) (Or.inr ⟨by rfl, rfl⟩) (by assumption) ?_
        try simp only [Act.put, List.setIfInBounds_toArray, List.set_cons_zero, List.set_cons_succ]
        refine wpAnyH_take (i := 27) (oi := ⟨some 58, _, _, _, _, _⟩) (v := ?v27) rfl (by kernel_rfl) (by kernel_rfl) (by kernel_rfl) (fun _ _ _ h => h) (Or.inl ⟨by rfl, ?hy27⟩) (by assumption) ?rest27
        case hy27 => (intro w hSw; (try dsimp only at hSw); go_simp; (try with_reducible rfl))
        try simp only [Act.put, List.setIfInBounds_toArray, List.set_cons_zero, List.set_cons_succ]
        refine wpAnyH_take (i := 28) (oi := ⟨some 59, _, _, _, _, _⟩) (v := ?v28) rfl (by kernel_rfl) (by kernel_rfl) (by kernel_rfl) (fun _ _ _ h => h) (Or.inl ⟨by rfl, ?hy28⟩) (by assumption) ?rest28
        case hy28 => (intro w hSw; (try dsimp only at hSw); go_simp; (try with_reducible rfl))
        try simp only [Act.put, List.setIfInBounds_toArray, List.set_cons_zero, List.set_cons_succ]
        refine wpAnyH_take (i := 29) (oi := ⟨some 60, _, _, _, _, _⟩) (v := ?v29) rfl (by kernel_rfl) (by kernel_rfl) (by kernel_rfl) (fun _ _ _ h => h) (Or.inl ⟨by rfl, ?hy29⟩) (by assumption) ?rest29
        case hy29 => (intro w hSw; (try dsimp only at hSw); go_simp; (try with_reducible rfl))
        try simp only [Act.put, List.setIfInBounds_toArray, List.set_cons_zero, List.set_cons_succ]
        refine wpAnyH_take (i := 30) (oi := ⟨some 61, _, _, _, _, _⟩) (v := ?v30) rfl (by kernel_rfl) (by kernel_rfl) (by kernel_rfl) (fun _ _ _ h => h) (Or.inl ⟨by rfl, ?hy30⟩) (by assumption) ?rest30
        case hy30 => (intro w hSw; (try dsimp only at hSw); go_simp; (try with_reducible rfl))
        try simp only [Act.put, List.setIfInBounds_toArray, List.set_cons_zero, List.set_cons_succ]
        refine wpAnyH_take (i := 31) (oi := ⟨some 62, _, _, _, _, _⟩) (v := ?v31) rfl (by kernel_rfl) (by kernel_rfl) (by kernel_rfl) (fun _ _ _ h => h) (Or.inl ⟨by rfl, ?hy31⟩) (by assumption) ?rest31
        case hy31 => (intro w hSw; (try dsimp only at hSw); go_simp; (try with_reducible rfl))
        try simp only [Act.put, List.setIfInBounds_toArray, List.set_cons_zero, List.set_cons_succ]
        refine wpAnyH_take (i := 32) (oi := ⟨some 63, _, _, _, _, _⟩) (v := ?v32) rfl (by kernel_rfl) (by kernel_rfl) (by kernel_rfl) (fun _ _ _ h => h) (Or.inl ⟨by rfl, ?hy32⟩) (by assumption) ?rest32
        case hy32 => (intro w hSw; (try dsimp only at hSw); go_simp; (try with_reducible rfl))
        try simp only [Act.put, List.setIfInBounds_toArray, List.set_cons_zero, List.set_cons_succ]
        refine wpAnyH_take (i := 33) (oi := ⟨some 64, _, _, _, _, _⟩) (v := ?v33) rfl (by kernel_rfl) (by kernel_rfl) (by kernel_rfl) (fun _ _ _ h => h) (Or.inl ⟨by rfl, ?hy33⟩) (by assumption) ?rest33
        case hy33 => (intro w hSw; (try dsimp only at hSw); go_simp; (try with_reducible rfl))
        try simp only [Act.put, List.setIfInBounds_toArray, List.set_cons_zero, List.set_cons_succ]
        refine wpAnyH_take (i := 34) (oi := ⟨some 65, _, _, _, _, _⟩) (v := ?v34) rfl (by kernel_rfl) (by kernel_rfl) (by kernel_rfl) (fun _ _ _ h => h) (Or.inl ⟨by rfl, ?hy34⟩) (by assumption) ?rest34
        case hy34 => (intro w hSw; (try dsimp only at hSw); go_simp; (try with_reducible rfl))
        try simp only [Act.put, List.setIfInBounds_toArray, List.set_cons_zero, List.set_cons_succ]
        refine wpAnyH_take (i := 35) (oi := ⟨some 66, _, _, _, _, _⟩) (v := ?v35) rfl (by kernel_rfl) (by kernel_rfl) (by kernel_rfl) (fun _ _ _ h => h) (Or.inl ⟨by rfl, ?hy35⟩) (by assumption) ?rest35
        case hy35 => (intro w hSw; (try dsimp only at hSw); go_simp; (try with_reducible rfl))
        try simp only [Act.put, List.setIfInBounds_toArray, List.set_cons_zero, List.set_cons_succ]
        refine wpAnyH_take (i := 37) (oi := ⟨some 68, _, _, _, _, _⟩) (v := ?v37) rfl (by kernel_rfl) (by kernel_rfl) (by kernel_rfl) (fun _ _ _ h => h) (Or.inl ⟨by rfl, ?hy37⟩) (by assumption) ?rest37
        case hy37 => (intro w hSw; (try dsimp only at hSw); go_simp; (try with_reducible rfl))
        try simp only [Act.put, List.setIfInBounds_toArray, List.set_cons_zero, List.set_cons_succ]
        refine wpAnyH_ready (rs := [36]) (by kernel_rfl) (by simp) ?_
        refine AllReadyH.cons (o := ⟨some 67, _, _, _, _, _⟩) rfl (fun K hK => ?_) AllReadyH.nil
        go_simp
        go_at_call 29; (with_reducible refine (HC29v.out _ b7).mono ?_); rintro e y8 ⟨kv8, rfl, k8, d8⟩; have b8 := b7.trans (d8.mono b7.size); have hS8 := keepS.out y8 b8; obtain ⟨B8, n8, e8, rfl⟩ := kform k8
        go_wp2_with fail
        refine hK.out _ _ hS8 (fun hHeld => ?_)
        clear hK K
        try simp only [Act.put, List.setIfInBounds_toArray, List.set_cons_zero, List.set_cons_succ]
        refine wpAnyH_ready (rs := [38]) (by kernel_rfl) (by simp) ?_
        refine AllReadyH.cons (o := ⟨some 69, _, _, _, _, _⟩) rfl (fun K hK => ?_) AllReadyH.nil
        go_simp
        go_at_call 14; (with_reducible refine (HC14.out _ _ _ b8 k8).mono ?_); rintro e y9 ⟨rfl, d9⟩; have b9 := b8.trans (d9.mono b8.size); have hS9 := keepS.out y9 b9
        go_wp2_with fail
        refine hK.out _ _ hS9 (fun hHeld => ?_)
        clear hK K
        try simp only [Act.put, List.setIfInBounds_toArray, List.set_cons_zero, List.set_cons_succ]
        refine wpAnyH_take (i := 39) (oi := ⟨some 70, _, _, _, _, _⟩) (v := ?v39) rfl (by kernel_rfl) (by kernel_rfl) (by kernel_rfl) (fun _ _ _ h => h) (Or.inl ⟨by rfl, ?hy39⟩) (by assumption) ?rest39
        case hy39 => (intro w hSw; (try dsimp only at hSw); go_simp; (try with_reducible rfl))
        try simp only [Act.put, List.setIfInBounds_toArray, List.set_cons_zero, List.set_cons_succ]
        refine wpAnyH_take (i := 40) (oi := ⟨some 71, _, _, _, _, _⟩) (v := ?v40) rfl (by kernel_rfl) (by kernel_rfl) (by kernel_rfl) (fun _ _ _ h => h) (Or.inl ⟨by rfl, ?hy40⟩) (by assumption) ?rest40
        case hy40 => (intro w hSw; (try dsimp only at hSw); go_simp; (try with_reducible rfl))
        try simp only [Act.put, List.setIfInBounds_toArray, List.set_cons_zero, List.set_cons_succ]
        refine wpAnyH_ready (rs := [41]) (by kernel_rfl) (by simp) ?_
        refine AllReadyH.cons (o := ⟨some 72, _, _, _, _, _⟩) rfl (fun K hK => ?_) AllReadyH.nil
        go_simp
        go_at_call 15; (with_reducible refine (lives_any _).mono ?_); rintro e y10 ⟨rfl, d10⟩; have b10 := b9.trans (d10.mono b9.size); have hS10 := keepS.out y10 b10
        go_wp2_with fail
        refine hK.out _ _ hS10 (fun hHeld => ?_)
        clear hK K
        try simp only [Act.put, List.setIfInBounds_toArray, List.set_cons_zero, List.set_cons_succ]
        refine wpAnyH_take (i := 42) (oi := ⟨some 73, _, _, _, _, _⟩) (v := ?v42) rfl (by kernel_rfl) (by kernel_rfl) (by kernel_rfl) (fun _ _ _ h => h) (Or.inl ⟨by rfl, ?hy42⟩) (by assumption) ?rest42
        case hy42 => (intro w hSw; (try dsimp only at hSw); go_simp; (try with_reducible rfl))
        try simp only [Act.put, List.setIfInBounds_toArray, List.set_cons_zero, List.set_cons_succ]
        refine wpAnyH_take (i := 43) (oi := ⟨some 4, _, _, _, _, _⟩) (v := ?v43) rfl (by kernel_rfl) (by kernel_rfl) (by kernel_rfl) (fun _ _ _ h => h) (Or.inl ⟨by rfl, ?hy43⟩) (by assumption) ?rest43
        case hy43 => (intro w hSw; (try dsimp only at hSw); go_simp; (try with_reducible rfl))
        try simp only [Act.put, List.setIfInBounds_toArray, List.set_cons_zero, List.set_cons_succ]
        refine wpAnyH_done (by kernel_rfl) ?_ _
        refine NoPanic.normal ?_
        have HBZ := Lib.hid (HB8.out.trans (b10.mono HB8.out.size))
        clear b0 hS0 b1 hS1 b2 hS2 b3 hS3 b4 hS4 b5 hS5 b6 hS6 b7 hS7 b8 hS8 b9 hS9 b10 hS10 d1 d2 d3 d4 d5 d6 d7 d8 d9 d10 q1 q2 q4 q4' k5 k8
        go_wp2
        go_ret
        exact ⟨rfl, HBZ.out⟩
      · first
        | go_region_held3 (fun y => y.cell? ⟨w2.heap.size, 0, none⟩ = some (.slice Aa na ca) ∧ y.cell? ⟨w3.heap.size, 0, none⟩ = some (.slice Ab nb cb) ∧ y.cell? ⟨w6.heap.size, 0, none⟩ = some (.int .i64 1) ∧ y.cell? ⟨w6.heap.size, 1, none⟩ = some (.int .i64 1) ∧ y.cell? ⟨w6.heap.size, 2, none⟩ = some (.slice none 0 0)) (first | exact hS0 | exact hS1 | exact hS2 | exact hS3 | exact hS4 | exact hS5 | exact hS6 | exact hS7 | exact hS8 | exact hS9 | exact hS10) (first | (go_at_call 31; (with_reducible refine (HC31.out _ b0).mono ?_); rintro e y1 ⟨u1, rfl, q1, d1⟩; have b1 := b0.trans (d1.mono b0.size); have hS1 := keepS.out y1 b1; obtain ⟨B1, e1, rfl⟩ := q1.form) | (go_at_call 32; (with_reducible refine (HC32.out _ b1).mono ?_); rintro e y2 ⟨u2, rfl, q2, d2⟩; have b2 := b1.trans (d2.mono b1.size); have hS2 := keepS.out y2 b2; obtain ⟨B2, e2, rfl⟩ := q2.form) | (go_at_call 24; (with_reducible refine (HC24.out _ _ _ _ _ (q1.on d2) q2).mono ?_); rintro e y3 ⟨rfl, d3⟩; have b3 := b2.trans (d3.mono b2.size); have hS3 := keepS.out y3 b3) | (go_at_call 31; (with_reducible refine (HC31.out _ b3).mono ?_); rintro e y4 ⟨u4, rfl, q4, d4⟩; have b4 := b3.trans (d4.mono b3.size); have hS4 := keepS.out y4 b4; obtain ⟨B4, e4, rfl⟩ := q4.form; have q4' := q4.mono (fun x (hx : y3.heap.size ≤ x) => Nat.le_trans b3.size hx)) | (go_at_call 29; (with_reducible refine (HC29.out _ _ b4 q4').mono ?_); rintro e y5 ⟨kv5, rfl, k5, d5⟩; have b5 := b4.trans (d5.mono b4.size); have hS5 := keepS.out y5 b5; obtain ⟨B5, n5, e5, rfl⟩ := kform k5) | (go_at_call 14; (with_reducible refine (HC14.out _ _ _ b5 k5).mono ?_); rintro e y6 ⟨rfl, d6⟩; have b6 := b5.trans (d6.mono b5.size); have hS6 := keepS.out y6 b6) | (go_at_call 14; (with_reducible refine (HCab.out _ b6).mono ?_); rintro e y7 ⟨rfl, d7⟩; have b7 := b6.trans (d7.mono b6.size); have hS7 := keepS.out y7 b7) | (go_at_call 29; (with_reducible refine (HC29v.out _ b7).mono ?_); rintro e y8 ⟨kv8, rfl, k8, d8⟩; have b8 := b7.trans (d8.mono b7.size); have hS8 := keepS.out y8 b8; obtain ⟨B8, n8, e8, rfl⟩ := kform k8) | (go_at_call 14; (with_reducible refine (HC14.out _ _ _ b8 k8).mono ?_); rintro e y9 ⟨rfl, d9⟩; have b9 := b8.trans (d9.mono b8.size); have hS9 := keepS.out y9 b9) | (go_at_call 15; (with_reducible refine (lives_any _).mono ?_); rintro e y10 ⟨rfl, d10⟩; have b10 := b9.trans (d10.mono b9.size); have hS10 := keepS.out y10 b10))
        | fail "region"
        all_goals
          have HBZ := Lib.hid (HB8.out.trans (b10.mono HB8.out.size))
          clear b0 hS0 b1 hS1 b2 hS2 b3 hS3 b4 hS4 b5 hS5 b6 hS6 b7 hS7 b8 hS8 b9 hS9 b10 hS10 d1 d2 d3 d4 d5 d6 d7 d8 d9 d10 q1 q2 q4 q4' k5 k8
          go_wp2
          go_ret
          exact ⟨rfl, HBZ.out⟩
theorem kindsOf_law (a0 : Option Addr) (l0 c0 : Nat) (a1 : Option Addr) (l1 c1 : Nat) (w : World) (h1 : SomeInts w (.slice a0 l0 c0)) (h2 : SomeInts w (.slice a1 l1 c1)) : Calls Try.prog 8 #[.slice a0 l0 c0, .slice a1 l1 c1] w (TrueB w) := by
  obtain ⟨zs, h1⟩ := h1
  obtain ⟨ys, h2⟩ := h2
  exact kindsOf_walk _ _ _ _ zs ys w h1 h2
end Go.Proofs.Ytomhojpoaicioaa
