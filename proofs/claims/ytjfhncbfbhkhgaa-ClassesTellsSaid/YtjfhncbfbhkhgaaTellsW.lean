/- ClassesTells: the walk. Conditions: the slice reads as numbers, the numbers are of 64 bits. -/
import Derived.Test.YtjfhncbfbhkhgaaDpt
import Derived.Test.YtjfhncbfbhkhgaaWaysW
namespace Go.Proofs.Ytjfhncbfbhkhgaa
open Go.RowKit
theorem goW_bound {C : List Cls} : ∀ {a b : ByteArray} {u : List Nat}, goW (supF C) a u = some b → ∀ x ∈ u, ∃ y, x < (supF C y).length
  | a, b, [], _, x, hx => by cases hx
  | a, b, j :: u, h, x, hx => by
    have h' : (supF C a)[j]?.bind (fun y => goW (supF C) y u) = some b := h
    cases hj : (supF C a)[j]? with
    | none => rw [hj] at h'; cases h'
    | some y =>
      rw [hj] at h'
      rcases List.mem_cons.1 hx with rfl | hx
      · exact ⟨a, (List.getElem?_eq_some_iff.1 hj).1⟩
      · exact goW_bound h' x hx
def docU (C : List Cls) (a b : ByteArray) : List Int := ((docPath C a b).getD []).map (fun x : Nat => (x : Int))
/-- What Path tells is what the document's Path tells. -/
theorem path_doc {C : List Cls} (hC : OkC C) {a x : ByteArray} {w w' : World} {e : Ending} (h : PathRes C a x w e w') : Below w.heap.size w w' ∧ ∃ (A : Option Addr) (c : Nat), e = .returned (.tuple #[.slice A (docU C a x).length c, .bool (docPath C a x).isSome]) ∧ IntsAt (fun b => b < w'.heap.size) w' (.slice A (docU C a x).length c) (docU C a x) := by
  unfold docU
  obtain ⟨hb, ⟨h1, rfl⟩ | ⟨h1, u, rv, hl, rfl, ho⟩⟩ := h
  · have hn : docPath C a x = none := by
      cases hd : docPath C a x with
      | none => rfl
      | some v =>
        obtain ⟨g1, g2⟩ := docPath_some hd
        rcases h1 with h1 | h1
        · rw [h1] at g1; cases g1
        · exact absurd g2.1 (h1 v)
    rw [hn]
    exact ⟨hb, none, 0, rfl, ints_nil _ _⟩
  · have hn : docPath C a x = some u := by
      cases hd : docPath C a x with
      | none =>
        rcases docPath_none hd with g | g
        · rw [g] at h1; cases h1
        · exact absurd hl.1 (g u)
      | some v =>
        rw [Least.unique (docPath_some hd).2 hl]
    rw [hn]
    have hi := OwnZ.ints ho (fun y hy => by
      obtain ⟨z, hz⟩ := goW_bound hl.1 y hy
      have := supF_len hC z
      omega)
    obtain ⟨A, c, rfl, _⟩ := hi.form
    exact ⟨hb, A, c, rfl, hi⟩
theorem dpath_doc {C : List Cls} {a x : ByteArray} {w w' : World} {e : Ending} (h : DPath C a x w e w') : Below w.heap.size w w' ∧ ∃ (A : Option Addr) (c : Nat), e = .returned (.tuple #[.slice A (docU C a x).length c, .bool (docPath C a x).isSome]) ∧ IntsAt (fun b => b < w'.heap.size) w' (.slice A (docU C a x).length c) (docU C a x) := by
  unfold docU
  obtain ⟨hb, A, m, c, q, rfl, ⟨rfl, u, hu, hi⟩ | ⟨rfl, hn, rfl, rfl, rfl⟩⟩ := h
  · rw [hu]
    obtain ⟨A', c', e, _⟩ := hi.form
    injection e with e1 e2 e3
    subst e1 e2 e3
    exact ⟨hb, _, _, rfl, hi⟩
  · rw [hn]
    exact ⟨hb, none, 0, rfl, ints_nil _ _⟩
/-- What stands while the law goes on. -/
structure TF (Q : Nat → Prop) (C : List Cls) (I : List Ins) (eb cb mb pb : Nat) (iv : Value) (Ac : Option Addr) (cc : Nat) (Ai : Option Addr) (ci p0 : Nat) (w wr : World) : Prop where
  env : EnvAt Q C (lookF (mths C)) I (headH I) eb cb mb pb iv wr
  hq : ∀ b, Q b → b < wr.heap.size
  cl : ClassesAt (fun b => b < wr.heap.size) wr (.slice Ac C.length cc) C
  ins : InstsAt (fun b => b < wr.heap.size) wr (.slice Ai I.length ci) I
  box : wr.heap[p0]? = some (.cells #[.slice none 0 0, .slice Ac C.length cc, .slice Ai I.length ci, .slice none 0 0] 28)
  bl : Below w.heap.size w wr
theorem TF.on {Q : Nat → Prop} {C : List Cls} {I : List Ins} {eb cb mb pb : Nat} {iv : Value} {Ac : Option Addr} {cc : Nat} {Ai : Option Addr} {ci p0 : Nat} {w wr w' : World} (h : TF Q C I eb cb mb pb iv Ac cc Ai ci p0 w wr) (hb : Below wr.heap.size wr w') : TF Q C I eb cb mb pb iv Ac cc Ai ci p0 w w' :=
  ⟨h.env.on hb, fun b k => Nat.lt_of_lt_of_le (h.hq b k) hb.size, (h.cl.keep hb.size (fun b _ hl => hb.block b hl)).mono (fun _ k => Nat.lt_of_lt_of_le k hb.size), (h.ins.keep hb.size (fun b _ hl => hb.block b hl)).mono (fun _ k _ => Nat.lt_of_lt_of_le k hb.size), (hb.block _ (lt_of_block h.box)).trans h.box, below_step h.bl hb⟩
theorem TF.cells {Q : Nat → Prop} {C : List Cls} {I : List Ins} {eb cb mb pb : Nat} {iv : Value} {Ac : Option Addr} {cc : Nat} {Ai : Option Addr} {ci p0 : Nat} {w wr : World} (h : TF Q C I eb cb mb pb iv Ac cc Ai ci p0 w wr) : wr.cell? ⟨p0, 0, none⟩ = some (.slice none 0 0) ∧ wr.cell? ⟨p0, 1, none⟩ = some (.slice Ac C.length cc) ∧ wr.cell? ⟨p0, 2, none⟩ = some (.slice Ai I.length ci) ∧ wr.cell? ⟨p0, 3, none⟩ = some (.slice none 0 0) := by
  have h := h.box; simp [World.cell?, h]
set_option maxRecDepth 100000 in
set_option maxHeartbeats 4000000 in
theorem classesTells_law (A : Option Addr) (l c : Nat) (a b n : Int) (w : World) (h : SomeInts w (.slice A l c)) (ha1 : -9223372036854775808 ≤ a) (ha2 : a ≤ 9223372036854775807) (hb1 : -9223372036854775808 ≤ b) (hb2 : b ≤ 9223372036854775807) (hn1 : -9223372036854775808 ≤ n) (hn2 : n ≤ 9223372036854775807) :
    Calls Try.prog 4 #[.slice A l c, .int .i64 a, .int .i64 b, .int .i64 n] w (TrueB w) := by
  have HMD := Lib.hid (made_any h)
  have HLV := Lib.hid lives_any
  clear h
  go_enter Try.func4, Try.ntmps4
  go_wp2_with fail
  with_reducible refine HMD.out.mono ?_
  rintro e w1 ⟨C, I, cv, iv, rfl, hcl, hin, hiv, hgc, hoi, hb1'⟩
  obtain ⟨Ac, cc, rfl⟩ : ∃ A c, cv = .slice A C.length c := by obtain ⟨A, c, e, _⟩ := hcl; exact ⟨A, c, e⟩
  obtain ⟨Ai, ci, rfl⟩ : ∃ A c, iv = .slice A I.length c := by obtain ⟨A, c, e, _⟩ := hin; exact ⟨A, c, e⟩
  obtain ⟨W1, hW1⟩ : ∃ W1, w1.alloc (.cells #[.slice none 0 0, .slice Ac C.length cc, .slice Ai I.length ci, .slice none 0 0] 28) = W1 := ⟨_, rfl⟩
  have hbW : Below w1.heap.size w1 W1 := by rw [← hW1]; exact below_new w1 _
  have hx0 : W1.heap[w1.heap.size]? = some (.cells #[.slice none 0 0, .slice Ac C.length cc, .slice Ai I.length ci, .slice none 0 0] 28) := by rw [← hW1, alloc_get, if_pos rfl]
  obtain ⟨q0, q1, q2, q3⟩ : W1.cell? ⟨w1.heap.size, 0, none⟩ = some (.slice none 0 0) ∧ W1.cell? ⟨w1.heap.size, 1, none⟩ = some (.slice Ac C.length cc) ∧ W1.cell? ⟨w1.heap.size, 2, none⟩ = some (.slice Ai I.length ci) ∧ W1.cell? ⟨w1.heap.size, 3, none⟩ = some (.slice none 0 0) := by simp [World.cell?, hx0]
  have hQ1 : ∀ b, b < w1.heap.size → b < W1.heap.size := fun b hb => Nat.lt_of_lt_of_le hb hbW.size
  have HCL := Lib.hid ((hcl.keep hbW.size (fun b _ hl => hbW.block b hl)).mono hQ1)
  have HIN := Lib.hid ((hin.keep hbW.size (fun b _ hl => hbW.block b hl)).mono (fun b h _ => hQ1 b h))
  have HX0 := Lib.hid hx0
  have HB1 := Lib.hid (below_step hb1' hbW)
  have HGC := Lib.hid hgc
  have HOI := Lib.hid hoi
  have HNW := Lib.hid (new_any HCL.out HIN.out hiv (fun b h => h) hgc.ok hoi hgc.mths.1 hgc.mths.2)
  have HW := Lib.hid hW1
  clear hcl hin hiv hgc hoi hb1' HMD hW1 hbW hx0 hQ1
  go_upto_region 2 with (fail)
  rw [HW.out]
  clear HW
  go_wp2_with fail
  with_reducible refine HNW.out.mono ?_
  rintro e w2 ⟨hb2', G, d, S, _, _, ⟨hne, rfl⟩ | ⟨hz, Q, eb, cb, mb, pb, iv2, rfl, hQ, hE⟩⟩
  · generalize (newT C I G).1 = e1 at *
    generalize (newT C I G).2 = e2 at *
    obtain ⟨W2, hW2⟩ : ∃ W2, w2.alloc (.cells #[.int .i64 e1, .int .i64 e2] 34) = W2 := ⟨_, rfl⟩
    have hbW : Below w2.heap.size w2 W2 := by rw [← hW2]; exact below_new w2 _
    have hx4 : W2.heap[w2.heap.size]? = some (.cells #[.int .i64 e1, .int .i64 e2] 34) := by rw [← hW2, alloc_get, if_pos rfl]
    have s1 : W2.cell? ⟨w2.heap.size, 0, none⟩ = some (.int .i64 e1) := by simp [World.cell?, hx4]
    have HB2 := Lib.hid (below_step HB1.out (below_step hb2' hbW))
    have HL := Lib.hid (HLV.out W2)
    have he1 : (e1 != 0) = true := by simpa using hne
    have HW := Lib.hid hW2
    clear hb2' HNW hne hW2 hbW hx4 HCL HIN HX0 HB1
    go_upto_region 3 with (fail)
    rw [HW.out]
    clear HW
    go_wp2_with fail
    with_reducible refine HL.out.mono ?_
    rintro e w3 ⟨rfl, hb3⟩
    have HB3 := Lib.hid (below_step HB2.out hb3)
    clear hb3
    go_wp2_with fail
    show bodyPost _ _ _ _ _ _
    go_ret
    exact ⟨rfl, HB3.out⟩
  · obtain ⟨W2, hW2⟩ : ∃ W2, w2.alloc (.cells #[.int .i64 0, .int .i64 0] 34) = W2 := ⟨_, rfl⟩
    have hbW : Below w2.heap.size w2 W2 := by rw [← hW2]; exact below_new w2 _
    have hbX := below_step hb2' hbW
    have HT2 : Hid (TF Q C I eb cb mb pb iv2 Ac cc Ai ci w1.heap.size w W2) := Lib.hid ⟨hE.on hbW, fun b hb => Nat.lt_of_lt_of_le (hQ b hb) hbW.size, (HCL.out.keep hbX.size (fun b _ hl => hbX.block b hl)).mono (fun b k => Nat.lt_of_lt_of_le k hbX.size), (HIN.out.keep hbX.size (fun b _ hl => hbX.block b hl)).mono (fun b k _ => Nat.lt_of_lt_of_le k hbX.size), (hbX.block _ (lt_of_block HX0.out)).trans HX0.out, below_step HB1.out hbX⟩
    have HNS := Lib.hid (names_any W2)
    have HW := Lib.hid hW2
    clear hb2' HNW hz hQ hE hW2 hbW hbX HCL HIN HX0 HB1 q0 q1 q2 q3
    generalize w1.heap.size = p0 at *
    go_upto_region 3 with (fail)
    rw [HW.out]
    clear HW
    go_wp2_with fail
    with_reducible refine HNS.out.mono ?_
    rintro e w5 ⟨⟨g1, g2, rfl, hs1, hs2, _, _⟩, hb5⟩
    have HT5 := Lib.hid (HT2.out.on hb5)
    have HNC : Hid (∀ u, Below w5.heap.size w5 u → ∀ (j : Nat) y, names5[j]? = some y → u.cell? ⟨g1, j, none⟩ = some (.string y)) := Lib.hid (fun u hu j y hy => by
      obtain ⟨hj, rfl⟩ := List.getElem?_eq_some_iff.1 hy
      obtain ⟨b, off, e1, hb, hc⟩ := hs1.at j hj
      injection e1 with e1; injection e1 with e1 e2 _
      subst e1 e2
      rw [Nat.zero_add] at hc
      exact (hu.cell (p := ⟨g1, j, none⟩) hb).trans hc)
    have HNC2 : Hid (∀ u, Below w5.heap.size w5 u → ∀ (j : Nat) y, cons3[j]? = some y → u.cell? ⟨g2, j, none⟩ = some (.string y)) := Lib.hid (fun u hu j y hy => by
      obtain ⟨hj, rfl⟩ := List.getElem?_eq_some_iff.1 hy
      obtain ⟨b, off, e1, hb, hc⟩ := hs2.at j hj
      injection e1 with e1; injection e1 with e1 e2 _
      subst e1 e2
      rw [Nat.zero_add] at hc
      exact (hu.cell (p := ⟨g2, j, none⟩) hb).trans hc)
    obtain ⟨ai, hai⟩ : ∃ n : Nat, a % 5 = (n : Int) := Int.eq_ofNat_of_zero_le (Int.emod_nonneg _ (by omega))
    obtain ⟨bi, hbi⟩ : ∃ n : Nat, b % 5 = (n : Int) := Int.eq_ofNat_of_zero_le (Int.emod_nonneg _ (by omega))
    obtain ⟨ni, hni⟩ : ∃ k : Nat, n % 3 = (k : Int) := Int.eq_ofNat_of_zero_le (Int.emod_nonneg _ (by omega))
    have hai5 : ai < 5 := by omega
    have hbi5 : bi < 5 := by omega
    have hni3 : ni < 3 := by omega
    obtain ⟨s, hs⟩ : ∃ s, names5[ai]? = some s := ⟨_, List.getElem?_eq_getElem (show ai < 5 from hai5)⟩
    obtain ⟨t, ht⟩ : ∃ t, names5[bi]? = some t := ⟨_, List.getElem?_eq_getElem (show bi < 5 from hbi5)⟩
    obtain ⟨u, hu⟩ : ∃ u, cons3[ni]? = some u := ⟨_, List.getElem?_eq_getElem (show ni < 3 from hni3)⟩
    have hs1' := names5_size s (List.mem_of_getElem? hs)
    have ht1' := names5_size t (List.mem_of_getElem? ht)
    have hsz : s.size ≤ maxLen := by rw [hs1']; decide
    have htz : t.size ≤ maxLen := by rw [ht1']; decide
    have huz : u.size ≤ maxLen := cons3_size u (List.mem_of_getElem? hu)
    have hsum : ∀ q : World, (Op.stringOp .add ⟨#[109]⟩ t).run Try.prog q = .ok (.string (⟨#[109]⟩ ++ t)) q := fun q => run_string_add_sum q _ _ (by show 1 + _ ≤ _; omega)
    have hmtz : (⟨#[109]⟩ ++ t : ByteArray).size ≤ maxLen := by rw [ByteArray.size_append]; show 1 + t.size ≤ maxLen; unfold maxLen; omega
    have HMA := Lib.hid (mod_any ⟨ha1, ha2⟩ (m := 5) ⟨by omega, by omega⟩ w5)
    rw [hai] at HMA
    have ha0 : (0 : Int) ≤ (ai : Int) := by omega
    have hb0 : (0 : Int) ≤ (bi : Int) := by omega
    have hn0 : (0 : Int) ≤ (ni : Int) := by omega
    have ha5 : (ai : Int) < 5 := by omega
    have hb5' : (bi : Int) < 5 := by omega
    have hn3 : (ni : Int) < 3 := by omega
    clear hs1 hs2 hb5 HNS HT2 hs1' ht1'
    go_wp2_with fail
    with_reducible refine HMA.out.mono ?_
    rintro e w6 ⟨rfl, hb6⟩
    have hc6 := HNC.out w6 hb6 ai s hs
    have HMB := Lib.hid (mod_any ⟨hb1, hb2⟩ (m := 5) ⟨by omega, by omega⟩ w6)
    rw [hbi] at HMB
    have HB6w := Lib.hid hb6
    clear hb6 HMA
    go_wp2_with fail
    with_reducible refine HMB.out.mono ?_
    rintro e w7 ⟨rfl, hb7⟩
    have hb57 := below_step HB6w.out hb7
    have hc7 := HNC.out w7 hb57 bi t ht
    have HMC := Lib.hid (mod_any ⟨hn1, hn2⟩ (m := 3) ⟨by omega, by omega⟩ w7)
    rw [hni] at HMC
    have HB7w := Lib.hid hb57
    clear hb7 hb57 HMB HB6w hc6
    go_wp2_with fail
    with_reducible refine HMC.out.mono ?_
    rintro e w8 ⟨rfl, hb8⟩
    have hb58 := below_step HB7w.out hb8
    have hc8 := HNC2.out w8 hb58 ni u hu
    have HT8 := Lib.hid (HT5.out.on hb58)
    have HPA := Lib.hid (path_any HT8.out.env HT8.out.hq HGC.out.ok hsz htz)
    clear hb8 hb58 HMC HB7w HT5 HNC HNC2 hs ht hu hc7
    go_wp2_with fail
    with_reducible refine HPA.out.mono ?_
    rintro e w9 hp
    obtain ⟨hb9, A1, c1, rfl, hi1⟩ := path_doc HGC.out.ok hp
    have HT9 := Lib.hid (HT8.out.on hb9)
    have HI1 := Lib.hid hi1
    obtain ⟨q0, q1, q2, q3⟩ := HT9.out.cells
    have HPB := Lib.hid (dpath_any (a := s) (b := t) HGC.out.ok HT9.out.cl (fun b h => h) (Ai := Ai) (ni := I.length) (ci := ci))
    clear hp hb9 hi1 HPA HT8 hc8
    go_wp2_with fail
    with_reducible refine HPB.out.mono ?_
    rintro e w10 hp
    obtain ⟨hb10, A2, c2, rfl, hi2⟩ := dpath_doc hp
    have HT10 := Lib.hid (HT9.out.on hb10)
    have HIN := Lib.hid (ints17_any (HI1.out.on hb10) hi2)
    rw [decide_eq_true rfl] at HIN
    clear hp hb10 hi2 HPB HT9 HI1 q0 q1 q2 q3
    generalize (docPath C s t).isSome = qq at *
    generalize docU C s t = dU at *
    go_wp2_with fail
    with_reducible refine HIN.out.mono ?_
    rintro e w11 ⟨rfl, hb11⟩
    have HT11 := Lib.hid (HT10.out.on hb11)
    clear hb11 HIN HT10
    obtain ⟨LL, hLL⟩ : ∃ LL, aboveF (supF C) (hasF C) (C.length + 1) [] s = LL := ⟨_, rfl⟩
    have HTD : Hid (TF Q C I eb cb mb pb iv2 Ac cc Ai ci p0 w w11.drew) := Lib.hid (HT11.out.on (Below.refl _ w11).drew)
    have HA1 : Hid (∀ y, Below w11.drew.heap.size w11.drew y → Calls Try.prog 19 #[.pointer (some ⟨eb, 0, none⟩), .string s] y (fun e w' => ∃ (A : Option Addr) (c : Nat), e = .returned (.slice A LL.length c) ∧ StrsAt (fun b => b < w'.heap.size) w' (.slice A LL.length c) LL ∧ Below y.heap.size y w')) := Lib.hid (fun y hy => by
      have hT := HTD.out.on hy
      refine (above_any hT.env hT.hq HGC.out.ok s hsz).mono ?_
      rintro e w' ⟨rv, L, rfl, h1, h2, _, h3⟩
      have h2 := h2 (C.length + 1) (by omega)
      rw [hLL] at h2
      subst h2
      obtain ⟨A, c, rfl, _⟩ := own_form h1
      exact ⟨A, c, rfl, h1.strs.mono (fun b hb => (World.ownsRow.lt h1 b hb.2).2), h3⟩)
    have HA2 : Hid (∀ y, Below w11.drew.heap.size w11.drew y → Calls Try.prog 20 #[.agg #[.slice none 0 0, .slice Ac C.length cc, .slice Ai I.length ci, .slice none 0 0], .string s] y (fun e w' => ∃ (A : Option Addr) (c : Nat), e = .returned (.slice A LL.length c) ∧ StrsAt (fun b => b < w'.heap.size) w' (.slice A LL.length c) LL ∧ Below y.heap.size y w')) := Lib.hid (fun y hy => by
      have hT := HTD.out.on hy
      refine (rabove20_any HGC.out.ok hT.cl (fun b h => h) s).mono ?_
      rintro e w' ⟨⟨v, rfl, ht⟩, h3⟩
      rw [hLL] at ht
      obtain ⟨A, c, rfl, _⟩ := ht.form
      exact ⟨A, c, rfl, ht.1.mono (fun b hb => hb.2), h3⟩)
    have HA3 : Hid (∀ y A1 c1 A2 c2, StrsAt (fun b => b < y.heap.size) y (.slice A1 LL.length c1) LL → StrsAt (fun b => b < y.heap.size) y (.slice A2 LL.length c2) LL → Calls Try.prog 18 #[.slice A1 LL.length c1, .slice A2 LL.length c2] y (fun e w' => e = .returned (.bool true) ∧ Below y.heap.size y w')) := Lib.hid (fun y A1 c1 A2 c2 h1 h2 => by
      have := texts_any h1 h2
      rw [decide_eq_true rfl] at this
      exact this)
    have b0 : Below w11.drew.heap.size w11.drew w11.drew := Below.refl _ _
    have keepS : Hid (∀ y, Below w11.drew.heap.size w11.drew y → y.cell? ⟨p0, 0, none⟩ = some (.slice none 0 0) ∧ y.cell? ⟨p0, 1, none⟩ = some (.slice Ac C.length cc) ∧ y.cell? ⟨p0, 2, none⟩ = some (.slice Ai I.length ci) ∧ y.cell? ⟨p0, 3, none⟩ = some (.slice none 0 0)) := Lib.hid (fun y hy => (HTD.out.on hy).cells)
    have hS0 := keepS.out _ b0
    clear hLL
    go_wp2_with fail
    go_region_held3 (fun y => y.cell? ⟨p0, 0, none⟩ = some (.slice none 0 0) ∧ y.cell? ⟨p0, 1, none⟩ = some (.slice Ac C.length cc) ∧ y.cell? ⟨p0, 2, none⟩ = some (.slice Ai I.length ci) ∧ y.cell? ⟨p0, 3, none⟩ = some (.slice none 0 0)) (first | exact hS0 | exact hS1 | exact hS2 | exact hS3) (first
      | (go_at_call 19; (with_reducible refine (HA1.out _ b0).mono ?_); rintro e y1 ⟨A5, c5, rfl, s1, d1⟩; have b1 := b0.trans (d1.mono b0.size); have hS1 := keepS.out y1 b1)
      | (go_at_call 20; (with_reducible refine (HA2.out _ b1).mono ?_); rintro e y2 ⟨A6, c6, rfl, s2, d2⟩; have b2 := b1.trans (d2.mono b1.size); have hS2 := keepS.out y2 b2; have t1 := (s1.on d2).mono (fun b h => Nat.lt_of_lt_of_le h d2.size))
      | (go_at_call 18; (with_reducible refine (HA3.out _ _ _ _ _ t1 s2).mono ?_); rintro e y3 ⟨rfl, d3⟩; have b3 := b2.trans (d3.mono b2.size); have hS3 := keepS.out y3 b3)
      | (go_at_call 20; (with_reducible refine (HA2.out _ b0).mono ?_); rintro e y1 ⟨A6, c6, rfl, s2, d1⟩; have b1 := b0.trans (d1.mono b0.size); have hS1 := keepS.out y1 b1)
      | (go_at_call 19; (with_reducible refine (HA1.out _ b1).mono ?_); rintro e y2 ⟨A5, c5, rfl, s1, d2⟩; have b2 := b1.trans (d2.mono b1.size); have hS2 := keepS.out y2 b2; have t2 := (s2.on d2).mono (fun b h => Nat.lt_of_lt_of_le h d2.size))
      | (go_at_call 18; (with_reducible refine (HA3.out _ _ _ _ _ s1 t2).mono ?_); rintro e y3 ⟨rfl, d3⟩; have b3 := b2.trans (d3.mono b2.size); have hS3 := keepS.out y3 b3))
    all_goals
      have HT12 : Hid (TF Q C I eb cb mb pb iv2 Ac cc Ai ci p0 w y3) := Lib.hid (HTD.out.on b3)
      have HV1 := Lib.hid (inst_any HT12.out.env s u hsz huz)
      have hhd : headH I ⟨(s, u), hsz, huz⟩ = instF I 0 s u := rfl
      rw [hhd] at HV1
      clear hhd hS1 hS2 hS3 b1 b2 b3 b0 d1 d2 d3 s1 s2 HA1 HA2 HA3 keepS hS0 HTD HT11
      try clear t1
      try clear t2
      go_wp2_with fail
      with_reducible refine HV1.out.mono ?_
      rintro e w13 ⟨rfl, hb13⟩
      have HT13 := Lib.hid (HT12.out.on hb13)
      obtain ⟨q0, q1, q2, q3⟩ := HT13.out.cells
      have HV2 := Lib.hid (rinst_any HT13.out.ins (cv := .slice Ac C.length cc) ⟨_, _, _, rfl⟩ s u)
      clear hb13 HV1 HT12
      generalize (((instF I 0 s u).getD 0 : Nat) : Int) = iz at *
      generalize (instF I 0 s u).isSome = iq at *
      go_wp2_with fail
      with_reducible refine HV2.out.mono ?_
      rintro e w14 ⟨rfl, hb14⟩
      have HT14 := Lib.hid (HT13.out.on hb14)
      have HCA := Lib.hid (class_any HT14.out.env s hsz)
      clear hb14 HV2 HT13 q0 q1 q2 q3
      go_wp2_with fail
      with_reducible refine HCA.out.mono ?_
      rintro e w15 ⟨⟨k, sv, As, ns, ms, hk, rfl, hsv⟩ | ⟨hk, rfl⟩, hb15⟩
      · obtain ⟨Asv, csv, rfl, _, _⟩ := hsv.form
        unfold clsV
        obtain ⟨W15, hW15⟩ : ∃ W15, w15.alloc (.cells #[.string k.name, .int .i64 k.atp, .string k.var, .slice none 0 0, .slice Asv k.supers.length csv, .slice As ns ms] 59) = W15 := ⟨_, rfl⟩
        have hbW : Below w15.heap.size w15 W15 := by rw [← hW15]; exact below_new w15 _
        have hbX := below_step hb15 hbW
        have hz0 : W15.heap[w15.heap.size]? = some (.cells #[.string k.name, .int .i64 k.atp, .string k.var, .slice none 0 0, .slice Asv k.supers.length csv, .slice As ns ms] 59) := by rw [← hW15, alloc_get, if_pos rfl]
        have HZ0 := Lib.hid hz0
        have HT15 := Lib.hid (HT14.out.on hbX)
        obtain ⟨q0, q1, q2, q3⟩ := HT15.out.cells
        have HRC := Lib.hid (rclass_any (iv := .slice Ai I.length ci) HT15.out.cl ⟨_, _, _, rfl⟩ (fun b h => h) s)
        have HK := Lib.hid hk
        have HSV := Lib.hid (hsv.on hbW)
        have HW := Lib.hid hW15
        clear hk hW15 hbW hbX hz0 hb15 HCA HT14 hsv
        go_upto_region 16 with (fail)
        rw [HW.out]
        clear HW
        go_wp2_with fail
        with_reducible refine HRC.out.mono ?_
        rintro e w16 ⟨⟨k2, sv2, At, nt, mt, hk2, rfl, hsv2⟩ | ⟨hk2, rfl⟩, hb16⟩
        · obtain ⟨Atv, ctv, rfl, _, _⟩ := hsv2.form
          have e2 : k2 = k := by have := HK.out; rw [hk2] at this; injection this
          subst e2
          unfold clsV
          have HB16 := Lib.hid hb16
          obtain ⟨W16, hW16⟩ : ∃ W16, w16.alloc (.cells #[.string k2.name, .int .i64 k2.atp, .string k2.var, .slice none 0 0, .slice Atv k2.supers.length ctv, .slice At nt mt] 59) = W16 := ⟨_, rfl⟩
          have hbW : Below w16.heap.size w16 W16 := by rw [← hW16]; exact below_new w16 _
          have hbX := below_step hb16 hbW
          have hz0 : W16.heap[w16.heap.size]? = some (.cells #[.string k2.name, .int .i64 k2.atp, .string k2.var, .slice none 0 0, .slice Atv k2.supers.length ctv, .slice At nt mt] 59) := by rw [← hW16, alloc_get, if_pos rfl]
          have HZ1 := Lib.hid hz0
          have HZ2 := Lib.hid ((hbX.block _ (lt_of_block HZ0.out)).trans HZ0.out)
          have HT16 := Lib.hid (HT15.out.on hbX)
          have HTX : Hid (∀ y, Below W16.heap.size W16 y → Calls Try.prog 18 #[.slice Asv k2.supers.length csv, .slice Atv k2.supers.length ctv] y fun e w' => e = .returned (.bool true) ∧ Below y.heap.size y w') := Lib.hid (fun y hy => by
            have := texts_any ((HSV.out.on (below_step HB16.out hbW)).on hy) ((hsv2.on hbW).on hy)
            rw [decide_eq_true rfl] at this
            exact this)
          have HME := Lib.hid (method_any HT16.out.env (⟨#[109]⟩ ++ t) hmtz)
          have HW := Lib.hid hW16
          clear hk2 hW16 hbW hbX hz0 hb16 HRC HT15 HZ0 q0 q1 q2 q3 hsv2 HSV
          go_upto_region 17 with (fail)
          rw [HW.out]
          clear HW
          go_wp2_with fail
          with_reducible refine HME.out.mono ?_
          rintro e w17 ⟨rfl, hb17⟩
          have HT17 := Lib.hid (HT16.out.on hb17)
          obtain ⟨q0, q1, q2, q3⟩ := HT17.out.cells
          have HDM := Lib.hid (dmeth_any (Ai := Ai) (ni := I.length) (ci := ci) (x := ⟨#[109]⟩ ++ t) HT17.out.cl (fun c hc => (HGC.out.mths.2 c hc).1))
          have HB17 := Lib.hid hb17
          clear hb17 HME HT16
          generalize ((lookF (mths C) (⟨#[109]⟩ ++ t)).getD (⟨#[]⟩, 0)).1 = mn at *
          generalize ((((lookF (mths C) (⟨#[109]⟩ ++ t)).getD (⟨#[]⟩, 0)).2 : Nat) : Int) = mi at *
          generalize (lookF (mths C) (⟨#[109]⟩ ++ t)).isSome = mq at *
          go_wp2_with fail
          with_reducible refine HDM.out.mono ?_
          rintro e w18 ⟨rfl, hb18⟩
          have HT18 := Lib.hid (HT17.out.on hb18)
          have HB18 := Lib.hid (below_step HB17.out hb18)
          have hz1 := (HB18.out.block _ (lt_of_block HZ1.out)).trans HZ1.out
          have hz2 := (HB18.out.block _ (lt_of_block HZ2.out)).trans HZ2.out
          obtain ⟨r1, r4⟩ : w18.cell? ⟨w15.heap.size, 1, none⟩ = some (.int .i64 k2.atp) ∧ w18.cell? ⟨w15.heap.size, 4, none⟩ = some (.slice Asv k2.supers.length csv) := by simp [World.cell?, hz2]
          obtain ⟨t1, t4⟩ : w18.cell? ⟨w16.heap.size, 1, none⟩ = some (.int .i64 k2.atp) ∧ w18.cell? ⟨w16.heap.size, 4, none⟩ = some (.slice Atv k2.supers.length ctv) := by simp [World.cell?, hz1]
          obtain ⟨v0, v1, v2, v3⟩ := HT18.out.cells
          have keepS : Hid (∀ y, Below w18.drew.heap.size w18.drew y → y.cell? ⟨w15.heap.size, 1, none⟩ = some (.int .i64 k2.atp) ∧ y.cell? ⟨w15.heap.size, 4, none⟩ = some (.slice Asv k2.supers.length csv) ∧ y.cell? ⟨w16.heap.size, 1, none⟩ = some (.int .i64 k2.atp) ∧ y.cell? ⟨w16.heap.size, 4, none⟩ = some (.slice Atv k2.supers.length ctv) ∧ y.cell? ⟨p0, 2, none⟩ = some (.slice Ai I.length ci)) := Lib.hid (fun y hy => by
            have hb : Below w18.heap.size w18 y := (Below.refl _ w18).drew.trans hy
            exact ⟨(hb.cell (p := ⟨w15.heap.size, 1, none⟩) (lt_of_block hz2)).trans r1, (hb.cell (p := ⟨w15.heap.size, 4, none⟩) (lt_of_block hz2)).trans r4, (hb.cell (p := ⟨w16.heap.size, 1, none⟩) (lt_of_block hz1)).trans t1, (hb.cell (p := ⟨w16.heap.size, 4, none⟩) (lt_of_block hz1)).trans t4, (hb.cell (p := ⟨p0, 2, none⟩) (lt_of_block HT18.out.box)).trans v2⟩)
          have HTD := Lib.hid (HT18.out.on (Below.refl _ w18).drew)
          have H18 : Hid (∀ y, Below w18.drew.heap.size w18.drew y → Calls Try.prog 18 #[.slice Asv k2.supers.length csv, .slice Atv k2.supers.length ctv] y fun e w' => e = .returned (.bool true) ∧ Below y.heap.size y w') := Lib.hid (fun y hy => HTX.out y (below_step HB18.out ((Below.refl _ w18).drew.trans hy)))
          have H27 : Hid (∀ y, Below w18.drew.heap.size w18.drew y → Calls Try.prog 27 #[.pointer (some ⟨eb, 0, none⟩)] y fun e w' => e = .returned (.int .i64 I.length) ∧ Below y.heap.size y w') := Lib.hid (fun y hy => len_any (HTD.out.on hy).env)
          have H12 : Hid (∀ y, Below w18.drew.heap.size w18.drew y → Calls Try.prog 12 #[] y (TrueB y)) := Lib.hid (fun y _ => HLV.out y)
          have b0 : Below w18.drew.heap.size w18.drew w18.drew := Below.refl _ _
          have hS0 := keepS.out _ b0
          have g1' : (qq == qq) = true := by simp
          have g2' : (iz == iz) = true := by simp
          have g3' : (iq == iq) = true := by simp
          have g4' : (mn.toList == mn.toList) = true := by simp
          have g5' : (mi == mi) = true := by simp
          have g6' : (mq == mq) = true := by simp
          have g7' : ((I.length : Int) == (I.length : Int)) = true := by simp
          have g8' : ((k2.atp : Int) == k2.atp) = true := by simp
          clear hb18 HDM HT17 HB17 hz1 hz2 q0 q1 q2 q3 HTX r1 r4 t1 t4 v0 v1 v2 v3
          go_wp2_with fail
          dsimp only [List.append]
          go_region_held3 (fun y => y.cell? ⟨w15.heap.size, 1, none⟩ = some (.int .i64 k2.atp) ∧ y.cell? ⟨w15.heap.size, 4, none⟩ = some (.slice Asv k2.supers.length csv) ∧ y.cell? ⟨w16.heap.size, 1, none⟩ = some (.int .i64 k2.atp) ∧ y.cell? ⟨w16.heap.size, 4, none⟩ = some (.slice Atv k2.supers.length ctv) ∧ y.cell? ⟨p0, 2, none⟩ = some (.slice Ai I.length ci)) (first | exact hS0 | exact hS1 | exact hS2 | exact hS3) (first
            | (go_at_call 18; (with_reducible refine (H18.out _ b0).mono ?_); rintro e y1 ⟨rfl, d1⟩; have b1 := b0.trans (d1.mono b0.size); have hS1 := keepS.out y1 b1)
            | (go_at_call 27; (with_reducible refine (H27.out _ b1).mono ?_); rintro e y2 ⟨rfl, d2⟩; have b2 := b1.trans (d2.mono b1.size); have hS2 := keepS.out y2 b2)
            | (go_at_call 12; (with_reducible refine (H12.out _ b2).mono ?_); rintro e w21 ⟨rfl, d3⟩; have b3 := b2.trans (d3.mono b2.size); have hS3 := keepS.out w21 b3))
          all_goals
            have HB21 := Lib.hid (below_step HTD.out.bl b3)
            clear hS1 hS2 hS3 b1 b2 b3 d1 d2 d3
            go_wp2_with fail
            show bodyPost _ _ _ _ _ _
            go_ret
            exact ⟨rfl, HB21.out⟩
        · exact absurd HK.out (by rw [hk2]; simp)
      · unfold zCls
        obtain ⟨W15, hW15⟩ : ∃ W15, w15.alloc (.cells #[.string ⟨#[]⟩, .int .i64 0, .string ⟨#[]⟩, .slice none 0 0, .slice none 0 0, .slice none 0 0] 59) = W15 := ⟨_, rfl⟩
        have hbW : Below w15.heap.size w15 W15 := by rw [← hW15]; exact below_new w15 _
        have hbX := below_step hb15 hbW
        have hz0 : W15.heap[w15.heap.size]? = some (.cells #[.string ⟨#[]⟩, .int .i64 0, .string ⟨#[]⟩, .slice none 0 0, .slice none 0 0, .slice none 0 0] 59) := by rw [← hW15, alloc_get, if_pos rfl]
        have HZ0 := Lib.hid hz0
        have HT15 := Lib.hid (HT14.out.on hbX)
        obtain ⟨q0, q1, q2, q3⟩ := HT15.out.cells
        have HRC := Lib.hid (rclass_any (iv := .slice Ai I.length ci) HT15.out.cl ⟨_, _, _, rfl⟩ (fun b h => h) s)
        have HK := Lib.hid hk
        have HSV := HK
        have HW := Lib.hid hW15
        clear hk hW15 hbW hbX hz0 hb15 HCA HT14 
        go_upto_region 16 with (fail)
        rw [HW.out]
        clear HW
        go_wp2_with fail
        with_reducible refine HRC.out.mono ?_
        rintro e w16 ⟨⟨k2, sv2, At, nt, mt, hk2, rfl, hsv2⟩ | ⟨hk2, rfl⟩, hb16⟩
        · exact absurd HK.out (by rw [hk2]; simp)
        · unfold zCls
          obtain ⟨W16, hW16⟩ : ∃ W16, w16.alloc (.cells #[.string ⟨#[]⟩, .int .i64 0, .string ⟨#[]⟩, .slice none 0 0, .slice none 0 0, .slice none 0 0] 59) = W16 := ⟨_, rfl⟩
          have hbW : Below w16.heap.size w16 W16 := by rw [← hW16]; exact below_new w16 _
          have hbX := below_step hb16 hbW
          have hz0 : W16.heap[w16.heap.size]? = some (.cells #[.string ⟨#[]⟩, .int .i64 0, .string ⟨#[]⟩, .slice none 0 0, .slice none 0 0, .slice none 0 0] 59) := by rw [← hW16, alloc_get, if_pos rfl]
          have HZ1 := Lib.hid hz0
          have HZ2 := Lib.hid ((hbX.block _ (lt_of_block HZ0.out)).trans HZ0.out)
          have HT16 := Lib.hid (HT15.out.on hbX)
          have HTX : Hid (∀ y, Below W16.heap.size W16 y → Calls Try.prog 18 #[.slice none 0 0, .slice none 0 0] y fun e w' => e = .returned (.bool true) ∧ Below y.heap.size y w') := Lib.hid (fun y hy => by
            have := texts_any (strs_nil (fun b => b < y.heap.size) y) (strs_nil (fun b => b < y.heap.size) y)
            rw [decide_eq_true rfl] at this
            exact this)
          have HME := Lib.hid (method_any HT16.out.env (⟨#[109]⟩ ++ t) hmtz)
          have HW := Lib.hid hW16
          clear hk2 hW16 hbW hbX hz0 hb16 HRC HT15 HZ0 q0 q1 q2 q3 
          go_upto_region 17 with (fail)
          rw [HW.out]
          clear HW
          go_wp2_with fail
          with_reducible refine HME.out.mono ?_
          rintro e w17 ⟨rfl, hb17⟩
          have HT17 := Lib.hid (HT16.out.on hb17)
          obtain ⟨q0, q1, q2, q3⟩ := HT17.out.cells
          have HDM := Lib.hid (dmeth_any (Ai := Ai) (ni := I.length) (ci := ci) (x := ⟨#[109]⟩ ++ t) HT17.out.cl (fun c hc => (HGC.out.mths.2 c hc).1))
          have HB17 := Lib.hid hb17
          clear hb17 HME HT16
          generalize ((lookF (mths C) (⟨#[109]⟩ ++ t)).getD (⟨#[]⟩, 0)).1 = mn at *
          generalize ((((lookF (mths C) (⟨#[109]⟩ ++ t)).getD (⟨#[]⟩, 0)).2 : Nat) : Int) = mi at *
          generalize (lookF (mths C) (⟨#[109]⟩ ++ t)).isSome = mq at *
          go_wp2_with fail
          with_reducible refine HDM.out.mono ?_
          rintro e w18 ⟨rfl, hb18⟩
          have HT18 := Lib.hid (HT17.out.on hb18)
          have HB18 := Lib.hid (below_step HB17.out hb18)
          have hz1 := (HB18.out.block _ (lt_of_block HZ1.out)).trans HZ1.out
          have hz2 := (HB18.out.block _ (lt_of_block HZ2.out)).trans HZ2.out
          obtain ⟨r1, r4⟩ : w18.cell? ⟨w15.heap.size, 1, none⟩ = some (.int .i64 0) ∧ w18.cell? ⟨w15.heap.size, 4, none⟩ = some (.slice none 0 0) := by simp [World.cell?, hz2]
          obtain ⟨t1, t4⟩ : w18.cell? ⟨w16.heap.size, 1, none⟩ = some (.int .i64 0) ∧ w18.cell? ⟨w16.heap.size, 4, none⟩ = some (.slice none 0 0) := by simp [World.cell?, hz1]
          obtain ⟨v0, v1, v2, v3⟩ := HT18.out.cells
          have keepS : Hid (∀ y, Below w18.drew.heap.size w18.drew y → y.cell? ⟨w15.heap.size, 1, none⟩ = some (.int .i64 0) ∧ y.cell? ⟨w15.heap.size, 4, none⟩ = some (.slice none 0 0) ∧ y.cell? ⟨w16.heap.size, 1, none⟩ = some (.int .i64 0) ∧ y.cell? ⟨w16.heap.size, 4, none⟩ = some (.slice none 0 0) ∧ y.cell? ⟨p0, 2, none⟩ = some (.slice Ai I.length ci)) := Lib.hid (fun y hy => by
            have hb : Below w18.heap.size w18 y := (Below.refl _ w18).drew.trans hy
            exact ⟨(hb.cell (p := ⟨w15.heap.size, 1, none⟩) (lt_of_block hz2)).trans r1, (hb.cell (p := ⟨w15.heap.size, 4, none⟩) (lt_of_block hz2)).trans r4, (hb.cell (p := ⟨w16.heap.size, 1, none⟩) (lt_of_block hz1)).trans t1, (hb.cell (p := ⟨w16.heap.size, 4, none⟩) (lt_of_block hz1)).trans t4, (hb.cell (p := ⟨p0, 2, none⟩) (lt_of_block HT18.out.box)).trans v2⟩)
          have HTD := Lib.hid (HT18.out.on (Below.refl _ w18).drew)
          have H18 : Hid (∀ y, Below w18.drew.heap.size w18.drew y → Calls Try.prog 18 #[.slice none 0 0, .slice none 0 0] y fun e w' => e = .returned (.bool true) ∧ Below y.heap.size y w') := Lib.hid (fun y hy => HTX.out y (below_step HB18.out ((Below.refl _ w18).drew.trans hy)))
          have H27 : Hid (∀ y, Below w18.drew.heap.size w18.drew y → Calls Try.prog 27 #[.pointer (some ⟨eb, 0, none⟩)] y fun e w' => e = .returned (.int .i64 I.length) ∧ Below y.heap.size y w') := Lib.hid (fun y hy => len_any (HTD.out.on hy).env)
          have H12 : Hid (∀ y, Below w18.drew.heap.size w18.drew y → Calls Try.prog 12 #[] y (TrueB y)) := Lib.hid (fun y _ => HLV.out y)
          have b0 : Below w18.drew.heap.size w18.drew w18.drew := Below.refl _ _
          have hS0 := keepS.out _ b0
          have g1' : (qq == qq) = true := by simp
          have g2' : (iz == iz) = true := by simp
          have g3' : (iq == iq) = true := by simp
          have g4' : (mn.toList == mn.toList) = true := by simp
          have g5' : (mi == mi) = true := by simp
          have g6' : (mq == mq) = true := by simp
          have g7' : ((I.length : Int) == (I.length : Int)) = true := by simp
          have g8' : ((0 : Int) == 0) = true := by simp
          clear hb18 HDM HT17 HB17 hz1 hz2 q0 q1 q2 q3 HTX r1 r4 t1 t4 v0 v1 v2 v3
          go_wp2_with fail
          dsimp only [List.append]
          go_region_held3 (fun y => y.cell? ⟨w15.heap.size, 1, none⟩ = some (.int .i64 0) ∧ y.cell? ⟨w15.heap.size, 4, none⟩ = some (.slice none 0 0) ∧ y.cell? ⟨w16.heap.size, 1, none⟩ = some (.int .i64 0) ∧ y.cell? ⟨w16.heap.size, 4, none⟩ = some (.slice none 0 0) ∧ y.cell? ⟨p0, 2, none⟩ = some (.slice Ai I.length ci)) (first | exact hS0 | exact hS1 | exact hS2 | exact hS3) (first
            | (go_at_call 18; (with_reducible refine (H18.out _ b0).mono ?_); rintro e y1 ⟨rfl, d1⟩; have b1 := b0.trans (d1.mono b0.size); have hS1 := keepS.out y1 b1)
            | (go_at_call 27; (with_reducible refine (H27.out _ b1).mono ?_); rintro e y2 ⟨rfl, d2⟩; have b2 := b1.trans (d2.mono b1.size); have hS2 := keepS.out y2 b2)
            | (go_at_call 12; (with_reducible refine (H12.out _ b2).mono ?_); rintro e w21 ⟨rfl, d3⟩; have b3 := b2.trans (d3.mono b2.size); have hS3 := keepS.out w21 b3))
          all_goals
            have HB21 := Lib.hid (below_step HTD.out.bl b3)
            clear hS1 hS2 hS3 b1 b2 b3 d1 d2 d3
            go_wp2_with fail
            show bodyPost _ _ _ _ _ _
            go_ret
            exact ⟨rfl, HB21.out⟩
end Go.Proofs.Ytjfhncbfbhkhgaa
