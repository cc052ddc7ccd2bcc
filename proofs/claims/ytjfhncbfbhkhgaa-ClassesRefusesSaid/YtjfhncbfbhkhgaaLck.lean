/- slices.ContainsFunc with the function of lacks; lacks: each instance without one of a class right above is told. Conditions: those that each theorem names. -/
import Derived.Test.YtjfhncbfbhkhgaaOvl
namespace Go.Proofs.Ytjfhncbfbhkhgaa
open Go.RowKit
set_option maxRecDepth 100000 in
set_option maxHeartbeats 1000000 in
theorem lack55_any {Q : Nat → Prop} {C : List Cls} {M : ByteArray → Option (ByteArray × Nat)} {I J : List Ins} {eb cb mb pb : Nat} {iv : Value} {w : World} (h : EnvAt Q C M I (headH J) eb cb mb pb iv w) {xb ub : Nat} (hxb : w.cell? ⟨xb, 0, none⟩ = some (.pointer (some ⟨eb, 0, none⟩))) {b : ByteArray} (hub : w.cell? ⟨ub, 2, none⟩ = some (.string b)) (a : ByteArray) (ha : a.size ≤ maxLen) (hb : b.size ≤ maxLen) :
    Calls Try.prog 55 #[.string a, .pointer (some ⟨xb, 0, none⟩), .pointer (some ⟨ub, 0, none⟩)] w fun e w' => e = .returned (.bool (!(instF J 0 a b).isSome)) ∧ Below w.heap.size w w' := by
  have HI := Lib.hid (inst_any h a b ha hb)
  have HH : Hid ((headH J ⟨(a, b), ha, hb⟩) = instF J 0 a b) := Lib.hid rfl
  rw [HH.out] at HI
  generalize (((instF J 0 a b).getD 0 : Nat) : Int) = n at HI
  generalize (instF J 0 a b).isSome = q at HI ⊢
  clear h HH
  go_enter Try.func55, Try.ntmps55
  go_wp2_with fail
  with_reducible refine HI.out.mono ?_
  rintro e w2 ⟨rfl, hb2⟩
  have HB := Lib.hid hb2
  clear hb2
  go_wp2
  go_ret
  exact ⟨rfl, HB.out⟩
def Idx (p : ByteArray → Bool) (l : List ByteArray) (w : World) (e : Ending) (w' : World) : Prop :=
  (∃ r : Int, e = .returned (.int .i64 r) ∧ ((0 ≤ r ∧ l.any p = true) ∨ (r = -1 ∧ l.any p = false))) ∧ Below w.heap.size w w'
set_option maxRecDepth 100000 in
set_option maxHeartbeats 1000000 in
theorem index69_any {P : Nat → Prop} {w : World} {v : Value} {l : List ByteArray} (h : StrsAt P w v l) {p : ByteArray → Bool} {xb ub : Nat} (hp : ∀ u, Below w.heap.size w u → ∀ x ∈ l, Calls Try.prog 55 #[.string x, .pointer (some ⟨xb, 0, none⟩), .pointer (some ⟨ub, 0, none⟩)] u fun e w' => e = .returned (.bool (p x)) ∧ Below u.heap.size u w') :
    Calls Try.prog 69 #[v, .func (.func 55) #[] #[.pointer (some ⟨xb, 0, none⟩), .pointer (some ⟨ub, 0, none⟩)]] w (Idx p l w) := by
  obtain ⟨A, c, rfl, hc, hm⟩ := h.form
  unfold maxLen at hm
  have H := Lib.hid h
  have HP := Lib.hid hp
  clear h hp
  go_enter Try.func69, Try.ntmps69
  go_wp2
  go_loopw [8] (fun i wr => ∃ k : Nat, k ≤ l.length ∧ i = .int .i64 k ∧ (l.take k).any p = false ∧ Below w.heap.size w wr) (fun i _ => l.length - (intOf i).toNat)
  case atStart => exact ⟨0, Nat.zero_le _, rfl, rfl, Below.refl _ _⟩
  case round =>
    obtain ⟨k, hk, rfl, hno, hb⟩ := hrel
    have HB := Lib.hid hb
    have HNO := Lib.hid hno
    by_cases hlt : k < l.length
    · obtain ⟨b1, o1, e1, l1, k1⟩ := (H.out.on hb).at k hlt
      subst e1
      have hki : (k : Int) < (l.length : Int) := by omega
      have hk0 : (0 : Int) ≤ (k : Int) := by omega
      obtain ⟨y, hy⟩ : ∃ y, l[k]? = some y := ⟨_, List.getElem?_eq_getElem hlt⟩
      have k2 : wr.cell? ⟨b1, o1 + k, none⟩ = some (.string y) := by
        have := List.getElem?_eq_getElem hlt
        rw [hy] at this; injection this with this; rw [this]; exact k1
      have HT : Hid (l.take (k + 1) = l.take k ++ [y]) := Lib.hid (by rw [List.take_add_one, hy]; rfl)
      have HMEM := Lib.hid (List.mem_of_getElem? hy)
      have HC := Lib.hid (HP.out wr hb y HMEM.out)
      have HBW := Lib.hid (hb.size)
      clear k1 hb hno hy
      obtain ⟨q, hq⟩ : ∃ q, p y = q := ⟨_, rfl⟩
      rw [hq] at HC
      have HQ := Lib.hid hq
      clear hq
      go_wp2_with fail
      with_reducible refine HC.out.mono ?_
      rintro e w2 ⟨rfl, hb2⟩
      have HB2 : Hid (Below w.heap.size w w2) := Lib.hid (HB.out.trans (hb2.mono HBW.out))
      clear hb2
      cases q with
      | true =>
        have HA : Hid (l.any p = true) := Lib.hid (List.any_eq_true.2 ⟨y, HMEM.out, HQ.out⟩)
        go_wp2
        go_ret
        exact ⟨⟨_, rfl, .inl ⟨hk0, HA.out⟩⟩, HB2.out⟩
      | false =>
        have HA : Hid ((l.take (k + 1)).any p = false) := Lib.hid (by rw [HT.out, List.any_append, HNO.out]; simp [HQ.out])
        go_wp2
        go_roundw
        case rel => exact ⟨k + 1, by omega, by go_num, HA.out, HB2.out⟩
        case measure => simp [intOf]; omega
    · have hke : k = l.length := by omega
      subst hke
      have hd : decide (l.length < l.length) = false := by simp
      have HNX : Hid (l.any p = false) := Lib.hid (by rw [List.take_of_length_le (Nat.le_refl _)] at hno; exact hno)
      clear hb hno
      go_wp2
      go_ret
      exact ⟨⟨_, rfl, .inr ⟨rfl, HNX.out⟩⟩, HB.out⟩
set_option maxRecDepth 100000 in
set_option maxHeartbeats 1000000 in
theorem contains56_any {P : Nat → Prop} {w : World} {v : Value} {l : List ByteArray} (h : StrsAt P w v l) {p : ByteArray → Bool} {xb ub : Nat} (hp : ∀ u, Below w.heap.size w u → ∀ x ∈ l, Calls Try.prog 55 #[.string x, .pointer (some ⟨xb, 0, none⟩), .pointer (some ⟨ub, 0, none⟩)] u fun e w' => e = .returned (.bool (p x)) ∧ Below u.heap.size u w') :
    Calls Try.prog 56 #[v, .func (.func 55) #[] #[.pointer (some ⟨xb, 0, none⟩), .pointer (some ⟨ub, 0, none⟩)]] w fun e w' => e = .returned (.bool (l.any p)) ∧ Below w.heap.size w w' := by
  have HI := Lib.hid (index69_any h hp)
  obtain ⟨A, c, rfl, hc, hm⟩ := h.form
  clear h hp
  go_enter Try.func56, Try.ntmps56
  go_wp2_with fail
  with_reducible refine HI.out.mono ?_
  rintro e w2 ⟨⟨r, rfl, ⟨hr, hx⟩ | ⟨rfl, hx⟩⟩, hb⟩
  · have HX := Lib.hid hx
    have HB := Lib.hid hb
    clear hx hb
    go_wp2
    go_ret
    exact ⟨by rw [HX.out]; rfl, HB.out⟩
  · have HX := Lib.hid hx
    have HB := Lib.hid hb
    clear hx hb
    go_wp2
    go_ret
    exact ⟨by rw [HX.out]; rfl, HB.out⟩
/-- An instance lacks one of a class right above its own. -/
def lackF (C : List Cls) (I : List Ins) (x : Ins) : Bool := (supF C x.cls).any (fun c => !(instF I 0 c x.con).isSome)
def lackL (C : List Cls) (I J : List Ins) : List (Int × Int) := (J.map (fun x => if lackF C I x = true then [((35 : Int), x.atp)] else [])).flatten
theorem lackL_snoc (C : List Cls) (I J : List Ins) (x : Ins) : lackL C I (J ++ [x]) = lackL C I J ++ (if lackF C I x = true then [(35, x.atp)] else []) := by
  unfold lackL; rw [List.map_append, List.flatten_append]; simp
def LackRes (Q : Nat → Prop) (C : List Cls) (M : ByteArray → Option (ByteArray × Nat)) (I : List Ins) (eb cb mb pb : Nat) (iv : Value) (rb : Nat) (s : Int × Int) (w : World) (e : Ending) (w' : World) : Prop :=
  e = .returned (.tuple #[]) ∧ TellI Q C M I (headH I) eb cb mb pb iv rb (tellsF s (lackL C I I)) w w'
set_option maxRecDepth 100000 in
set_option maxHeartbeats 4000000 in
theorem lacks_any {Q : Nat → Prop} {C : List Cls} {M : ByteArray → Option (ByteArray × Nat)} {I : List Ins} {eb cb mb pb : Nat} {iv : Value} {rb : Nat} {s : Int × Int} {w : World} (h : TellI Q C M I (headH I) eb cb mb pb iv rb s w w) (hC : OkC C) (hI : OkI I) :
    Calls Try.prog 37 #[.pointer (some ⟨eb, 0, none⟩), .func (.func 35) #[.pointer (some ⟨rb, 0, none⟩)] #[]] w (LackRes Q C M I eb cb mb pb iv rb s w) := by
  obtain ⟨Ai, ci, rfl, hci, hcm⟩ : ∃ A c, iv = .slice A I.length c ∧ I.length ≤ c ∧ c ≤ maxLen := by
    obtain ⟨A, c, e, h1, h2, _⟩ := h.env.ins; exact ⟨A, c, e, h1, h2⟩
  obtain ⟨V, eV⟩ : ∃ V, V = w.alloc (.cells #[.pointer (some ⟨eb, 0, none⟩)] 31) := ⟨_, rfl⟩
  have hV := h.on (w' := V) (by rw [eV]; exact below_new _ _)
  have v0 : V.heap[w.heap.size]? = some (.cells #[.pointer (some ⟨eb, 0, none⟩)] 31) := by rw [eV, alloc_get, if_pos rfl]
  obtain ⟨_, _, y2, _⟩ := hV.env.cells
  have z0 : V.cell? ⟨w.heap.size, 0, none⟩ = some (.pointer (some ⟨eb, 0, none⟩)) := by simp [World.cell?, v0]
  have HRB := Lib.hid h.ne.2.2.2.2.2
  have HV := Lib.hid hV
  have HZ := Lib.hid v0
  have HI := Lib.hid hI
  have HC := Lib.hid hC
  have HEV := Lib.hid eV
  have hIl := hI.len
  unfold maxLen at hcm
  generalize hbz : w.heap.size = bz at HRB HZ z0
  have HBZ := Lib.hid hbz
  clear h hI hV v0 hC eV hbz
  go_enter Try.func37, Try.ntmps37
  go_upto_region 1 with (fail)
  rw [← HEV.out, HBZ.out]
  go_wp2
  go_loopw [12] (fun i wr => ∃ k : Nat, k ≤ I.length ∧ i = .int .i64 k ∧ TellI Q C M I (headH I) eb cb mb pb (.slice Ai I.length ci) rb (tellsF s (lackL C I (I.take k))) w wr ∧ wr.heap[bz]? = some (.cells #[.pointer (some ⟨eb, 0, none⟩)] 31)) (fun i _ => I.length - (intOf i).toNat)
  case atStart => exact ⟨0, Nat.zero_le _, rfl, HV.out, HZ.out⟩
  case round =>
    obtain ⟨k, hk, rfl, hJ, hz⟩ := hrel
    by_cases hlt : k < I.length
    · obtain ⟨x, hx⟩ : ∃ x, I[k]? = some x := ⟨_, List.getElem?_eq_getElem hlt⟩
      obtain ⟨b, e0, hb, q0, q1, q2, q3, q4, q5⟩ := hJ.env.ins.at hx
      subst e0
      have hki : (k : Int) < (I.length : Int) := by omega
      have hk0 : (0 : Int) ≤ (k : Int) := by omega
      obtain ⟨hxa, hxb⟩ := HI.out.size x (List.mem_of_getElem? hx)
      have LACK : Hid (lackL C I (I.take (k + 1)) = lackL C I (I.take k) ++ (if lackF C I x = true then [(35, x.atp)] else [])) := Lib.hid (by rw [List.take_add_one, hx, Option.toList_some, lackL_snoc])
      obtain ⟨U, eU⟩ : ∃ U, U = wr.alloc (.cells #[.string x.cls, .int .i64 x.atp, .string x.con, .slice none 0 0, .slice none 0 0, .slice none 0 0] 70) := ⟨_, rfl⟩
      have hBU : Below wr.heap.size wr U := by rw [eU]; exact below_new wr _
      have hU := hJ.on hBU
      have u0 : U.heap[wr.heap.size]? = some (.cells #[.string x.cls, .int .i64 x.atp, .string x.con, .slice none 0 0, .slice none 0 0, .slice none 0 0] 70) := by rw [eU, alloc_get, if_pos rfl]
      have u1 : U.heap[bz]? = some (.cells #[.pointer (some ⟨eb, 0, none⟩)] 31) := (hBU.block bz (lt_of_block hz)).trans hz
      have c0 : U.cell? ⟨wr.heap.size, 0, none⟩ = some (.string x.cls) := by simp [World.cell?, u0]
      have c1 : U.cell? ⟨bz, 0, none⟩ = some (.pointer (some ⟨eb, 0, none⟩)) := by simp [World.cell?, u1]
      have HU := Lib.hid hU
      have HEU := Lib.hid eU
      have HU0 := Lib.hid u0
      have HU1 := Lib.hid u1
      have HSU := Lib.hid (supers_any hU.env x.cls hxa)
      have HXS : Hid (x.con.size ≤ maxLen) := Lib.hid hxb
      clear hU eU hJ hBU u0 u1 hz hxa hxb hx
      go_upto_region 4 with (fail)
      rw [← HEU.out]
      clear q0 q1 q2 q3 q4 q5 hb HEU
      generalize hub : wr.heap.size = ub at *
      clear hub
      go_wp2_with fail
      with_reducible refine HSU.out.mono ?_
      rintro e w2 ⟨⟨sv, rfl, hsv⟩, hb2⟩
      have hU2 := HU.out.on hb2
      have hg0 := (hb2.block ub (lt_of_block HU0.out)).trans HU0.out
      have hg1 := (hb2.block bz (lt_of_block HU1.out)).trans HU1.out
      have HCF := Lib.hid (contains56_any hsv (p := fun c => !(instF I 0 c x.con).isSome) (xb := bz) (ub := ub) (fun u hu y hy => by
        have k0 := (hu.block ub (lt_of_block hg0)).trans hg0
        have k1 := (hu.block bz (lt_of_block hg1)).trans hg1
        exact lack55_any (hU2.env.on hu) (by simp [World.cell?, k1]) (by simp [World.cell?, k0]) y (HC.out.size y (supF_mem hy).1) HXS.out))
      obtain ⟨As, cs, rfl, _⟩ := hsv.form
      have HU2 := Lib.hid hU2
      have HG0 := Lib.hid hg0
      have HG1 := Lib.hid hg1
      clear hU2 hg0 hg1 hsv hb2 HU HU0 HU1 c0 c1 HSU
      generalize (supF C x.cls).length = sl at *
      obtain ⟨q, hq⟩ : ∃ q, lackF C I x = q := ⟨_, rfl⟩
      rw [show (supF C x.cls).any (fun c => !(instF I 0 c x.con).isSome) = q from hq] at HCF
      rw [hq] at LACK
      clear hq
      go_wp2_with fail
      with_reducible refine HCF.out.mono ?_
      rintro e w3 ⟨rfl, hb3⟩
      have hU3 := HU2.out.on hb3
      have hg0 := (hb3.block ub (lt_of_block HG0.out)).trans HG0.out
      have hg1 := (hb3.block bz (lt_of_block HG1.out)).trans HG1.out
      clear hb3 HU2 HG0 HG1 HCF
      cases q with
      | true =>
        have c1 : w3.cell? ⟨ub, 1, none⟩ = some (.int .i64 x.atp) := by simp [World.cell?, hg0]
        have HTELL := Lib.hid (tell_any hU3.ref 35 x.atp)
        have HREL : Hid (∀ w', RefAt rb (tellF (tellsF s (lackL C I (I.take k))) 35 x.atp) w' → Fr (fun b => b = rb) w3 w' → TellI Q C M I (headH I) eb cb mb pb (.slice (some ⟨b, 0, none⟩) I.length ci) rb (tellsF s (lackL C I (I.take (k + 1)))) w w' ∧ w'.heap[bz]? = some (.cells #[.pointer (some ⟨eb, 0, none⟩)] 31)) := Lib.hid fun w' r1 r2 => by
          rw [LACK.out, if_pos rfl, tellsF_append]
          exact ⟨hU3.told r1 r2, (r2.block bz (lt_of_block hg1) (fun e => by have := HRB.out; omega)).trans hg1⟩
        clear hU3 hg0 hg1
        go_wp2_with fail
        with_reducible refine HTELL.out.mono ?_
        rintro e w' ⟨rfl, r1, r2⟩
        obtain ⟨t1, t2⟩ := HREL.out w' r1 r2
        have T1 := Lib.hid t1
        have T2 := Lib.hid t2
        clear r1 r2 t1 t2
        go_wp2
        go_roundw
        case rel => exact ⟨k + 1, by omega, by go_num, T1.out, T2.out⟩
        case measure => simp [intOf]; omega
      | false =>
        have T1 : Hid (TellI Q C M I (headH I) eb cb mb pb (.slice (some ⟨b, 0, none⟩) I.length ci) rb (tellsF s (lackL C I (I.take (k + 1)))) w w3) := Lib.hid (by
          rw [LACK.out, if_neg (by simp), List.append_nil]; exact hU3)
        have T2 := Lib.hid hg1
        clear hU3 hg0 hg1
        go_wp2
        go_roundw
        case rel => exact ⟨k + 1, by omega, by go_num, T1.out, T2.out⟩
        case measure => simp [intOf]; omega
    · have hke : k = I.length := by omega
      subst hke
      have HRES : Hid (LackRes Q C M I eb cb mb pb (.slice Ai I.length ci) rb s w (.returned (.tuple #[])) wr) := Lib.hid ⟨rfl, by rw [List.take_of_length_le (Nat.le_refl _)] at hJ; exact hJ⟩
      have hd : decide (I.length < I.length) = false := by simp
      clear hJ hz
      go_wp2
      go_end0
      exact HRES.out
end Go.Proofs.Ytjfhncbfbhkhgaa
