/- The walk of the law LexPlaces. Conditions: the slices of numbers read as numbers; the list of symbols stands in memory as the program's text lays it. -/
import Derived.Test.YtcjojfclgbjapaaDoorBlanks
import Derived.IntWalk
namespace Go.Proofs.YtcjojfclgbjapaaDoor
open Go.RowKit

theorem toksOf_place : ∀ (ps : List (List UInt8 × List UInt8)) (i j : Nat) (h : j < ps.length), (toksOf ps i)[j]? = some ⟨kindN ps[j].2, ps[j].2, numN ps[j].2, i + (srcL (ps.take j)).length + ps[j].1.length⟩
  | p :: r, i, 0, _ => by simp [toksOf, srcL]
  | p :: r, i, j + 1, h => by
    have := toksOf_place r (i + p.1.length + p.2.length) j (by simpa using h)
    simp only [toksOf, List.getElem?_cons_succ, this, List.take_succ_cons, srcL_cons, List.getElem_cons_succ, List.length_append]
    congr 2
    omega
theorem srcL_app (a b : List (List UInt8 × List UInt8)) : srcL (a ++ b) = srcL a ++ srcL b := by simp only [srcL, List.flatMap_append]
theorem srcL_split (ps : List (List UInt8 × List UInt8)) (j : Nat) (h : j < ps.length) : srcL ps = srcL (ps.take j) ++ (ps[j].1 ++ (ps[j].2 ++ srcL (ps.drop (j + 1)))) := by
  have e : ps = ps.take j ++ ps[j] :: ps.drop (j + 1) := by
    rw [← List.drop_eq_getElem_cons h, List.take_append_drop]
  have e2 : srcL ps = srcL (ps.take j ++ ps[j] :: ps.drop (j + 1)) := congrArg srcL e
  rw [e2, srcL_app, srcL_cons]
theorem srcL_take_succ (ps : List (List UInt8 × List UInt8)) (j : Nat) (h : j < ps.length) : (srcL (ps.take (j + 1))).length = (srcL (ps.take j)).length + ps[j].1.length + ps[j].2.length := by
  rw [List.take_succ_eq_append_getElem h, srcL_app, List.length_append]
  simp only [srcL, List.flatMap_cons, List.flatMap_nil, List.append_nil, List.length_append]
  omega
theorem low_text : ∀ x ∈ textsL, kindN x = 1 → nameB 97 122 ⟨x.toArray⟩ = true := by
  intro x hx
  simp only [textsL, List.mem_cons, List.not_mem_nil, or_false] at hx
  rcases hx with rfl | rfl | rfl | rfl | rfl | rfl | rfl | rfl | rfl | rfl | rfl | rfl | rfl | rfl | rfl | rfl | rfl | rfl | rfl | rfl | rfl | rfl | rfl | rfl | rfl | rfl | rfl | rfl | rfl | rfl | rfl | rfl | rfl | rfl
  all_goals decide +kernel
theorem up_text : ∀ x ∈ textsL, kindN x = 2 → nameB 65 90 ⟨x.toArray⟩ = true := by
  intro x hx
  simp only [textsL, List.mem_cons, List.not_mem_nil, or_false] at hx
  rcases hx with rfl | rfl | rfl | rfl | rfl | rfl | rfl | rfl | rfl | rfl | rfl | rfl | rfl | rfl | rfl | rfl | rfl | rfl | rfl | rfl | rfl | rfl | rfl | rfl | rfl | rfl | rfl | rfl | rfl | rfl | rfl | rfl | rfl | rfl
  all_goals decide +kernel

/-- What the law asks of a token: where it stands, and that a name is one. -/
structure Stands (src : ByteArray) (lo : Nat) (t : Tok) : Prop where
  ge : lo ≤ t.place
  le : t.place + t.text.length ≤ src.size
  cut : (src.extract t.place (t.place + t.text.length)).toList = t.text
  low : t.kind = 1 → nameB 97 122 ⟨t.text.toArray⟩ = true
  up : t.kind = 2 → nameB 65 90 ⟨t.text.toArray⟩ = true
def ends (ps : List (List UInt8 × List UInt8)) (k : Nat) : Nat := (srcL (ps.take k)).length
theorem extract_mid (a b c : List UInt8) : ((⟨(a ++ (b ++ c)).toArray⟩ : ByteArray).extract a.length (a.length + b.length)).toList = b := by
  rw [Lib.toList_data, Lib.extract_data]
  simp
theorem stands_of (ps : List (List UInt8 × List UInt8)) (hf : Fine ps) (j : Nat) (hj : j < ps.length) (e : Tok) :
    ∃ (h' : j < (toksOf ps 0 ++ [e]).length), Stands ⟨(srcL ps).toArray⟩ (ends ps j) (toksOf ps 0 ++ [e])[j] ∧ (toksOf ps 0 ++ [e])[j].place + (toksOf ps 0 ++ [e])[j].text.length = ends ps (j + 1) ∧ (toksOf ps 0 ++ [e])[j].text.length ≤ 10 := by
  have hl2 : j < (toksOf ps 0).length := by rw [toksOf_length]; exact hj
  refine ⟨by simp; omega, ?_⟩
  have hp := toksOf_place ps 0 j hj
  rw [List.getElem?_eq_getElem hl2] at hp
  have hp' := Option.some.inj hp
  rw [List.getElem_append_left hl2, hp']
  have hm := hf ps[j] (List.getElem_mem hj)
  have hs := srcL_split ps j hj
  have htk := srcL_take_succ ps j hj
  refine ⟨⟨?_, ?_, ?_, low_text _ hm.2, up_text _ hm.2⟩, ?_, (texts_len _ hm.2).2⟩
  · show ends ps j ≤ _; unfold ends; simp only; omega
  · show _ ≤ (⟨(srcL ps).toArray⟩ : ByteArray).size
    rw [mk_size, hs]; simp only [List.length_append]; omega
  · simp only
    have hs2 : srcL ps = (srcL (ps.take j) ++ ps[j].1) ++ (ps[j].2 ++ srcL (ps.drop (j + 1))) := by rw [List.append_assoc]; exact hs
    rw [hs2]
    have := extract_mid (srcL (ps.take j) ++ ps[j].1) ps[j].2 (srcL (ps.drop (j + 1)))
    rw [List.length_append] at this
    rw [show 0 + (srcL (ps.take j)).length + ps[j].1.length = (srcL (ps.take j)).length + ps[j].1.length by omega]
    exact this
  · unfold ends; simp only; omega
theorem stands_end (ps : List (List UInt8 × List UInt8)) : Stands ⟨(srcL ps).toArray⟩ (ends ps ps.length) ⟨6, [], 0, (srcL ps).length⟩ := by
  refine ⟨?_, ?_, ?_, (fun h => by cases h), (fun h => by cases h)⟩
  · show ends ps ps.length ≤ _; unfold ends; rw [List.take_of_length_le (Nat.le_refl _)]; exact Nat.le_refl _
  · show _ ≤ (⟨(srcL ps).toArray⟩ : ByteArray).size; rw [mk_size]; simp
  · rw [Lib.toList_data, Lib.extract_data]; simp

set_option maxRecDepth 100000 in
set_option maxHeartbeats 2000000 in
theorem places_walk (A0 : Option Addr) (len0 cap0 : Nat) (A1 : Option Addr) (len1 cap1 : Nat) (w : World)
    (r0 : IntRow w.heap.size w A0 len0) (m0 : len0 ≤ maxLen) (r1 : IntRow w.heap.size w A1 len1) (_m1 : len1 ≤ maxLen) (hS : SymsIn w) :
    Calls Tryd.prog 6 #[.slice A0 len0 cap0, .slice A1 len1 cap1] w fun e w' => e = .returned (.bool true) ∧ Below w.heap.size w w' := by
  have hl0 : len0 ≤ 9223372036854775807 := by unfold maxLen at m0; omega
  have R0 := Lib.hid r0
  have R1 := Lib.hid r1
  have HS := Lib.hid hS
  clear r0 r1 hS m0
  go_enter Tryd.func6, Tryd.ntmps6
  go_wp2_with fail
  refine (texts_any A0 len0 cap0 w R0.out hl0).mono ?_
  rintro e x1 ⟨strs, v, rfl, hsl, hall, hown, hb1⟩
  have hs30 : strs.length ≤ 30 := by omega
  obtain ⟨As, cs, rfl, hrow⟩ := strRow_of_own hown
  have HROW := Lib.hid hrow
  have HALL := Lib.hid hall
  have HB1 := Lib.hid hb1
  clear hsl hall hown hrow hb1
  go_wp2_with fail
  refine (source_any As A1 strs cs len1 cap1 _ HROW.out ((R1.out.below HB1.out (Nat.le_refl _)).mono HB1.out.size) (by omega) HALL.out).mono ?_
  rintro e x2 ⟨ps, hps, hfine, rfl, hb2⟩
  have hpl : ps.length ≤ 30 := by have : ps.length = strs.length := by rw [← hps]; simp
                                  omega
  have hlx := lexL_src ps hfine (by omega)
  have hsz := srcL_len ps hfine
  have HB2 : Hid (Below w.heap.size w x2) := HB1.out.trans (hb2.mono HB1.out.size)
  have HLX := Lib.hid hlx
  have hszb : (⟨(srcL ps).toArray⟩ : ByteArray).size ≤ 1000 := by rw [mk_size]; omega
  clear hps hb2 hlx HROW
  go_wp2_with fail
  refine (lexR_any _ _ (by omega) (HS.out.on HB2.out)).mono ?_
  rw [srcL_bytes, HLX.out]
  rintro e x3 ⟨v3, rfl, hr3, b3⟩
  have hn3 : (toksOf ps 0 ++ [Tok.mk 6 [] 0 (srcL ps).length]).length = ps.length + 1 := by rw [List.length_append, toksOf_length]; rfl
  have HB3 : Hid (Below w.heap.size w x3) := HB2.out.trans (b3.mono HB2.out.size)
  have hst : ∀ j, j < ps.length + 1 → ∃ (h' : j < (toksOf ps 0 ++ [Tok.mk 6 [] 0 (srcL ps).length]).length), Stands ⟨(srcL ps).toArray⟩ (ends ps j) (toksOf ps 0 ++ [Tok.mk 6 [] 0 (srcL ps).length])[j] ∧ (toksOf ps 0 ++ [Tok.mk 6 [] 0 (srcL ps).length])[j].place + (toksOf ps 0 ++ [Tok.mk 6 [] 0 (srcL ps).length])[j].text.length = ends ps (j + 1) ∧ (toksOf ps 0 ++ [Tok.mk 6 [] 0 (srcL ps).length])[j].text.length ≤ 10 := by
    intro j hj
    by_cases hjl : j < ps.length
    · exact stands_of ps hfine j hjl _
    · obtain rfl : j = ps.length := by omega
      have e9 : (toksOf ps 0 ++ [Tok.mk 6 [] 0 (srcL ps).length])[ps.length]'(by omega) = ⟨6, [], 0, (srcL ps).length⟩ := by rw [List.getElem_append_right (by rw [toksOf_length]; omega)]; simp
      refine ⟨by omega, ?_⟩
      rw [e9]
      refine ⟨stands_end ps, ?_, by simp⟩
      unfold ends
      rw [List.take_of_length_le (by omega)]; simp
  have hlast3 : ∃ (h' : ps.length < (toksOf ps 0 ++ [Tok.mk 6 [] 0 (srcL ps).length]).length), (toksOf ps 0 ++ [Tok.mk 6 [] 0 (srcL ps).length])[ps.length] = ⟨6, [], 0, (srcL ps).length⟩ :=
    ⟨by omega, by rw [List.getElem_append_right (by rw [toksOf_length]; omega)]; simp⟩
  have hsl : (srcL ps).length = (⟨(srcL ps).toArray⟩ : ByteArray).size := by rw [mk_size]
  rw [hsl] at hst hlast3 hn3 hr3
  have he0 : ends ps 0 = 0 := by unfold ends; simp [srcL]
  clear hsl hsz
  generalize (⟨(srcL ps).toArray⟩ : ByteArray) = SR at *
  generalize toksOf ps 0 ++ [Tok.mk 6 [] 0 SR.size] = L3 at *
  obtain ⟨g3, c3, rfl, hg3, hc3⟩ := (hr3.below (below_new x3 (.cells #[.int .i64 0, .int .i64 0] 30))).some (by rw [hn3]; omega)
  rw [hn3]
  have HC3 := Lib.hid hc3
  have HST := Lib.hid hst
  have HLA := Lib.hid hlast3
  have HE0 := Lib.hid he0
  have hends : ∀ j, j < ps.length + 1 → ends ps j ≤ 1000 := by
    intro j hj
    obtain ⟨_, hs, _, _⟩ := hst j hj
    have h1 := hs.ge
    have h2 := hs.le
    omega
  have HEN := Lib.hid hends
  clear hr3 b3 hn3 HLX hc3 hst hlast3 he0 hends hfine
  generalize ps.length = N at *
  have HB4 : Hid (Below w.heap.size w (x3.alloc (.cells #[.int .i64 0, .int .i64 0] 30))) := HB3.out.alloc HB3.out.size _
  have heq := eq_at
  have hgd := guard_at
  have hN0 : (((N : Int) + 1) == 0) = false := by simp; omega
  go_wp2_with fail
  clear heq hgd hN0
  generalize x3.alloc (.cells #[.int .i64 0, .int .i64 0] 30) = x4 at *
  go_loopw [8, 9] (fun a i wr => ∃ k : Nat, k ≤ N + 1 ∧ i = .int .i64 k ∧ a = .int .i64 (ends ps k) ∧ Below x4.heap.size x4 wr) (fun _ i _ => N + 1 - (intOf i).toNat)
  case atStart => exact ⟨0, Nat.zero_le _, rfl, by rw [HE0.out]; rfl, Below.refl _ _⟩
  case round =>
    obtain ⟨k, hk, rfl, rfl, hb⟩ := hrel
    by_cases hlt : k < N + 1
    · obtain ⟨h', hs, hnx, htl⟩ := HST.out k hlt
      obtain ⟨q0, q1, _, q3⟩ := HC3.out k h'
      have p0 := (hb.cell (p := ⟨g3, k * 4, none⟩) hg3).trans q0
      have p1 := (hb.cell (p := ⟨g3, k * 4 + 1, none⟩) hg3).trans q1
      have p3 := (hb.cell (p := ⟨g3, k * 4 + 3, none⟩) hg3).trans q3
      have hen := HEN.out k hlt
      clear q0 q1 q3
      generalize L3[k] = t at *
      obtain ⟨K, tx, tn, tp⟩ := t
      simp only at p0 p1 p3 htl hnx
      have hge : ends ps k ≤ tp := hs.ge
      have hle : tp + tx.length ≤ SR.size := hs.le
      have hcut : (SR.extract tp (tp + tx.length)).toList = tx := hs.cut
      have HLOW : Hid (K = 1 → nameB 97 122 ⟨tx.toArray⟩ = true) := hs.low
      have HUP : Hid (K = 2 → nameB 65 90 ⟨tx.toArray⟩ = true) := hs.up
      have htz := mk_size tx
      rw [← htz] at htl hle hcut hnx
      have HNX : Hid (((ends ps (k + 1) : Nat) : Int) = (tp : Int) + (((⟨tx.toArray⟩ : ByteArray).size : Nat) : Int)) := by show _ = _; omega
      have hcut2 : ((SR.extract tp (tp + (⟨tx.toArray⟩ : ByteArray).size)).toList != (⟨tx.toArray⟩ : ByteArray).toList) = false := by rw [hcut, Lib.toList_data]; simp
      clear hs hnx hcut htz
      generalize (⟨tx.toArray⟩ : ByteArray) = TX at *
      have hki1 : (k : Int) < (N : Int) + 1 := by omega
      have hk0 : (0 : Int) ≤ (k : Int) := by omega
      have d1 : decide ((tp : Int) < (ends ps k : Int)) = false := by simp; omega
      have d2 : decide ((SR.size : Int) < (tp : Int) + (TX.size : Int)) = false := by simp; omega
      have d3 : (tp : Int) + (TX.size : Int) ≤ (SR.size : Int) := by omega
      have d4 : (0 : Int) ≤ (tp : Int) := by omega
      have d5 : (tp : Int) ≤ (tp : Int) + (TX.size : Int) := by omega
      have d6 : ((tp : Int) + (TX.size : Int)).toNat = tp + TX.size := by omega
      have d7 : decide (tp < ends ps k) = false := by simp; omega
      have hcut3 : ((SR.extract tp (tp + TX.size)).toList == TX.toList) = true := by simpa using hcut2
      clear hcut2
      have hwr : IntKind.i64.wrap ((tp : Int) + (TX.size : Int)) = (tp : Int) + (TX.size : Int) := IntWalk.i64_in _ (by omega)
      have hTm : TX.size ≤ maxLen := by unfold maxLen; omega
      have hzx := hb.size
      have HB := Lib.hid hb
      clear hb
      have hgy : g3 < wr.heap.size := by omega
      by_cases hK1 : K = 1
      · have hlow := HLOW.out hK1
        have HL1 := Lib.hid hlow
        subst hK1
        clear hlow
        go_wp2_with fail
        go_quiet (fail)
        go_wp2_with fail
        go_quiet (fail)
        go_wp2_with fail
        refine (lower_any _ _ hTm).mono ?_
        rw [HL1.out]
        rintro e y1 ⟨rfl, b1⟩
        have b1' : Below wr.heap.size wr y1 := (below_drewN (Below.refl _ _) _).trans (b1.mono (by simp))
        have c0 := (b1'.cell (p := ⟨g3, k * 4, none⟩) hgy).trans p0
        have c1 := (b1'.cell (p := ⟨g3, k * 4 + 1, none⟩) hgy).trans p1
        have c3' := (b1'.cell (p := ⟨g3, k * 4 + 3, none⟩) hgy).trans p3
        have HBY := Lib.hid (HB.out.trans (b1'.mono hzx))
        clear b1 b1' p0 p1 p3
        go_wp2_with fail
        go_quiet (fail)
        go_wp2
        go_roundw
        case rel => exact ⟨k + 1, by omega, by go_num, by rw [HNX.out], below_drewN HBY.out _⟩
        case measure => simp [intOf]; omega
      have e1 : ((K : Int) == 1) = false := by rw [beq_eq_false_iff_ne]; omega
      by_cases hK2 : K = 2
      · have hup := HUP.out hK2
        have HL1 := Lib.hid hup
        subst hK2
        clear hup e1
        go_wp2_with fail
        go_quiet (fail)
        go_wp2_with fail
        go_quiet (fail)
        go_wp2_with fail
        refine (upper_any _ _ hTm).mono ?_
        rw [HL1.out]
        rintro e y1 ⟨rfl, b1⟩
        have b1' : Below wr.heap.size wr y1 := (below_drewN (Below.refl _ _) _).trans (b1.mono (by simp))
        have c0 := (b1'.cell (p := ⟨g3, k * 4, none⟩) hgy).trans p0
        have c1 := (b1'.cell (p := ⟨g3, k * 4 + 1, none⟩) hgy).trans p1
        have c3' := (b1'.cell (p := ⟨g3, k * 4 + 3, none⟩) hgy).trans p3
        have HBY := Lib.hid (HB.out.trans (b1'.mono hzx))
        clear b1 b1' p0 p1 p3
        go_wp2_with fail
        go_quiet (fail)
        go_wp2
        go_roundw
        case rel => exact ⟨k + 1, by omega, by go_num, by rw [HNX.out], below_drewN HBY.out _⟩
        case measure => simp [intOf]; omega
      · have e2 : ((K : Int) == 2) = false := by rw [beq_eq_false_iff_ne]; omega
        clear hK1 hK2
        go_wp2_with fail
        go_quiet (fail)
        go_wp2_with fail
        go_quiet (fail)
        go_wp2_with fail
        go_quiet (fail)
        go_wp2
        go_roundw
        case rel => exact ⟨k + 1, by omega, by go_num, by rw [HNX.out], below_drewN HB.out _⟩
        case measure => simp [intOf]; omega
    · obtain rfl : k = N + 1 := by omega
      obtain ⟨h', hla⟩ := HLA.out
      obtain ⟨q0, q1, q2, q3⟩ := HC3.out N h'
      rw [hla] at q0 q1 q2 q3
      have p0 := (hb.cell (p := ⟨g3, N * 4, none⟩) hg3).trans q0
      have p1 := (hb.cell (p := ⟨g3, N * 4 + 1, none⟩) hg3).trans q1
      have p2 := (hb.cell (p := ⟨g3, N * 4 + 2, none⟩) hg3).trans q2
      have p3 := (hb.cell (p := ⟨g3, N * 4 + 3, none⟩) hg3).trans q3
      simp only at p0 p1 p2 p3
      have hzx := hb.size
      have HBX := Lib.hid (HB4.out.trans (hb.mono HB4.out.size))
      have d1 : decide ((((N + 1 : Nat) : Int)) < (N : Int) + 1) = false := by simp
      have d2 : decide (N + 1 < N + 1) = false := by simp
      clear q0 q1 q2 q3 hla hb
      have HBZ : Hid (Below w.heap.size w (wr.alloc (.cells #[.int .i64 6, .string ⟨#[]⟩, .int .i64 0, .int .i64 SR.size] 41))) := HBX.out.alloc HBX.out.size _
      go_wp2_with fail
      refine (lives_any _ (HS.out.on HBZ.out)).mono ?_
      rintro e w4 ⟨rfl, b4⟩
      go_wp2
      go_ret
      exact ⟨rfl, HBZ.out.trans (b4.mono HBZ.out.size)⟩
end Go.Proofs.YtcjojfclgbjapaaDoor
