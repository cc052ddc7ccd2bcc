/- The walk of the law LexRound. Conditions: the slices of numbers read as numbers; the list of symbols stands in memory as the program's text lays it. -/
import Derived.Test.YtcjojfclgbjapaaDoorBlanks
import Derived.Test.YtcjojfclgbjapaaDoorTextsF
namespace Go.Proofs.YtcjojfclgbjapaaDoor
open Go.RowKit

theorem textsOf_toks (ps : List (List UInt8 × List UInt8)) (h : ∀ p ∈ ps, p.2 ∈ textsL) (i n : Nat) : textsOf (toksOf ps i ++ [⟨6, [], 0, n⟩]) = ps.map (·.2) := by
  rw [textsOf_snoc, if_pos rfl, List.append_nil, ← toksOf_texts ps i]
  unfold textsOf
  rw [List.filter_eq_self.2]
  intro t ht
  obtain ⟨p, hp, _, hk, _⟩ := toksOf_kind ps i t ht
  rw [hk]
  simpa using (kindN_ne _ (h p hp)).1
theorem toks_text_len (ps : List (List UInt8 × List UInt8)) (h : ∀ p ∈ ps, p.2 ∈ textsL) (i n : Nat) : ∀ t ∈ toksOf ps i ++ [Tok.mk 6 [] 0 n], t.text.length ≤ 4000 := by
  intro t ht
  rcases List.mem_append.1 ht with h9 | h9
  · obtain ⟨p, hp, hx, _, _⟩ := toksOf_kind ps i t h9
    rw [hx]; have := (texts_len _ (h p hp)).2; omega
  · rw [List.mem_singleton.1 h9]; simp
theorem printT_words (strs : List (List UInt8)) (h : ∀ x ∈ strs, x ∈ textsL) : printT (wordsT strs) = joinL strs := by
  rw [printT_join]
  · unfold wordsT; simp [Function.comp_def]
  · intro t ht
    obtain ⟨x, _, rfl⟩ := List.mem_map.1 ht
    simp
  · intro t ht e
    obtain ⟨x, hx, rfl⟩ := List.mem_map.1 ht
    have := (texts_len _ (h x hx)).1
    simp only at e
    rw [e] at this; simp at this
theorem bare_len (strs : List (List UInt8)) : (bare strs).length = strs.length := by
  have := congrArg List.length (bare_texts strs); simpa using this
theorem bare_mem (strs : List (List UInt8)) (h : ∀ x ∈ strs, x ∈ textsL) : ∀ p ∈ bare strs, p.2 ∈ textsL := by
  intro p hp
  apply h
  rw [← bare_texts strs]
  exact List.mem_map.2 ⟨p, hp, rfl⟩

set_option maxRecDepth 100000 in
set_option maxHeartbeats 2000000 in
theorem round_walk (A0 : Option Addr) (len0 cap0 : Nat) (A1 : Option Addr) (len1 cap1 : Nat) (w : World)
    (r0 : IntRow w.heap.size w A0 len0) (m0 : len0 ≤ maxLen) (r1 : IntRow w.heap.size w A1 len1) (_m1 : len1 ≤ maxLen) (hS : SymsIn w) :
    Calls Tryd.prog 4 #[.slice A0 len0 cap0, .slice A1 len1 cap1] w fun e w' => e = .returned (.bool true) ∧ Below w.heap.size w w' := by
  have hl0 : len0 ≤ 9223372036854775807 := by unfold maxLen at m0; omega
  obtain ⟨f, rf⟩ := intRowF_of r0
  have R0 := Lib.hid rf
  have R1 := Lib.hid r1
  have HS := Lib.hid hS
  clear r0 rf r1 hS m0
  have hall := textsF_mem f (min len0 30)
  have hs30 : (textsF f (min len0 30)).length ≤ 30 := by rw [textsF_len]; omega
  have HT := Lib.hid (fun W (h : IntRowF W.heap.size W A0 len0 f) => texts_is A0 len0 cap0 f W h hl0)
  generalize textsF f (min len0 30) = strs at *
  have HALL := Lib.hid hall
  clear hall
  go_enter Tryd.func4, Tryd.ntmps4
  go_wp2_with fail
  refine (HT.out w R0.out).mono ?_
  rintro e x1 ⟨v, rfl, hown, hb1⟩
  obtain ⟨As, cs, rfl, hrow⟩ := strRow_of_own hown
  have HROW := Lib.hid hrow
  have HB1 := Lib.hid hb1
  clear hown hrow hb1
  go_wp2_with fail
  refine (source_any As A1 strs cs len1 cap1 _ HROW.out ((R1.out.below HB1.out (Nat.le_refl _)).mono HB1.out.size) (by omega) HALL.out).mono ?_
  rintro e x2 ⟨ps, hps, hfine, rfl, hb2⟩
  have hpl : ps.length = strs.length := by rw [← hps]; simp
  have hlx := lexL_src ps hfine (by omega)
  have hsz := srcL_len ps hfine
  have htx := textsOf_toks ps (fun p hp => (hfine p hp).2) 0 (srcL ps).length
  have htl := toks_text_len ps (fun p hp => (hfine p hp).2) 0 (srcL ps).length
  rw [hps] at htx
  have HB2 : Hid (Below w.heap.size w x2) := HB1.out.trans (hb2.mono HB1.out.size)
  have HPS := Lib.hid hps
  have HLX := Lib.hid hlx
  have hszb : (⟨(srcL ps).toArray⟩ : ByteArray).size ≤ 1000 := by rw [mk_size]; omega
  clear hps hb2 hlx hfine HROW
  go_wp2_with fail
  refine (lexR_any _ _ (by omega) (HS.out.on HB2.out)).mono ?_
  rw [srcL_bytes, HLX.out]
  rintro e x3 ⟨v3, rfl, hr3, b3⟩
  have hn3 : (toksOf ps 0 ++ [Tok.mk 6 [] 0 (srcL ps).length]).length = strs.length + 1 := by rw [List.length_append, toksOf_length, hpl]; rfl
  have HB3 : Hid (Below w.heap.size w x3) := HB2.out.trans (b3.mono HB2.out.size)
  have HR3 := Lib.hid hr3
  have HTG := Lib.hid (fun j h => toks_get ps strs HPS.out (Tok.mk 6 [] 0 (srcL ps).length) 0 j h)
  have hlast3 : ∃ (h' : strs.length < (toksOf ps 0 ++ [Tok.mk 6 [] 0 (srcL ps).length]).length) (a : Nat), (toksOf ps 0 ++ [Tok.mk 6 [] 0 (srcL ps).length])[strs.length] = ⟨6, [], 0, a⟩ :=
    ⟨by omega, (srcL ps).length, by rw [List.getElem_append_right (by rw [toksOf_length]; omega)]; simp⟩
  generalize toksOf ps 0 ++ [Tok.mk 6 [] 0 (srcL ps).length] = L3 at *
  have HN3 := Lib.hid hn3
  have HTX := Lib.hid htx
  have HTL := Lib.hid htl
  have HLA3 := Lib.hid hlast3
  clear hr3 b3 hn3 HLX htx htl hlast3
  go_wp2_with fail
  have HB4 : Hid (Below w.heap.size w (x3.alloc (.cells #[.int .i64 0, .int .i64 0] 30))) := HB3.out.alloc HB3.out.size _
  refine (print_any L3 v3 _ (HR3.out.below (below_new x3 _)) (by rw [HN3.out]; omega) HTL.out).mono ?_
  rw [HTX.out]
  rintro e x4 ⟨rfl, b4⟩
  have HB5 : Hid (Below w.heap.size w x4) := HB4.out.trans (b4.mono HB4.out.size)
  have HR4 := Lib.hid ((HR3.out.below (below_new x3 (.cells #[.int .i64 0, .int .i64 0] 30))).below b4)
  have HT4 := Lib.hid ((twoAt_new x3 0 0 30).on b4)
  have hjl := joinL_len strs HALL.out
  have hjb : (⟨(joinL strs).toArray⟩ : ByteArray).size ≤ 1000 := by rw [mk_size]; omega
  have hlj := lexL_join strs HALL.out (by omega)
  have HLJ := Lib.hid hlj
  clear b4 hlj HR3
  go_wp2_with fail
  refine (lexR_any _ _ (by omega) (HS.out.on HB5.out)).mono ?_
  rw [mk_list, HLJ.out]
  rintro e x5 ⟨v5, rfl, hr5, b5⟩
  have hn5 : (toksOf (bare strs) 0 ++ [Tok.mk 6 [] 0 (joinL strs).length]).length = strs.length + 1 := by rw [List.length_append, toksOf_length, bare_len]; rfl
  have HB6 : Hid (Below w.heap.size w x5) := HB5.out.trans (b5.mono HB5.out.size)
  have HTQ := Lib.hid (fun j h => toks_get (bare strs) strs (bare_texts strs) (Tok.mk 6 [] 0 (joinL strs).length) 0 j h)
  have htx5 := textsOf_toks (bare strs) (bare_mem strs HALL.out) 0 (joinL strs).length
  have htl5 := toks_text_len (bare strs) (bare_mem strs HALL.out) 0 (joinL strs).length
  rw [bare_texts] at htx5
  have hlast5 : ∃ (h' : strs.length < (toksOf (bare strs) 0 ++ [Tok.mk 6 [] 0 (joinL strs).length]).length) (a : Nat), (toksOf (bare strs) 0 ++ [Tok.mk 6 [] 0 (joinL strs).length])[strs.length] = ⟨6, [], 0, a⟩ :=
    ⟨by omega, (joinL strs).length, by rw [List.getElem_append_right (by rw [toksOf_length, bare_len]; omega)]; simp [toksOf_length, bare_len]⟩
  generalize toksOf (bare strs) 0 ++ [Tok.mk 6 [] 0 (joinL strs).length] = L5 at *
  have b56 := below_new x5 (.cells #[.int .i64 0, .int .i64 0] 30)
  have HR45 := Lib.hid ((HR4.out.below b5).below b56)
  have HR5 := Lib.hid (hr5.below b56)
  obtain ⟨hbt, hct0, hct1⟩ := HT4.out.on b5
  have HN5 := Lib.hid hn5
  have HTX5 := Lib.hid htx5
  have HTL5 := Lib.hid htl5
  have HLA5 := Lib.hid hlast5
  have HB7 : Hid (Below w.heap.size w (x5.alloc (.cells #[.int .i64 0, .int .i64 0] 30))) := HB6.out.alloc HB6.out.size _
  obtain ⟨A3, c3, rfl⟩ := tokRow_form HR45.out
  obtain ⟨A5, c5, rfl⟩ := tokRow_form HR5.out
  rw [HN3.out, HN5.out]
  clear hr5 b5 b56 hn5 htx5 htl5 hlast5 HLJ HT4 HR4
  have heq := eq_at
  have hgd := guard_at
  go_wp2_with fail
  have hpr := print_any L5 (.slice A5 L5.length c5) _ HR5.out (by rw [HN5.out]; omega) HTL5.out
  rw [HTX5.out, HN5.out] at hpr
  refine hpr.mono ?_
  rintro e x8 ⟨rfl, b8⟩
  have HR48 := Lib.hid (HR45.out.below b8)
  have HR58 := Lib.hid (HR5.out.below b8)
  have HB8 : Hid (Below w.heap.size w x8) := HB7.out.trans (b8.mono HB7.out.size)
  clear b8 hpr heq hgd hct0 hct1 HR45 HR5
  have hneq : ((⟨(joinL strs).toArray⟩ : ByteArray).toList != (⟨(joinL strs).toArray⟩ : ByteArray).toList) = false := by simp
  go_wp2_with fail
  clear hneq
  obtain ⟨g3, d3, e3, hg3, hc3⟩ := HR48.out.some (by rw [HN3.out]; omega)
  obtain ⟨g5, d5, e5, hg5, hc5⟩ := HR58.out.some (by rw [HN5.out]; omega)
  have e3' : A3 = some ⟨g3, 0, none⟩ := by injection e3
  have e5' : A5 = some ⟨g5, 0, none⟩ := by injection e5
  clear e3 e5
  subst e3' e5'
  have HC3 := Lib.hid hc3
  have HC5 := Lib.hid hc5
  clear hc3 hc5
  have hsame : ∀ j, j < strs.length + 1 → ∃ (K n : Nat) (s : List UInt8), x8.cell? ⟨g3, j * 4, none⟩ = some (.int .i64 K) ∧ x8.cell? ⟨g3, j * 4 + 1, none⟩ = some (.string ⟨s.toArray⟩) ∧ x8.cell? ⟨g3, j * 4 + 2, none⟩ = some (.int .i64 n)
      ∧ x8.cell? ⟨g5, j * 4, none⟩ = some (.int .i64 K) ∧ x8.cell? ⟨g5, j * 4 + 1, none⟩ = some (.string ⟨s.toArray⟩) ∧ x8.cell? ⟨g5, j * 4 + 2, none⟩ = some (.int .i64 n) := by
    intro j hj
    by_cases hjl : j < strs.length
    · obtain ⟨h3', a3, e3⟩ := HTG.out j hjl
      obtain ⟨h5', a5, e5⟩ := HTQ.out j hjl
      obtain ⟨p0, p1, p2, _⟩ := HC3.out j h3'
      obtain ⟨q0, q1, q2, _⟩ := HC5.out j h5'
      rw [e3] at p0 p1 p2
      rw [e5] at q0 q1 q2
      exact ⟨_, _, _, p0, p1, p2, q0, q1, q2⟩
    · obtain rfl : j = strs.length := by omega
      obtain ⟨h3', a3, e3⟩ := HLA3.out
      obtain ⟨h5', a5, e5⟩ := HLA5.out
      obtain ⟨p0, p1, p2, _⟩ := HC3.out _ h3'
      obtain ⟨q0, q1, q2, _⟩ := HC5.out _ h5'
      rw [e3] at p0 p1 p2
      rw [e5] at q0 q1 q2
      exact ⟨_, _, _, p0, p1, p2, q0, q1, q2⟩
  have HSAME := Lib.hid hsame
  clear hsame
  go_loopw [10] (fun i wr => ∃ k m : Nat, k ≤ strs.length + 1 ∧ i = .int .i64 k ∧ wr = x8.drewN m) (fun i _ => strs.length + 1 - (intOf i).toNat)
  case atStart => exact ⟨0, 0, Nat.zero_le _, rfl, rfl⟩
  case round =>
    obtain ⟨k, m, hk, rfl, rfl⟩ := hrel
    by_cases hlt : k < strs.length + 1
    · obtain ⟨K, n, s, p0, p1, p2, q0, q1, q2⟩ := HSAME.out k hlt
      have hki1 : (k : Int) < (strs.length : Int) + 1 := by omega
      have hk0 : (0 : Int) ≤ (k : Int) := by omega
      go_wp2_with fail
      go_quiet (fail)
      go_wp2
      go_roundw
      case rel => exact ⟨k + 1, _, by omega, by go_num, rfl⟩
      case measure => simp [intOf]; omega
    · have hki1 : ¬ (k : Int) < (strs.length : Int) + 1 := by omega
      have hki2 : decide ((k : Int) < (strs.length : Int) + 1) = false := by simpa using hki1
      have hki3 : decide (k < strs.length + 1) = false := by simpa using hlt
      have HB9 : Hid (Below w.heap.size w (x8.drewN m)) := below_drewN HB8.out m
      generalize x8.drewN m = x9 at *
      go_wp2_with fail
      refine (HT.out x9 ((R0.out.below HB9.out (Nat.le_refl _)).mono HB9.out.size)).mono ?_
      rintro e y1 ⟨v, rfl, hown, hb1⟩
      obtain ⟨Aq, cq, rfl, hrow⟩ := strRow_of_own hown
      have HROW := Lib.hid hrow
      have HB10 := Lib.hid (HB9.out.trans (hb1.mono HB9.out.size))
      clear hown hrow hb1
      go_wp2_with fail
      refine (words_any Aq strs cq _ HROW.out (by omega)).mono ?_
      rintro e y2 ⟨v2, rfl, ho2, b2⟩
      have HB11 := Lib.hid (HB10.out.trans (b2.mono HB10.out.size))
      have hr2 := tokRow_of_own ho2
      have HR2 := Lib.hid hr2
      clear b2 ho2 hr2
      go_wp2_with fail
      refine (refprint2_any (wordsT strs) v2 _ HR2.out (by unfold wordsT; simp; omega) (fun t ht => by obtain ⟨x, hx, rfl⟩ := List.mem_map.1 ht; have := (texts_len _ (HALL.out x hx)).2; show x.length ≤ 4000; omega)).mono ?_
      rw [printT_words strs HALL.out]
      rintro e w' ⟨rfl, rfl⟩
      have hneq : ((⟨(joinL strs).toArray⟩ : ByteArray).toList == (⟨(joinL strs).toArray⟩ : ByteArray).toList) = true := by simp
      go_wp2_with fail
      refine (lives_any _ (HS.out.on HB11.out)).mono ?_
      rintro e w4 ⟨rfl, b4⟩
      go_wp2
      go_ret
      exact ⟨rfl, HB11.out.trans (b4.mono HB11.out.size)⟩
end Go.Proofs.YtcjojfclgbjapaaDoor
