/- The walk of the law LexBlanks. Conditions: the slices of numbers read as numbers; the list of symbols stands in memory as the program's text lays it. -/
import Derived.Test.YtcjojfclgbjapaaDoorKeys
namespace Go.Proofs.YtcjojfclgbjapaaDoor
open Go.RowKit

theorem toks_get (ps : List (List UInt8 × List UInt8)) (strs : List (List UInt8)) (hps : ps.map (·.2) = strs) (e : Tok) (i j : Nat) (h : j < strs.length) :
    ∃ (h' : j < (toksOf ps i ++ [e]).length) (a : Nat), (toksOf ps i ++ [e])[j] = ⟨kindN strs[j], strs[j], numN strs[j], a⟩ := by
  subst hps
  have hl : j < ps.length := by simpa using h
  obtain ⟨a, ha⟩ := toksOf_at ps i j hl
  have hl2 : j < (toksOf ps i).length := by rw [toksOf_length]; exact hl
  refine ⟨by simp; omega, a, ?_⟩
  rw [List.getElem_append_left hl2]
  rw [List.getElem?_eq_getElem hl2] at ha
  have := Option.some.inj ha
  simpa using this
/-- A row of tokens that is not empty. -/
theorem TokRow.some {w : World} {v : Value} {l : List Tok} (h : TokRow w v l) (hn : 0 < l.length) : ∃ g cap, v = .slice (some ⟨g, 0, none⟩) l.length cap ∧ g < w.heap.size ∧ ∀ j (h : j < l.length),
    w.cell? ⟨g, j * 4, none⟩ = some (.int .i64 l[j].kind) ∧ w.cell? ⟨g, j * 4 + 1, none⟩ = some (.string ⟨l[j].text.toArray⟩) ∧ w.cell? ⟨g, j * 4 + 2, none⟩ = some (.int .i64 l[j].num) ∧ w.cell? ⟨g, j * 4 + 3, none⟩ = some (.int .i64 l[j].place) := by
  rcases h with ⟨_, rfl⟩ | h
  · simp at hn
  · exact h
theorem StrRow.mono {B B2 : Nat} {A : Option Addr} {strs : List (List UInt8)} {w : World} (h : StrRow B w A strs) (hB : B ≤ B2) : StrRow B2 w A strs := by
  rcases h with h | ⟨g, e, hg, hc⟩
  · exact .inl h
  · exact .inr ⟨g, e, by omega, hc⟩
theorem srcL_bytes (ps : List (List UInt8 × List UInt8)) : (⟨(srcL ps).toArray⟩ : ByteArray).data.toList = srcL ps := by simp
theorem mk_list (x : List UInt8) : (⟨x.toArray⟩ : ByteArray).data.toList = x := by simp
theorem mk_size (x : List UInt8) : (⟨x.toArray⟩ : ByteArray).size = x.length := by show x.toArray.size = _; simp

set_option maxRecDepth 100000 in
set_option maxHeartbeats 2000000 in
theorem blanks_walk (A0 : Option Addr) (len0 cap0 : Nat) (A1 : Option Addr) (len1 cap1 : Nat) (A2 : Option Addr) (len2 cap2 : Nat) (w : World)
    (r0 : IntRow w.heap.size w A0 len0) (m0 : len0 ≤ maxLen) (r1 : IntRow w.heap.size w A1 len1) (_m1 : len1 ≤ maxLen) (r2 : IntRow w.heap.size w A2 len2) (_m2 : len2 ≤ maxLen) (hS : SymsIn w) :
    Calls Tryd.prog 5 #[.slice A0 len0 cap0, .slice A1 len1 cap1, .slice A2 len2 cap2] w fun e w' => e = .returned (.bool true) ∧ Below w.heap.size w w' := by
  have hl0 : len0 ≤ 9223372036854775807 := by unfold maxLen at m0; omega
  have R0 := Lib.hid r0
  have R1 := Lib.hid r1
  have R2 := Lib.hid r2
  have HS := Lib.hid hS
  clear r0 r1 r2 hS m0
  go_enter Tryd.func5, Tryd.ntmps5
  go_wp2_with fail
  refine (texts_any A0 len0 cap0 w R0.out hl0).mono ?_
  rintro e x1 ⟨strs, v, rfl, hsl, hall, hown, hb1⟩
  have hs30 : strs.length ≤ 30 := by omega
  obtain ⟨As, cs, rfl, hrow⟩ := strRow_of_own hown
  have HROW := Lib.hid hrow
  have HALL := Lib.hid hall
  have HB1 := Lib.hid hb1
  clear hsl hall hown hrow hb1
  go_wp2_with fail
  refine (source_any As A1 strs cs len1 cap1 _ HROW.out ((R1.out.below HB1.out (Nat.le_refl _)).mono HB1.out.size) (by omega) HALL.out).mono ?_
  rintro e x2 ⟨ps, hps, hfine, rfl, hb2⟩
  have hpl : ps.length = strs.length := by rw [← hps]; simp
  have hlx := lexL_src ps hfine (by omega)
  have hsz := srcL_len ps hfine
  have HB2 : Hid (Below w.heap.size w x2) := HB1.out.trans (hb2.mono HB1.out.size)
  have HROW2 := Lib.hid (HROW.out.below hb2 (Nat.le_refl _))
  have HB12 := Lib.hid hb2
  have HPS := Lib.hid hps
  have HLX := Lib.hid hlx
  have hszb : (⟨(srcL ps).toArray⟩ : ByteArray).size ≤ 1000 := by rw [mk_size]; omega
  clear hps hb2 hlx hfine
  go_wp2_with fail
  refine (lexR_any _ _ (by omega) (HS.out.on HB2.out)).mono ?_
  rw [srcL_bytes, HLX.out]
  rintro e x3 ⟨v3, rfl, hr3, b3⟩
  have hn3 : (toksOf ps 0 ++ [Tok.mk 6 [] 0 (srcL ps).length]).length = strs.length + 1 := by rw [List.length_append, toksOf_length, hpl]; rfl
  have HB3 : Hid (Below w.heap.size w x3) := HB2.out.trans (b3.mono HB2.out.size)
  have HR3 := Lib.hid hr3
  have HB23 := Lib.hid b3
  have HTG := Lib.hid (fun j h => toks_get ps strs HPS.out (Tok.mk 6 [] 0 (srcL ps).length) 0 j h)
  generalize toksOf ps 0 ++ [Tok.mk 6 [] 0 (srcL ps).length] = L3 at *
  have HN3 := Lib.hid hn3
  clear hr3 b3 hn3 HLX
  go_wp2_with fail
  have HB4 : Hid (Below w.heap.size w (x3.alloc (.cells #[.int .i64 0, .int .i64 0] 30))) := HB3.out.alloc HB3.out.size _
  have HROW4 : Hid (StrRow x1.heap.size (x3.alloc (.cells #[.int .i64 0, .int .i64 0] 30)) As strs) := (HROW2.out.below HB23.out HB12.out.size).below (below_new x3 _) (Nat.le_trans HB12.out.size HB23.out.size)
  refine (source_any As A2 strs cs len2 cap2 _ (HROW4.out.mono (by simp; exact Nat.le_succ_of_le (Nat.le_trans HB12.out.size HB23.out.size))) ((R2.out.below HB4.out (Nat.le_refl _)).mono HB4.out.size) (by omega) HALL.out).mono ?_
  rintro e x5 ⟨qs, hqs, hfine2, rfl, hb5⟩
  have hql : qs.length = strs.length := by rw [← hqs]; simp
  have hlx := lexL_tail qs hfine2 (by omega)
  have hsz2 := srcL_len qs hfine2
  have HB5 : Hid (Below w.heap.size w x5) := HB4.out.trans (hb5.mono HB4.out.size)
  have b34 := below_new x3 (.cells #[.int .i64 0, .int .i64 0] 30)
  have HROW5 := Lib.hid (HROW4.out.below hb5 (by simp; exact Nat.le_succ_of_le (Nat.le_trans HB12.out.size HB23.out.size)))
  have HR5 := Lib.hid ((HR3.out.below b34).below hb5)
  have HT5 := Lib.hid ((twoAt_new x3 0 0 30).on hb5)
  have HQS := Lib.hid hqs
  have HLX := Lib.hid hlx
  have hszc : (⟨(srcL qs).toArray⟩ : ByteArray).size ≤ 1000 := by rw [mk_size]; omega
  have happ : (⟨(srcL qs).toArray⟩ : ByteArray) ++ ⟨#[10, 32, 45, 45, 32, 101, 110, 100]⟩ = ⟨(srcL qs ++ [10, 32, 45, 45, 32, 101, 110, 100]).toArray⟩ := append_mk2 (srcL qs) [10, 32, 45, 45, 32, 101, 110, 100]
  have HAPP := Lib.hid happ
  have hlen1 : x1.heap.size ≤ x5.heap.size := Nat.le_trans (Nat.le_trans HB12.out.size HB23.out.size) (Nat.le_trans b34.size hb5.size)
  clear hqs hb5 hlx hfine2 happ b34
  go_wp2_with fail
  rw [HAPP.out]
  refine (lexR_any _ _ (by rw [mk_size, List.length_append]; simp; omega) (HS.out.on HB5.out)).mono ?_
  rw [mk_list, HLX.out]
  rintro e x6 ⟨v6, rfl, hr6, b6⟩
  have hn6 : (toksOf qs 0 ++ [Tok.mk 6 [] 0 ((srcL qs).length + 8)]).length = strs.length + 1 := by rw [List.length_append, toksOf_length, hql]; rfl
  have HB6 : Hid (Below w.heap.size w x6) := HB5.out.trans (b6.mono HB5.out.size)
  have HTQ := Lib.hid (fun j h => toks_get qs strs HQS.out (Tok.mk 6 [] 0 ((srcL qs).length + 8)) 0 j h)
  generalize toksOf qs 0 ++ [Tok.mk 6 [] 0 ((srcL qs).length + 8)] = L6 at *
  have HROW6 := Lib.hid ((HROW5.out.below b6 hlen1).below (below_new x6 (.cells #[.int .i64 0, .int .i64 0] 30)) (Nat.le_trans hlen1 b6.size))
  obtain ⟨hbt, hct0, hct1⟩ := HT5.out.on b6
  obtain ⟨g3, c3, rfl, hg3, hc3⟩ := ((HR5.out.below b6).below (below_new x6 (.cells #[.int .i64 0, .int .i64 0] 30))).some (by rw [HN3.out]; omega)
  obtain ⟨g6, c6, rfl, hg6, hc6⟩ := (hr6.below (below_new x6 (.cells #[.int .i64 0, .int .i64 0] 30))).some (by rw [hn6]; omega)
  have HC3 := Lib.hid hc3
  have HC6 := Lib.hid hc6
  rw [HN3.out, hn6]
  have HN6 := Lib.hid hn6
  clear hr6 b6 hn6 HLX hc3 hc6 HROW HROW2 HROW4 HROW5 HR3 HR5 HT5 HAPP
  have HB7 : Hid (Below w.heap.size w (x6.alloc (.cells #[.int .i64 0, .int .i64 0] 30))) := HB6.out.alloc HB6.out.size _
  have heq := eq_at
  have hgd := guard_at
  have hnn : (((strs.length : Int) + 1) != ((strs.length : Int) + 1)) = false := by simp
  go_wp2_with fail
  clear heq hgd hnn hct0 hct1
  generalize x6.alloc (.cells #[.int .i64 0, .int .i64 0] 30) = x7 at *
  go_loopw [12] (fun i wr => ∃ k m : Nat, k ≤ strs.length ∧ i = .int .i64 k ∧ wr = x7.drewN m) (fun i _ => strs.length - (intOf i).toNat)
  case atStart => exact ⟨0, 0, Nat.zero_le _, rfl, rfl⟩
  case round =>
    obtain ⟨k, m, hk, rfl, rfl⟩ := hrel
    by_cases hlt : k < strs.length
    · obtain ⟨gs, rfl, hgs, hcs⟩ : ∃ g, As = some ⟨g, 0, none⟩ ∧ g < x1.heap.size ∧ ∀ i (h : i < strs.length), x7.cell? ⟨g, i, none⟩ = some (SV strs[i]) := by
        rcases HROW6.out with h0 | h0
        · rw [h0] at hlt; simp at hlt
        · exact h0
      have hck := hcs k hlt
      obtain ⟨h3', a3, e3⟩ := HTG.out k hlt
      obtain ⟨h6', a6, e6⟩ := HTQ.out k hlt
      obtain ⟨p0, p1, _, _⟩ := HC3.out k h3'
      obtain ⟨q0, q1, _, _⟩ := HC6.out k h6'
      rw [e3] at p0 p1
      rw [e6] at q0 q1
      clear hcs e3 e6
      simp only at p0 p1 q0 q1
      generalize strs[k] = s at *
      generalize kindN s = K at *
      unfold SV at hck
      have hki : (k : Int) < (strs.length : Int) := by omega
      have hki1 : (k : Int) < (strs.length : Int) + 1 := by omega
      have hk0 : (0 : Int) ≤ (k : Int) := by omega
      go_wp2_with fail
      go_quiet (fail)
      go_wp2
      go_roundw
      case rel => exact ⟨k + 1, _, by omega, by go_num, rfl⟩
      case measure => simp [intOf]; omega
    · have hd : decide (k < strs.length) = false := by simpa using hlt
      have HB8 : Hid (Below w.heap.size w (x7.drewN m)) := below_drewN HB7.out m
      go_wp2_with fail
      refine (lives_any _ (HS.out.on HB8.out)).mono ?_
      rintro e w4 ⟨rfl, b4⟩
      go_wp2
      go_ret
      exact ⟨rfl, HB8.out.trans (b4.mono HB8.out.size)⟩
end Go.Proofs.YtcjojfclgbjapaaDoor
