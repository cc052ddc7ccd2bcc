/- The walk of the law LexReads. Conditions: the slice of numbers reads as numbers; the list of symbols stands in memory as the program's text lays it. -/
import Derived.Test.YtcjojfclgbjapaaDoorLives
namespace Go.Proofs.YtcjojfclgbjapaaDoor
open Go.RowKit

theorem lexF_len : ∀ (f : Nat) (l : List UInt8) (i : Nat) (r : List Tok), lexF f l i = .ok r → r.length ≤ f + 1
  | 0, l, i, r, h => by simp only [lexF] at h; cases h; simp
  | f + 1, l, i, r, h => by
    simp only [lexF] at h
    split at h
    · cases h; simp
    · split at h
      · have := lexF_len f _ _ r h; omega
      · split at h
        · cases h
        · rename_i k x n _
          cases h9 : lexF f (l.drop x.length) (i + x.length) with
          | error e => rw [h9] at h; cases h
          | ok q =>
            rw [h9] at h
            have := lexF_len f _ _ q h9
            cases h
            simp; omega
theorem lexL_len {l : List UInt8} {r : List Tok} (h : lexL l = .ok r) : r.length ≤ 4001 := by
  unfold lexL at h
  split at h
  · cases h
  · have := lexF_len _ _ _ _ h; omega

/-- What was answered, in parts: the error (0: none), its place, the tokens (none with an error). -/
def resC : Except (Nat × Nat) (List Tok) → Nat | .error (c, _) => c | .ok _ => 0
def resP : Except (Nat × Nat) (List Tok) → Nat | .error (_, p) => p | .ok _ => 0
def resL : Except (Nat × Nat) (List Tok) → List Tok | .error _ => [] | .ok l => l
/-- The answer of Lex in parts. -/
def LexedP (w : World) (c p : Nat) (l : List Tok) (e : Ending) (w' : World) : Prop := ∃ v, e = .returned (.tuple #[v, .agg #[.int .i64 c, .int .i64 p]]) ∧ TokRow w' v l ∧ Below w.heap.size w w'
theorem lexedP_of {w : World} {r : Except (Nat × Nat) (List Tok)} {e : Ending} {w' : World} (h : LexedR w r e w') : LexedP w (resC r) (resP r) (resL r) e w' := by
  unfold LexedR at h
  cases r with
  | error c => obtain ⟨c, p⟩ := c; obtain ⟨he, hb⟩ := h; exact ⟨_, he, .inl ⟨rfl, rfl⟩, hb⟩
  | ok l => obtain ⟨v, he, ho, hb⟩ := h; exact ⟨v, he, ho, hb⟩
theorem lexP_any (s : ByteArray) (w : World) (hm : s.size ≤ 1099511627776) (hS : SymsIn w) : Calls Tryd.prog 12 #[.string s] w (LexedP w (resC (lexL s.data.toList)) (resP (lexL s.data.toList)) (resL (lexL s.data.toList))) :=
  (lexR_any s w hm hS).mono fun _ _ h => lexedP_of h
theorem reflexP_any (s : ByteArray) (w : World) (hm : s.size ≤ 1099511627776) : Calls Tryd.prog 13 #[.string s] w (LexedP w (resC (lexL s.data.toList)) (resP (lexL s.data.toList)) (resL (lexL s.data.toList))) :=
  (reflexR_any s w hm).mono fun _ _ h => lexedP_of h
theorem resL_len (l : List UInt8) : (resL (lexL l)).length ≤ 4001 := by
  cases h : lexL l with
  | error c => simp [resL]
  | ok r => exact lexL_len h
theorem two_old {w1 w2 : World} {a b : Value} {t : TypeId} (h : Below (w1.heap.size + 1) (w1.alloc (.cells #[a, b] t)) w2) :
    w2.cell? ⟨w1.heap.size, 0, none⟩ = some a ∧ w2.cell? ⟨w1.heap.size, 1, none⟩ = some b ∧ w1.heap.size < w2.heap.size := by
  refine ⟨?_, ?_, ?_⟩
  · exact (h.cell (p := ⟨w1.heap.size, 0, none⟩) (Nat.lt_succ_self _)).trans (by simp [go_sem])
  · exact (h.cell (p := ⟨w1.heap.size, 1, none⟩) (Nat.lt_succ_self _)).trans (by simp [go_sem])
  · have := h.size; simp at this; omega

theorem IntRow.mono {B B2 len : Nat} {A : Option Addr} {w : World} (h : IntRow B w A len) (hB : B ≤ B2) : IntRow B2 w A len := by
  rcases h with h | ⟨b, off, e, hlt, hc⟩
  · exact .inl h
  · exact .inr ⟨b, off, e, by omega, hc⟩
/-- One source: the program's Lex and the document's, compared (from a world in which the source's cell is known). -/
def Strs3 (D : Nat) (Ss : List ByteArray) (w : World) : Prop := ∀ j (h : j < Ss.length), w.cell? ⟨D, j, none⟩ = some (.string Ss[j])
theorem Strs3.below {D X : Nat} {Ss : List ByteArray} {w w' : World} (h : Strs3 D Ss w) (hb : Below X w w') (hD : D < X) : Strs3 D Ss w' :=
  fun j hj => (hb.cell (p := ⟨D, j, none⟩) hD).trans (h j hj)
theorem strs3_new (w : World) (Ss : List ByteArray) (t : TypeId) : Strs3 w.heap.size Ss (w.alloc (.cells (Ss.map Value.string).toArray t)) := fun n hn => by
  rw [World.cell?_alloc_at _ _ _ _ rfl]
  simp [hn]
theorem size_append2 (a b : ByteArray) : (a ++ b).size = a.size + b.size := ByteArray.size_append

set_option maxRecDepth 100000 in
set_option maxHeartbeats 2000000 in
theorem reads_walk (a0 : ByteArray) (A : Option Addr) (len cap : Nat) (a2 : ByteArray) (w : World) (w0 : a0.size ≤ maxLen) (hr : IntRow w.heap.size w A len) (hlen' : len ≤ maxLen) (w2 : a2.size ≤ maxLen) (hS : SymsIn w) :
    Calls Tryd.prog 3 #[.string a0, .slice A len cap, .string a2] w fun e w' => e = .returned (.bool true) ∧ Below w.heap.size w w' := by
  have hlen : len ≤ 9223372036854775807 := by unfold maxLen at hlen'; omega
  clear hlen'
  have HR := Lib.hid hr
  have HS := Lib.hid hS
  clear hr hS
  go_enter Tryd.func3, Tryd.ntmps3
  go_wp2_with fail
  refine (texts_any A len cap w HR.out hlen).mono ?_
  rintro e x1 ⟨strs, v, rfl, hsl, hall, hown, hb1⟩
  have hs30 : strs.length ≤ 30 := by omega
  obtain ⟨A1, c1, rfl, hrow⟩ := strRow_of_own hown
  have HROW := Lib.hid hrow
  have HALL := Lib.hid hall
  have HB1 := Lib.hid hb1
  clear hsl hall hown hrow hb1
  go_wp2_with fail
  go_loop [8, 9] (fun o i => ∃ (k : Nat) (S : ByteArray), k ≤ strs.length ∧ i = .int .i64 k ∧ o = .string S ∧ S.size ≤ 10 * k) (fun _ i => strs.length - (intOf i).toNat)
  case atStart => exact ⟨0, ⟨#[]⟩, Nat.zero_le _, rfl, rfl, by decide⟩
  case round =>
    obtain ⟨k, S, hk, rfl, rfl, hS⟩ := hrel
    by_cases hlt : k < strs.length
    · obtain ⟨g, rfl, hgB, hc⟩ : ∃ g, A1 = some ⟨g, 0, none⟩ ∧ g < x1.heap.size ∧ ∀ i (h : i < strs.length), x1.cell? ⟨g, i, none⟩ = some (SV strs[i]) := by
        rcases HROW.out with h0 | h0
        · rw [h0] at hlt; simp at hlt
        · exact h0
      have hck := hc k hlt
      have htl := (texts_len _ (HALL.out strs[k] (List.getElem_mem hlt))).2
      clear hc
      generalize strs[k] = t at *
      unfold SV at hck
      have hts : (⟨t.toArray⟩ : ByteArray).size ≤ 10 := by show t.toArray.size ≤ 10; simpa using htl
      generalize (⟨t.toArray⟩ : ByteArray) = T at *
      have hki : (k : Int) < (strs.length : Int) := by omega
      have hk0 : (0 : Int) ≤ (k : Int) := by omega
      have hsum := size_append2 S T
      have HSUM := Lib.hid hsum
      clear hsum
      go_wp2
      go_round
      case rel => exact ⟨k + 1, S ++ T, by omega, by go_num, rfl, by rw [HSUM.out]; omega⟩
      case measure => simp [intOf]; omega
    · have hd : decide (k < strs.length) = false := by simpa using hlt
      have hS3 : S.size ≤ 300 := by omega
      go_wp2_with fail
      refine (short_any a0 80 _ w0 (by omega) (by omega)).mono ?_
      rintro e w' ⟨T0, hT0, rfl, rfl⟩
      go_wp2_with fail
      refine (source_any A1 A strs c1 len cap _ HROW.out ((HR.out.below HB1.out (Nat.le_refl _)).mono (HB1.out.size)) (by omega) HALL.out).mono ?_
      rintro e x2 ⟨ps, hps, hfine, rfl, hb2⟩
      have hpl : ps.length ≤ 30 := by rw [← hps] at hs30; simpa using hs30
      have hsrc := srcL_len ps hfine
      have hsz : (⟨(srcL ps).toArray⟩ : ByteArray).size ≤ 540 := by show (srcL ps).toArray.size ≤ 540; simp; omega
      generalize (⟨(srcL ps).toArray⟩ : ByteArray) = SR at *
      have HB2 : Hid (Below w.heap.size w x2) := HB1.out.trans (hb2.mono HB1.out.size)
      clear hb2 hfine hps hsrc
      go_wp2_with fail
      refine (short_any a2 10 _ w2 (by omega) (by omega)).mono ?_
      rintro e w' ⟨T1, hT1, rfl, rfl⟩
      go_wp2_with fail
      refine (short_any a2 10 _ w2 (by omega) (by omega)).mono ?_
      rintro e w' ⟨T2, hT2, rfl, rfl⟩
      go_wp2_with fail
      have hD := strs3_new x2 [T0, SR ++ T1, S ++ T2] 9
      have hBD : Below w.heap.size w (x2.alloc (.cells #[.string T0, .string (SR ++ T1), .string (S ++ T2)] 9)) := HB2.out.alloc HB2.out.size _
      have hsizes : ∀ j (h : j < [T0, SR ++ T1, S ++ T2].length), ([T0, SR ++ T1, S ++ T2])[j].size ≤ 1000 := by
        intro j h
        have hj : j = 0 ∨ j = 1 ∨ j = 2 := by simp at h; omega
        rcases hj with rfl | rfl | rfl
        · show T0.size ≤ 1000; omega
        · show (SR ++ T1).size ≤ 1000; rw [size_append2]; omega
        · show (S ++ T2).size ≤ 1000; rw [size_append2]; omega
      have hlen3 : [T0, SR ++ T1, S ++ T2].length = 3 := rfl
      have hzD : x2.heap.size < (x2.alloc (.cells #[.string T0, .string (SR ++ T1), .string (S ++ T2)] 9)).heap.size := by simp
      have hD' : Strs3 x2.heap.size [T0, SR ++ T1, S ++ T2] (x2.alloc (.cells #[.string T0, .string (SR ++ T1), .string (S ++ T2)] 9)) := hD
      clear hD
      have hzz := HB2.out.size
      generalize x2.alloc (.cells #[.string T0, .string (SR ++ T1), .string (S ++ T2)] 9) = x3 at *
      generalize [T0, SR ++ T1, S ++ T2] = Ss at *
      generalize x2.heap.size = D at *
      have HD := Lib.hid hD'
      have HBD := Lib.hid hBD
      have HSZ := Lib.hid hsizes
      have HL3 := Lib.hid hlen3
      clear hD' hBD hsizes hlen3 HROW HALL HB1 HB2
      go_loopw [11] (fun i wr => ∃ j : Nat, j ≤ 3 ∧ i = .int .i64 j ∧ Strs3 D Ss wr ∧ D < wr.heap.size ∧ Below w.heap.size w wr) (fun i _ => 3 - (intOf i).toNat)
      case atStart => exact ⟨0, by omega, rfl, HD.out, hzD, HBD.out⟩
      case round =>
        obtain ⟨j, hj, rfl, hst, hzw, hbw⟩ := hrel
        have hszw := hbw.size
        by_cases hj3 : j < 3
        · have hjs : j < Ss.length := by rw [HL3.out]; exact hj3
          have hc := hst j hjs
          have hT := HSZ.out j hjs
          have HST := Lib.hid hst
          have HBW := Lib.hid hbw
          clear hst hbw
          generalize Ss[j] = T at *
          have hji : (j : Int) < 3 := by omega
          have hj0 : (0 : Int) ≤ (j : Int) := by omega
          have hln := resL_len T.data.toList
          have hA := lexP_any T wr (by omega) (HS.out.on HBW.out)
          have hB := fun W => reflexP_any T W (by omega)
          generalize resC (lexL T.data.toList) = rc at *
          generalize resP (lexL T.data.toList) = rp at *
          generalize resL (lexL T.data.toList) = rl at *
          have HA := Lib.hid hA
          have HBR := Lib.hid hB
          clear hA hB
          go_wp2_with fail
          refine HA.out.mono ?_
          rintro e w1 ⟨v1, rfl, hr1, hb1⟩
          have hz1 := hb1.size
          have HR1 := Lib.hid hr1
          have HB1 := Lib.hid hb1
          clear hr1 hb1 HA
          have hc1 : (w1.alloc (.cells #[.int .i64 rc, .int .i64 rp] 30)).cell? ⟨D, j, none⟩ = some (.string T) := ((HB1.out.alloc hz1 _).cell (p := ⟨D, j, none⟩) hzw).trans hc
          clear hc
          go_wp2_with fail
          refine (HBR.out _).mono ?_
          rintro e w2 ⟨v2, rfl, hr2, hb2⟩
          have hb2' : Below (w1.heap.size + 1) (w1.alloc (.cells #[.int .i64 rc, .int .i64 rp] 30)) w2 := by simpa using hb2
          obtain ⟨cc0, cc1, hz2⟩ := two_old hb2'
          have HR2 := Lib.hid hr2
          have HB2 := Lib.hid hb2'
          have HR1' := Lib.hid ((HR1.out.below ((Below.refl _ _).alloc (Nat.le_refl _) _)).below hb2)
          have HBALL : Hid (Below wr.heap.size wr w2) := (HB1.out.alloc hz1 _).trans (hb2.mono (by simp; omega))
          clear hr2 hb2 hb2' hc1
          have heq := eq_at
          have hgd := guard_at
          go_wp2_with fail
          have hq1 := HR1'.out.below ((Below.refl _ _).alloc (Nat.le_refl _) (.cells #[.int .i64 rc, .int .i64 rp] 30))
          have hq2 := HR2.out.below ((Below.refl _ _).alloc (Nat.le_refl _) (.cells #[.int .i64 rc, .int .i64 rp] 30))
          refine (same_same rl _ _ _ hq1 hq2 (by omega)).mono ?_
          rintro e w3 ⟨rfl, mm, rfl⟩
          clear hq1 hq2 heq hgd
          have HBF : Hid (Below wr.heap.size wr ((w2.alloc (.cells #[.int .i64 rc, .int .i64 rp] 30)).drewN mm)) := below_drewN (HBALL.out.alloc HBALL.out.size _) mm
          go_wp2
          go_roundw
          case rel => exact ⟨j + 1, by omega, by go_num, HST.out.below HBF.out hzw, Nat.lt_of_lt_of_le hzw HBF.out.size, HBW.out.trans (HBF.out.mono hszw)⟩
          case measure => simp [intOf]; omega
        · obtain rfl : j = 3 := by omega
          have HBW := Lib.hid hbw
          clear hbw hst
          go_wp2_with fail
          refine (lives_any _ (HS.out.on HBW.out)).mono ?_
          rintro e w3 ⟨rfl, b3⟩
          go_wp2
          go_ret
          exact ⟨rfl, HBW.out.trans (b3.mono hszw)⟩
end Go.Proofs.YtcjojfclgbjapaaDoor
