/- The walk of the law LexKeys. Condition: the list of symbols stands in memory as the program's text lays it. -/
import Derived.Test.YtcjojfclgbjapaaDoorReads
namespace Go.Proofs.YtcjojfclgbjapaaDoor
open Go.RowKit

/-- A block of two numbers: an error and its place. -/
def TwoAt (w : World) (b : Nat) (c p : Int) : Prop := b < w.heap.size ∧ w.cell? ⟨b, 0, none⟩ = some (.int .i64 c) ∧ w.cell? ⟨b, 1, none⟩ = some (.int .i64 p)
theorem TwoAt.on {w w' : World} {b : Nat} {c p : Int} (h : TwoAt w b c p) (hb : Below w.heap.size w w') : TwoAt w' b c p :=
  ⟨Nat.lt_of_lt_of_le h.1 hb.size, (hb.cell (p := ⟨b, 0, none⟩) h.1).trans h.2.1, (hb.cell (p := ⟨b, 1, none⟩) h.1).trans h.2.2⟩
theorem twoAt_new (w : World) (c p : Int) (t : TypeId) : TwoAt (w.alloc (.cells #[.int .i64 c, .int .i64 p] t)) w.heap.size c p :=
  ⟨by simp, by simp [go_sem], by simp [go_sem]⟩
theorem below_new (w : World) (o : Obj) : Below w.heap.size w (w.alloc o) := (Below.refl _ _).alloc (Nat.le_refl _) _

set_option maxRecDepth 100000 in
set_option maxHeartbeats 400000 in
theorem sameTexts_same (strs : List (List UInt8)) (B1 B2 n c1 c2 : Nat) (w : World) (h1 : Texts B1 strs w) (h2 : Texts B2 strs w) (hn : strs.length = n) (hm : n ≤ 1000000) :
    Calls Tryd.prog 24 #[.slice (some ⟨B1, 0, none⟩) n c1, .slice (some ⟨B2, 0, none⟩) n c2] w fun e w' => e = .returned (.bool true) ∧ ∃ m, w' = w.drewN m := by
  have H1 := Lib.hid h1
  have H2 := Lib.hid h2
  have HN := Lib.hid hn
  clear h1 h2 hn
  go_enter Tryd.func24, Tryd.ntmps24
  go_wp2
  go_loopw [5] (fun i wr => ∃ k m : Nat, k ≤ n ∧ i = .int .i64 k ∧ wr = w.drewN m) (fun i _ => n - (intOf i).toNat)
  case atStart => exact ⟨0, 0, Nat.zero_le _, rfl, rfl⟩
  case round =>
    obtain ⟨k, m, hk, rfl, rfl⟩ := hrel
    by_cases hlt : k < n
    · have hks : k < strs.length := by rw [HN.out]; exact hlt
      have p1 := H1.out k hks
      have p2 := H2.out k hks
      generalize strs[k] = x at *
      have hk' : (k : Int) < (n : Int) := by omega
      have hk0 : (0 : Int) ≤ (k : Int) := by omega
      clear hks
      go_wp2_with fail
      go_quiet (fail)
      go_wp2
      go_roundw
      case rel => exact ⟨k + 1, _, by omega, by go_num, rfl⟩
      case measure => simp [intOf]; omega
    · have hd : decide (k < n) = false := by simpa using hlt
      go_wp2
      go_ret
      exact ⟨rfl, m, rfl⟩

theorem lex_key : ∀ x ∈ keysL, lexL x = .ok [⟨5, x, 0, 0⟩, ⟨6, [], 0, x.length⟩] := by
  intro x hx
  simp only [keysL, List.mem_cons, List.not_mem_nil, or_false] at hx
  rcases hx with rfl | rfl | rfl | rfl | rfl | rfl | rfl
  all_goals rfl

set_option maxRecDepth 100000 in
set_option maxHeartbeats 2000000 in
theorem keys_walk (a0 : ByteArray) (a1 : Int) (w : World) (w0 : a0.size ≤ maxLen) (h1 : -9223372036854775808 ≤ a1) (h2 : a1 ≤ 9223372036854775807) (hS : SymsIn w) :
    Calls Tryd.prog 8 #[.string a0, .int .i64 a1] w fun e w' => e = .returned (.bool true) ∧ Below w.heap.size w w' := by
  have HS := Lib.hid hS
  clear hS
  go_enter Tryd.func8, Tryd.ntmps8
  go_wp2_with fail
  refine (keys_any _).mono ?_
  rintro e x1 ⟨rfl, hT1, b1⟩
  have hx1 : w.heap.size < x1.heap.size := by
    have := World.block_lt_of_cell? x1 _ (hT1 0 (by decide))
    exact this
  have HT1 := Lib.hid hT1
  have HB1 := Lib.hid b1
  clear hT1 b1
  go_wp2_with fail
  refine (refkeys_any _).mono ?_
  rintro e x2 ⟨rfl, hT2, b2⟩
  have HT1' := Lib.hid (HT1.out.below b2 hx1)
  have HT2 := Lib.hid hT2
  have HB2 := Lib.hid (HB1.out.trans (b2.mono HB1.out.size))
  clear hT2 b2
  go_wp2_with fail
  refine (sameTexts_same keysL _ _ 7 7 7 _ HT1'.out HT2.out rfl (by decide)).mono ?_
  rintro e x3 ⟨rfl, m, rfl⟩
  have HB3 : Hid (Below w.heap.size w (x2.drewN m)) := below_drewN HB2.out m
  clear HT1 HT1' HT2
  generalize x2.drewN m = x3 at *
  go_wp2_with fail
  refine (refkeys_any _).mono ?_
  rintro e x4 ⟨rfl, hT4, b4⟩
  have HT4 := Lib.hid hT4
  have HB4 := Lib.hid (HB3.out.trans (b4.mono HB3.out.size))
  clear hT4 b4
  go_wp2_with fail
  refine (around_any a1 _ _ h1 h2 (by omega) (by omega)).mono ?_
  rintro e w' ⟨y, hy, rfl, rfl⟩
  have hy7 : y < keysL.length := by show y < 7; omega
  have hc := HT4.out y hy7
  have hkm := List.getElem_mem hy7
  have hl := lex_key _ hkm
  have hks : keysL[y].length ≤ 8 := by
    have : ∀ x ∈ keysL, x.length ≤ 8 := by decide
    exact this _ hkm
  generalize keysL[y] = K at *
  have HL := Lib.hid hl
  clear hl hkm
  have hy0 : (0 : Int) ≤ (y : Int) := by omega
  have hKs : (⟨K.toArray⟩ : ByteArray).size ≤ 8 := by show K.toArray.size ≤ 8; simpa using hks
  have HLK : Hid (lexL (⟨K.toArray⟩ : ByteArray).data.toList = .ok [⟨5, K, 0, 0⟩, ⟨6, [], 0, K.length⟩]) := by show _ = _; rw [show (⟨K.toArray⟩ : ByteArray).data.toList = K by simp]; exact HL.out
  generalize (⟨K.toArray⟩ : ByteArray) = KB at *
  go_wp2_with fail
  refine (short_any a0 3 _ w0 (by omega) (by omega)).mono ?_
  rintro e w' ⟨T, hT, rfl, rfl⟩
  have hsum := size_append2 KB T
  have hMs : (KB ++ T).size ≤ 11 := by omega
  clear hsum hc
  go_wp2_with fail
  refine (lexR_any KB _ (by omega) (HS.out.on HB4.out)).mono ?_
  rw [HLK.out]
  rintro e x5 ⟨v5, rfl, hr5, b5⟩
  have HB5 := Lib.hid (HB4.out.trans (b5.mono HB4.out.size))
  have HR5 := Lib.hid hr5
  obtain ⟨A5, c5, rfl⟩ := tokRow_form hr5
  clear hr5 b5
  have heq := eq_at
  have hgd := guard_at
  have hA := lexP_any (KB ++ T) 
  have hB := fun W => reflexP_any (KB ++ T) W (by omega)
  have hln := resL_len (KB ++ T).data.toList
  generalize resC (lexL (KB ++ T).data.toList) = rc at *
  generalize resP (lexL (KB ++ T).data.toList) = rp at *
  generalize resL (lexL (KB ++ T).data.toList) = rl at *
  generalize KB ++ T = KT at *
  have HA := Lib.hid hA
  have HBR := Lib.hid hB
  clear hA hB
  go_wp2_with fail
  have HB6 : Hid (Below w.heap.size w (x5.alloc (.cells #[.int .i64 0, .int .i64 0] 30))) := HB5.out.alloc HB5.out.size _
  refine (HA.out _ (by omega) (HS.out.on HB6.out)).mono ?_
  rintro e x7 ⟨v7, rfl, hr7, b7⟩
  have HR5' := Lib.hid ((HR5.out.below (below_new x5 (.cells #[.int .i64 0, .int .i64 0] 30))).below b7)
  have HR7 := Lib.hid hr7
  have HB7 := Lib.hid (HB6.out.trans (b7.mono HB6.out.size))
  clear hr7 b7
  go_wp2_with fail
  have HB8 : Hid (Below w.heap.size w (x7.alloc (.cells #[.int .i64 rc, .int .i64 rp] 30))) := HB7.out.alloc HB7.out.size _
  refine (HBR.out _).mono ?_
  rintro e x9 ⟨v9, rfl, hr9, b9⟩
  have b7' := below_new x7 (.cells #[.int .i64 rc, .int .i64 rp] 30)
  obtain ⟨hbA, hc0, hc1⟩ := (twoAt_new x7 rc rp 30).on b9
  have HR5'' := Lib.hid ((HR5'.out.below b7').below b9)
  have HR7' := Lib.hid ((HR7.out.below b7').below b9)
  have HR9 := Lib.hid hr9
  have HB9 := Lib.hid (HB8.out.trans (b9.mono HB8.out.size))
  clear hr9 b9 b7'
  obtain ⟨g, d, e1, hgw, r1⟩ : ∃ g cap, Value.slice A5 2 c5 = .slice (some ⟨g, 0, none⟩) 2 cap ∧ g < x9.heap.size ∧ x9.cell? ⟨g, 0, none⟩ = some (.int .i64 5) := by
    rcases HR5''.out with ⟨_, h9⟩ | ⟨g, cap, e, hg, hcc⟩
    · simp at h9
    · exact ⟨g, cap, e, hg, by simpa using (hcc 0 (by simp)).1⟩
  have e1' : A5 = some ⟨g, 0, none⟩ := by injection e1
  clear e1
  subst e1'
  go_wp2_with fail
  have b9' := below_new x9 (.cells #[.int .i64 rc, .int .i64 rp] 30)
  refine (same_same rl _ _ _ (HR7'.out.below b9') (HR9.out.below b9') (by omega)).mono ?_
  rintro e w3 ⟨rfl, mm, rfl⟩
  have HB10 : Hid (Below w.heap.size w ((x9.alloc (.cells #[.int .i64 rc, .int .i64 rp] 30)).drewN mm)) := below_drewN (HB9.out.alloc HB9.out.size _) mm
  clear b9' heq hgd
  go_wp2_with fail
  refine (lives_any _ (HS.out.on HB10.out)).mono ?_
  rintro e w4 ⟨rfl, b4⟩
  go_wp2
  go_ret
  exact ⟨rfl, HB10.out.trans (b4.mono HB10.out.size)⟩
end Go.Proofs.YtcjojfclgbjapaaDoor
