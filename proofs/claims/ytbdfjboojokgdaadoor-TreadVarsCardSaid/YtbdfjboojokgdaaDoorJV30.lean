/- The contract of the program's Lex. Conditions: the text has at most 2^40 bytes; the list of symbols stands in memory as the program's text lays it. Chapter 2's two Lex, read; the walk of its example ('lives'). Condition: the list of symbols stands in memory as the program's text lays it. -/
import Derived.Test.YtbdfjboojokgdaaDoorJV29
import Derived.Test.YtbdfjboojokgdaaDoorJV13
import Derived.Deep.LoopGhost
namespace Go.Proofs.YtbdfjboojokgdaaDoor.Lx
open Go.RowKit

theorem Tryd.info133 : (Tryd.prog.info? 133).map (fun i => (i.zero, i.size, i.bytes)) = some (some (.agg #[.int .i64 0, .string ⟨#[]⟩, .int .i64 0, .int .i64 0]), 4, 40) := by kernel_rfl
/-- What the program's Lex answered: the tokens, in a row of the call's own; or none, and the error and its place. -/
def LexedC (w : World) (r : Except (Nat × Nat) (List Tok)) (e : Ending) (w' : World) : Prop :=
  match r with
  | .error (c, p) => e = .returned (.tuple #[.slice none 0 0, .agg #[.int .i64 c, .int .i64 p]]) ∧ Below w.heap.size w w'
  | .ok l => ∃ v, e = .returned (.tuple #[v, .agg #[.int .i64 0, .int .i64 0]]) ∧ w'.ownsRow w.heap.size 133 4 v l.length (tokCells l) ∧ Below w.heap.size w w'

theorem index_blank (c : UInt8) : decide (0 ≤ Lib.indexByte [32, 9, 10] c) = (c == 32 || c == 9 || c == 10) := by
  simp only [Lib.indexByte]
  by_cases h1 : c = 32
  · subst h1; rfl
  · by_cases h2 : c = 9
    · subst h2; rfl
    · by_cases h3 : c = 10
      · subst h3; rfl
      · have a2 : ((9 : UInt8) == c) = false := by simpa using Ne.symm h2
        have a3 : ((10 : UInt8) == c) = false := by simpa using Ne.symm h3
        simp [h1, h2, h3, Ne.symm h1, Ne.symm h2, Ne.symm h3]

theorem blank_one {l : List UInt8} {c : UInt8} {r : List UInt8} (e : l = c :: r) (h : c = 32 ∨ c = 9 ∨ c = 10) : blankN l = 1 := by
  subst e; simp only [blankN]; rw [if_pos h]
theorem blank_remark {l : List UInt8} (h : Lib.hasPrefix l [45, 45] = true) : blankN l = (l.takeWhile (fun c => c != 10)).length ∧ 0 < blankN l := by
  unfold Lib.hasPrefix at h
  rw [List.isPrefixOf_iff_prefix] at h
  obtain ⟨q, rfl⟩ := h
  have e : blankN ([45, 45] ++ q) = 2 + (q.takeWhile (fun c => c != 10)).length := by
    show blankN (45 :: 45 :: q) = _
    simp only [blankN]; rw [if_neg (by decide), if_pos (by decide)]
  refine ⟨?_, by rw [e]; omega⟩
  rw [e]
  show _ = ((45 :: 45 :: q).takeWhile (fun c => c != 10)).length
  rw [List.takeWhile_cons, if_pos (by decide), List.takeWhile_cons, if_pos (by decide)]
  simp; omega
theorem blank_none {l : List UInt8} {c : UInt8} {r : List UInt8} (e : l = c :: r) (h : ¬ (c = 32 ∨ c = 9 ∨ c = 10)) (hp : Lib.hasPrefix l [45, 45] = false) : ¬ 0 < blankN l := by
  subst e
  cases r with
  | nil => simp only [blankN]; rw [if_neg h]; simp
  | cons b q =>
    simp only [blankN]; rw [if_neg h]
    rw [if_neg]
    · simp
    · rintro ⟨rfl, rfl⟩
      unfold Lib.hasPrefix at hp
      simp at hp
theorem drop_cons (s : ByteArray) (k : Nat) (h : k < s.size) : ∃ r, s.data.toList.drop k = s[k] :: r := by
  refine ⟨s.data.toList.drop (k + 1), ?_⟩
  rw [List.drop_eq_getElem_cons (by rw [← Lib.size_eq]; exact h), get_data s k h]

set_option maxRecDepth 100000 in
set_option maxHeartbeats 2000000 in
theorem lex_any (s : ByteArray) (w : World) (hm : s.size ≤ 1099511627776) (hS : Texts 0 symsL w) (h0 : 0 < w.heap.size) :
    Calls Tryd.prog 33 #[.string s] w (LexedC w (lexL s.data.toList)) := by
  have HS := Lib.hid hS
  clear hS
  by_cases h4 : 4000 < s.size
  · have HE : Hid (lexL s.data.toList = .error (2, 0)) := by show _ = _; unfold lexL; rw [if_pos (by rw [← Lib.size_eq]; exact h4)]
    have h4' : (4000 : Int) < s.size := by omega
    go_enter Tryd.func33, Tryd.ntmps33
    go_wp2
    go_step3
    go_wp2
    try rw [Exit.noGoto_ret]
    exact bodyPost_ret (v := .tuple #[.slice none 0 0, .agg #[.int .i64 2, .int .i64 0]]) (by simp [results, Tryd.results33, go_sem]) rfl (by rw [HE.out]; exact ⟨rfl, (Below.refl _ _).alloc (Nat.le_refl _) _⟩)
  have HE : Hid (lexL s.data.toList = lexF s.data.toList.length s.data.toList 0) := by show _ = _; unfold lexL; rw [if_neg (by rw [← Lib.size_eq]; exact h4)]
  have h4' : decide ((4000 : Int) < s.size) = false := by simp; omega
  have HZ : Hid (s.size = s.data.toList.length) := Lib.size_eq s
  obtain ⟨i0, hi, hz0, hz1, hz2⟩ := info_parts Tryd.info133
  go_enter Tryd.func33, Tryd.ntmps33
  go_wp2
  go_step3
  go_wp2
  go_step3
  go_wp2
  go_loopg [4, 5] s.size (fun g v i wr => ∃ (k : Nat) (out : List Tok), s.size ≤ k + g ∧ i = .int .i64 k ∧ LexInv s.data.toList out k ∧ wr.ownsRow (w.heap.size + 1) 133 4 v out.length (tokCells out) ∧ Below (w.heap.size + 1) (w.alloc (.cells #[.int .i64 0, .int .i64 0] 50)) wr)
  case atStart => exact ⟨0, [], by omega, rfl, lexInv_start _, World.ownsRow_nil _ _ _ _, Below.refl _ _⟩
  case round =>
    obtain ⟨k, out, hg, rfl, hinv, hown, hb⟩ := hrel
    have hk : k ≤ s.size := by have := hinv.1; rw [HZ.out]; exact this
    have hol : out.length ≤ 4000 := by have := hinv.2.1; omega
    have hsz : w.heap.size + 1 ≤ wr.heap.size := by have := hb.size; simpa using this
    have HB : Hid (Below w.heap.size w wr) := ((Below.refl _ _).alloc (Nat.le_refl _) _).trans (hb.mono (by omega))
    have HB1 := Lib.hid hb
    clear hb
    by_cases hlt : k < s.size
    · obtain ⟨g, rfl⟩ : ∃ g, gk = g + 1 := ⟨gk - 1, by omega⟩
      have hklt : k < s.data.toList.length := by rw [← HZ.out]; exact hlt
      have hx : (s.extract k s.size).data.toList = s.data.toList.drop k := by rw [Lib.extract_data]; exact List.take_of_length_le (by rw [List.length_drop, ← HZ.out]; omega)
      have hxs : 0 < (s.extract k s.size).size := by rw [ByteArray.size_extract]; omega
      have hxm : (s.extract k s.size).size ≤ 1099511627776 := by rw [ByteArray.size_extract]; omega
      obtain ⟨r, hr⟩ := drop_cons s k hlt
      have hix := index_blank s[k]
      have hki : (k : Int) < (s.size : Int) := by omega
      have hk0 : (0 : Int) ≤ (k : Int) := by omega
      have HX := Lib.hid hx
      have HINV := Lib.hid hinv
      clear hx hinv
      obtain ⟨m, hmv⟩ : ∃ m, Lib.indexByte [32, 9, 10] s[k] = m := ⟨_, rfl⟩
      have HM : Hid (Lib.indexByte (⟨#[32, 9, 10]⟩ : ByteArray).data.toList ((s[k].toNat : Int).toNat.toUInt8) = m) := by show _ = _; rw [← hmv]; simp
      rw [hmv] at hix
      clear hmv
      by_cases hbl : s[k] = 32 ∨ s[k] = 9 ∨ s[k] = 10
      · have hb1 := blank_one hr hbl
        have HI : Hid (LexInv s.data.toList out (k + 1)) := by
          have h9 := lexInv_blank HINV.out hklt (by omega)
          rw [hb1] at h9; exact h9
        have hm0 : 0 ≤ m := by
          have h9 : decide (0 ≤ m) = true := by rw [hix]; rcases hbl with e | e | e <;> rw [e] <;> rfl
          simpa using h9
        clear hix hbl hr hb1
        go_wp2_with fail
        refine (Tryd.strings_IndexByte _ _ _).mono ?_
        rintro e w' ⟨rfl, hw'⟩
        obtain rfl := hw'.symm
        rw [HM.out]
        go_wp2
        go_roundg g
        case rel => exact ⟨k + 1, out, by omega, by go_num, HI.out, hown, HB1.out⟩
        case measure => omega
      · have hmn : ¬ 0 ≤ m := by
          intro h9
          have h8 : decide (0 ≤ m) = true := by simpa using h9
          rw [hix] at h8
          simp at h8
          exact hbl (by rcases h8 with (h | h) | h <;> simp [h])
        have hmd : decide (0 ≤ m) = false := by simpa using hmn
        have hmi : m < 0 := by omega
        have HBL := Lib.hid hbl
        have HRR := Lib.hid hr
        clear hix hbl hr hmn
        go_wp2_with fail
        refine (Tryd.strings_IndexByte _ _ _).mono ?_
        rintro e w' ⟨rfl, hw'⟩
        obtain rfl := hw'.symm
        rw [HM.out]
        go_wp2_with fail
        refine (Tryd.strings_HasPrefix _ _ _).mono ?_
        rintro e w' ⟨rfl, hw'⟩
        obtain rfl := hw'.symm
        rw [HX.out]
        rw [show (⟨#[45, 45]⟩ : ByteArray).data.toList = [45, 45] from rfl]
        by_cases hp : Lib.hasPrefix (s.data.toList.drop k) [45, 45] = true
        · obtain ⟨hbr, hbp⟩ := blank_remark hp
          have HI := Lib.hid (lexInv_blank HINV.out hklt hbp)
          have hle := blankN_le (s.data.toList.drop k)
          rw [List.length_drop, ← HZ.out] at hle
          have HBR := Lib.hid hbr
          rw [hp]
          generalize hR : blankN (s.data.toList.drop k) = R at *
          clear hp hbr hR
          go_wp2_with fail
          go_loopg [5] (s.size - k) (fun g2 i wr2 => ∃ j : Nat, s.size ≤ j + g2 ∧ k ≤ j ∧ j ≤ s.size ∧ i = .int .i64 j ∧ Hid (j - k ≤ R) ∧ wr2 = wr)
          case atStart => exact ⟨k, by omega, by omega, by omega, rfl, (by show k - k ≤ R; omega), rfl⟩
          case round =>
            obtain ⟨j, hg2, hkj, hjs, rfl, hjR, rfl⟩ := hrel
            by_cases hjlt : j < s.size
            · obtain ⟨g2, rfl⟩ : ∃ g2, gk = g2 + 1 := ⟨gk - 1, by omega⟩
              have hjd : j - k < (s.data.toList.drop k).length := by rw [List.length_drop, ← HZ.out]; omega
              have hget : (s.data.toList.drop k)[j - k] = s[j] := by
                rw [List.getElem_drop, ← get_data s j hjlt (by rw [← HZ.out]; exact hjlt)]
                congr 1; omega
              have hji : (j : Int) < (s.size : Int) := by omega
              have hj0 : (0 : Int) ≤ (j : Int) := by omega
              by_cases h10 : s[j] = 10
              · have hRj : R = j - k := by
                  rw [HBR.out]; exact tw_stop _ _ _ (by have := hjR.out; rw [HBR.out] at this; exact this) hjd (by rw [hget, h10]; rfl)
                have h10' : ((s[j].toNat : Int) == 10) = true := by rw [h10]; rfl
                have HI2 : Hid (LexInv s.data.toList out j) := by
                  have h9 := HI.out
                  rw [hRj, show k + (j - k) = j by omega] at h9; exact h9
                have hkj' : k < j := by omega
                clear h10 hget hRj
                go_wp2
                go_roundg g
                case rel => exact ⟨j, out, by omega, rfl, HI2.out, hown, HB1.out⟩
                case measure => omega
              · have h10' : ((s[j].toNat : Int) == 10) = false := byte_ne (n := 10) (by decide) h10
                have HR2 : Hid (j + 1 - k ≤ R) := by
                  have h9 := tw_step (fun c : UInt8 => c != 10) (s.data.toList.drop k) (j - k) (by have := hjR.out; rw [HBR.out] at this; exact this) hjd (by rw [hget]; simpa using h10)
                  show _ ≤ _
                  rw [HBR.out]; omega
                clear h10 hget
                go_wp2
                go_roundg g2
                case rel => exact ⟨j + 1, by omega, by omega, by omega, by go_num, HR2, rfl⟩
                case measure => omega
            · have hjj : j = s.size := by omega
              have hRj : R = j - k := by
                have h8 := hjR.out
                rw [HBR.out] at h8 ⊢
                exact tw_end _ _ _ h8 (by rw [List.length_drop, ← HZ.out]; omega)
              have HI2 : LexInv s.data.toList out j := by
                have h9 := HI.out
                rw [hRj, show k + (j - k) = j by omega] at h9; exact h9
              have HF := Lib.hid (lexInv_end HI2 (by rw [← HZ.out]; omega))
              have HLN : Hid (j = s.data.toList.length) := by show _ = _; rw [hjj]; exact HZ.out
              have hd : decide (j < s.size) = false := by simpa using hjlt
              clear hRj HI2 hjj
              go_wp2_with (at_builtin; refine wpList_append_own _ rfl (.tmp 60) (.tmp 63) 47 rfl (w.heap.size + 1) 133 i0 (.agg #[.int .i64 0, .string ⟨#[]⟩, .int .i64 0, .int .i64 0]) 4 40 Tryd.underlying47 hi hz0 hz1 hz2 rfl (by decide) _ _ _ rfl (hown.alloc _) ⟨wr.heap.size, 0, none⟩ 1 1 [.int .i64 6, .string ⟨#[]⟩, .int .i64 0, .int .i64 j] rfl rfl (four_new _ _ _ _ _ _) (four_one _ _ _ _) (by unfold maxLen; omega) (by omega) (by simp; omega) ?_; intro v' w2 hown2 hg2 _; have HB4 : Below (w.heap.size + 1) (w.alloc (.cells #[.int .i64 0, .int .i64 0] 50)) w2 := (HB1.out.alloc hsz _).grown (row := u4.ownBlock) hg2 (by simp; omega) (fun q hq => (hown.lt q hq).1); have c0 : w2.cell? ⟨w.heap.size, 0, none⟩ = some (.int .i64 0) := (HB4.cell (p := ⟨w.heap.size, 0, none⟩) (Nat.lt_succ_self _)).trans (by simp [go_sem]); have c1 : w2.cell? ⟨w.heap.size, 1, none⟩ = some (.int .i64 0) := (HB4.cell (p := ⟨w.heap.size, 1, none⟩) (Nat.lt_succ_self _)).trans (by simp [go_sem]); have f0 : w2.frozen? ⟨w.heap.size, 0, none⟩ = false := (HB4.frozen (p := ⟨w.heap.size, 0, none⟩) (Nat.lt_succ_self _)).trans (by simp [go_sem]); have f1 : w2.frozen? ⟨w.heap.size, 1, none⟩ = false := (HB4.frozen (p := ⟨w.heap.size, 1, none⟩) (Nat.lt_succ_self _)).trans (by simp [go_sem]))
              have HBW : Below w.heap.size w w2 := ((Below.refl _ _).alloc (Nat.le_refl _) _).trans (HB4.mono (by omega))
              have hown3 : w2.ownsRow (w.heap.size + 1) 133 4 v' (out ++ [Tok.mk 6 [] 0 s.data.toList.length]).length (tokCells (out ++ [Tok.mk 6 [] 0 s.data.toList.length])) := by
                rw [tokCells_snoc, List.length_append, ← HLN.out]; exact hown2
              try rw [Exit.noGoto_ret]
              exact bodyPost_ret (v := .tuple #[v', .agg #[.int .i64 0, .int .i64 0]]) (by simp [results, Tryd.results33, go_sem, c0, c1]) rfl (by rw [HE.out, HF.out]; exact ⟨v', rfl, ownsRow_lower (ownsRow_setCell_below (ownsRow_setCell_below hown3 (Nat.lt_succ_self _) _) (Nat.lt_succ_self _) _) (by omega), (HBW.setCell (Nat.le_refl _) _).setCell (Nat.le_refl _) _⟩)
        · have hp' : Lib.hasPrefix (s.data.toList.drop k) [45, 45] = false := Bool.eq_false_iff.2 hp
          have HBZ := Lib.hid (blank_none HRR.out HBL.out hp')
          rw [hp']
          clear hp hp'
          go_wp2_with fail
          have hSr : Texts 0 symsL wr := HS.out.below HB.out h0
          refine (first_any _ _ hxs hxm hSr (by omega)).mono ?_
          rintro e w1 ⟨rfl, b1⟩
          rw [HX.out]
          clear hxs hxm hSr
          have hown1 := ownsRow_below hown b1
          have z1 : w.heap.size + 1 ≤ w1.heap.size := Nat.le_trans hsz b1.size
          have HB2 : Hid (Below (w.heap.size + 1) (w.alloc (.cells #[.int .i64 0, .int .i64 0] 50)) w1) := HB1.out.trans (b1.mono hsz)
          have hzz : w.heap.size < w1.heap.size := by omega
          have c0 : w1.cell? ⟨w.heap.size, 0, none⟩ = some (.int .i64 0) := (HB2.out.cell (p := ⟨w.heap.size, 0, none⟩) (Nat.lt_succ_self _)).trans (by simp [go_sem])
          have c1 : w1.cell? ⟨w.heap.size, 1, none⟩ = some (.int .i64 0) := (HB2.out.cell (p := ⟨w.heap.size, 1, none⟩) (Nat.lt_succ_self _)).trans (by simp [go_sem])
          have f0 : w1.frozen? ⟨w.heap.size, 0, none⟩ = false := (HB2.out.frozen (p := ⟨w.heap.size, 0, none⟩) (Nat.lt_succ_self _)).trans (by simp [go_sem])
          have f1 : w1.frozen? ⟨w.heap.size, 1, none⟩ = false := (HB2.out.frozen (p := ⟨w.heap.size, 1, none⟩) (Nat.lt_succ_self _)).trans (by simp [go_sem])
          have HBW : Hid (Below w.heap.size w w1) := ((Below.refl _ _).alloc (Nat.le_refl _) _).trans (HB2.out.mono (by omega))
          clear b1 hown
          cases ho : oneT (s.data.toList.drop k) with
          | error c =>
            have hcc := oneT_err ho
            have HF := Lib.hid (lexInv_err HINV.out hklt HBZ.out ho)
            simp only [oneV]
            have hc0 : ((c : Int) != 0) = true := by rw [bne_iff_ne]; omega
            clear ho hcc
            go_wp2
            try rw [Exit.noGoto_ret]
            exact bodyPost_ret (v := .tuple #[.slice none 0 0, .agg #[.int .i64 c, .int .i64 k]]) (by simp [results, Tryd.results33, go_sem, c0, c1, hzz]) rfl (by rw [HE.out, HF.out]; exact ⟨rfl, ((HBW.out.setCell (Nat.le_refl _) _).setCell (Nat.le_refl _) _).alloc (by simp; omega) _⟩)
          | ok y =>
            obtain ⟨kk, x, nn⟩ := y
            have hxl := oneT_len ho
            rw [List.length_drop] at hxl
            have HI := Lib.hid (lexInv_tok HINV.out hklt HBZ.out ho)
            simp only [oneV, aggT]
            have hcat : ((0 : Int) != 0) = false := rfl
            have hkx : k + x.length ≤ s.size := by rw [HZ.out]; omega
            have hxs2 : x.length ≤ 4000 := by omega
            have hne : some w1.heap.size ≠ u4.ownBlock := by intro h; have := (hown1.lt _ h.symm).2; omega
            have HNE := Lib.hid hne
            clear hne
            have hk1 : 1 ≤ x.length := hxl.1
            have hxsz : (⟨x.toArray⟩ : ByteArray).size = x.length := by show x.toArray.size = _; simp
            clear ho hxl
            go_wp2_with (at_builtin; refine wpList_append_own _ rfl (.tmp 51) (.tmp 53) 47 rfl (w.heap.size + 1) 133 i0 (.agg #[.int .i64 0, .string ⟨#[]⟩, .int .i64 0, .int .i64 0]) 4 40 Tryd.underlying47 hi hz0 hz1 hz2 rfl (by decide) _ _ _ rfl ((hown1.alloc _).alloc _) ⟨w1.heap.size + 1, 0, none⟩ 1 1 [.int .i64 kk, .string ⟨x.toArray⟩, .int .i64 nn, .int .i64 k] rfl rfl (by have h9 := four_new (w1.alloc (.cells #[.int .i64 kk, .string ⟨x.toArray⟩, .int .i64 nn, .int .i64 k] 133)) (.int .i64 kk) (.string ⟨x.toArray⟩) (.int .i64 nn) (.int .i64 k) 133; simpa using h9) (four_one _ _ _ _) (by unfold maxLen; omega) (by omega) (by simp; omega) ?_; intro v' w2 hown2 hg2 _; have hct : w2.cell? ⟨w1.heap.size, 1, none⟩ = some (.string ⟨x.toArray⟩) := (hg2.cell_far ⟨w1.heap.size, 1, none⟩ (by simp; omega) HNE.out).trans (by simp [go_sem]))
            have HB3 : Below (w.heap.size + 1) (w.alloc (.cells #[.int .i64 0, .int .i64 0] 50)) w2 := ((HB2.out.alloc z1 _).alloc (by simp; omega) _).grown (row := u4.ownBlock) hg2 (by simp; omega) (fun q hq => (hown1.lt q hq).1)
            have hown3 : w2.ownsRow (w.heap.size + 1) 133 4 v' (out ++ [Tok.mk kk x nn k]).length (tokCells (out ++ [Tok.mk kk x nn k])) := by
              rw [tokCells_snoc, List.length_append]; exact hown2
            clear hown2 hg2
            go_roundg g
            case rel => exact ⟨k + x.length, out ++ [Tok.mk kk x nn k], by omega, by go_num, HI.out, hown3, HB3⟩
            case measure => omega
    · have hd : decide (k < s.size) = false := by simpa using hlt
      have HF := Lib.hid (lexInv_end hinv (by rw [← HZ.out]; exact hlt))
      have hks : k = s.size := by omega
      have HLN : Hid (k = s.data.toList.length) := by show _ = _; rw [hks]; exact HZ.out
      clear hinv hks
      go_wp2_with (at_builtin; refine wpList_append_own _ rfl (.tmp 60) (.tmp 63) 47 rfl (w.heap.size + 1) 133 i0 (.agg #[.int .i64 0, .string ⟨#[]⟩, .int .i64 0, .int .i64 0]) 4 40 Tryd.underlying47 hi hz0 hz1 hz2 rfl (by decide) _ _ _ rfl (hown.alloc _) ⟨wr.heap.size, 0, none⟩ 1 1 [.int .i64 6, .string ⟨#[]⟩, .int .i64 0, .int .i64 k] rfl rfl (four_new _ _ _ _ _ _) (four_one _ _ _ _) (by unfold maxLen; omega) (by omega) (by simp; omega) ?_; intro v' w2 hown2 hg2 _; have HB4 : Below (w.heap.size + 1) (w.alloc (.cells #[.int .i64 0, .int .i64 0] 50)) w2 := (HB1.out.alloc hsz _).grown (row := u4.ownBlock) hg2 (by simp; omega) (fun q hq => (hown.lt q hq).1); have c0 : w2.cell? ⟨w.heap.size, 0, none⟩ = some (.int .i64 0) := (HB4.cell (p := ⟨w.heap.size, 0, none⟩) (Nat.lt_succ_self _)).trans (by simp [go_sem]); have c1 : w2.cell? ⟨w.heap.size, 1, none⟩ = some (.int .i64 0) := (HB4.cell (p := ⟨w.heap.size, 1, none⟩) (Nat.lt_succ_self _)).trans (by simp [go_sem]); have f0 : w2.frozen? ⟨w.heap.size, 0, none⟩ = false := (HB4.frozen (p := ⟨w.heap.size, 0, none⟩) (Nat.lt_succ_self _)).trans (by simp [go_sem]); have f1 : w2.frozen? ⟨w.heap.size, 1, none⟩ = false := (HB4.frozen (p := ⟨w.heap.size, 1, none⟩) (Nat.lt_succ_self _)).trans (by simp [go_sem]))
      have HBW : Below w.heap.size w w2 := ((Below.refl _ _).alloc (Nat.le_refl _) _).trans (HB4.mono (by omega))
      have hown3 : w2.ownsRow (w.heap.size + 1) 133 4 v' (out ++ [Tok.mk 6 [] 0 s.data.toList.length]).length (tokCells (out ++ [Tok.mk 6 [] 0 s.data.toList.length])) := by
        rw [tokCells_snoc, List.length_append, ← HLN.out]; exact hown2
      try rw [Exit.noGoto_ret]
      exact bodyPost_ret (v := .tuple #[v', .agg #[.int .i64 0, .int .i64 0]]) (by simp [results, Tryd.results33, go_sem, c0, c1]) rfl (by rw [HE.out, HF.out]; exact ⟨v', rfl, ownsRow_lower (ownsRow_setCell_below (ownsRow_setCell_below hown3 (Nat.lt_succ_self _) _) (Nat.lt_succ_self _) _) (by omega), (HBW.setCell (Nat.le_refl _) _).setCell (Nat.le_refl _) _⟩)
end Go.Proofs.YtbdfjboojokgdaaDoor.Lx
namespace Go.Proofs.YtbdfjboojokgdaaDoor.Lx
open Go.RowKit

/-- What Lex answered, read: the tokens; or none, and the error and its place. -/
def LexedR (w : World) (r : Except (Nat × Nat) (List Tok)) (e : Ending) (w' : World) : Prop :=
  match r with
  | .error (c, p) => e = .returned (.tuple #[.slice none 0 0, .agg #[.int .i64 c, .int .i64 p]]) ∧ Below w.heap.size w w'
  | .ok l => ∃ v, e = .returned (.tuple #[v, .agg #[.int .i64 0, .int .i64 0]]) ∧ TokRow w' v l ∧ Below w.heap.size w w'
/-- The program's list of symbols stands in memory as its text lays it. -/
def SymsIn (w : World) : Prop := Texts 0 symsL w ∧ 0 < w.heap.size
theorem SymsIn.on {w w' : World} (h : SymsIn w) (hb : Below w.heap.size w w') : SymsIn w' := ⟨h.1.below hb h.2, Nat.lt_of_lt_of_le h.2 hb.size⟩
theorem lexR_any (s : ByteArray) (w : World) (hm : s.size ≤ 1099511627776) (hS : SymsIn w) : Calls Tryd.prog 33 #[.string s] w (LexedR w (lexL s.data.toList)) := by
  refine (lex_any s w hm hS.1 hS.2).mono ?_
  intro e w' h
  unfold LexedC at h
  unfold LexedR
  revert h
  cases lexL s.data.toList with
  | error c => exact id
  | ok l => rintro ⟨v, he, ho, hb⟩; exact ⟨v, he, tokRow_of_own ho, hb⟩
theorem reflexR_any (s : ByteArray) (w : World) (hm : s.size ≤ 1099511627776) : Calls Tryd.prog 35 #[.string s] w (LexedR w (lexL s.data.toList)) := by
  refine (reflex_any s w hm).mono ?_
  intro e w' h
  unfold Lexed at h
  unfold LexedR
  revert h
  cases lexL s.data.toList with
  | error c => exact id
  | ok l => rintro ⟨v, he, ho, hb⟩; exact ⟨v, he, tokRow_of_own ho, hb⟩

theorem tokRow_new (w : World) (l : List Tok) (t : TypeId) (cap : Nat) : TokRow (w.alloc (.cells (tokCells l).toArray t)) (.slice (some ⟨w.heap.size, 0, none⟩) l.length cap) l := by
  refine .inr ⟨w.heap.size, cap, rfl, by simp, fun j hj => ?_⟩
  have hc : ∀ i, i < 4 → (w.alloc (.cells (tokCells l).toArray t)).cell? ⟨w.heap.size, j * 4 + i, none⟩ = (tokC l[j])[i]? := fun i hi => by
    rw [World.cell?_alloc_at _ _ _ _ rfl]
    simpa using tokCells_at l j hj i hi
  exact ⟨(hc 0 (by omega)).trans rfl, (hc 1 (by omega)).trans rfl, (hc 2 (by omega)).trans rfl, (hc 3 (by omega)).trans rfl⟩
def exToks : List Tok := [⟨1, [102], 0, 0⟩, ⟨1, [120], 0, 2⟩, ⟨4, [61], 0, 3⟩, ⟨3, [49], 1, 4⟩, ⟨6, [], 0, 12⟩]
theorem lex_ex : lexL [102, 32, 120, 61, 49, 32, 45, 45, 32, 111, 110, 101] = .ok exToks := by rfl

end Go.Proofs.YtbdfjboojokgdaaDoor.Lx
