/- The contract of the document's Lex (chapter 2). Condition: the text has at most 2^40 bytes. The contracts of the helpers of chapter 2's laws: same, source, words, and of the document's Print, Texts, Gap. No conditions but those that each theorem names. Tokens in memory and a reader of them (tread of chapter 5): the token that is next, symbols, refusals. No conditions but those that each theorem names. -/
import Derived.Test.YtbdfjboojokgdaaDoorJV12
import Derived.Deep.AppendLies
import Derived.Test.YtbdfjboojokgdaaDoorJV10
namespace Go.Proofs.YtbdfjboojokgdaaDoor.Lx
open Go.RowKit

def tokC (t : Tok) : List Value := [.int .i64 t.kind, .string ⟨t.text.toArray⟩, .int .i64 t.num, .int .i64 t.place]
def tokCells (l : List Tok) : List Value := l.flatMap tokC
theorem tokCells_snoc (l : List Tok) (t : Tok) : tokCells (l ++ [t]) = tokCells l ++ tokC t := by simp [tokCells]

theorem ownsRow_below {w w' : World} {base : Nat} {e : TypeId} {size : Nat} {v : Value} {n : Nat} {xs : List Value} (h : w.ownsRow base e size v n xs) (hb : Below w.heap.size w w') : w'.ownsRow base e size v n xs := by
  refine ⟨h.1, ?_⟩
  rcases h.2 with h2 | ⟨g, cap, cur, hv, hg, hh, r⟩
  · exact .inl h2
  · have hlt : g < w.heap.size := by
      rcases Nat.lt_or_ge g w.heap.size with h9 | h9
      · exact h9
      · rw [Array.getElem?_eq_none h9] at hh; cases hh
    exact .inr ⟨g, cap, cur, hv, hg, (hb.block g hlt).trans hh, r⟩
theorem ownsRow_lower {w : World} {base b2 : Nat} {e : TypeId} {size : Nat} {v : Value} {n : Nat} {xs : List Value} (h : w.ownsRow base e size v n xs) (hb : b2 ≤ base) : w.ownsRow b2 e size v n xs := by
  refine ⟨h.1, ?_⟩
  rcases h.2 with h2 | ⟨g, cap, cur, hv, hg, r⟩
  · exact .inl h2
  · exact .inr ⟨g, cap, cur, hv, by omega, r⟩
theorem four_new (w : World) (a b c d : Value) (t : TypeId) : ∀ j u, [a, b, c, d][j]? = some u → (w.alloc (.cells #[a, b, c, d] t)).cell? ((⟨w.heap.size, 0, none⟩ : Addr).add j) = some u := by
  intro j u h
  have hj : j = 0 ∨ j = 1 ∨ j = 2 ∨ j = 3 := by
    have := (List.getElem?_eq_some_iff.1 h).1
    simp at this; omega
  rcases hj with rfl | rfl | rfl | rfl <;> simp at h <;> subst h <;> simp [Addr.add, go_sem]
theorem four_one (k : Int) (x : ByteArray) (n i : Int) : ∀ u ∈ [Value.int .i64 k, .string x, .int .i64 n, .int .i64 i], u.oneCell' = true := by
  intro u hu; simp at hu; rcases hu with rfl | rfl | rfl | rfl <;> rfl
theorem Tryd.info138 : (Tryd.prog.info? 138).map (fun i => (i.zero, i.size, i.bytes)) = some (some (.agg #[.int .i64 0, .string ⟨#[]⟩, .int .i64 0, .int .i64 0]), 4, 40) := by kernel_rfl
theorem oneT_err {l : List UInt8} {e : Nat} (h : oneT l = .error e) : e = 2 ∨ e = 10 ∨ e = 11 := by
  unfold oneT at h
  match l, h with
  | [], h => cases h; simp
  | c :: r, h =>
    simp only at h
    split at h
    · split at h
      · cases h; simp
      · cases h
    · split at h
      · split at h
        · cases h; simp
        · split at h
          · cases h
          · split at h <;> cases h
      · split at h
        · cases h; simp
        · cases h

/-- What Lex answered: the tokens, in a row of the call's own; or none, and the error and its place. -/
def Lexed (w : World) (r : Except (Nat × Nat) (List Tok)) (e : Ending) (w' : World) : Prop :=
  match r with
  | .error (c, p) => e = .returned (.tuple #[.slice none 0 0, .agg #[.int .i64 c, .int .i64 p]]) ∧ Below w.heap.size w w'
  | .ok l => ∃ v, e = .returned (.tuple #[v, .agg #[.int .i64 0, .int .i64 0]]) ∧ w'.ownsRow w.heap.size 138 4 v l.length (tokCells l) ∧ Below w.heap.size w w'

set_option maxRecDepth 100000 in
set_option maxHeartbeats 1000000 in
theorem reflex_any (s : ByteArray) (w : World) (hm : s.size ≤ 1099511627776) :
    Calls Tryd.prog 35 #[.string s] w (Lexed w (lexL s.data.toList)) := by
  by_cases h4 : 4000 < s.size
  · have HE : Hid (lexL s.data.toList = .error (2, 0)) := by show _ = _; unfold lexL; rw [if_pos (by rw [← Lib.size_eq]; exact h4)]
    have h4' : (4000 : Int) < s.size := by omega
    go_enter Tryd.func35, Tryd.ntmps35
    go_wp2
    exact bodyPost_ret (v := .tuple #[.slice none 0 0, .agg #[.int .i64 2, .int .i64 0]]) (by simp [results, Tryd.results35, go_sem]) rfl (by rw [HE.out]; exact ⟨rfl, (Below.refl _ _).alloc (Nat.le_refl _) _⟩)
  have HE : Hid (lexL s.data.toList = lexF s.data.toList.length s.data.toList 0) := by show _ = _; unfold lexL; rw [if_neg (by rw [← Lib.size_eq]; exact h4)]
  have h4' : ¬ (4000 : Int) < s.size := by omega
  have HZ : Hid (s.size = s.data.toList.length) := Lib.size_eq s
  obtain ⟨i0, hi, hz0, hz1, hz2⟩ := info_parts Tryd.info138
  go_enter Tryd.func35, Tryd.ntmps35
  go_wp2
  go_loopw [4, 5] (fun v i wr => ∃ (k : Nat) (out : List Tok), i = .int .i64 k ∧ LexInv s.data.toList out k ∧ wr.ownsRow (w.heap.size + 1) 138 4 v out.length (tokCells out) ∧ Below (w.heap.size + 1) (w.alloc (.cells #[.int .i64 0, .int .i64 0] 50)) wr) (fun _ i _ => s.size - (intOf i).toNat)
  case atStart => exact ⟨0, [], rfl, lexInv_start _, World.ownsRow_nil _ _ _ _, Below.refl _ _⟩
  case round =>
    obtain ⟨k, out, rfl, hinv, hown, hb⟩ := hrel
    have hk : k ≤ s.size := by have := hinv.1; rw [HZ.out]; exact this
    have hol : out.length ≤ 4000 := by have := hinv.2.1; omega
    have hsz : w.heap.size + 1 ≤ wr.heap.size := by have := hb.size; simpa using this
    have HB : Hid (Below w.heap.size w wr) := ((Below.refl _ _).alloc (Nat.le_refl _) _).trans (hb.mono (by omega))
    have HB1 := Lib.hid hb
    by_cases hlt : k < s.size
    · have hklt : k < s.data.toList.length := by rw [← HZ.out]; exact hlt
      have hx : (s.extract k s.size).data.toList = s.data.toList.drop k := by rw [Lib.extract_data]; exact List.take_of_length_le (by rw [List.length_drop, ← HZ.out]; omega)
      have hxs : 0 < (s.extract k s.size).size := by rw [ByteArray.size_extract]; omega
      have hxm : (s.extract k s.size).size ≤ 1099511627776 := by rw [ByteArray.size_extract]; omega
      have hbl := blankN_le (s.data.toList.drop k)
      rw [List.length_drop, ← HZ.out] at hbl
      clear hb
      go_wp2_with fail
      refine (refblank_any _ _ hxs hxm).mono ?_
      rintro e w' ⟨rfl, rfl⟩
      rw [hx]
      by_cases hb0 : 0 < blankN (s.data.toList.drop k)
      · have HI := Lib.hid (lexInv_blank hinv hklt hb0)
        generalize blankN (s.data.toList.drop k) = m at *
        have hb0' : (0 : Int) < (m : Int) := by omega
        clear hinv hx hxs hxm
        go_wp2
        go_roundw
        case rel => exact ⟨k + m, out, by go_num, HI.out, hown, HB1.out⟩
        case measure => simp [intOf]; omega
      · have hbz : blankN (s.data.toList.drop k) = 0 := by omega
        rw [hbz]
        have HBZ := Lib.hid hb0
        have HINV := Lib.hid hinv
        clear hb0 hbz hinv hbl
        go_wp2_with fail
        refine (one_any _ _ hxs hxm).mono ?_
        rintro e w1 ⟨rfl, b1⟩
        rw [hx]
        clear hx hxs hxm
        have hown1 := ownsRow_below hown b1
        have z1 : w.heap.size + 1 ≤ w1.heap.size := Nat.le_trans hsz b1.size
        have HB2 : Hid (Below (w.heap.size + 1) (w.alloc (.cells #[.int .i64 0, .int .i64 0] 50)) w1) := HB1.out.trans (b1.mono hsz)
        have hzz : w.heap.size < w1.heap.size := by omega
        have c0 : w1.cell? ⟨w.heap.size, 0, none⟩ = some (.int .i64 0) := (HB2.out.cell (p := ⟨w.heap.size, 0, none⟩) (Nat.lt_succ_self _)).trans (by simp [go_sem])
        have c1 : w1.cell? ⟨w.heap.size, 1, none⟩ = some (.int .i64 0) := (HB2.out.cell (p := ⟨w.heap.size, 1, none⟩) (Nat.lt_succ_self _)).trans (by simp [go_sem])
        have f0 : w1.frozen? ⟨w.heap.size, 0, none⟩ = false := (HB2.out.frozen (p := ⟨w.heap.size, 0, none⟩) (Nat.lt_succ_self _)).trans (by simp [go_sem])
        have f1 : w1.frozen? ⟨w.heap.size, 1, none⟩ = false := (HB2.out.frozen (p := ⟨w.heap.size, 1, none⟩) (Nat.lt_succ_self _)).trans (by simp [go_sem])
        have HBW : Hid (Below w.heap.size w w1) := ((Below.refl _ _).alloc (Nat.le_refl _) _).trans (HB2.out.mono (by omega))
        clear b1 hown
        cases ho : oneT (s.data.toList.drop k) with
        | error c =>
          have hcc := oneT_err ho
          have HF := Lib.hid (lexInv_err HINV.out hklt HBZ.out ho)
          simp only [oneV]
          have hc0 : ((c : Int) != 0) = true := by rw [bne_iff_ne]; omega
          clear ho hcc
          go_wp2
          exact bodyPost_ret (v := .tuple #[.slice none 0 0, .agg #[.int .i64 c, .int .i64 k]]) (by simp [results, Tryd.results35, go_sem, c0, c1, hzz]) rfl (by rw [HE.out, HF.out]; exact ⟨rfl, ((HBW.out.setCell (Nat.le_refl _) _).setCell (Nat.le_refl _) _).alloc (by simp; omega) _⟩)
        | ok y =>
          obtain ⟨kk, x, nn⟩ := y
          have hxl := oneT_len ho
          rw [List.length_drop] at hxl
          have HI := Lib.hid (lexInv_tok HINV.out hklt HBZ.out ho)
          simp only [oneV, aggT]
          have hcat : ((0 : Int) != 0) = false := rfl
          have hkx : k + x.length ≤ s.size := by rw [HZ.out]; omega
          have hxs2 : x.length ≤ 4000 := by omega
          have hne : some w1.heap.size ≠ u4.ownBlock := by intro h; have := (hown1.lt _ h.symm).2; omega
          have HNE := Lib.hid hne
          clear hne
          have hk1 : 1 ≤ x.length := hxl.1
          have hxsz : (⟨x.toArray⟩ : ByteArray).size = x.length := by show x.toArray.size = _; simp
          clear ho hxl
          go_wp2_with (at_builtin; refine wpList_append_own _ rfl (.tmp 40) (.tmp 42) 54 rfl (w.heap.size + 1) 138 i0 (.agg #[.int .i64 0, .string ⟨#[]⟩, .int .i64 0, .int .i64 0]) 4 40 Tryd.underlying54 hi hz0 hz1 hz2 rfl (by decide) _ _ _ rfl ((hown1.alloc _).alloc _) ⟨w1.heap.size + 1, 0, none⟩ 1 1 [.int .i64 kk, .string ⟨x.toArray⟩, .int .i64 nn, .int .i64 k] rfl rfl (by have h9 := four_new (w1.alloc (.cells #[.int .i64 kk, .string ⟨x.toArray⟩, .int .i64 nn, .int .i64 k] 138)) (.int .i64 kk) (.string ⟨x.toArray⟩) (.int .i64 nn) (.int .i64 k) 138; simpa using h9) (four_one _ _ _ _) (by unfold maxLen; omega) (by omega) (by simp; omega) ?_; intro v' w2 hown2 hg2 _; have hct : w2.cell? ⟨w1.heap.size, 1, none⟩ = some (.string ⟨x.toArray⟩) := (hg2.cell_far ⟨w1.heap.size, 1, none⟩ (by simp; omega) HNE.out).trans (by simp [go_sem]))
          have HB3 : Below (w.heap.size + 1) (w.alloc (.cells #[.int .i64 0, .int .i64 0] 50)) w2 := ((HB2.out.alloc z1 _).alloc (by simp; omega) _).grown (row := u4.ownBlock) hg2 (by simp; omega) (fun q hq => (hown1.lt q hq).1)
          have hown3 : w2.ownsRow (w.heap.size + 1) 138 4 v' (out ++ [Tok.mk kk x nn k]).length (tokCells (out ++ [Tok.mk kk x nn k])) := by
            rw [tokCells_snoc, List.length_append]; exact hown2
          clear hown2 hg2
          go_roundw
          case rel => exact ⟨k + x.length, out ++ [Tok.mk kk x nn k], by go_num, HI.out, hown3, HB3⟩
          case measure => simp [intOf]; omega
    · have hd : decide (k < s.size) = false := by simpa using hlt
      have HF := Lib.hid (lexInv_end hinv (by rw [← HZ.out]; exact hlt))
      have hlen := HZ.out
      have HLN := Lib.hid hlen
      clear hinv hb hlen
      go_wp2_with (at_builtin; refine wpList_append_own _ rfl (.tmp 49) (.tmp 53) 54 rfl (w.heap.size + 1) 138 i0 (.agg #[.int .i64 0, .string ⟨#[]⟩, .int .i64 0, .int .i64 0]) 4 40 Tryd.underlying54 hi hz0 hz1 hz2 rfl (by decide) _ _ _ rfl (hown.alloc _) ⟨wr.heap.size, 0, none⟩ 1 1 [.int .i64 6, .string ⟨#[]⟩, .int .i64 0, .int .i64 s.size] rfl rfl (four_new _ _ _ _ _ _) (four_one _ _ _ _) (by unfold maxLen; omega) (by omega) (by simp; omega) ?_; intro v' w2 hown2 hg2 _; have HB4 : Below (w.heap.size + 1) (w.alloc (.cells #[.int .i64 0, .int .i64 0] 50)) w2 := (HB1.out.alloc hsz _).grown (row := u4.ownBlock) hg2 (by simp; omega) (fun q hq => (hown.lt q hq).1); have c0 : w2.cell? ⟨w.heap.size, 0, none⟩ = some (.int .i64 0) := (HB4.cell (p := ⟨w.heap.size, 0, none⟩) (Nat.lt_succ_self _)).trans (by simp [go_sem]); have c1 : w2.cell? ⟨w.heap.size, 1, none⟩ = some (.int .i64 0) := (HB4.cell (p := ⟨w.heap.size, 1, none⟩) (Nat.lt_succ_self _)).trans (by simp [go_sem]); have f0 : w2.frozen? ⟨w.heap.size, 0, none⟩ = false := (HB4.frozen (p := ⟨w.heap.size, 0, none⟩) (Nat.lt_succ_self _)).trans (by simp [go_sem]); have f1 : w2.frozen? ⟨w.heap.size, 1, none⟩ = false := (HB4.frozen (p := ⟨w.heap.size, 1, none⟩) (Nat.lt_succ_self _)).trans (by simp [go_sem]))
      have HBW : Below w.heap.size w w2 := ((Below.refl _ _).alloc (Nat.le_refl _) _).trans (HB4.mono (by omega))
      have hown3 : w2.ownsRow (w.heap.size + 1) 138 4 v' (out ++ [Tok.mk 6 [] 0 s.data.toList.length]).length (tokCells (out ++ [Tok.mk 6 [] 0 s.data.toList.length])) := by
        rw [tokCells_snoc, List.length_append, ← HLN.out]; exact hown2
      exact bodyPost_ret (v := .tuple #[v', .agg #[.int .i64 0, .int .i64 0]]) (by simp [results, Tryd.results35, go_sem, c0, c1]) rfl (by rw [HE.out, HF.out]; exact ⟨v', rfl, ownsRow_lower (ownsRow_setCell_below (ownsRow_setCell_below hown3 (Nat.lt_succ_self _) _) (Nat.lt_succ_self _) _) (by omega), (HBW.setCell (Nat.le_refl _) _).setCell (Nat.le_refl _) _⟩)
end Go.Proofs.YtbdfjboojokgdaaDoor.Lx
namespace Go.Proofs.YtbdfjboojokgdaaDoor.Lx
open Go.RowKit

/-- A slice value that reads as these tokens. -/
def TokRow (w : World) (v : Value) (l : List Tok) : Prop :=
  (v = .slice none 0 0 ∧ l = []) ∨ ∃ g cap, v = .slice (some ⟨g, 0, none⟩) l.length cap ∧ g < w.heap.size ∧ ∀ j (h : j < l.length),
    w.cell? ⟨g, j * 4, none⟩ = some (.int .i64 l[j].kind) ∧ w.cell? ⟨g, j * 4 + 1, none⟩ = some (.string ⟨l[j].text.toArray⟩) ∧ w.cell? ⟨g, j * 4 + 2, none⟩ = some (.int .i64 l[j].num) ∧ w.cell? ⟨g, j * 4 + 3, none⟩ = some (.int .i64 l[j].place)

theorem tokCells_at (l : List Tok) : ∀ (j : Nat) (h : j < l.length) (i : Nat) (_ : i < 4), (tokCells l)[j * 4 + i]? = (tokC l[j])[i]? := by
  induction l with
  | nil => intro j h; exact absurd h (Nat.not_lt_zero _)
  | cons t r ih =>
    intro j h i hi
    have e : tokCells (t :: r) = tokC t ++ tokCells r := by simp [tokCells]
    rw [e]
    cases j with
    | zero => rw [List.getElem?_append_left (by simp [tokC]; omega)]; simp
    | succ j =>
      rw [List.getElem?_append_right (by simp [tokC]; omega)]
      rw [show (j + 1) * 4 + i - (tokC t).length = j * 4 + i by simp [tokC]; omega]
      have := ih j (by simpa using h) i hi
      rw [this]; simp
theorem tokRow_of_own {w : World} {base e : Nat} {v : Value} {l : List Tok} (h : w.ownsRow base e 4 v l.length (tokCells l)) : TokRow w v l := by
  rcases h.2 with ⟨hv, h0⟩ | ⟨g, cap, cur, hv, hg, hh, _, _, _, _⟩
  · exact .inl ⟨hv, List.eq_nil_of_length_eq_zero h0⟩
  · subst hv
    refine .inr ⟨g, cap, rfl, ?_, fun j hj => ?_⟩
    · rcases Nat.lt_or_ge g w.heap.size with h9 | h9
      · exact h9
      · rw [Array.getElem?_eq_none h9] at hh; cases hh
    · have hc : ∀ i, i < 4 → w.cell? ⟨g, j * 4 + i, none⟩ = (tokC l[j])[i]? := fun i hi => by
        rw [h.cellAt (j * 4 + i) (by omega)]; exact tokCells_at l j hj i hi
      exact ⟨(hc 0 (by omega)).trans rfl, (hc 1 (by omega)).trans rfl, (hc 2 (by omega)).trans rfl, (hc 3 (by omega)).trans rfl⟩
theorem TokRow.below {w w' : World} {v : Value} {l : List Tok} (h : TokRow w v l) (hb : Below w.heap.size w w') : TokRow w' v l := by
  rcases h with h | ⟨g, cap, hv, hg, hc⟩
  · exact .inl h
  · refine .inr ⟨g, cap, hv, Nat.lt_of_lt_of_le hg hb.size, fun j hj => ?_⟩
    obtain ⟨a, b, c, d⟩ := hc j hj
    exact ⟨(hb.cell hg).trans a, (hb.cell hg).trans b, (hb.cell hg).trans c, (hb.cell hg).trans d⟩

/-! ### Equality of structs -/
theorem eq_tok (a a' c c' d d' : Int) (b b' : ByteArray) (w : World) : (Op.equalIn 10000 138 (.agg #[.int .i64 a, .string b, .int .i64 c, .int .i64 d]) (.agg #[.int .i64 a', .string b', .int .i64 c', .int .i64 d'])).run Tryd.prog w = .ok (a == a' && b.toList == b'.toList && c == c' && d == d') w := by
  have u3 := Tryd.underlying3
  have a3 := Tryd.isAgg3
  have z3 := Tryd.sizeOf3
  have u9 := Tryd.underlying9
  have a9 := Tryd.isAgg9
  have z9 := Tryd.sizeOf9
  have hS : Tryd.prog.underlying 138 = some (.struct (Tryd.prog.fieldsOf 138)) := by kernel_rfl
  have hp : Tryd.prog.stoodInHeld 138 = false := by kernel_rfl
  rw [show (10000 : Nat) = 9999 + 1 from rfl, run_equalIn_agg w 9999 138 _ _ hS hp]
  simp only [Program.fieldsOf, Tryd.underlying138]
  go_simp
  by_cases h1 : a = a' <;> by_cases h2 : b.toList = b'.toList <;> by_cases h3 : c = c' <;> by_cases h4 : d = d' <;> simp [h1, h2, h3, h4]
theorem guard_tok : Tryd.prog.eqGuardType Tryd.prog.depth 138 = false := by kernel_rfl
theorem eq_at (a a' c c' : Int) (w : World) : (Op.equalIn 10000 50 (.agg #[.int .i64 a, .int .i64 c]) (.agg #[.int .i64 a', .int .i64 c'])).run Tryd.prog w = .ok (a == a' && c == c') w := by
  have u3 := Tryd.underlying3
  have a3 := Tryd.isAgg3
  have z3 := Tryd.sizeOf3
  have u28 := Tryd.underlying48
  have a28 := Tryd.isAgg48
  have z28 := Tryd.sizeOf48
  have hS : Tryd.prog.underlying 50 = some (.struct (Tryd.prog.fieldsOf 50)) := by kernel_rfl
  have hp : Tryd.prog.stoodInHeld 50 = false := by kernel_rfl
  rw [show (10000 : Nat) = 9999 + 1 from rfl, run_equalIn_agg w 9999 50 _ _ hS hp]
  simp only [Program.fieldsOf, Tryd.underlying50]
  go_simp
  by_cases h1 : a = a' <;> by_cases h3 : c = c' <;> simp [h1, h3]
theorem guard_at : Tryd.prog.eqGuardType Tryd.prog.depth 50 = false := by kernel_rfl

end Go.Proofs.YtbdfjboojokgdaaDoor.Lx
namespace Go.Proofs.YtbdfjboojokgdaaDoor
open Go.RowKit Lx

def tokV (t : Tok) : Value := .agg #[.int .i64 t.kind, .string (mkB t.text), .int .i64 t.num, .int .i64 t.place]
/-- Tokens lie in this block. -/
def TokC (w : World) (g : Nat) (l : List Tok) : Prop := ∀ j (h : j < l.length), w.cell? ⟨g, j * 4, none⟩ = some (.int .i64 l[j].kind) ∧ w.cell? ⟨g, j * 4 + 1, none⟩ = some (.string (mkB l[j].text)) ∧ w.cell? ⟨g, j * 4 + 2, none⟩ = some (.int .i64 l[j].num) ∧ w.cell? ⟨g, j * 4 + 3, none⟩ = some (.int .i64 l[j].place)
structure Rd (toks : List Tok) (rb g cap : Nat) (i o : Nat) (w : World) : Prop where
  blk : w.heap[rb]? = some (.cells #[.slice (some ⟨g, 0, none⟩) toks.length cap, .int .i64 i, .int .i64 o] 142)
  ne : g ≠ rb
  lt : g < w.heap.size
  toks : TokC w g toks
theorem Rd.rb_lt {toks : List Tok} {rb g cap i o : Nat} {w : World} (h : Rd toks rb g cap i o w) : rb < w.heap.size := lt_of_block h.blk
theorem TokC.block {w w' : World} {g : Nat} {l : List Tok} (h : TokC w g l) (hb : w'.heap[g]? = w.heap[g]?) : TokC w' g l := fun j hj => by
  have hc : ∀ o, w'.cell? ⟨g, o, none⟩ = w.cell? ⟨g, o, none⟩ := fun o => World.cell?_of_block (a := ⟨g, o, none⟩) hb
  rw [hc, hc, hc, hc]; exact h j hj
theorem Rd.on {toks : List Tok} {rb g cap i o : Nat} {w w' : World} (h : Rd toks rb g cap i o w) (hb : Below w.heap.size w w') : Rd toks rb g cap i o w' :=
  ⟨(hb.block rb h.rb_lt).trans h.blk, h.ne, Nat.lt_of_lt_of_le h.lt hb.size, h.toks.block (hb.block g h.lt)⟩
theorem three_cells {w : World} {b : Nat} {v1 v2 v3 : Value} {t : TypeId} (h : w.heap[b]? = some (.cells #[v1, v2, v3] t)) : w.cell? ⟨b, 0, none⟩ = some v1 ∧ w.cell? ⟨b, 1, none⟩ = some v2 ∧ w.cell? ⟨b, 2, none⟩ = some v3 ∧ w.frozen? ⟨b, 0, none⟩ = false ∧ w.frozen? ⟨b, 1, none⟩ = false ∧ w.frozen? ⟨b, 2, none⟩ = false ∧ b < w.heap.size :=
  ⟨by simp [World.cell?, h], by simp [World.cell?, h], by simp [World.cell?, h], by simp [World.frozen?, h], by simp [World.frozen?, h], by simp [World.frozen?, h], lt_of_block h⟩
theorem three_put1 {w : World} {b : Nat} {v1 v2 v3 u : Value} {t : TypeId} (h : w.heap[b]? = some (.cells #[v1, v2, v3] t)) : (w.setCell ⟨b, 1, none⟩ u).heap[b]? = some (.cells #[v1, u, v3] t) := by
  have hlt := lt_of_block h
  have h' : w.heap[b] = .cells #[v1, v2, v3] t := by simpa [Array.getElem?_eq_getElem hlt] using h
  show (w.heap.modify b _)[b]? = _
  rw [Array.getElem?_eq_getElem (by simpa using hlt), Array.getElem_modify_self, h']
  rfl
theorem three_put2 {w : World} {b : Nat} {v1 v2 v3 u : Value} {t : TypeId} (h : w.heap[b]? = some (.cells #[v1, v2, v3] t)) : (w.setCell ⟨b, 2, none⟩ u).heap[b]? = some (.cells #[v1, v2, u] t) := by
  have hlt := lt_of_block h
  have h' : w.heap[b] = .cells #[v1, v2, v3] t := by simpa [Array.getElem?_eq_getElem hlt] using h
  show (w.heap.modify b _)[b]? = _
  rw [Array.getElem?_eq_getElem (by simpa using hlt), Array.getElem_modify_self, h']
  rfl
theorem Rd.place {toks : List Tok} {rb g cap i o : Nat} {w : World} (h : Rd toks rb g cap i o w) (i' : Nat) : Rd toks rb g cap i' o (w.setCell ⟨rb, 1, none⟩ (.int .i64 i')) :=
  ⟨three_put1 h.blk, h.ne, by simpa using h.lt, h.toks.block (Below.heap_setCell _ _ _ _ h.ne)⟩
theorem Rd.opened {toks : List Tok} {rb g cap i o : Nat} {w : World} (h : Rd toks rb g cap i o w) (o' : Nat) : Rd toks rb g cap i o' (w.setCell ⟨rb, 2, none⟩ (.int .i64 o')) :=
  ⟨three_put2 h.blk, h.ne, by simpa using h.lt, h.toks.block (Below.heap_setCell _ _ _ _ h.ne)⟩
/-- A store into the reader's block. -/
theorem rd_fr (w : World) (rb k : Nat) (u : Value) : Fr (fun b => b = rb) w (w.setCell ⟨rb, k, none⟩ u) := ⟨rfl, rfl, rfl, by simp, fun b _ hb => Below.heap_setCell _ _ _ _ hb⟩
set_option maxRecDepth 100000 in
set_option maxHeartbeats 1000000 in
theorem token_any (toks : List Tok) (rb g cap i o : Nat) (w : World) (h : Rd toks rb g cap i o w) (hi : i < toks.length) :
    Calls Tryd.prog 91 #[.pointer (some ⟨rb, 0, none⟩)] w fun e w' => e = .returned (tokV toks[i]) ∧ Below w.heap.size w w' := by
  have HT : Hid (tokV toks[i] = .agg #[.int .i64 toks[i].kind, .string (mkB toks[i].text), .int .i64 toks[i].num, .int .i64 toks[i].place]) := rfl
  obtain ⟨W, eW, q1, b1, z1⟩ := one_box w (.int .i64 0) (.string ⟨#[]⟩) (.int .i64 0) (.int .i64 0) 133
  have hW := h.on b1
  obtain ⟨p0, p1, p2, p3, p4, p5, p6⟩ := three_cells hW.blk
  obtain ⟨c0, c1, c2, c3⟩ := hW.toks i hi
  have hg := hW.lt
  have hii : (i : Int) < (toks.length : Int) := by omega
  have hi0 : (0 : Int) ≤ (i : Int) := by omega
  have HEW := Lib.hid eW
  have HB := Lib.hid b1
  have hd1 : decide ((0 : Int) ≤ (i : Int)) = true := by simp
  have hd2 : decide ((i : Int) < (toks.length : Int)) = true := by simp; omega
  rw [HT.out]
  have HR := Lib.hid hW
  have HQ := Lib.hid q1
  generalize he0 : (toks[i]).kind = tk at *
  generalize he1 : mkB (toks[i]).text = tx at *
  generalize he2 : (toks[i]).num = tn at *
  generalize he3 : (toks[i]).place = tp at *
  have HE0 := Lib.hid he0
  have HE1 := Lib.hid he1
  have HE2 := Lib.hid he2
  have HE3 := Lib.hid he3
  have hgw := h.lt
  clear he0 he1 he2 he3 q1
  clear eW hW h b1
  go_enter Tryd.func91, Tryd.ntmps91
  go_upto_region 1 with (fail)
  rw [HEW.out]
  go_quiet (fail)
  obtain ⟨V, eV⟩ : ∃ V, W.drewN nq = V := ⟨_, rfl⟩
  have bV : Below W.heap.size W V := by rw [← eV]; exact ⟨rfl, rfl, rfl, Nat.le_refl _, fun _ _ => rfl⟩
  rw [eV]
  obtain ⟨x0, x1, x2, x3, x4, x5, x6, x7, x8⟩ := HQ.out.on bV
  obtain ⟨r0, r1, r2, _, _, _, r6⟩ := three_cells (HR.out.on bV).blk
  obtain ⟨k0, k1, k2, k3⟩ := (HR.out.on bV).toks i hi
  have hgV := (HR.out.on bV).lt
  have HBV := Lib.hid (HB.out.trans (bV.mono HB.out.size))
  rw [HE0.out] at k0
  rw [HE1.out] at k1
  rw [HE2.out] at k2
  rw [HE3.out] at k3
  have hne : w.heap.size ≠ g := by omega
  clear eV bV c0 c1 c2 c3 p0 p1 p2 p3 p4 p5 p6
  go_wp2_with fail
  go_region
  go_wp2_with fail
  exact bodyPost_ret (v := .agg #[.int .i64 tk, .string tx, .int .i64 tn, .int .i64 tp]) (by simp [results, Tryd.results91, go_sem, x1, x2, x3, x4]) rfl ⟨rfl, below_box HBV.out.drew (Nat.le_refl _) _ _ _ _⟩
theorem eq_tokc (a a' c c' d d' : Int) (b b' : ByteArray) (w : World) : (Op.equalIn 10000 133 (.agg #[.int .i64 a, .string b, .int .i64 c, .int .i64 d]) (.agg #[.int .i64 a', .string b', .int .i64 c', .int .i64 d'])).run Tryd.prog w = .ok (a == a' && b.toList == b'.toList && c == c' && d == d') w := by
  have u3 := Tryd.underlying3
  have a3 := Tryd.isAgg3
  have z3 := Tryd.sizeOf3
  have u9 := Tryd.underlying9
  have a9 := Tryd.isAgg9
  have z9 := Tryd.sizeOf9
  have hS : Tryd.prog.underlying 133 = some (.struct (Tryd.prog.fieldsOf 133)) := by kernel_rfl
  have hp : Tryd.prog.stoodInHeld 133 = false := by kernel_rfl
  rw [show (10000 : Nat) = 9999 + 1 from rfl, run_equalIn_agg w 9999 133 _ _ hS hp]
  simp only [Program.fieldsOf, Tryd.underlying133]
  go_simp
  by_cases h1 : a = a' <;> by_cases h2 : b.toList = b'.toList <;> by_cases h3 : c = c' <;> by_cases h4 : d = d' <;> simp [h1, h2, h3, h4]
theorem guard_tokc : Tryd.prog.eqGuardType Tryd.prog.depth 133 = false := by kernel_rfl
theorem mkB_list (l : List UInt8) : (mkB l).toList = l := by unfold mkB; rw [Lib.toList_data]
/-- Symbols bear no number. -/
def SymZ (t : Tok) : Prop := t.kind = 4 → t.num = 0
theorem sym_eq {t : Tok} (h : SymZ t) (x : List UInt8) : (((t.kind : Int) == 4) && ((mkB t.text).toList == (mkB x).toList) && ((t.num : Int) == 0)) = isSym t x := by
  rw [mkB_list, mkB_list]
  unfold isSym
  by_cases hk : t.kind = 4
  · have := h hk; simp [hk, this]
  · have h1 : ((t.kind : Int) == 4) = false := by rw [beq_eq_false_iff_ne]; omega
    have h2 : (t.kind == 4) = false := by simpa using hk
    rw [h1, h2]; simp
set_option maxRecDepth 100000 in
set_option maxHeartbeats 1000000 in
theorem symbol_any (t : Tok) (x : List UInt8) (w : World) (h : SymZ t) : Calls Tryd.prog 130 #[tokV t, .string (mkB x)] w fun e w' => e = .returned (.bool (isSym t x)) ∧ Below w.heap.size w w' := by
  have HE := Lib.hid (sym_eq h x)
  have heq := eq_tokc
  have hgd := guard_tokc
  obtain ⟨W, eW, q1, b1, z1⟩ := one_box w (.int .i64 t.kind) (.string (mkB t.text)) (.int .i64 t.num) (.int .i64 t.place) 133
  have HEW := Lib.hid eW
  have HB := Lib.hid b1
  obtain ⟨x0, x1, x2, x3, x4, _⟩ := q1
  show Calls Tryd.prog 130 #[.agg #[.int .i64 t.kind, .string (mkB t.text), .int .i64 t.num, .int .i64 t.place], .string (mkB x)] w _
  clear eW b1 h
  generalize isSym t x = r at *
  generalize t.kind = tk at *
  generalize mkB t.text = tx at *
  generalize t.num = tn at *
  generalize t.place = tp at *
  generalize mkB x = xx at *
  go_enter Tryd.func130, Tryd.ntmps130
  go_upto_region 1 with (fail)
  rw [HEW.out]
  go_wp2_with fail
  go_ret
  exact ⟨ret_bool HE.out, HB.out⟩
set_option maxRecDepth 100000 in
set_option maxHeartbeats 1000000 in
theorem refusal_any (n : Int) (t : Tok) (w : World) : Calls Tryd.prog 93 #[.int .i64 n, tokV t] w fun e w' => e = .returned (.agg #[.int .i64 n, .int .i64 t.place]) ∧ Below w.heap.size w w' := by
  show Calls Tryd.prog 93 #[.int .i64 n, .agg #[.int .i64 t.kind, .string (mkB t.text), .int .i64 t.num, .int .i64 t.place]] w _
  generalize t.kind = tk at *
  generalize mkB t.text = tx at *
  generalize t.num = tn at *
  generalize t.place = tp at *
  go_enter Tryd.func93, Tryd.ntmps93
  go_wp2_with fail
  exact bodyPost_ret (v := .agg #[.int .i64 n, .int .i64 tp]) (by simp [results, Tryd.results93, go_sem]) rfl ⟨rfl, below2 w _ _⟩
/-- The place moves on. -/
theorem rd_next {toks : List Tok} {rb g cap i o : Nat} {w0 w : World} (h : Rd toks rb g cap i o w) (hb : Below w0.heap.size w0 w) : Rd toks rb g cap (i + 1) o (w.setCell ⟨rb, 1, none⟩ (.int .i64 ((i : Int) + 1))) ∧ Fr (fun b => b = rb) w0 (w.setCell ⟨rb, 1, none⟩ (.int .i64 ((i : Int) + 1))) := by
  have h1 := h.place (i + 1)
  rw [show (((i + 1 : Nat)) : Int) = (i : Int) + 1 by push_cast; rfl] at h1
  exact ⟨h1, (Fr.of_below hb).trans (rd_fr w rb 1 _)⟩
/-- What takes told. -/
def TakeRes (toks : List Tok) (rb g cap i o : Nat) (q : Bool) (w : World) (e : Ending) (w' : World) : Prop := e = .returned (.bool q) ∧ Rd toks rb g cap (if q = true then i + 1 else i) o w' ∧ Fr (fun b => b = rb) w w'
set_option maxRecDepth 100000 in
set_option maxHeartbeats 1000000 in
theorem takes_any (toks : List Tok) (rb g cap i o : Nat) (x : List UInt8) (w : World) (h : Rd toks rb g cap i o w) (hi : i < toks.length) (hl : toks.length ≤ 1099511627776) (hz : SymZ toks[i]) :
    Calls Tryd.prog 129 #[.pointer (some ⟨rb, 0, none⟩), .string (mkB x)] w (TakeRes toks rb g cap i o (isSym toks[i] x) w) := by
  have HT := Lib.hid (token_any toks rb g cap i o w h hi)
  have HS := Lib.hid (fun w => symbol_any toks[i] x w hz)
  have HR := Lib.hid h
  clear h hz
  generalize toks[i] = t at *
  cases hq : isSym t x with
  | true =>
    rw [hq] at HS
    clear hq
    generalize mkB x = xx at *
    go_enter Tryd.func129, Tryd.ntmps129
    go_wp2_with fail
    (with_reducible refine HT.out.mono ?_)
    rintro e w1 ⟨rfl, hb1⟩
    have HB1 := Lib.hid hb1
    clear hb1
    go_wp2_with fail
    (with_reducible refine (HS.out _).mono ?_)
    rintro e w2 ⟨rfl, hb2⟩
    have hb := HB1.out.trans (hb2.mono HB1.out.size)
    have hr := HR.out.on hb
    obtain ⟨p0, p1, p2, p3, p4, p5, p6⟩ := three_cells hr.blk
    have HP := Lib.hid (rd_next hr hb)
    clear hb2 hb hr
    go_wp2
    go_ret
    exact ⟨rfl, HP.out.1, HP.out.2⟩
  | false =>
    rw [hq] at HS
    clear hq
    generalize mkB x = xx at *
    go_enter Tryd.func129, Tryd.ntmps129
    go_wp2_with fail
    (with_reducible refine HT.out.mono ?_)
    rintro e w1 ⟨rfl, hb1⟩
    have HB1 := Lib.hid hb1
    clear hb1
    go_wp2_with fail
    (with_reducible refine (HS.out _).mono ?_)
    rintro e w2 ⟨rfl, hb2⟩
    have hb := HB1.out.trans (hb2.mono HB1.out.size)
    have HP : Hid (TakeRes toks rb g cap i o false w (.returned (.bool false)) w2) := ⟨rfl, HR.out.on hb, Fr.of_below hb⟩
    clear hb2 hb
    go_wp2
    go_ret
    exact HP.out
set_option maxRecDepth 100000 in
set_option maxHeartbeats 1000000 in
theorem begins_any (toks : List Tok) (rb g cap i o pb : Nat) (w : World) (h : Rd toks rb g cap i o w) (hp : w.heap[pb]? = some (.cells #[.pointer (some ⟨rb, 0, none⟩)] 175)) (hi : i < toks.length) (hz : SymZ toks[i]) :
    Calls Tryd.prog 153 #[.pointer (some ⟨pb, 0, none⟩)] w fun e w' => e = .returned (.bool (begT toks[i])) ∧ Below w.heap.size w w' := by
  have HT := Lib.hid (token_any toks rb g cap i o w h hi)
  have HS : Hid (∀ w, Calls Tryd.prog 130 #[tokV toks[i], .string ⟨#[40]⟩] w fun e w' => e = .returned (.bool (isSym toks[i] [40])) ∧ Below w.heap.size w w') := fun w => symbol_any toks[i] [40] w hz
  have c0 := cell_of_one hp
  have hpl := lt_of_block hp
  have HBG : Hid (begT toks[i] = (toks[i].kind == 1 || toks[i].kind == 2 || isSym toks[i] [40])) := rfl
  clear h hz hp
  generalize toks[i] = t at *
  generalize isSym t [40] = q at *
  generalize begT t = bt at *
  go_enter Tryd.func153, Tryd.ntmps153
  go_wp2_with fail
  (with_reducible refine HT.out.mono ?_)
  rintro e w1 ⟨rfl, hb1⟩
  obtain ⟨W, eW, q1, b1, z1⟩ := one_box w1 (.int .i64 t.kind) (.string (mkB t.text)) (.int .i64 t.num) (.int .i64 t.place) 133
  have HEW := Lib.hid eW
  have HB := Lib.hid (hb1.trans (b1.mono hb1.size))
  obtain ⟨x0, x1, x2, x3, x4, _⟩ := q1
  have HSW := Lib.hid (HS.out W)
  have HTV : Hid (tokV t = .agg #[.int .i64 t.kind, .string (mkB t.text), .int .i64 t.num, .int .i64 t.place]) := rfl
  rw [HTV.out] at HSW ⊢
  clear eW hb1 b1
  generalize t.kind = tk at *
  generalize mkB t.text = tx at *
  generalize t.num = tn at *
  generalize t.place = tp at *
  by_cases h2 : tk = 2
  · have HE : Hid (bt = true) := by show _ = _; rw [HBG.out]; simp [h2]
    have hz2 : (tk : Int) = 2 := by omega
    generalize (tk : Int) = zk at *
    subst hz2
    go_upto_region 2 with (fail)
    rw [HEW.out]
    go_wp2
    go_ret
    exact ⟨ret_bool HE.out.symm, HB.out⟩
  · have hk2 : ((tk : Int) == 2) = false := by rw [beq_eq_false_iff_ne]; omega
    by_cases h1 : tk = 1
    · have HE : Hid (bt = true) := by show _ = _; rw [HBG.out]; simp [h1]
      have hz1 : (tk : Int) = 1 := by omega
      clear hk2
      generalize (tk : Int) = zk at *
      subst hz1
      go_upto_region 2 with (fail)
      rw [HEW.out]
      go_wp2
      go_ret
      exact ⟨ret_bool HE.out.symm, HB.out⟩
    · have hk1 : ((tk : Int) == 1) = false := by rw [beq_eq_false_iff_ne]; omega
      have HE : Hid (bt = q) := by show _ = _; rw [HBG.out]; simp [h1, h2]
      generalize (tk : Int) = zk at *
      go_upto_region 2 with (fail)
      rw [HEW.out]
      go_wp2_with fail
      (with_reducible refine HSW.out.mono ?_)
      rintro e w2 ⟨rfl, hb2⟩
      have HB2 := Lib.hid (HB.out.trans (hb2.mono HB.out.size))
      clear hb2
      go_wp2
      go_ret
      exact ⟨ret_bool HE.out.symm, HB2.out⟩
end Go.Proofs.YtbdfjboojokgdaaDoor
