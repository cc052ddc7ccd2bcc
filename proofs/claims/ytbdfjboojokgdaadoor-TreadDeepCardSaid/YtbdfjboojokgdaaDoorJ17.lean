/- The contract of the document's Lex (chapter 2). Condition: the text has at most 2^40 bytes. The contracts of the helpers of chapter 2's laws: same, source, words, and of the document's Print, Texts, Gap. No conditions but those that each theorem names. -/
import Derived.Test.YtbdfjboojokgdaaDoorQLexOne
import Derived.Deep.AppendLies
namespace Go.Proofs.YtbdfjboojokgdaaDoor.Lx
open Go.RowKit

def tokC (t : Tok) : List Value := [.int .i64 t.kind, .string ⟨t.text.toArray⟩, .int .i64 t.num, .int .i64 t.place]
def tokCells (l : List Tok) : List Value := l.flatMap tokC
theorem tokCells_snoc (l : List Tok) (t : Tok) : tokCells (l ++ [t]) = tokCells l ++ tokC t := by simp [tokCells]

theorem ownsRow_below {w w' : World} {base : Nat} {e : TypeId} {size : Nat} {v : Value} {n : Nat} {xs : List Value} (h : w.ownsRow base e size v n xs) (hb : Below w.heap.size w w') : w'.ownsRow base e size v n xs := by
  refine ⟨h.1, ?_⟩
  rcases h.2 with h2 | ⟨g, cap, cur, hv, hg, hh, r⟩
  · exact .inl h2
  · have hlt : g < w.heap.size := by
      rcases Nat.lt_or_ge g w.heap.size with h9 | h9
      · exact h9
      · rw [Array.getElem?_eq_none h9] at hh; cases hh
    exact .inr ⟨g, cap, cur, hv, hg, (hb.block g hlt).trans hh, r⟩
theorem ownsRow_lower {w : World} {base b2 : Nat} {e : TypeId} {size : Nat} {v : Value} {n : Nat} {xs : List Value} (h : w.ownsRow base e size v n xs) (hb : b2 ≤ base) : w.ownsRow b2 e size v n xs := by
  refine ⟨h.1, ?_⟩
  rcases h.2 with h2 | ⟨g, cap, cur, hv, hg, r⟩
  · exact .inl h2
  · exact .inr ⟨g, cap, cur, hv, by omega, r⟩
theorem four_new (w : World) (a b c d : Value) (t : TypeId) : ∀ j u, [a, b, c, d][j]? = some u → (w.alloc (.cells #[a, b, c, d] t)).cell? ((⟨w.heap.size, 0, none⟩ : Addr).add j) = some u := by
  intro j u h
  have hj : j = 0 ∨ j = 1 ∨ j = 2 ∨ j = 3 := by
    have := (List.getElem?_eq_some_iff.1 h).1
    simp at this; omega
  rcases hj with rfl | rfl | rfl | rfl <;> simp at h <;> subst h <;> simp [Addr.add, go_sem]
theorem four_one (k : Int) (x : ByteArray) (n i : Int) : ∀ u ∈ [Value.int .i64 k, .string x, .int .i64 n, .int .i64 i], u.oneCell' = true := by
  intro u hu; simp at hu; rcases hu with rfl | rfl | rfl | rfl <;> rfl
theorem Tryd.info138 : (Tryd.prog.info? 138).map (fun i => (i.zero, i.size, i.bytes)) = some (some (.agg #[.int .i64 0, .string ⟨#[]⟩, .int .i64 0, .int .i64 0]), 4, 40) := by kernel_rfl
theorem oneT_err {l : List UInt8} {e : Nat} (h : oneT l = .error e) : e = 2 ∨ e = 10 ∨ e = 11 := by
  unfold oneT at h
  match l, h with
  | [], h => cases h; simp
  | c :: r, h =>
    simp only at h
    split at h
    · split at h
      · cases h; simp
      · cases h
    · split at h
      · split at h
        · cases h; simp
        · split at h
          · cases h
          · split at h <;> cases h
      · split at h
        · cases h; simp
        · cases h

/-- What Lex answered: the tokens, in a row of the call's own; or none, and the error and its place. -/
def Lexed (w : World) (r : Except (Nat × Nat) (List Tok)) (e : Ending) (w' : World) : Prop :=
  match r with
  | .error (c, p) => e = .returned (.tuple #[.slice none 0 0, .agg #[.int .i64 c, .int .i64 p]]) ∧ Below w.heap.size w w'
  | .ok l => ∃ v, e = .returned (.tuple #[v, .agg #[.int .i64 0, .int .i64 0]]) ∧ w'.ownsRow w.heap.size 138 4 v l.length (tokCells l) ∧ Below w.heap.size w w'

set_option maxRecDepth 100000 in
set_option maxHeartbeats 1000000 in
theorem reflex_any (s : ByteArray) (w : World) (hm : s.size ≤ 1099511627776) :
    Calls Tryd.prog 35 #[.string s] w (Lexed w (lexL s.data.toList)) := by
  by_cases h4 : 4000 < s.size
  · have HE : Hid (lexL s.data.toList = .error (2, 0)) := by show _ = _; unfold lexL; rw [if_pos (by rw [← Lib.size_eq]; exact h4)]
    have h4' : (4000 : Int) < s.size := by omega
    go_enter Tryd.func35, Tryd.ntmps35
    go_wp2
    exact bodyPost_ret (v := .tuple #[.slice none 0 0, .agg #[.int .i64 2, .int .i64 0]]) (by simp [results, Tryd.results35, go_sem]) rfl (by rw [HE.out]; exact ⟨rfl, (Below.refl _ _).alloc (Nat.le_refl _) _⟩)
  have HE : Hid (lexL s.data.toList = lexF s.data.toList.length s.data.toList 0) := by show _ = _; unfold lexL; rw [if_neg (by rw [← Lib.size_eq]; exact h4)]
  have h4' : ¬ (4000 : Int) < s.size := by omega
  have HZ : Hid (s.size = s.data.toList.length) := Lib.size_eq s
  obtain ⟨i0, hi, hz0, hz1, hz2⟩ := info_parts Tryd.info138
  go_enter Tryd.func35, Tryd.ntmps35
  go_wp2
  go_loopw [4, 5] (fun v i wr => ∃ (k : Nat) (out : List Tok), i = .int .i64 k ∧ LexInv s.data.toList out k ∧ wr.ownsRow (w.heap.size + 1) 138 4 v out.length (tokCells out) ∧ Below (w.heap.size + 1) (w.alloc (.cells #[.int .i64 0, .int .i64 0] 50)) wr) (fun _ i _ => s.size - (intOf i).toNat)
  case atStart => exact ⟨0, [], rfl, lexInv_start _, World.ownsRow_nil _ _ _ _, Below.refl _ _⟩
  case round =>
    obtain ⟨k, out, rfl, hinv, hown, hb⟩ := hrel
    have hk : k ≤ s.size := by have := hinv.1; rw [HZ.out]; exact this
    have hol : out.length ≤ 4000 := by have := hinv.2.1; omega
    have hsz : w.heap.size + 1 ≤ wr.heap.size := by have := hb.size; simpa using this
    have HB : Hid (Below w.heap.size w wr) := ((Below.refl _ _).alloc (Nat.le_refl _) _).trans (hb.mono (by omega))
    have HB1 := Lib.hid hb
    by_cases hlt : k < s.size
    · have hklt : k < s.data.toList.length := by rw [← HZ.out]; exact hlt
      have hx : (s.extract k s.size).data.toList = s.data.toList.drop k := by rw [Lib.extract_data]; exact List.take_of_length_le (by rw [List.length_drop, ← HZ.out]; omega)
      have hxs : 0 < (s.extract k s.size).size := by rw [ByteArray.size_extract]; omega
      have hxm : (s.extract k s.size).size ≤ 1099511627776 := by rw [ByteArray.size_extract]; omega
      have hbl := blankN_le (s.data.toList.drop k)
      rw [List.length_drop, ← HZ.out] at hbl
      clear hb
      go_wp2_with fail
      refine (refblank_any _ _ hxs hxm).mono ?_
      rintro e w' ⟨rfl, rfl⟩
      rw [hx]
      by_cases hb0 : 0 < blankN (s.data.toList.drop k)
      · have HI := Lib.hid (lexInv_blank hinv hklt hb0)
        generalize blankN (s.data.toList.drop k) = m at *
        have hb0' : (0 : Int) < (m : Int) := by omega
        clear hinv hx hxs hxm
        go_wp2
        go_roundw
        case rel => exact ⟨k + m, out, by go_num, HI.out, hown, HB1.out⟩
        case measure => simp [intOf]; omega
      · have hbz : blankN (s.data.toList.drop k) = 0 := by omega
        rw [hbz]
        have HBZ := Lib.hid hb0
        have HINV := Lib.hid hinv
        clear hb0 hbz hinv hbl
        go_wp2_with fail
        refine (one_any _ _ hxs hxm).mono ?_
        rintro e w1 ⟨rfl, b1⟩
        rw [hx]
        clear hx hxs hxm
        have hown1 := ownsRow_below hown b1
        have z1 : w.heap.size + 1 ≤ w1.heap.size := Nat.le_trans hsz b1.size
        have HB2 : Hid (Below (w.heap.size + 1) (w.alloc (.cells #[.int .i64 0, .int .i64 0] 50)) w1) := HB1.out.trans (b1.mono hsz)
        have hzz : w.heap.size < w1.heap.size := by omega
        have c0 : w1.cell? ⟨w.heap.size, 0, none⟩ = some (.int .i64 0) := (HB2.out.cell (p := ⟨w.heap.size, 0, none⟩) (Nat.lt_succ_self _)).trans (by simp [go_sem])
        have c1 : w1.cell? ⟨w.heap.size, 1, none⟩ = some (.int .i64 0) := (HB2.out.cell (p := ⟨w.heap.size, 1, none⟩) (Nat.lt_succ_self _)).trans (by simp [go_sem])
        have f0 : w1.frozen? ⟨w.heap.size, 0, none⟩ = false := (HB2.out.frozen (p := ⟨w.heap.size, 0, none⟩) (Nat.lt_succ_self _)).trans (by simp [go_sem])
        have f1 : w1.frozen? ⟨w.heap.size, 1, none⟩ = false := (HB2.out.frozen (p := ⟨w.heap.size, 1, none⟩) (Nat.lt_succ_self _)).trans (by simp [go_sem])
        have HBW : Hid (Below w.heap.size w w1) := ((Below.refl _ _).alloc (Nat.le_refl _) _).trans (HB2.out.mono (by omega))
        clear b1 hown
        cases ho : oneT (s.data.toList.drop k) with
        | error c =>
          have hcc := oneT_err ho
          have HF := Lib.hid (lexInv_err HINV.out hklt HBZ.out ho)
          simp only [oneV]
          have hc0 : ((c : Int) != 0) = true := by rw [bne_iff_ne]; omega
          clear ho hcc
          go_wp2
          exact bodyPost_ret (v := .tuple #[.slice none 0 0, .agg #[.int .i64 c, .int .i64 k]]) (by simp [results, Tryd.results35, go_sem, c0, c1, hzz]) rfl (by rw [HE.out, HF.out]; exact ⟨rfl, ((HBW.out.setCell (Nat.le_refl _) _).setCell (Nat.le_refl _) _).alloc (by simp; omega) _⟩)
        | ok y =>
          obtain ⟨kk, x, nn⟩ := y
          have hxl := oneT_len ho
          rw [List.length_drop] at hxl
          have HI := Lib.hid (lexInv_tok HINV.out hklt HBZ.out ho)
          simp only [oneV, aggT]
          have hcat : ((0 : Int) != 0) = false := rfl
          have hkx : k + x.length ≤ s.size := by rw [HZ.out]; omega
          have hxs2 : x.length ≤ 4000 := by omega
          have hne : some w1.heap.size ≠ u4.ownBlock := by intro h; have := (hown1.lt _ h.symm).2; omega
          have HNE := Lib.hid hne
          clear hne
          have hk1 : 1 ≤ x.length := hxl.1
          have hxsz : (⟨x.toArray⟩ : ByteArray).size = x.length := by show x.toArray.size = _; simp
          clear ho hxl
          go_wp2_with (at_builtin; refine wpList_append_own _ rfl (.tmp 40) (.tmp 42) 54 rfl (w.heap.size + 1) 138 i0 (.agg #[.int .i64 0, .string ⟨#[]⟩, .int .i64 0, .int .i64 0]) 4 40 Tryd.underlying54 hi hz0 hz1 hz2 rfl (by decide) _ _ _ rfl ((hown1.alloc _).alloc _) ⟨w1.heap.size + 1, 0, none⟩ 1 1 [.int .i64 kk, .string ⟨x.toArray⟩, .int .i64 nn, .int .i64 k] rfl rfl (by have h9 := four_new (w1.alloc (.cells #[.int .i64 kk, .string ⟨x.toArray⟩, .int .i64 nn, .int .i64 k] 138)) (.int .i64 kk) (.string ⟨x.toArray⟩) (.int .i64 nn) (.int .i64 k) 138; simpa using h9) (four_one _ _ _ _) (by unfold maxLen; omega) (by omega) (by simp; omega) ?_; intro v' w2 hown2 hg2 _; have hct : w2.cell? ⟨w1.heap.size, 1, none⟩ = some (.string ⟨x.toArray⟩) := (hg2.cell_far ⟨w1.heap.size, 1, none⟩ (by simp; omega) HNE.out).trans (by simp [go_sem]))
          have HB3 : Below (w.heap.size + 1) (w.alloc (.cells #[.int .i64 0, .int .i64 0] 50)) w2 := ((HB2.out.alloc z1 _).alloc (by simp; omega) _).grown (row := u4.ownBlock) hg2 (by simp; omega) (fun q hq => (hown1.lt q hq).1)
          have hown3 : w2.ownsRow (w.heap.size + 1) 138 4 v' (out ++ [Tok.mk kk x nn k]).length (tokCells (out ++ [Tok.mk kk x nn k])) := by
            rw [tokCells_snoc, List.length_append]; exact hown2
          clear hown2 hg2
          go_roundw
          case rel => exact ⟨k + x.length, out ++ [Tok.mk kk x nn k], by go_num, HI.out, hown3, HB3⟩
          case measure => simp [intOf]; omega
    · have hd : decide (k < s.size) = false := by simpa using hlt
      have HF := Lib.hid (lexInv_end hinv (by rw [← HZ.out]; exact hlt))
      have hlen := HZ.out
      have HLN := Lib.hid hlen
      clear hinv hb hlen
      go_wp2_with (at_builtin; refine wpList_append_own _ rfl (.tmp 49) (.tmp 53) 54 rfl (w.heap.size + 1) 138 i0 (.agg #[.int .i64 0, .string ⟨#[]⟩, .int .i64 0, .int .i64 0]) 4 40 Tryd.underlying54 hi hz0 hz1 hz2 rfl (by decide) _ _ _ rfl (hown.alloc _) ⟨wr.heap.size, 0, none⟩ 1 1 [.int .i64 6, .string ⟨#[]⟩, .int .i64 0, .int .i64 s.size] rfl rfl (four_new _ _ _ _ _ _) (four_one _ _ _ _) (by unfold maxLen; omega) (by omega) (by simp; omega) ?_; intro v' w2 hown2 hg2 _; have HB4 : Below (w.heap.size + 1) (w.alloc (.cells #[.int .i64 0, .int .i64 0] 50)) w2 := (HB1.out.alloc hsz _).grown (row := u4.ownBlock) hg2 (by simp; omega) (fun q hq => (hown.lt q hq).1); have c0 : w2.cell? ⟨w.heap.size, 0, none⟩ = some (.int .i64 0) := (HB4.cell (p := ⟨w.heap.size, 0, none⟩) (Nat.lt_succ_self _)).trans (by simp [go_sem]); have c1 : w2.cell? ⟨w.heap.size, 1, none⟩ = some (.int .i64 0) := (HB4.cell (p := ⟨w.heap.size, 1, none⟩) (Nat.lt_succ_self _)).trans (by simp [go_sem]); have f0 : w2.frozen? ⟨w.heap.size, 0, none⟩ = false := (HB4.frozen (p := ⟨w.heap.size, 0, none⟩) (Nat.lt_succ_self _)).trans (by simp [go_sem]); have f1 : w2.frozen? ⟨w.heap.size, 1, none⟩ = false := (HB4.frozen (p := ⟨w.heap.size, 1, none⟩) (Nat.lt_succ_self _)).trans (by simp [go_sem]))
      have HBW : Below w.heap.size w w2 := ((Below.refl _ _).alloc (Nat.le_refl _) _).trans (HB4.mono (by omega))
      have hown3 : w2.ownsRow (w.heap.size + 1) 138 4 v' (out ++ [Tok.mk 6 [] 0 s.data.toList.length]).length (tokCells (out ++ [Tok.mk 6 [] 0 s.data.toList.length])) := by
        rw [tokCells_snoc, List.length_append, ← HLN.out]; exact hown2
      exact bodyPost_ret (v := .tuple #[v', .agg #[.int .i64 0, .int .i64 0]]) (by simp [results, Tryd.results35, go_sem, c0, c1]) rfl (by rw [HE.out, HF.out]; exact ⟨v', rfl, ownsRow_lower (ownsRow_setCell_below (ownsRow_setCell_below hown3 (Nat.lt_succ_self _) _) (Nat.lt_succ_self _) _) (by omega), (HBW.setCell (Nat.le_refl _) _).setCell (Nat.le_refl _) _⟩)
end Go.Proofs.YtbdfjboojokgdaaDoor.Lx
namespace Go.Proofs.YtbdfjboojokgdaaDoor.Lx
open Go.RowKit

/-- A slice value that reads as these tokens. -/
def TokRow (w : World) (v : Value) (l : List Tok) : Prop :=
  (v = .slice none 0 0 ∧ l = []) ∨ ∃ g cap, v = .slice (some ⟨g, 0, none⟩) l.length cap ∧ g < w.heap.size ∧ ∀ j (h : j < l.length),
    w.cell? ⟨g, j * 4, none⟩ = some (.int .i64 l[j].kind) ∧ w.cell? ⟨g, j * 4 + 1, none⟩ = some (.string ⟨l[j].text.toArray⟩) ∧ w.cell? ⟨g, j * 4 + 2, none⟩ = some (.int .i64 l[j].num) ∧ w.cell? ⟨g, j * 4 + 3, none⟩ = some (.int .i64 l[j].place)

theorem tokCells_at (l : List Tok) : ∀ (j : Nat) (h : j < l.length) (i : Nat) (_ : i < 4), (tokCells l)[j * 4 + i]? = (tokC l[j])[i]? := by
  induction l with
  | nil => intro j h; exact absurd h (Nat.not_lt_zero _)
  | cons t r ih =>
    intro j h i hi
    have e : tokCells (t :: r) = tokC t ++ tokCells r := by simp [tokCells]
    rw [e]
    cases j with
    | zero => rw [List.getElem?_append_left (by simp [tokC]; omega)]; simp
    | succ j =>
      rw [List.getElem?_append_right (by simp [tokC]; omega)]
      rw [show (j + 1) * 4 + i - (tokC t).length = j * 4 + i by simp [tokC]; omega]
      have := ih j (by simpa using h) i hi
      rw [this]; simp
theorem tokRow_of_own {w : World} {base e : Nat} {v : Value} {l : List Tok} (h : w.ownsRow base e 4 v l.length (tokCells l)) : TokRow w v l := by
  rcases h.2 with ⟨hv, h0⟩ | ⟨g, cap, cur, hv, hg, hh, _, _, _, _⟩
  · exact .inl ⟨hv, List.eq_nil_of_length_eq_zero h0⟩
  · subst hv
    refine .inr ⟨g, cap, rfl, ?_, fun j hj => ?_⟩
    · rcases Nat.lt_or_ge g w.heap.size with h9 | h9
      · exact h9
      · rw [Array.getElem?_eq_none h9] at hh; cases hh
    · have hc : ∀ i, i < 4 → w.cell? ⟨g, j * 4 + i, none⟩ = (tokC l[j])[i]? := fun i hi => by
        rw [h.cellAt (j * 4 + i) (by omega)]; exact tokCells_at l j hj i hi
      exact ⟨(hc 0 (by omega)).trans rfl, (hc 1 (by omega)).trans rfl, (hc 2 (by omega)).trans rfl, (hc 3 (by omega)).trans rfl⟩
theorem TokRow.below {w w' : World} {v : Value} {l : List Tok} (h : TokRow w v l) (hb : Below w.heap.size w w') : TokRow w' v l := by
  rcases h with h | ⟨g, cap, hv, hg, hc⟩
  · exact .inl h
  · refine .inr ⟨g, cap, hv, Nat.lt_of_lt_of_le hg hb.size, fun j hj => ?_⟩
    obtain ⟨a, b, c, d⟩ := hc j hj
    exact ⟨(hb.cell hg).trans a, (hb.cell hg).trans b, (hb.cell hg).trans c, (hb.cell hg).trans d⟩

/-! ### Equality of structs -/
theorem eq_tok (a a' c c' d d' : Int) (b b' : ByteArray) (w : World) : (Op.equalIn 10000 138 (.agg #[.int .i64 a, .string b, .int .i64 c, .int .i64 d]) (.agg #[.int .i64 a', .string b', .int .i64 c', .int .i64 d'])).run Tryd.prog w = .ok (a == a' && b.toList == b'.toList && c == c' && d == d') w := by
  have u3 := Tryd.underlying3
  have a3 := Tryd.isAgg3
  have z3 := Tryd.sizeOf3
  have u9 := Tryd.underlying9
  have a9 := Tryd.isAgg9
  have z9 := Tryd.sizeOf9
  have hS : Tryd.prog.underlying 138 = some (.struct (Tryd.prog.fieldsOf 138)) := by kernel_rfl
  have hp : Tryd.prog.stoodInHeld 138 = false := by kernel_rfl
  rw [show (10000 : Nat) = 9999 + 1 from rfl, run_equalIn_agg w 9999 138 _ _ hS hp]
  simp only [Program.fieldsOf, Tryd.underlying138]
  go_simp
  by_cases h1 : a = a' <;> by_cases h2 : b.toList = b'.toList <;> by_cases h3 : c = c' <;> by_cases h4 : d = d' <;> simp [h1, h2, h3, h4]
theorem guard_tok : Tryd.prog.eqGuardType Tryd.prog.depth 138 = false := by kernel_rfl
theorem eq_at (a a' c c' : Int) (w : World) : (Op.equalIn 10000 50 (.agg #[.int .i64 a, .int .i64 c]) (.agg #[.int .i64 a', .int .i64 c'])).run Tryd.prog w = .ok (a == a' && c == c') w := by
  have u3 := Tryd.underlying3
  have a3 := Tryd.isAgg3
  have z3 := Tryd.sizeOf3
  have u28 := Tryd.underlying48
  have a28 := Tryd.isAgg48
  have z28 := Tryd.sizeOf48
  have hS : Tryd.prog.underlying 50 = some (.struct (Tryd.prog.fieldsOf 50)) := by kernel_rfl
  have hp : Tryd.prog.stoodInHeld 50 = false := by kernel_rfl
  rw [show (10000 : Nat) = 9999 + 1 from rfl, run_equalIn_agg w 9999 50 _ _ hS hp]
  simp only [Program.fieldsOf, Tryd.underlying50]
  go_simp
  by_cases h1 : a = a' <;> by_cases h3 : c = c' <;> simp [h1, h3]
theorem guard_at : Tryd.prog.eqGuardType Tryd.prog.depth 50 = false := by kernel_rfl

end Go.Proofs.YtbdfjboojokgdaaDoor.Lx
