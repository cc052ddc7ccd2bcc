/- The contract of the document's Lex (chapter 2). Condition: the text has at most 2^40 bytes. The contracts of the helpers of chapter 2's laws: same, source, words, and of the document's Print, Texts, Gap. No conditions but those that each theorem names. The contracts of the document's Gap and Texts and of the laws' source (chapter 2). Condition: the slices of numbers read as numbers. The exact contract of the document's Texts (chapter 2): the texts are told by the numbers alone. Condition: the slice reads as numbers. -/
import Derived.Test.YtbdfjboojokgdaaGreatDoorM16
import Derived.Deep.AppendLies
import Derived.Test.YtbdfjboojokgdaaGreatDoorM15
namespace Go.Proofs.YtbdfjboojokgdaaGreatDoor.Lx
open Go.RowKit

def tokC (t : Tok) : List Value := [.int .i64 t.kind, .string ⟨t.text.toArray⟩, .int .i64 t.num, .int .i64 t.place]
def tokCells (l : List Tok) : List Value := l.flatMap tokC
theorem tokCells_snoc (l : List Tok) (t : Tok) : tokCells (l ++ [t]) = tokCells l ++ tokC t := by simp [tokCells]

theorem ownsRow_below {w w' : World} {base : Nat} {e : TypeId} {size : Nat} {v : Value} {n : Nat} {xs : List Value} (h : w.ownsRow base e size v n xs) (hb : Below w.heap.size w w') : w'.ownsRow base e size v n xs := by
  refine ⟨h.1, ?_⟩
  rcases h.2 with h2 | ⟨g, cap, cur, hv, hg, hh, r⟩
  · exact .inl h2
  · have hlt : g < w.heap.size := by
      rcases Nat.lt_or_ge g w.heap.size with h9 | h9
      · exact h9
      · rw [Array.getElem?_eq_none h9] at hh; cases hh
    exact .inr ⟨g, cap, cur, hv, hg, (hb.block g hlt).trans hh, r⟩
theorem ownsRow_lower {w : World} {base b2 : Nat} {e : TypeId} {size : Nat} {v : Value} {n : Nat} {xs : List Value} (h : w.ownsRow base e size v n xs) (hb : b2 ≤ base) : w.ownsRow b2 e size v n xs := by
  refine ⟨h.1, ?_⟩
  rcases h.2 with h2 | ⟨g, cap, cur, hv, hg, r⟩
  · exact .inl h2
  · exact .inr ⟨g, cap, cur, hv, by omega, r⟩
theorem four_new (w : World) (a b c d : Value) (t : TypeId) : ∀ j u, [a, b, c, d][j]? = some u → (w.alloc (.cells #[a, b, c, d] t)).cell? ((⟨w.heap.size, 0, none⟩ : Addr).add j) = some u := by
  intro j u h
  have hj : j = 0 ∨ j = 1 ∨ j = 2 ∨ j = 3 := by
    have := (List.getElem?_eq_some_iff.1 h).1
    simp at this; omega
  rcases hj with rfl | rfl | rfl | rfl <;> simp at h <;> subst h <;> simp [Addr.add, go_sem]
theorem four_one (k : Int) (x : ByteArray) (n i : Int) : ∀ u ∈ [Value.int .i64 k, .string x, .int .i64 n, .int .i64 i], u.oneCell' = true := by
  intro u hu; simp at hu; rcases hu with rfl | rfl | rfl | rfl <;> rfl
theorem Tryz.info62 : (Tryz.prog.info? 62).map (fun i => (i.zero, i.size, i.bytes)) = some (some (.agg #[.int .i64 0, .string ⟨#[]⟩, .int .i64 0, .int .i64 0]), 4, 40) := by kernel_rfl
theorem oneT_err {l : List UInt8} {e : Nat} (h : oneT l = .error e) : e = 2 ∨ e = 10 ∨ e = 11 := by
  unfold oneT at h
  match l, h with
  | [], h => cases h; simp
  | c :: r, h =>
    simp only at h
    split at h
    · split at h
      · cases h; simp
      · cases h
    · split at h
      · split at h
        · cases h; simp
        · split at h
          · cases h
          · split at h <;> cases h
      · split at h
        · cases h; simp
        · cases h

/-- What Lex answered: the tokens, in a row of the call's own; or none, and the error and its place. -/
def Lexed (w : World) (r : Except (Nat × Nat) (List Tok)) (e : Ending) (w' : World) : Prop :=
  match r with
  | .error (c, p) => e = .returned (.tuple #[.slice none 0 0, .agg #[.int .i64 c, .int .i64 p]]) ∧ Below w.heap.size w w'
  | .ok l => ∃ v, e = .returned (.tuple #[v, .agg #[.int .i64 0, .int .i64 0]]) ∧ w'.ownsRow w.heap.size 62 4 v l.length (tokCells l) ∧ Below w.heap.size w w'

set_option maxRecDepth 100000 in
set_option maxHeartbeats 1000000 in
theorem reflex_any (s : ByteArray) (w : World) (hm : s.size ≤ 1099511627776) :
    Calls Tryz.prog 22 #[.string s] w (Lexed w (lexL s.data.toList)) := by
  by_cases h4 : 4000 < s.size
  · have HE : Hid (lexL s.data.toList = .error (2, 0)) := by show _ = _; unfold lexL; rw [if_pos (by rw [← Lib.size_eq]; exact h4)]
    have h4' : (4000 : Int) < s.size := by omega
    go_enter Tryz.func22, Tryz.ntmps22
    go_wp2
    exact bodyPost_ret (v := .tuple #[.slice none 0 0, .agg #[.int .i64 2, .int .i64 0]]) (by simp [results, Tryz.results22, go_sem]) rfl (by rw [HE.out]; exact ⟨rfl, (Below.refl _ _).alloc (Nat.le_refl _) _⟩)
  have HE : Hid (lexL s.data.toList = lexF s.data.toList.length s.data.toList 0) := by show _ = _; unfold lexL; rw [if_neg (by rw [← Lib.size_eq]; exact h4)]
  have h4' : ¬ (4000 : Int) < s.size := by omega
  have HZ : Hid (s.size = s.data.toList.length) := Lib.size_eq s
  obtain ⟨i0, hi, hz0, hz1, hz2⟩ := info_parts Tryz.info62
  go_enter Tryz.func22, Tryz.ntmps22
  go_wp2
  go_loopw [4, 5] (fun v i wr => ∃ (k : Nat) (out : List Tok), i = .int .i64 k ∧ LexInv s.data.toList out k ∧ wr.ownsRow (w.heap.size + 1) 62 4 v out.length (tokCells out) ∧ Below (w.heap.size + 1) (w.alloc (.cells #[.int .i64 0, .int .i64 0] 30)) wr) (fun _ i _ => s.size - (intOf i).toNat)
  case atStart => exact ⟨0, [], rfl, lexInv_start _, World.ownsRow_nil _ _ _ _, Below.refl _ _⟩
  case round =>
    obtain ⟨k, out, rfl, hinv, hown, hb⟩ := hrel
    have hk : k ≤ s.size := by have := hinv.1; rw [HZ.out]; exact this
    have hol : out.length ≤ 4000 := by have := hinv.2.1; omega
    have hsz : w.heap.size + 1 ≤ wr.heap.size := by have := hb.size; simpa using this
    have HB : Hid (Below w.heap.size w wr) := ((Below.refl _ _).alloc (Nat.le_refl _) _).trans (hb.mono (by omega))
    have HB1 := Lib.hid hb
    by_cases hlt : k < s.size
    · have hklt : k < s.data.toList.length := by rw [← HZ.out]; exact hlt
      have hx : (s.extract k s.size).data.toList = s.data.toList.drop k := by rw [Lib.extract_data]; exact List.take_of_length_le (by rw [List.length_drop, ← HZ.out]; omega)
      have hxs : 0 < (s.extract k s.size).size := by rw [ByteArray.size_extract]; omega
      have hxm : (s.extract k s.size).size ≤ 1099511627776 := by rw [ByteArray.size_extract]; omega
      have hbl := blankN_le (s.data.toList.drop k)
      rw [List.length_drop, ← HZ.out] at hbl
      clear hb
      go_wp2_with fail
      refine (refblank_any _ _ hxs hxm).mono ?_
      rintro e w' ⟨rfl, rfl⟩
      rw [hx]
      by_cases hb0 : 0 < blankN (s.data.toList.drop k)
      · have HI := Lib.hid (lexInv_blank hinv hklt hb0)
        generalize blankN (s.data.toList.drop k) = m at *
        have hb0' : (0 : Int) < (m : Int) := by omega
        clear hinv hx hxs hxm
        go_wp2
        go_roundw
        case rel => exact ⟨k + m, out, by go_num, HI.out, hown, HB1.out⟩
        case measure => simp [intOf]; omega
      · have hbz : blankN (s.data.toList.drop k) = 0 := by omega
        rw [hbz]
        have HBZ := Lib.hid hb0
        have HINV := Lib.hid hinv
        clear hb0 hbz hinv hbl
        go_wp2_with fail
        refine (one_any _ _ hxs hxm).mono ?_
        rintro e w1 ⟨rfl, b1⟩
        rw [hx]
        clear hx hxs hxm
        have hown1 := ownsRow_below hown b1
        have z1 : w.heap.size + 1 ≤ w1.heap.size := Nat.le_trans hsz b1.size
        have HB2 : Hid (Below (w.heap.size + 1) (w.alloc (.cells #[.int .i64 0, .int .i64 0] 30)) w1) := HB1.out.trans (b1.mono hsz)
        have hzz : w.heap.size < w1.heap.size := by omega
        have c0 : w1.cell? ⟨w.heap.size, 0, none⟩ = some (.int .i64 0) := (HB2.out.cell (p := ⟨w.heap.size, 0, none⟩) (Nat.lt_succ_self _)).trans (by simp [go_sem])
        have c1 : w1.cell? ⟨w.heap.size, 1, none⟩ = some (.int .i64 0) := (HB2.out.cell (p := ⟨w.heap.size, 1, none⟩) (Nat.lt_succ_self _)).trans (by simp [go_sem])
        have f0 : w1.frozen? ⟨w.heap.size, 0, none⟩ = false := (HB2.out.frozen (p := ⟨w.heap.size, 0, none⟩) (Nat.lt_succ_self _)).trans (by simp [go_sem])
        have f1 : w1.frozen? ⟨w.heap.size, 1, none⟩ = false := (HB2.out.frozen (p := ⟨w.heap.size, 1, none⟩) (Nat.lt_succ_self _)).trans (by simp [go_sem])
        have HBW : Hid (Below w.heap.size w w1) := ((Below.refl _ _).alloc (Nat.le_refl _) _).trans (HB2.out.mono (by omega))
        clear b1 hown
        cases ho : oneT (s.data.toList.drop k) with
        | error c =>
          have hcc := oneT_err ho
          have HF := Lib.hid (lexInv_err HINV.out hklt HBZ.out ho)
          simp only [oneV]
          have hc0 : ((c : Int) != 0) = true := by rw [bne_iff_ne]; omega
          clear ho hcc
          go_wp2
          exact bodyPost_ret (v := .tuple #[.slice none 0 0, .agg #[.int .i64 c, .int .i64 k]]) (by simp [results, Tryz.results22, go_sem, c0, c1, hzz]) rfl (by rw [HE.out, HF.out]; exact ⟨rfl, ((HBW.out.setCell (Nat.le_refl _) _).setCell (Nat.le_refl _) _).alloc (by simp; omega) _⟩)
        | ok y =>
          obtain ⟨kk, x, nn⟩ := y
          have hxl := oneT_len ho
          rw [List.length_drop] at hxl
          have HI := Lib.hid (lexInv_tok HINV.out hklt HBZ.out ho)
          simp only [oneV, aggT]
          have hcat : ((0 : Int) != 0) = false := rfl
          have hkx : k + x.length ≤ s.size := by rw [HZ.out]; omega
          have hxs2 : x.length ≤ 4000 := by omega
          have hne : some w1.heap.size ≠ u4.ownBlock := by intro h; have := (hown1.lt _ h.symm).2; omega
          have HNE := Lib.hid hne
          clear hne
          have hk1 : 1 ≤ x.length := hxl.1
          have hxsz : (⟨x.toArray⟩ : ByteArray).size = x.length := by show x.toArray.size = _; simp
          clear ho hxl
          go_wp2_with (at_builtin; refine wpList_append_own _ rfl (.tmp 40) (.tmp 42) 56 rfl (w.heap.size + 1) 62 i0 (.agg #[.int .i64 0, .string ⟨#[]⟩, .int .i64 0, .int .i64 0]) 4 40 Tryz.underlying56 hi hz0 hz1 hz2 rfl (by decide) _ _ _ rfl ((hown1.alloc _).alloc _) ⟨w1.heap.size + 1, 0, none⟩ 1 1 [.int .i64 kk, .string ⟨x.toArray⟩, .int .i64 nn, .int .i64 k] rfl rfl (by have h9 := four_new (w1.alloc (.cells #[.int .i64 kk, .string ⟨x.toArray⟩, .int .i64 nn, .int .i64 k] 62)) (.int .i64 kk) (.string ⟨x.toArray⟩) (.int .i64 nn) (.int .i64 k) 62; simpa using h9) (four_one _ _ _ _) (by unfold maxLen; omega) (by omega) (by simp; omega) ?_; intro v' w2 hown2 hg2 _; have hct : w2.cell? ⟨w1.heap.size, 1, none⟩ = some (.string ⟨x.toArray⟩) := (hg2.cell_far ⟨w1.heap.size, 1, none⟩ (by simp; omega) HNE.out).trans (by simp [go_sem]))
          have HB3 : Below (w.heap.size + 1) (w.alloc (.cells #[.int .i64 0, .int .i64 0] 30)) w2 := ((HB2.out.alloc z1 _).alloc (by simp; omega) _).grown (row := u4.ownBlock) hg2 (by simp; omega) (fun q hq => (hown1.lt q hq).1)
          have hown3 : w2.ownsRow (w.heap.size + 1) 62 4 v' (out ++ [Tok.mk kk x nn k]).length (tokCells (out ++ [Tok.mk kk x nn k])) := by
            rw [tokCells_snoc, List.length_append]; exact hown2
          clear hown2 hg2
          go_roundw
          case rel => exact ⟨k + x.length, out ++ [Tok.mk kk x nn k], by go_num, HI.out, hown3, HB3⟩
          case measure => simp [intOf]; omega
    · have hd : decide (k < s.size) = false := by simpa using hlt
      have HF := Lib.hid (lexInv_end hinv (by rw [← HZ.out]; exact hlt))
      have hlen := HZ.out
      have HLN := Lib.hid hlen
      clear hinv hb hlen
      go_wp2_with (at_builtin; refine wpList_append_own _ rfl (.tmp 49) (.tmp 53) 56 rfl (w.heap.size + 1) 62 i0 (.agg #[.int .i64 0, .string ⟨#[]⟩, .int .i64 0, .int .i64 0]) 4 40 Tryz.underlying56 hi hz0 hz1 hz2 rfl (by decide) _ _ _ rfl (hown.alloc _) ⟨wr.heap.size, 0, none⟩ 1 1 [.int .i64 6, .string ⟨#[]⟩, .int .i64 0, .int .i64 s.size] rfl rfl (four_new _ _ _ _ _ _) (four_one _ _ _ _) (by unfold maxLen; omega) (by omega) (by simp; omega) ?_; intro v' w2 hown2 hg2 _; have HB4 : Below (w.heap.size + 1) (w.alloc (.cells #[.int .i64 0, .int .i64 0] 30)) w2 := (HB1.out.alloc hsz _).grown (row := u4.ownBlock) hg2 (by simp; omega) (fun q hq => (hown.lt q hq).1); have c0 : w2.cell? ⟨w.heap.size, 0, none⟩ = some (.int .i64 0) := (HB4.cell (p := ⟨w.heap.size, 0, none⟩) (Nat.lt_succ_self _)).trans (by simp [go_sem]); have c1 : w2.cell? ⟨w.heap.size, 1, none⟩ = some (.int .i64 0) := (HB4.cell (p := ⟨w.heap.size, 1, none⟩) (Nat.lt_succ_self _)).trans (by simp [go_sem]); have f0 : w2.frozen? ⟨w.heap.size, 0, none⟩ = false := (HB4.frozen (p := ⟨w.heap.size, 0, none⟩) (Nat.lt_succ_self _)).trans (by simp [go_sem]); have f1 : w2.frozen? ⟨w.heap.size, 1, none⟩ = false := (HB4.frozen (p := ⟨w.heap.size, 1, none⟩) (Nat.lt_succ_self _)).trans (by simp [go_sem]))
      have HBW : Below w.heap.size w w2 := ((Below.refl _ _).alloc (Nat.le_refl _) _).trans (HB4.mono (by omega))
      have hown3 : w2.ownsRow (w.heap.size + 1) 62 4 v' (out ++ [Tok.mk 6 [] 0 s.data.toList.length]).length (tokCells (out ++ [Tok.mk 6 [] 0 s.data.toList.length])) := by
        rw [tokCells_snoc, List.length_append, ← HLN.out]; exact hown2
      exact bodyPost_ret (v := .tuple #[v', .agg #[.int .i64 0, .int .i64 0]]) (by simp [results, Tryz.results22, go_sem, c0, c1]) rfl (by rw [HE.out, HF.out]; exact ⟨v', rfl, ownsRow_lower (ownsRow_setCell_below (ownsRow_setCell_below hown3 (Nat.lt_succ_self _) _) (Nat.lt_succ_self _) _) (by omega), (HBW.setCell (Nat.le_refl _) _).setCell (Nat.le_refl _) _⟩)
end Go.Proofs.YtbdfjboojokgdaaGreatDoor.Lx
namespace Go.Proofs.YtbdfjboojokgdaaGreatDoor.Lx
open Go.RowKit

/-- A slice value that reads as these tokens. -/
def TokRow (w : World) (v : Value) (l : List Tok) : Prop :=
  (v = .slice none 0 0 ∧ l = []) ∨ ∃ g cap, v = .slice (some ⟨g, 0, none⟩) l.length cap ∧ g < w.heap.size ∧ ∀ j (h : j < l.length),
    w.cell? ⟨g, j * 4, none⟩ = some (.int .i64 l[j].kind) ∧ w.cell? ⟨g, j * 4 + 1, none⟩ = some (.string ⟨l[j].text.toArray⟩) ∧ w.cell? ⟨g, j * 4 + 2, none⟩ = some (.int .i64 l[j].num) ∧ w.cell? ⟨g, j * 4 + 3, none⟩ = some (.int .i64 l[j].place)

theorem tokCells_at (l : List Tok) : ∀ (j : Nat) (h : j < l.length) (i : Nat) (_ : i < 4), (tokCells l)[j * 4 + i]? = (tokC l[j])[i]? := by
  induction l with
  | nil => intro j h; exact absurd h (Nat.not_lt_zero _)
  | cons t r ih =>
    intro j h i hi
    have e : tokCells (t :: r) = tokC t ++ tokCells r := by simp [tokCells]
    rw [e]
    cases j with
    | zero => rw [List.getElem?_append_left (by simp [tokC]; omega)]; simp
    | succ j =>
      rw [List.getElem?_append_right (by simp [tokC]; omega)]
      rw [show (j + 1) * 4 + i - (tokC t).length = j * 4 + i by simp [tokC]; omega]
      have := ih j (by simpa using h) i hi
      rw [this]; simp
theorem tokRow_of_own {w : World} {base e : Nat} {v : Value} {l : List Tok} (h : w.ownsRow base e 4 v l.length (tokCells l)) : TokRow w v l := by
  rcases h.2 with ⟨hv, h0⟩ | ⟨g, cap, cur, hv, hg, hh, _, _, _, _⟩
  · exact .inl ⟨hv, List.eq_nil_of_length_eq_zero h0⟩
  · subst hv
    refine .inr ⟨g, cap, rfl, ?_, fun j hj => ?_⟩
    · rcases Nat.lt_or_ge g w.heap.size with h9 | h9
      · exact h9
      · rw [Array.getElem?_eq_none h9] at hh; cases hh
    · have hc : ∀ i, i < 4 → w.cell? ⟨g, j * 4 + i, none⟩ = (tokC l[j])[i]? := fun i hi => by
        rw [h.cellAt (j * 4 + i) (by omega)]; exact tokCells_at l j hj i hi
      exact ⟨(hc 0 (by omega)).trans rfl, (hc 1 (by omega)).trans rfl, (hc 2 (by omega)).trans rfl, (hc 3 (by omega)).trans rfl⟩
theorem TokRow.below {w w' : World} {v : Value} {l : List Tok} (h : TokRow w v l) (hb : Below w.heap.size w w') : TokRow w' v l := by
  rcases h with h | ⟨g, cap, hv, hg, hc⟩
  · exact .inl h
  · refine .inr ⟨g, cap, hv, Nat.lt_of_lt_of_le hg hb.size, fun j hj => ?_⟩
    obtain ⟨a, b, c, d⟩ := hc j hj
    exact ⟨(hb.cell hg).trans a, (hb.cell hg).trans b, (hb.cell hg).trans c, (hb.cell hg).trans d⟩

/-! ### Equality of structs -/
theorem eq_tok (a a' c c' d d' : Int) (b b' : ByteArray) (w : World) : (Op.equalIn 10000 62 (.agg #[.int .i64 a, .string b, .int .i64 c, .int .i64 d]) (.agg #[.int .i64 a', .string b', .int .i64 c', .int .i64 d'])).run Tryz.prog w = .ok (a == a' && b.toList == b'.toList && c == c' && d == d') w := by
  have u3 := Tryz.underlying3
  have a3 := Tryz.isAgg3
  have z3 := Tryz.sizeOf3
  have u9 := Tryz.underlying9
  have a9 := Tryz.isAgg9
  have z9 := Tryz.sizeOf9
  have hS : Tryz.prog.underlying 62 = some (.struct (Tryz.prog.fieldsOf 62)) := by kernel_rfl
  have hp : Tryz.prog.stoodInHeld 62 = false := by kernel_rfl
  rw [show (10000 : Nat) = 9999 + 1 from rfl, run_equalIn_agg w 9999 62 _ _ hS hp]
  simp only [Program.fieldsOf, Tryz.underlying62]
  go_simp
  by_cases h1 : a = a' <;> by_cases h2 : b.toList = b'.toList <;> by_cases h3 : c = c' <;> by_cases h4 : d = d' <;> simp [h1, h2, h3, h4]
theorem guard_tok : Tryz.prog.eqGuardType Tryz.prog.depth 62 = false := by kernel_rfl
theorem eq_at (a a' c c' : Int) (w : World) : (Op.equalIn 10000 30 (.agg #[.int .i64 a, .int .i64 c]) (.agg #[.int .i64 a', .int .i64 c'])).run Tryz.prog w = .ok (a == a' && c == c') w := by
  have u3 := Tryz.underlying3
  have a3 := Tryz.isAgg3
  have z3 := Tryz.sizeOf3
  have u28 := Tryz.underlying28
  have a28 := Tryz.isAgg28
  have z28 := Tryz.sizeOf28
  have hS : Tryz.prog.underlying 30 = some (.struct (Tryz.prog.fieldsOf 30)) := by kernel_rfl
  have hp : Tryz.prog.stoodInHeld 30 = false := by kernel_rfl
  rw [show (10000 : Nat) = 9999 + 1 from rfl, run_equalIn_agg w 9999 30 _ _ hS hp]
  simp only [Program.fieldsOf, Tryz.underlying30]
  go_simp
  by_cases h1 : a = a' <;> by_cases h3 : c = c' <;> simp [h1, h3]
theorem guard_at : Tryz.prog.eqGuardType Tryz.prog.depth 30 = false := by kernel_rfl

end Go.Proofs.YtbdfjboojokgdaaGreatDoor.Lx
namespace Go.Proofs.YtbdfjboojokgdaaGreatDoor.Lx
open Go.RowKit

def SV (x : List UInt8) : Value := .string ⟨x.toArray⟩
/-- A slice of numbers that came in: it lies below block B. -/
def IntRow (B : Nat) (w : World) (A : Option Addr) (len : Nat) : Prop :=
  len = 0 ∨ ∃ b off, A = some ⟨b, off, none⟩ ∧ b < B ∧ ∀ i, i < len → ∃ z : Int, -9223372036854775808 ≤ z ∧ z ≤ 9223372036854775807 ∧ w.cell? ⟨b, off + i, none⟩ = some (.int .i64 z)
theorem IntRow.below {B X len : Nat} {A : Option Addr} {w w' : World} (h : IntRow B w A len) (hb : Below X w w') (hB : B ≤ X) : IntRow B w' A len := by
  rcases h with h | ⟨b, off, e, hlt, hc⟩
  · exact .inl h
  · refine .inr ⟨b, off, e, hlt, fun i hi => ?_⟩
    obtain ⟨z, z1, z2, hz⟩ := hc i hi
    exact ⟨z, z1, z2, (hb.cell (p := ⟨b, off + i, none⟩) (by show b < X; omega)).trans hz⟩
theorem Tryz.info9 : (Tryz.prog.info? 9).map (fun i => (i.zero, i.size, i.bytes)) = some (some (.string ⟨#[]⟩), 1, 16) := by kernel_rfl
theorem one_str (x : ByteArray) : ∀ u ∈ [Value.string x], u.oneCell' = true := by intro u hu; simp at hu; subst hu; rfl

/-- The call returned some blanks that may stand between tokens. -/
def SomeGap (w : World) (e : Ending) (w' : World) : Prop := ∃ g ∈ gapsL, e = .returned (.string ⟨g.toArray⟩) ∧ Below w.heap.size w w'
/-- What Texts made: texts of tokens, as many as there are numbers, thirty at most. -/
def SomeTexts (w : World) (len : Nat) (e : Ending) (w' : World) : Prop := ∃ (strs : List (List UInt8)) (v : Value), e = .returned v ∧ strs.length = min len 30 ∧ (∀ x ∈ strs, x ∈ textsL) ∧ w'.ownsRow (w.heap.size + 1) 9 1 v strs.length (strs.map SV) ∧ Below w.heap.size w w'

set_option maxRecDepth 100000 in
set_option maxHeartbeats 1000000 in
theorem texts_any (A : Option Addr) (len cap : Nat) (w : World) (hr : IntRow w.heap.size w A len) (hlen : len ≤ 9223372036854775807) :
    Calls Tryz.prog 38 #[.slice A len cap] w (SomeTexts w len) := by
  have HR := Lib.hid hr
  clear hr
  obtain ⟨j0, hj, hy0, hy1, hy2⟩ := info_parts Tryz.info9
  go_enter Tryz.func38, Tryz.ntmps38
  go_wp2
  have hN : Texts w.heap.size textsL (w.alloc (.cells (textsL.map (fun l => Value.string ⟨l.toArray⟩)).toArray 9)) := texts_new w textsL 9
  go_loopw [4, 5] (fun v i wr => ∃ (k : Nat) (strs : List (List UInt8)), k ≤ len ∧ k ≤ 30 ∧ i = .int .i64 k ∧ Hid (strs.length = k) ∧ Hid (∀ x ∈ strs, x ∈ textsL) ∧ wr.ownsRow (w.heap.size + 1) 9 1 v strs.length (strs.map SV) ∧ Below (w.heap.size + 1) (w.alloc (.cells (textsL.map (fun l => Value.string ⟨l.toArray⟩)).toArray 9)) wr) (fun _ i _ => 30 - (intOf i).toNat)
  case atStart => exact ⟨0, [], Nat.zero_le _, by omega, rfl, rfl, (fun x hx => absurd hx (by simp)), World.ownsRow_nil _ _ _ _, Below.refl _ _⟩
  case round =>
    obtain ⟨k, strs, hk, hk30, rfl, hsl, hall, hown, hb⟩ := hrel
    have hsz : w.heap.size + 1 ≤ wr.heap.size := by have := hb.size; simpa using this
    have HBW : Hid (Below w.heap.size w wr) := ((Below.refl _ _).alloc (Nat.le_refl _) _).trans (hb.mono (by omega))
    have HT := Lib.hid (hN.below (w' := wr) (X := w.heap.size + 1) hb (Nat.lt_succ_self _))
    have HB := Lib.hid hb
    have hs30 : strs.length ≤ 30 := by rw [hsl.out]; exact hk30
    clear hN hb
    by_cases hlt : k < len
    · by_cases h30 : k < 30
      · obtain ⟨b, off, rfl, hbB, hc⟩ : ∃ b off, A = some ⟨b, off, none⟩ ∧ b < w.heap.size ∧ ∀ i, i < len → ∃ z : Int, -9223372036854775808 ≤ z ∧ z ≤ 9223372036854775807 ∧ w.cell? ⟨b, off + i, none⟩ = some (.int .i64 z) := by
          rcases HR.out with h0 | h0
          · omega
          · exact h0
        obtain ⟨z, z1, z2, hz⟩ := hc k hlt
        have hzr : wr.cell? ⟨b, off + k, none⟩ = some (.int .i64 z) := (HBW.out.cell (p := ⟨b, off + k, none⟩) hbB).trans hz
        clear hc hz
        have h30' : decide ((k : Int) < 30) = true := by simp; omega
        have hki : (k : Int) < (len : Int) := by omega
        have hk0 : (0 : Int) ≤ (k : Int) := by omega
        go_wp2_with fail
        refine (around_any z 34 _ z1 z2 (by omega) (by omega)).mono ?_
        rintro e w' ⟨q, hq, rfl, rfl⟩
        have hql : q < textsL.length := by show q < 34; omega
        have hcq := HT.out q hql
        have hmem : textsL[q] ∈ textsL := List.getElem_mem hql
        generalize textsL[q] = t at *
        have hq0 : (0 : Int) ≤ (q : Int) := by omega
        go_wp2_with (at_builtin; refine wpList_append_own _ rfl (.tmp 17) (.tmp 28) 23 rfl (w.heap.size + 1) 9 j0 (.string ⟨#[]⟩) 1 16 Tryz.underlying23 hj hy0 hy1 hy2 rfl (by decide) _ _ _ rfl (hown.alloc _) ⟨wr.heap.size, 0, none⟩ 1 1 [.string ⟨t.toArray⟩] rfl rfl (cell_one_new _ _ _) (one_str _) (by unfold maxLen; omega) (by omega) (by simp; omega) ?_; intro v' w2 hown2 hg2 _)
        have HB3 : Below (w.heap.size + 1) (w.alloc (.cells (textsL.map (fun l => Value.string ⟨l.toArray⟩)).toArray 9)) w2 := (HB.out.alloc hsz _).grown (row := u4.ownBlock) hg2 (by simp; omega) (fun x hx => (hown.lt x hx).1)
        have hown3 : w2.ownsRow (w.heap.size + 1) 9 1 v' (strs ++ [t]).length ((strs ++ [t]).map SV) := by
          rw [List.map_append, List.length_append]; exact hown2
        clear hown2 hg2
        go_roundw
        case rel => exact ⟨k + 1, strs ++ [t], by omega, by omega, by go_num, by show (strs ++ [t]).length = k + 1; rw [List.length_append, hsl.out]; rfl, fun x hx => by rcases List.mem_append.1 hx with h9 | h9; exact hall.out x h9; rw [List.mem_singleton.1 h9]; exact hmem, hown3, HB3⟩
        case measure => simp [intOf]; omega
      · have h30' : decide ((k : Int) < 30) = false := by simp; omega
        go_wp2
        go_ret
        exact ⟨strs, _, rfl, by rw [hsl.out]; omega, hall.out, hown, HBW.out⟩
    · have hd : decide (k < len) = false := by simpa using hlt
      go_wp2
      go_ret
      exact ⟨strs, _, rfl, by rw [hsl.out]; omega, hall.out, hown, HBW.out⟩

/-- A slice of texts: it lies below block B. -/
def StrRow (B : Nat) (w : World) (A : Option Addr) (strs : List (List UInt8)) : Prop :=
  strs = [] ∨ ∃ g, A = some ⟨g, 0, none⟩ ∧ g < B ∧ ∀ i (h : i < strs.length), w.cell? ⟨g, i, none⟩ = some (SV strs[i])
theorem StrRow.below {B X : Nat} {A : Option Addr} {strs : List (List UInt8)} {w w' : World} (h : StrRow B w A strs) (hb : Below X w w') (hB : B ≤ X) : StrRow B w' A strs := by
  rcases h with h | ⟨g, e, hg, hc⟩
  · exact .inl h
  · exact .inr ⟨g, e, hg, fun i hi => (hb.cell (p := ⟨g, i, none⟩) (by show g < X; omega)).trans (hc i hi)⟩
theorem strRow_of_own {w : World} {base : Nat} {v : Value} {strs : List (List UInt8)} (h : w.ownsRow base 9 1 v strs.length (strs.map SV)) : ∃ A c, v = .slice A strs.length c ∧ StrRow w.heap.size w A strs := by
  rcases h.2 with ⟨hv, h0⟩ | ⟨g, cap, cur, hv, hg, hh, _⟩
  · exact ⟨none, 0, by rw [hv, h0], .inl (List.eq_nil_of_length_eq_zero h0)⟩
  · subst hv
    refine ⟨_, cap, rfl, .inr ⟨g, rfl, ?_, fun i hi => ?_⟩⟩
    · rcases Nat.lt_or_ge g w.heap.size with h9 | h9
      · exact h9
      · rw [Array.getElem?_eq_none h9] at hh; cases hh
    · rw [h.cellAt i (by omega)]; simp [hi]

/-- What source made: these texts, each with blanks ahead. -/
def SomeSource (w : World) (strs : List (List UInt8)) (e : Ending) (w' : World) : Prop := ∃ ps : List (List UInt8 × List UInt8), ps.map (·.2) = strs ∧ Fine ps ∧ e = .returned (.string ⟨(srcL ps).toArray⟩) ∧ Below w.heap.size w w'
theorem srcL_snoc (ps : List (List UInt8 × List UInt8)) (g t : List UInt8) : srcL (ps ++ [(g, t)]) = srcL ps ++ g ++ t := by simp [srcL]
theorem append_mk2 (a b : List UInt8) : (⟨a.toArray⟩ : ByteArray) ++ ⟨b.toArray⟩ = ⟨(a ++ b).toArray⟩ := by
  apply ByteArray.ext
  simp [ByteArray.data_append]

end Go.Proofs.YtbdfjboojokgdaaGreatDoor.Lx
namespace Go.Proofs.YtbdfjboojokgdaaGreatDoor.Lx
open Go.RowKit

def aroundI (n m : Int) : Int := if n < 0 then -((n + 1).tmod m) else n % m
theorem aroundI_bd (n m : Int) (hm : 0 < m) : 0 ≤ aroundI n m ∧ aroundI n m < m := by
  unfold aroundI
  split
  · constructor
    · have h := Int.tmod_nonneg (a := -(n + 1)) m (by omega)
      rw [Int.neg_tmod] at h; exact h
    · have h := Int.tmod_lt_of_pos (-(n + 1)) hm
      rw [Int.neg_tmod] at h; exact h
  · exact ⟨Int.emod_nonneg _ (by omega), Int.emod_lt_of_pos _ hm⟩
theorem ret_i64 {a b : Int} (h : a = b) : Ending.returned (.int .i64 a) = .returned (.int .i64 b) := by rw [h]
set_option maxHeartbeats 400000 in
theorem around_is (n m : Int) (w : World) (h1 : -9223372036854775808 ≤ n) (h2 : n ≤ 9223372036854775807) (hm : 0 < m) (hm' : m ≤ 9223372036854775807) :
    Calls Tryz.prog 16 #[.int .i64 n, .int .i64 m] w fun e w' => e = .returned (.int .i64 (aroundI n m)) ∧ w = w' := by
  by_cases hn : n < 0
  · have HE : Hid (aroundI n m = -((n + 1).tmod m)) := by show _ = _; unfold aroundI; rw [if_pos hn]
    go_enter Tryz.func16, Tryz.ntmps16
    go_wp2
    go_ret
    exact ⟨ret_i64 HE.out.symm, rfl⟩
  · have HE : Hid (aroundI n m = n % m) := by show _ = _; unfold aroundI; rw [if_neg hn]
    have hn0 : 0 ≤ n := by omega
    go_enter Tryz.func16, Tryz.ntmps16
    go_wp2
    go_ret
    exact ⟨ret_i64 HE.out.symm, rfl⟩

/-- A slice of numbers, told by a function. -/
def IntRowF (B : Nat) (w : World) (A : Option Addr) (len : Nat) (f : Nat → Int) : Prop :=
  len = 0 ∨ ∃ b off, A = some ⟨b, off, none⟩ ∧ b < B ∧ ∀ i, i < len → -9223372036854775808 ≤ f i ∧ f i ≤ 9223372036854775807 ∧ w.cell? ⟨b, off + i, none⟩ = some (.int .i64 (f i))
theorem intRowF_of {B : Nat} {w : World} {A : Option Addr} {len : Nat} (h : IntRow B w A len) : ∃ f, IntRowF B w A len f := by
  rcases h with h | ⟨b, off, e, hb, hc⟩
  · exact ⟨fun _ => 0, .inl h⟩
  · have hx : ∀ i, ∃ z : Int, i < len → -9223372036854775808 ≤ z ∧ z ≤ 9223372036854775807 ∧ w.cell? ⟨b, off + i, none⟩ = some (.int .i64 z) := by
      intro i
      by_cases hi : i < len
      · obtain ⟨z, hz⟩ := hc i hi; exact ⟨z, fun _ => hz⟩
      · exact ⟨0, fun h9 => absurd h9 hi⟩
    obtain ⟨f, hf⟩ := Classical.axiomOfChoice hx
    exact ⟨f, .inr ⟨b, off, e, hb, fun i hi => hf i hi⟩⟩
theorem IntRowF.row {B : Nat} {w : World} {A : Option Addr} {len : Nat} {f : Nat → Int} (h : IntRowF B w A len f) : IntRow B w A len := by
  rcases h with h | ⟨b, off, e, hb, hc⟩
  · exact .inl h
  · exact .inr ⟨b, off, e, hb, fun i hi => ⟨f i, hc i hi⟩⟩
theorem IntRowF.below {B X : Nat} {A : Option Addr} {len : Nat} {f : Nat → Int} {w w' : World} (h : IntRowF B w A len f) (hb : Below X w w') (hB : B ≤ X) : IntRowF B w' A len f := by
  rcases h with h | ⟨b, off, e, hlt, hc⟩
  · exact .inl h
  · exact .inr ⟨b, off, e, hlt, fun i hi => ⟨(hc i hi).1, (hc i hi).2.1, (hb.cell (p := ⟨b, off + i, none⟩) (by show b < X; omega)).trans (hc i hi).2.2⟩⟩
theorem IntRowF.mono {B B2 len : Nat} {A : Option Addr} {f : Nat → Int} {w : World} (h : IntRowF B w A len f) (hB : B ≤ B2) : IntRowF B2 w A len f := by
  rcases h with h | ⟨b, off, e, hlt, hc⟩
  · exact .inl h
  · exact .inr ⟨b, off, e, by omega, hc⟩

def textI (z : Int) : List UInt8 := (textsL[(aroundI z 34).toNat]?).getD []
def textsF (f : Nat → Int) (n : Nat) : List (List UInt8) := (List.range n).map (fun i => textI (f i))
theorem textI_mem (z : Int) : textI z ∈ textsL := by
  have hb := aroundI_bd z 34 (by omega)
  have hl : (aroundI z 34).toNat < textsL.length := by show _ < 34; omega
  unfold textI
  rw [List.getElem?_eq_getElem hl]
  exact List.getElem_mem hl
theorem textsF_mem (f : Nat → Int) (n : Nat) : ∀ x ∈ textsF f n, x ∈ textsL := by
  intro x hx
  obtain ⟨i, _, rfl⟩ := List.mem_map.1 hx
  exact textI_mem _
theorem textsF_len (f : Nat → Int) (n : Nat) : (textsF f n).length = n := by simp [textsF]
theorem textsF_succ (f : Nat → Int) (n : Nat) : textsF f (n + 1) = textsF f n ++ [textI (f n)] := by simp [textsF, List.range_succ]

/-- What Texts made. -/
def TextsMade (w : World) (strs : List (List UInt8)) (e : Ending) (w' : World) : Prop := ∃ v : Value, e = .returned v ∧ w'.ownsRow (w.heap.size + 1) 9 1 v strs.length (strs.map SV) ∧ Below w.heap.size w w'

set_option maxRecDepth 100000 in
set_option maxHeartbeats 1000000 in
theorem texts_is (A : Option Addr) (len cap : Nat) (f : Nat → Int) (w : World) (hr : IntRowF w.heap.size w A len f) (hlen : len ≤ 9223372036854775807) :
    Calls Tryz.prog 38 #[.slice A len cap] w (TextsMade w (textsF f (min len 30))) := by
  have HR := Lib.hid hr
  clear hr
  obtain ⟨j0, hj, hy0, hy1, hy2⟩ := info_parts Tryz.info9
  go_enter Tryz.func38, Tryz.ntmps38
  go_wp2
  have hN : Texts w.heap.size textsL (w.alloc (.cells (textsL.map (fun l => Value.string ⟨l.toArray⟩)).toArray 9)) := texts_new w textsL 9
  go_loopw [4, 5] (fun v i wr => ∃ k : Nat, k ≤ len ∧ k ≤ 30 ∧ i = .int .i64 k ∧ wr.ownsRow (w.heap.size + 1) 9 1 v (textsF f k).length ((textsF f k).map SV) ∧ Below (w.heap.size + 1) (w.alloc (.cells (textsL.map (fun l => Value.string ⟨l.toArray⟩)).toArray 9)) wr) (fun _ i _ => 30 - (intOf i).toNat)
  case atStart => exact ⟨0, Nat.zero_le _, by omega, rfl, World.ownsRow_nil _ _ _ _, Below.refl _ _⟩
  case round =>
    obtain ⟨k, hk, hk30, rfl, hown, hb⟩ := hrel
    have hsz : w.heap.size + 1 ≤ wr.heap.size := by have := hb.size; simpa using this
    have HBW : Hid (Below w.heap.size w wr) := ((Below.refl _ _).alloc (Nat.le_refl _) _).trans (hb.mono (by omega))
    have HT := Lib.hid (hN.below (w' := wr) (X := w.heap.size + 1) hb (Nat.lt_succ_self _))
    have HB := Lib.hid hb
    have hs30 : (textsF f k).length ≤ 30 := by rw [textsF_len]; exact hk30
    clear hN hb
    by_cases hlt : k < len
    · by_cases h30 : k < 30
      · obtain ⟨b, off, rfl, hbB, hc⟩ : ∃ b off, A = some ⟨b, off, none⟩ ∧ b < w.heap.size ∧ ∀ i, i < len → -9223372036854775808 ≤ f i ∧ f i ≤ 9223372036854775807 ∧ w.cell? ⟨b, off + i, none⟩ = some (.int .i64 (f i)) := by
          rcases HR.out with h0 | h0
          · omega
          · exact h0
        obtain ⟨z1, z2, hz⟩ := hc k hlt
        have hsn := textsF_succ f k
        have HSN := Lib.hid hsn
        have htI : textI (f k) = (textsL[(aroundI (f k) 34).toNat]?).getD [] := rfl
        have HTI := Lib.hid htI
        clear hsn htI
        generalize f k = z at *
        have hzr : wr.cell? ⟨b, off + k, none⟩ = some (.int .i64 z) := (HBW.out.cell (p := ⟨b, off + k, none⟩) hbB).trans hz
        clear hc hz
        have h30' : decide ((k : Int) < 30) = true := by simp; omega
        have hki : (k : Int) < (len : Int) := by omega
        have hk0 : (0 : Int) ≤ (k : Int) := by omega
        have hbd := aroundI_bd z 34 (by omega)
        go_wp2_with fail
        refine (around_is z 34 _ z1 z2 (by omega) (by omega)).mono ?_
        rintro e w' ⟨rfl, rfl⟩
        obtain ⟨q, hq⟩ := Int.eq_ofNat_of_zero_le hbd.1
        rw [hq] at hbd ⊢
        have hql : q < textsL.length := by show q < 34; omega
        have hcq := HT.out q hql
        have HT9 : Hid (textI z = textsL[q]) := by
          show _ = _
          rw [HTI.out, hq, show ((q : Int)).toNat = q from rfl, List.getElem?_eq_getElem hql]; rfl
        clear hq HTI
        generalize textsL[q] = t at *
        have hq0 : (0 : Int) ≤ (q : Int) := by omega
        have hq34 : (q : Int) < 34 := by omega
        clear hbd
        go_wp2_with (at_builtin; refine wpList_append_own _ rfl (.tmp 17) (.tmp 28) 23 rfl (w.heap.size + 1) 9 j0 (.string ⟨#[]⟩) 1 16 Tryz.underlying23 hj hy0 hy1 hy2 rfl (by decide) _ _ _ rfl (hown.alloc _) ⟨wr.heap.size, 0, none⟩ 1 1 [.string ⟨t.toArray⟩] rfl rfl (cell_one_new _ _ _) (one_str _) (by unfold maxLen; omega) (by omega) (by simp; omega) ?_; intro v' w2 hown2 hg2 _)
        have HB3 : Below (w.heap.size + 1) (w.alloc (.cells (textsL.map (fun l => Value.string ⟨l.toArray⟩)).toArray 9)) w2 := (HB.out.alloc hsz _).grown (row := u4.ownBlock) hg2 (by simp; omega) (fun x hx => (hown.lt x hx).1)
        have hown3 : w2.ownsRow (w.heap.size + 1) 9 1 v' (textsF f (k + 1)).length ((textsF f (k + 1)).map SV) := by
          rw [HSN.out, HT9.out, List.map_append, List.length_append]; exact hown2
        clear hown2 hg2
        go_roundw
        case rel => exact ⟨k + 1, by omega, by omega, by go_num, hown3, HB3⟩
        case measure => simp [intOf]; omega
      · have h30' : decide ((k : Int) < 30) = false := by simp; omega
        have hkm : min len 30 = k := by omega
        have HK := Lib.hid hkm
        clear hkm
        go_wp2
        go_ret
        exact ⟨_, rfl, by rw [HK.out]; exact hown, HBW.out⟩
    · have hd : decide (k < len) = false := by simpa using hlt
      have hkm : min len 30 = k := by omega
      have HK := Lib.hid hkm
      clear hkm
      go_wp2
      go_ret
      exact ⟨_, rfl, by rw [HK.out]; exact hown, HBW.out⟩
end Go.Proofs.YtbdfjboojokgdaaGreatDoor.Lx
