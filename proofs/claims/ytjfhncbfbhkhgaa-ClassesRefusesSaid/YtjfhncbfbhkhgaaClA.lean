/- The functions that a walk is given: one that adds a name to a row in a box, one that does nothing. No conditions but those that each theorem names. -/
import Derived.Test.YtjfhncbfbhkhgaaEnA
import Derived.Test.YtjfhncbfbhkhgaaWkF
namespace Go.Proofs.Ytjfhncbfbhkhgaa
open Go.RowKit
/-- A box in which a row of names lies that the call owns. -/
def BoxS (B lb : Nat) (st : List ByteArray) (F : Nat → Prop) (w : World) : Prop :=
  ∃ rv, w.heap[lb]? = some (.cells #[rv] 40) ∧ OwnS B w rv st ∧ ∀ k, F k ↔ k = lb ∨ rv.ownBlock = some k
theorem BoxS.lt {B lb : Nat} {st : List ByteArray} {F : Nat → Prop} {w : World} (h : BoxS B lb st F w) : ∀ k, F k → k < w.heap.size := by
  obtain ⟨rv, h1, h2, h3⟩ := h
  intro k hk
  rcases (h3 k).1 hk with rfl | e
  · exact lt_of_block h1
  · exact (World.ownsRow.lt h2 k e).2
theorem BoxS.keep {B lb : Nat} {st : List ByteArray} {F : Nat → Prop} {w w' : World} (h : BoxS B lb st F w) (hb : ∀ k, F k → w'.heap[k]? = w.heap[k]?) : BoxS B lb st F w' := by
  obtain ⟨rv, h1, h2, h3⟩ := h
  exact ⟨rv, (hb lb ((h3 lb).2 (.inl rfl))).trans h1, own_keep h2 (fun g hg => hb g ((h3 g).2 (.inr hg))), h3⟩
/-- A walk's function adds a name to the row in its box. -/
def AddRes (B lb : Nat) (st : List ByteArray) (F : Nat → Prop) (w : World) (e : Ending) (w' : World) : Prop :=
  e = .returned (.tuple #[]) ∧ ∃ F', ClosRes (BoxS B lb) st F w F' w'
theorem BoxS.push {B lb : Nat} {st : List ByteArray} {F : Nat → Prop} {w : World} {rv : Value} (h1 : w.heap[lb]? = some (.cells #[rv] 40)) (h2 : OwnS B w rv st) (h3 : ∀ k, F k ↔ k = lb ∨ rv.ownBlock = some k) {x : ByteArray} {v' : Value} {w3 : World}
    (ho : w3.ownsRow B 9 1 v' (st.length + 1) (st.map Value.string ++ [.string x])) (hg : (w.alloc (.cells #[.string x] 9)).grownBy w3 rv.ownBlock) (hat : v'.ownBlock = rv.ownBlock ∨ v'.ownBlock = some (w.alloc (.cells #[.string x] 9)).heap.size) :
    AddRes B lb (st ++ [x]) F w (.returned (.tuple #[])) (w3.setCell ⟨lb, 0, none⟩ v') ∧ w3.cell? ⟨lb, 0, none⟩ = some rv ∧ w3.frozen? ⟨lb, 0, none⟩ = false := by
  have hlb := lt_of_block h1
  have hne : rv.ownBlock ≠ some lb := own_not h2 h1 (by decide)
  have hba := below_new w (.cells #[.string x] 9)
  have hsz := hg.size
  have hsa : (w.alloc (.cells #[.string x] 9)).heap.size = w.heap.size + 1 := by simp
  rw [hsa] at hsz hat
  have hold : ∀ k, k < w.heap.size → rv.ownBlock ≠ some k → w3.heap[k]? = w.heap[k]? := fun k hk hn => (hg.block k (by rw [hsa]; omega) (fun e => hn e.symm)).trans (hba.block k hk)
  have hbx : w3.heap[lb]? = some (.cells #[rv] 40) := (hold lb hlb hne).trans h1
  have hoth : ∀ k, k ≠ lb → (w3.setCell ⟨lb, 0, none⟩ v').heap[k]? = w3.heap[k]? := fun k hk => Below.heap_setCell _ _ _ _ hk
  have hne' : v'.ownBlock ≠ some lb := fun e => by
    rcases hat with h9 | h9
    · exact hne (by rw [← h9]; exact e)
    · rw [h9] at e; injection e with e; omega
  refine ⟨⟨rfl, fun k => k = lb ∨ v'.ownBlock = some k, ⟨v', heap_setCell_same w3 lb 0 _ 40 _ hbx, ?_, fun k => Iff.rfl⟩, by have := hg.os; exact this, by have := hg.tape; exact this, by have := hg.output; exact this, by simp; omega, fun k hk hn => ?_, fun k hk => ?_⟩, by simp [World.cell?, hbx], by simp [World.frozen?, hbx]⟩
  · show World.ownsRow _ B 9 1 v' (st ++ [x]).length ((st ++ [x]).map Value.string)
    rw [List.length_append, List.length_singleton, List.map_append]
    exact own_keep ho (fun g hgo => hoth g (fun e => hne' (by rw [← e]; exact hgo)))
  · exact (hoth k (fun e => hn ((h3 k).2 (.inl e)))).trans (hold k hk (fun e => hn ((h3 k).2 (.inr e))))
  · rcases hk with rfl | hk
    · exact .inl ((h3 _).2 (.inl rfl))
    · rcases hat with h9 | h9
      · exact .inl ((h3 k).2 (.inr (by rw [← h9]; exact hk)))
      · rw [h9] at hk; injection hk with hk; exact .inr (by omega)
set_option maxRecDepth 100000 in
set_option maxHeartbeats 1000000 in
theorem add62_any {B lb : Nat} {st : List ByteArray} {F : Nat → Prop} {w : World} (h : BoxS B lb st F w) (hB : B ≤ w.heap.size) (hl : st.length ≤ 1073741824) (x : ByteArray) :
    Calls Try.prog 62 #[.string x, .pointer (some ⟨lb, 0, none⟩)] w (AddRes B lb (st ++ [x]) F w) := by
  obtain ⟨rv, h1, h2, h3⟩ := h
  have c0 : w.cell? ⟨lb, 0, none⟩ = some rv := by simp [World.cell?, h1]
  obtain ⟨Ar, cr, rfl, _⟩ := own_form h2
  obtain ⟨i9, hi9, hz9, hs9, hb9⟩ := info_parts Try.info9
  have HP : Hid (∀ v' w3, w3.ownsRow B 9 1 v' (st.length + 1) (st.map Value.string ++ [.string x]) → (w.alloc (.cells #[.string x] 9)).grownBy w3 (Value.slice Ar st.length cr).ownBlock → (v'.ownBlock = (Value.slice Ar st.length cr).ownBlock ∨ v'.ownBlock = some (w.alloc (.cells #[.string x] 9)).heap.size) →
      AddRes B lb (st ++ [x]) F w (.returned (.tuple #[])) (w3.setCell ⟨lb, 0, none⟩ v') ∧ w3.cell? ⟨lb, 0, none⟩ = some (.slice Ar st.length cr) ∧ w3.frozen? ⟨lb, 0, none⟩ = false) := Lib.hid fun v' w3 a b c => BoxS.push h1 h2 h3 a b c
  have HOW : Hid ((w.alloc (.cells #[.string x] 9)).ownsRow B 9 1 (.slice Ar st.length cr) st.length (st.map Value.string)) := Lib.hid (World.ownsRow.alloc h2 _)
  have HNW := Lib.hid (one_new w (.string x) 9)
  have HL := Lib.hid hl
  have H63 : Hid (st.length + 1 ≤ maxLen) := Lib.hid (by unfold maxLen; omega)
  have HBB := Lib.hid hB
  clear h1 h2 h3 hB hl
  go_enter Try.func62, Try.ntmps62
  go_wp2_with (at_builtin; refine wpList_append_own_at _ rfl (.tmp 3) (.tmp 5) 40 rfl B 9 i9 (.string ⟨#[]⟩) 1 16 Try.underlying40 hi9 hz9 hs9 hb9 rfl (by decide) _ st.length (st.map Value.string) rfl HOW.out ⟨w.heap.size, 0, none⟩ 1 1 [.string x] rfl rfl HNW.out (one_str x) H63.out (by have := HL.out; omega) (by have := HBB.out; simp; omega) ?_; intro v' w3 hown2 hg2 _ hat2; obtain ⟨p1, p3, p4⟩ := HP.out v' w3 hown2 hg2 hat2; obtain ⟨A3, c3, rfl, _⟩ := own_form hown2; have HP1 := Lib.hid p1; clear p1 hown2 hat2)
  go_end0
  exact HP1.out
set_option maxRecDepth 100000 in
set_option maxHeartbeats 1000000 in
theorem add65_any {B lb : Nat} {st : List ByteArray} {F : Nat → Prop} {w : World} (h : BoxS B lb st F w) (hB : B ≤ w.heap.size) (hl : st.length ≤ 1073741824) (x : ByteArray) :
    Calls Try.prog 65 #[.string x, .pointer (some ⟨lb, 0, none⟩)] w (AddRes B lb (st ++ [x]) F w) := by
  obtain ⟨rv, h1, h2, h3⟩ := h
  have c0 : w.cell? ⟨lb, 0, none⟩ = some rv := by simp [World.cell?, h1]
  obtain ⟨Ar, cr, rfl, _⟩ := own_form h2
  obtain ⟨i9, hi9, hz9, hs9, hb9⟩ := info_parts Try.info9
  have HP : Hid (∀ v' w3, w3.ownsRow B 9 1 v' (st.length + 1) (st.map Value.string ++ [.string x]) → (w.alloc (.cells #[.string x] 9)).grownBy w3 (Value.slice Ar st.length cr).ownBlock → (v'.ownBlock = (Value.slice Ar st.length cr).ownBlock ∨ v'.ownBlock = some (w.alloc (.cells #[.string x] 9)).heap.size) →
      AddRes B lb (st ++ [x]) F w (.returned (.tuple #[])) (w3.setCell ⟨lb, 0, none⟩ v') ∧ w3.cell? ⟨lb, 0, none⟩ = some (.slice Ar st.length cr) ∧ w3.frozen? ⟨lb, 0, none⟩ = false) := Lib.hid fun v' w3 a b c => BoxS.push h1 h2 h3 a b c
  have HOW : Hid ((w.alloc (.cells #[.string x] 9)).ownsRow B 9 1 (.slice Ar st.length cr) st.length (st.map Value.string)) := Lib.hid (World.ownsRow.alloc h2 _)
  have HNW := Lib.hid (one_new w (.string x) 9)
  have HL := Lib.hid hl
  have H63 : Hid (st.length + 1 ≤ maxLen) := Lib.hid (by unfold maxLen; omega)
  have HBB := Lib.hid hB
  clear h1 h2 h3 hB hl
  go_enter Try.func65, Try.ntmps65
  go_wp2_with (at_builtin; refine wpList_append_own_at _ rfl (.tmp 3) (.tmp 5) 40 rfl B 9 i9 (.string ⟨#[]⟩) 1 16 Try.underlying40 hi9 hz9 hs9 hb9 rfl (by decide) _ st.length (st.map Value.string) rfl HOW.out ⟨w.heap.size, 0, none⟩ 1 1 [.string x] rfl rfl HNW.out (one_str x) H63.out (by have := HL.out; omega) (by have := HBB.out; simp; omega) ?_; intro v' w3 hown2 hg2 _ hat2; obtain ⟨p1, p3, p4⟩ := HP.out v' w3 hown2 hg2 hat2; obtain ⟨A3, c3, rfl, _⟩ := own_form hown2; have HP1 := Lib.hid p1; clear p1 hown2 hat2)
  go_end0
  exact HP1.out
theorem AddRes.of_below {B lb : Nat} {st : List ByteArray} {F : Nat → Prop} {w w2 : World} (hb : Below w.heap.size w w2) {e : Ending} {w' : World} (h : AddRes B lb st F w2 e w') : AddRes B lb st F w e w' := by
  obtain ⟨rfl, F', h⟩ := h
  refine ⟨rfl, F', h.st, h.os.trans hb.os, h.tape.trans hb.tape, h.output.trans hb.output, Nat.le_trans hb.size h.size, fun k hk hn => (h.block k (Nat.lt_of_lt_of_le hk hb.size) hn).trans (hb.block k hk), fun k hk => ?_⟩
  have := hb.size
  rcases h.own k hk with h9 | h9
  · exact .inl h9
  · exact .inr (by omega)
theorem AddRes.same {B lb : Nat} {st : List ByteArray} {F : Nat → Prop} {w w2 : World} (h : BoxS B lb st F w) (hb : Below w.heap.size w w2) : AddRes B lb st F w (.returned (.tuple #[])) w2 :=
  ⟨rfl, F, h.keep (fun k hk => hb.block k (h.lt k hk)), hb.os, hb.tape, hb.output, hb.size, fun k hk _ => hb.block k hk, fun _ hk => .inl hk⟩
set_option maxRecDepth 100000 in
set_option maxHeartbeats 1000000 in
theorem add49_any {B lb : Nat} {st : List ByteArray} {F : Nat → Prop} {w : World} (h : BoxS B lb st F w) (hB : B ≤ w.heap.size) (hl : st.length ≤ 1073741824) {Q : Nat → Prop} {C : List Cls} {M : ByteArray → Option (ByteArray × Nat)} {I : List Ins} {H : HKey → Option Nat} {eb cb mb pb : Nat} {iv : Value} (hE : EnvAt Q C M I H eb cb mb pb iv w) (xb : Nat) (hxb : w.cell? ⟨xb, 0, none⟩ = some (.pointer (some ⟨eb, 0, none⟩))) (x : ByteArray) (hx : x.size ≤ maxLen) :
    Calls Try.prog 49 #[.string x, .pointer (some ⟨xb, 0, none⟩), .pointer (some ⟨lb, 0, none⟩)] w (AddRes B lb (if hasF C x = true then st ++ [x] else st) F w) := by
  have HHAS := Lib.hid (has_any hE x hx)
  obtain ⟨q, hq⟩ : ∃ q, hasF C x = q := ⟨_, rfl⟩
  rw [hq] at HHAS ⊢
  clear hq
  generalize hR : (if q = true then st ++ [x] else st) = R
  have HR := Lib.hid hR
  clear hR
  have HBX := Lib.hid h
  have HB0 := Lib.hid hB
  have HL0 := Lib.hid hl
  clear h hE hB hl
  go_enter Try.func49, Try.ntmps49
  go_wp2_with fail
  with_reducible refine HHAS.out.mono ?_
  rintro e w2 ⟨rfl, hb2⟩
  have HB2 := Lib.hid hb2
  clear hb2
  cases q with
  | true =>
    have hB : B ≤ w2.heap.size := Nat.le_trans HB0.out HB2.out.size
    have hl := HL0.out
    obtain ⟨rv, h1, h2, h3⟩ := HBX.out.keep (fun k hk => HB2.out.block k (HBX.out.lt k hk))
    have c0 : w2.cell? ⟨lb, 0, none⟩ = some rv := by simp [World.cell?, h1]
    obtain ⟨Ar, cr, rfl, _⟩ := own_form h2
    obtain ⟨i9, hi9, hz9, hs9, hb9⟩ := info_parts Try.info9
    have HP : Hid (∀ v' w3, w3.ownsRow B 9 1 v' (st.length + 1) (st.map Value.string ++ [.string x]) → (w2.alloc (.cells #[.string x] 9)).grownBy w3 (Value.slice Ar st.length cr).ownBlock → (v'.ownBlock = (Value.slice Ar st.length cr).ownBlock ∨ v'.ownBlock = some (w2.alloc (.cells #[.string x] 9)).heap.size) →
        AddRes B lb (st ++ [x]) F w2 (.returned (.tuple #[])) (w3.setCell ⟨lb, 0, none⟩ v') ∧ w3.cell? ⟨lb, 0, none⟩ = some (.slice Ar st.length cr) ∧ w3.frozen? ⟨lb, 0, none⟩ = false) := Lib.hid fun v' w3 a b c => BoxS.push h1 h2 h3 a b c
    have HOW : Hid ((w2.alloc (.cells #[.string x] 9)).ownsRow B 9 1 (.slice Ar st.length cr) st.length (st.map Value.string)) := Lib.hid (World.ownsRow.alloc h2 _)
    have HNW := Lib.hid (one_new w2 (.string x) 9)
    have HL := Lib.hid hl
    have H63 : Hid (st.length + 1 ≤ maxLen) := Lib.hid (by unfold maxLen; omega)
    have HBB := Lib.hid hB
    clear h1 h2 h3 hB hl
    obtain rfl : st ++ [x] = R := by have := HR.out; simpa using this
    clear HR
    go_wp2_with (at_builtin; refine wpList_append_own_at _ rfl (.tmp 7) (.tmp 9) 40 rfl B 9 i9 (.string ⟨#[]⟩) 1 16 Try.underlying40 hi9 hz9 hs9 hb9 rfl (by decide) _ st.length (st.map Value.string) rfl HOW.out ⟨w2.heap.size, 0, none⟩ 1 1 [.string x] rfl rfl HNW.out (one_str x) H63.out (by have := HL.out; omega) (by have := HBB.out; simp; omega) ?_; intro v' w3 hown2 hg2 _ hat2; obtain ⟨p1, p3, p4⟩ := HP.out v' w3 hown2 hg2 hat2; obtain ⟨A3, c3, rfl, _⟩ := own_form hown2; have HP1 := Lib.hid p1; clear p1 hown2 hat2)
    go_end0
    exact AddRes.of_below HB2.out HP1.out
  | false =>
    obtain rfl : st = R := by have := HR.out; simpa using this
    clear HR
    go_wp2
    go_end0
    exact AddRes.same HBX.out HB2.out
theorem no50_any (x : ByteArray) (w : World) : Calls Try.prog 50 #[.string x] w fun e w' => e = .returned (.tuple #[]) ∧ Below w.heap.size w w' := by
  go_enter Try.func50, Try.ntmps50
  go_wp2
  go_end0
  exact ⟨rfl, Below.refl _ _⟩
theorem no61_any (x : ByteArray) (w : World) : Calls Try.prog 61 #[.string x] w fun e w' => e = .returned (.tuple #[]) ∧ Below w.heap.size w w' := by
  go_enter Try.func61, Try.ntmps61
  go_wp2
  go_end0
  exact ⟨rfl, Below.refl _ _⟩
theorem no66_any (x : ByteArray) (w : World) : Calls Try.prog 66 #[.string x] w fun e w' => e = .returned (.tuple #[]) ∧ Below w.heap.size w w' := by
  go_enter Try.func66, Try.ntmps66
  go_wp2
  go_end0
  exact ⟨rfl, Below.refl _ _⟩
end Go.Proofs.Ytjfhncbfbhkhgaa
