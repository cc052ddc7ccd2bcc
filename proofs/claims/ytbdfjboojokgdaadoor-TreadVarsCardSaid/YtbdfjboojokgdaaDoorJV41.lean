/- The contracts of the document's Gap and Texts and of the laws' source (chapter 2). Condition: the slices of numbers read as numbers. The exact contract of the document's Texts (chapter 2): the texts are told by the numbers alone. Condition: the slice reads as numbers. -/
import Derived.Test.YtbdfjboojokgdaaDoorJV39
import Derived.Test.YtbdfjboojokgdaaDoorJV13
namespace Go.Proofs.YtbdfjboojokgdaaDoor.Lx
open Go.RowKit

def SV (x : List UInt8) : Value := .string ⟨x.toArray⟩
/-- A slice of numbers that came in: it lies below block B. -/
def IntRow (B : Nat) (w : World) (A : Option Addr) (len : Nat) : Prop :=
  len = 0 ∨ ∃ b off, A = some ⟨b, off, none⟩ ∧ b < B ∧ ∀ i, i < len → ∃ z : Int, -9223372036854775808 ≤ z ∧ z ≤ 9223372036854775807 ∧ w.cell? ⟨b, off + i, none⟩ = some (.int .i64 z)
theorem IntRow.below {B X len : Nat} {A : Option Addr} {w w' : World} (h : IntRow B w A len) (hb : Below X w w') (hB : B ≤ X) : IntRow B w' A len := by
  rcases h with h | ⟨b, off, e, hlt, hc⟩
  · exact .inl h
  · refine .inr ⟨b, off, e, hlt, fun i hi => ?_⟩
    obtain ⟨z, z1, z2, hz⟩ := hc i hi
    exact ⟨z, z1, z2, (hb.cell (p := ⟨b, off + i, none⟩) (by show b < X; omega)).trans hz⟩
theorem Tryd.info9 : (Tryd.prog.info? 9).map (fun i => (i.zero, i.size, i.bytes)) = some (some (.string ⟨#[]⟩), 1, 16) := by kernel_rfl
theorem one_str (x : ByteArray) : ∀ u ∈ [Value.string x], u.oneCell' = true := by intro u hu; simp at hu; subst hu; rfl

/-- The call returned some blanks that may stand between tokens. -/
def SomeGap (w : World) (e : Ending) (w' : World) : Prop := ∃ g ∈ gapsL, e = .returned (.string ⟨g.toArray⟩) ∧ Below w.heap.size w w'
/-- What Texts made: texts of tokens, as many as there are numbers, thirty at most. -/
def SomeTexts (w : World) (len : Nat) (e : Ending) (w' : World) : Prop := ∃ (strs : List (List UInt8)) (v : Value), e = .returned v ∧ strs.length = min len 30 ∧ (∀ x ∈ strs, x ∈ textsL) ∧ w'.ownsRow (w.heap.size + 1) 9 1 v strs.length (strs.map SV) ∧ Below w.heap.size w w'

set_option maxRecDepth 100000 in
set_option maxHeartbeats 1000000 in
theorem texts_any (A : Option Addr) (len cap : Nat) (w : World) (hr : IntRow w.heap.size w A len) (hlen : len ≤ 9223372036854775807) :
    Calls Tryd.prog 81 #[.slice A len cap] w (SomeTexts w len) := by
  have HR := Lib.hid hr
  clear hr
  obtain ⟨j0, hj, hy0, hy1, hy2⟩ := info_parts Tryd.info9
  go_enter Tryd.func81, Tryd.ntmps81
  go_wp2
  have hN : Texts w.heap.size textsL (w.alloc (.cells (textsL.map (fun l => Value.string ⟨l.toArray⟩)).toArray 9)) := texts_new w textsL 9
  go_loopw [4, 5] (fun v i wr => ∃ (k : Nat) (strs : List (List UInt8)), k ≤ len ∧ k ≤ 30 ∧ i = .int .i64 k ∧ Hid (strs.length = k) ∧ Hid (∀ x ∈ strs, x ∈ textsL) ∧ wr.ownsRow (w.heap.size + 1) 9 1 v strs.length (strs.map SV) ∧ Below (w.heap.size + 1) (w.alloc (.cells (textsL.map (fun l => Value.string ⟨l.toArray⟩)).toArray 9)) wr) (fun _ i _ => 30 - (intOf i).toNat)
  case atStart => exact ⟨0, [], Nat.zero_le _, by omega, rfl, rfl, (fun x hx => absurd hx (by simp)), World.ownsRow_nil _ _ _ _, Below.refl _ _⟩
  case round =>
    obtain ⟨k, strs, hk, hk30, rfl, hsl, hall, hown, hb⟩ := hrel
    have hsz : w.heap.size + 1 ≤ wr.heap.size := by have := hb.size; simpa using this
    have HBW : Hid (Below w.heap.size w wr) := ((Below.refl _ _).alloc (Nat.le_refl _) _).trans (hb.mono (by omega))
    have HT := Lib.hid (hN.below (w' := wr) (X := w.heap.size + 1) hb (Nat.lt_succ_self _))
    have HB := Lib.hid hb
    have hs30 : strs.length ≤ 30 := by rw [hsl.out]; exact hk30
    clear hN hb
    by_cases hlt : k < len
    · by_cases h30 : k < 30
      · obtain ⟨b, off, rfl, hbB, hc⟩ : ∃ b off, A = some ⟨b, off, none⟩ ∧ b < w.heap.size ∧ ∀ i, i < len → ∃ z : Int, -9223372036854775808 ≤ z ∧ z ≤ 9223372036854775807 ∧ w.cell? ⟨b, off + i, none⟩ = some (.int .i64 z) := by
          rcases HR.out with h0 | h0
          · omega
          · exact h0
        obtain ⟨z, z1, z2, hz⟩ := hc k hlt
        have hzr : wr.cell? ⟨b, off + k, none⟩ = some (.int .i64 z) := (HBW.out.cell (p := ⟨b, off + k, none⟩) hbB).trans hz
        clear hc hz
        have h30' : decide ((k : Int) < 30) = true := by simp; omega
        have hki : (k : Int) < (len : Int) := by omega
        have hk0 : (0 : Int) ≤ (k : Int) := by omega
        go_wp2_with fail
        refine (around_any z 34 _ z1 z2 (by omega) (by omega)).mono ?_
        rintro e w' ⟨q, hq, rfl, rfl⟩
        have hql : q < textsL.length := by show q < 34; omega
        have hcq := HT.out q hql
        have hmem : textsL[q] ∈ textsL := List.getElem_mem hql
        generalize textsL[q] = t at *
        have hq0 : (0 : Int) ≤ (q : Int) := by omega
        go_wp2_with (at_builtin; refine wpList_append_own _ rfl (.tmp 17) (.tmp 28) 28 rfl (w.heap.size + 1) 9 j0 (.string ⟨#[]⟩) 1 16 Tryd.underlying28 hj hy0 hy1 hy2 rfl (by decide) _ _ _ rfl (hown.alloc _) ⟨wr.heap.size, 0, none⟩ 1 1 [.string ⟨t.toArray⟩] rfl rfl (cell_one_new _ _ _) (one_str _) (by unfold maxLen; omega) (by omega) (by simp; omega) ?_; intro v' w2 hown2 hg2 _)
        have HB3 : Below (w.heap.size + 1) (w.alloc (.cells (textsL.map (fun l => Value.string ⟨l.toArray⟩)).toArray 9)) w2 := (HB.out.alloc hsz _).grown (row := u4.ownBlock) hg2 (by simp; omega) (fun x hx => (hown.lt x hx).1)
        have hown3 : w2.ownsRow (w.heap.size + 1) 9 1 v' (strs ++ [t]).length ((strs ++ [t]).map SV) := by
          rw [List.map_append, List.length_append]; exact hown2
        clear hown2 hg2
        go_roundw
        case rel => exact ⟨k + 1, strs ++ [t], by omega, by omega, by go_num, by show (strs ++ [t]).length = k + 1; rw [List.length_append, hsl.out]; rfl, fun x hx => by rcases List.mem_append.1 hx with h9 | h9; exact hall.out x h9; rw [List.mem_singleton.1 h9]; exact hmem, hown3, HB3⟩
        case measure => simp [intOf]; omega
      · have h30' : decide ((k : Int) < 30) = false := by simp; omega
        go_wp2
        go_ret
        exact ⟨strs, _, rfl, by rw [hsl.out]; omega, hall.out, hown, HBW.out⟩
    · have hd : decide (k < len) = false := by simpa using hlt
      go_wp2
      go_ret
      exact ⟨strs, _, rfl, by rw [hsl.out]; omega, hall.out, hown, HBW.out⟩

/-- A slice of texts: it lies below block B. -/
def StrRow (B : Nat) (w : World) (A : Option Addr) (strs : List (List UInt8)) : Prop :=
  strs = [] ∨ ∃ g, A = some ⟨g, 0, none⟩ ∧ g < B ∧ ∀ i (h : i < strs.length), w.cell? ⟨g, i, none⟩ = some (SV strs[i])
theorem StrRow.below {B X : Nat} {A : Option Addr} {strs : List (List UInt8)} {w w' : World} (h : StrRow B w A strs) (hb : Below X w w') (hB : B ≤ X) : StrRow B w' A strs := by
  rcases h with h | ⟨g, e, hg, hc⟩
  · exact .inl h
  · exact .inr ⟨g, e, hg, fun i hi => (hb.cell (p := ⟨g, i, none⟩) (by show g < X; omega)).trans (hc i hi)⟩
theorem strRow_of_own {w : World} {base : Nat} {v : Value} {strs : List (List UInt8)} (h : w.ownsRow base 9 1 v strs.length (strs.map SV)) : ∃ A c, v = .slice A strs.length c ∧ StrRow w.heap.size w A strs := by
  rcases h.2 with ⟨hv, h0⟩ | ⟨g, cap, cur, hv, hg, hh, _⟩
  · exact ⟨none, 0, by rw [hv, h0], .inl (List.eq_nil_of_length_eq_zero h0)⟩
  · subst hv
    refine ⟨_, cap, rfl, .inr ⟨g, rfl, ?_, fun i hi => ?_⟩⟩
    · rcases Nat.lt_or_ge g w.heap.size with h9 | h9
      · exact h9
      · rw [Array.getElem?_eq_none h9] at hh; cases hh
    · rw [h.cellAt i (by omega)]; simp [hi]

/-- What source made: these texts, each with blanks ahead. -/
def SomeSource (w : World) (strs : List (List UInt8)) (e : Ending) (w' : World) : Prop := ∃ ps : List (List UInt8 × List UInt8), ps.map (·.2) = strs ∧ Fine ps ∧ e = .returned (.string ⟨(srcL ps).toArray⟩) ∧ Below w.heap.size w w'
theorem srcL_snoc (ps : List (List UInt8 × List UInt8)) (g t : List UInt8) : srcL (ps ++ [(g, t)]) = srcL ps ++ g ++ t := by simp [srcL]
theorem append_mk2 (a b : List UInt8) : (⟨a.toArray⟩ : ByteArray) ++ ⟨b.toArray⟩ = ⟨(a ++ b).toArray⟩ := by
  apply ByteArray.ext
  simp [ByteArray.data_append]

end Go.Proofs.YtbdfjboojokgdaaDoor.Lx
namespace Go.Proofs.YtbdfjboojokgdaaDoor.Lx
open Go.RowKit

def aroundI (n m : Int) : Int := if n < 0 then -((n + 1).tmod m) else n % m
theorem aroundI_bd (n m : Int) (hm : 0 < m) : 0 ≤ aroundI n m ∧ aroundI n m < m := by
  unfold aroundI
  split
  · constructor
    · have h := Int.tmod_nonneg (a := -(n + 1)) m (by omega)
      rw [Int.neg_tmod] at h; exact h
    · have h := Int.tmod_lt_of_pos (-(n + 1)) hm
      rw [Int.neg_tmod] at h; exact h
  · exact ⟨Int.emod_nonneg _ (by omega), Int.emod_lt_of_pos _ hm⟩
theorem ret_i64 {a b : Int} (h : a = b) : Ending.returned (.int .i64 a) = .returned (.int .i64 b) := by rw [h]
set_option maxHeartbeats 400000 in
theorem around_is (n m : Int) (w : World) (h1 : -9223372036854775808 ≤ n) (h2 : n ≤ 9223372036854775807) (hm : 0 < m) (hm' : m ≤ 9223372036854775807) :
    Calls Tryd.prog 36 #[.int .i64 n, .int .i64 m] w fun e w' => e = .returned (.int .i64 (aroundI n m)) ∧ w = w' := by
  by_cases hn : n < 0
  · have HE : Hid (aroundI n m = -((n + 1).tmod m)) := by show _ = _; unfold aroundI; rw [if_pos hn]
    go_enter Tryd.func36, Tryd.ntmps36
    go_wp2
    go_ret
    exact ⟨ret_i64 HE.out.symm, rfl⟩
  · have HE : Hid (aroundI n m = n % m) := by show _ = _; unfold aroundI; rw [if_neg hn]
    have hn0 : 0 ≤ n := by omega
    go_enter Tryd.func36, Tryd.ntmps36
    go_wp2
    go_ret
    exact ⟨ret_i64 HE.out.symm, rfl⟩

/-- A slice of numbers, told by a function. -/
def IntRowF (B : Nat) (w : World) (A : Option Addr) (len : Nat) (f : Nat → Int) : Prop :=
  len = 0 ∨ ∃ b off, A = some ⟨b, off, none⟩ ∧ b < B ∧ ∀ i, i < len → -9223372036854775808 ≤ f i ∧ f i ≤ 9223372036854775807 ∧ w.cell? ⟨b, off + i, none⟩ = some (.int .i64 (f i))
theorem intRowF_of {B : Nat} {w : World} {A : Option Addr} {len : Nat} (h : IntRow B w A len) : ∃ f, IntRowF B w A len f := by
  rcases h with h | ⟨b, off, e, hb, hc⟩
  · exact ⟨fun _ => 0, .inl h⟩
  · have hx : ∀ i, ∃ z : Int, i < len → -9223372036854775808 ≤ z ∧ z ≤ 9223372036854775807 ∧ w.cell? ⟨b, off + i, none⟩ = some (.int .i64 z) := by
      intro i
      by_cases hi : i < len
      · obtain ⟨z, hz⟩ := hc i hi; exact ⟨z, fun _ => hz⟩
      · exact ⟨0, fun h9 => absurd h9 hi⟩
    obtain ⟨f, hf⟩ := Classical.axiomOfChoice hx
    exact ⟨f, .inr ⟨b, off, e, hb, fun i hi => hf i hi⟩⟩
theorem IntRowF.row {B : Nat} {w : World} {A : Option Addr} {len : Nat} {f : Nat → Int} (h : IntRowF B w A len f) : IntRow B w A len := by
  rcases h with h | ⟨b, off, e, hb, hc⟩
  · exact .inl h
  · exact .inr ⟨b, off, e, hb, fun i hi => ⟨f i, hc i hi⟩⟩
theorem IntRowF.below {B X : Nat} {A : Option Addr} {len : Nat} {f : Nat → Int} {w w' : World} (h : IntRowF B w A len f) (hb : Below X w w') (hB : B ≤ X) : IntRowF B w' A len f := by
  rcases h with h | ⟨b, off, e, hlt, hc⟩
  · exact .inl h
  · exact .inr ⟨b, off, e, hlt, fun i hi => ⟨(hc i hi).1, (hc i hi).2.1, (hb.cell (p := ⟨b, off + i, none⟩) (by show b < X; omega)).trans (hc i hi).2.2⟩⟩
theorem IntRowF.mono {B B2 len : Nat} {A : Option Addr} {f : Nat → Int} {w : World} (h : IntRowF B w A len f) (hB : B ≤ B2) : IntRowF B2 w A len f := by
  rcases h with h | ⟨b, off, e, hlt, hc⟩
  · exact .inl h
  · exact .inr ⟨b, off, e, by omega, hc⟩

def textI (z : Int) : List UInt8 := (textsL[(aroundI z 34).toNat]?).getD []
def textsF (f : Nat → Int) (n : Nat) : List (List UInt8) := (List.range n).map (fun i => textI (f i))
theorem textI_mem (z : Int) : textI z ∈ textsL := by
  have hb := aroundI_bd z 34 (by omega)
  have hl : (aroundI z 34).toNat < textsL.length := by show _ < 34; omega
  unfold textI
  rw [List.getElem?_eq_getElem hl]
  exact List.getElem_mem hl
theorem textsF_mem (f : Nat → Int) (n : Nat) : ∀ x ∈ textsF f n, x ∈ textsL := by
  intro x hx
  obtain ⟨i, _, rfl⟩ := List.mem_map.1 hx
  exact textI_mem _
theorem textsF_len (f : Nat → Int) (n : Nat) : (textsF f n).length = n := by simp [textsF]
theorem textsF_succ (f : Nat → Int) (n : Nat) : textsF f (n + 1) = textsF f n ++ [textI (f n)] := by simp [textsF, List.range_succ]

/-- What Texts made. -/
def TextsMade (w : World) (strs : List (List UInt8)) (e : Ending) (w' : World) : Prop := ∃ v : Value, e = .returned v ∧ w'.ownsRow (w.heap.size + 1) 9 1 v strs.length (strs.map SV) ∧ Below w.heap.size w w'

set_option maxRecDepth 100000 in
set_option maxHeartbeats 1000000 in
theorem texts_is (A : Option Addr) (len cap : Nat) (f : Nat → Int) (w : World) (hr : IntRowF w.heap.size w A len f) (hlen : len ≤ 9223372036854775807) :
    Calls Tryd.prog 81 #[.slice A len cap] w (TextsMade w (textsF f (min len 30))) := by
  have HR := Lib.hid hr
  clear hr
  obtain ⟨j0, hj, hy0, hy1, hy2⟩ := info_parts Tryd.info9
  go_enter Tryd.func81, Tryd.ntmps81
  go_wp2
  have hN : Texts w.heap.size textsL (w.alloc (.cells (textsL.map (fun l => Value.string ⟨l.toArray⟩)).toArray 9)) := texts_new w textsL 9
  go_loopw [4, 5] (fun v i wr => ∃ k : Nat, k ≤ len ∧ k ≤ 30 ∧ i = .int .i64 k ∧ wr.ownsRow (w.heap.size + 1) 9 1 v (textsF f k).length ((textsF f k).map SV) ∧ Below (w.heap.size + 1) (w.alloc (.cells (textsL.map (fun l => Value.string ⟨l.toArray⟩)).toArray 9)) wr) (fun _ i _ => 30 - (intOf i).toNat)
  case atStart => exact ⟨0, Nat.zero_le _, by omega, rfl, World.ownsRow_nil _ _ _ _, Below.refl _ _⟩
  case round =>
    obtain ⟨k, hk, hk30, rfl, hown, hb⟩ := hrel
    have hsz : w.heap.size + 1 ≤ wr.heap.size := by have := hb.size; simpa using this
    have HBW : Hid (Below w.heap.size w wr) := ((Below.refl _ _).alloc (Nat.le_refl _) _).trans (hb.mono (by omega))
    have HT := Lib.hid (hN.below (w' := wr) (X := w.heap.size + 1) hb (Nat.lt_succ_self _))
    have HB := Lib.hid hb
    have hs30 : (textsF f k).length ≤ 30 := by rw [textsF_len]; exact hk30
    clear hN hb
    by_cases hlt : k < len
    · by_cases h30 : k < 30
      · obtain ⟨b, off, rfl, hbB, hc⟩ : ∃ b off, A = some ⟨b, off, none⟩ ∧ b < w.heap.size ∧ ∀ i, i < len → -9223372036854775808 ≤ f i ∧ f i ≤ 9223372036854775807 ∧ w.cell? ⟨b, off + i, none⟩ = some (.int .i64 (f i)) := by
          rcases HR.out with h0 | h0
          · omega
          · exact h0
        obtain ⟨z1, z2, hz⟩ := hc k hlt
        have hsn := textsF_succ f k
        have HSN := Lib.hid hsn
        have htI : textI (f k) = (textsL[(aroundI (f k) 34).toNat]?).getD [] := rfl
        have HTI := Lib.hid htI
        clear hsn htI
        generalize f k = z at *
        have hzr : wr.cell? ⟨b, off + k, none⟩ = some (.int .i64 z) := (HBW.out.cell (p := ⟨b, off + k, none⟩) hbB).trans hz
        clear hc hz
        have h30' : decide ((k : Int) < 30) = true := by simp; omega
        have hki : (k : Int) < (len : Int) := by omega
        have hk0 : (0 : Int) ≤ (k : Int) := by omega
        have hbd := aroundI_bd z 34 (by omega)
        go_wp2_with fail
        refine (around_is z 34 _ z1 z2 (by omega) (by omega)).mono ?_
        rintro e w' ⟨rfl, rfl⟩
        obtain ⟨q, hq⟩ := Int.eq_ofNat_of_zero_le hbd.1
        rw [hq] at hbd ⊢
        have hql : q < textsL.length := by show q < 34; omega
        have hcq := HT.out q hql
        have HT9 : Hid (textI z = textsL[q]) := by
          show _ = _
          rw [HTI.out, hq, show ((q : Int)).toNat = q from rfl, List.getElem?_eq_getElem hql]; rfl
        clear hq HTI
        generalize textsL[q] = t at *
        have hq0 : (0 : Int) ≤ (q : Int) := by omega
        have hq34 : (q : Int) < 34 := by omega
        clear hbd
        go_wp2_with (at_builtin; refine wpList_append_own _ rfl (.tmp 17) (.tmp 28) 28 rfl (w.heap.size + 1) 9 j0 (.string ⟨#[]⟩) 1 16 Tryd.underlying28 hj hy0 hy1 hy2 rfl (by decide) _ _ _ rfl (hown.alloc _) ⟨wr.heap.size, 0, none⟩ 1 1 [.string ⟨t.toArray⟩] rfl rfl (cell_one_new _ _ _) (one_str _) (by unfold maxLen; omega) (by omega) (by simp; omega) ?_; intro v' w2 hown2 hg2 _)
        have HB3 : Below (w.heap.size + 1) (w.alloc (.cells (textsL.map (fun l => Value.string ⟨l.toArray⟩)).toArray 9)) w2 := (HB.out.alloc hsz _).grown (row := u4.ownBlock) hg2 (by simp; omega) (fun x hx => (hown.lt x hx).1)
        have hown3 : w2.ownsRow (w.heap.size + 1) 9 1 v' (textsF f (k + 1)).length ((textsF f (k + 1)).map SV) := by
          rw [HSN.out, HT9.out, List.map_append, List.length_append]; exact hown2
        clear hown2 hg2
        go_roundw
        case rel => exact ⟨k + 1, by omega, by omega, by go_num, hown3, HB3⟩
        case measure => simp [intOf]; omega
      · have h30' : decide ((k : Int) < 30) = false := by simp; omega
        have hkm : min len 30 = k := by omega
        have HK := Lib.hid hkm
        clear hkm
        go_wp2
        go_ret
        exact ⟨_, rfl, by rw [HK.out]; exact hown, HBW.out⟩
    · have hd : decide (k < len) = false := by simpa using hlt
      have hkm : min len 30 = k := by omega
      have HK := Lib.hid hkm
      clear hkm
      go_wp2
      go_ret
      exact ⟨_, rfl, by rw [HK.out]; exact hown, HBW.out⟩
end Go.Proofs.YtbdfjboojokgdaaDoor.Lx
