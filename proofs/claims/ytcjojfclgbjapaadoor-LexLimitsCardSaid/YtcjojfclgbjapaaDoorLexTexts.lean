/- The contracts of the document's Gap and Texts and of the laws' source (chapter 2). Condition: the slices of numbers read as numbers. -/
import Derived.Test.YtcjojfclgbjapaaDoorLexSrc
import Derived.Test.YtcjojfclgbjapaaDoorLexLaw
namespace Go.Proofs.YtcjojfclgbjapaaDoor
open Go.RowKit

def SV (x : List UInt8) : Value := .string ⟨x.toArray⟩
/-- A slice of numbers that came in: it lies below block B. -/
def IntRow (B : Nat) (w : World) (A : Option Addr) (len : Nat) : Prop :=
  len = 0 ∨ ∃ b off, A = some ⟨b, off, none⟩ ∧ b < B ∧ ∀ i, i < len → ∃ z : Int, -9223372036854775808 ≤ z ∧ z ≤ 9223372036854775807 ∧ w.cell? ⟨b, off + i, none⟩ = some (.int .i64 z)
theorem IntRow.below {B X len : Nat} {A : Option Addr} {w w' : World} (h : IntRow B w A len) (hb : Below X w w') (hB : B ≤ X) : IntRow B w' A len := by
  rcases h with h | ⟨b, off, e, hlt, hc⟩
  · exact .inl h
  · refine .inr ⟨b, off, e, hlt, fun i hi => ?_⟩
    obtain ⟨z, z1, z2, hz⟩ := hc i hi
    exact ⟨z, z1, z2, (hb.cell (p := ⟨b, off + i, none⟩) (by show b < X; omega)).trans hz⟩
theorem Tryd.info9 : (Tryd.prog.info? 9).map (fun i => (i.zero, i.size, i.bytes)) = some (some (.string ⟨#[]⟩), 1, 16) := by kernel_rfl
theorem one_str (x : ByteArray) : ∀ u ∈ [Value.string x], u.oneCell' = true := by intro u hu; simp at hu; subst hu; rfl

/-- The call returned some blanks that may stand between tokens. -/
def SomeGap (w : World) (e : Ending) (w' : World) : Prop := ∃ g ∈ gapsL, e = .returned (.string ⟨g.toArray⟩) ∧ Below w.heap.size w w'
set_option maxHeartbeats 400000 in
theorem gap_any (n : Int) (w : World) (h1 : -9223372036854775808 ≤ n) (h2 : n ≤ 9223372036854775807) :
    Calls Tryd.prog 26 #[.int .i64 n] w (SomeGap w) := by
  go_enter Tryd.func26, Tryd.ntmps26
  go_wp2_with fail
  refine (around_any n 7 _ h1 h2 (by omega) (by omega)).mono ?_
  rintro e w' ⟨q, hq, rfl, rfl⟩
  have hN : Texts w.heap.size gapsL (w.alloc (.cells (gapsL.map (fun l => Value.string ⟨l.toArray⟩)).toArray 9)) := texts_new w gapsL 9
  have hql : q < gapsL.length := by show q < 7; omega
  have hcq := hN q hql
  have hmem : gapsL[q] ∈ gapsL := List.getElem_mem hql
  generalize gapsL[q] = g at *
  have HB : Hid (Below w.heap.size w (w.alloc (.cells (gapsL.map (fun l => Value.string ⟨l.toArray⟩)).toArray 9))) := (Below.refl _ _).alloc (Nat.le_refl _) _
  have e9 : (w.alloc (.cells (gapsL.map (fun l => Value.string ⟨l.toArray⟩)).toArray 9)) = w.alloc (Obj.cells #[Value.string { data := #[32] }, Value.string { data := #[10] }, Value.string { data := #[32, 32] }, Value.string { data := #[9] }, Value.string { data := #[32, 45, 45, 32, 97, 32, 98, 10] }, Value.string { data := #[45, 45, 10] }, Value.string { data := #[10, 10] }] 9) := rfl
  rw [e9] at hcq HB
  clear hN e9
  generalize w.alloc (Obj.cells #[Value.string { data := #[32] }, Value.string { data := #[10] }, Value.string { data := #[32, 32] }, Value.string { data := #[9] }, Value.string { data := #[32, 45, 45, 32, 97, 32, 98, 10] }, Value.string { data := #[45, 45, 10] }, Value.string { data := #[10, 10] }] 9) = W at *
  have hq0 : (0 : Int) ≤ (q : Int) := by omega
  go_wp2
  go_ret
  exact ⟨g, hmem, rfl, HB.out⟩

/-- What Texts made: texts of tokens, as many as there are numbers, thirty at most. -/
def SomeTexts (w : World) (len : Nat) (e : Ending) (w' : World) : Prop := ∃ (strs : List (List UInt8)) (v : Value), e = .returned v ∧ strs.length = min len 30 ∧ (∀ x ∈ strs, x ∈ textsL) ∧ w'.ownsRow (w.heap.size + 1) 9 1 v strs.length (strs.map SV) ∧ Below w.heap.size w w'

set_option maxRecDepth 100000 in
set_option maxHeartbeats 1000000 in
theorem texts_any (A : Option Addr) (len cap : Nat) (w : World) (hr : IntRow w.heap.size w A len) (hlen : len ≤ 9223372036854775807) :
    Calls Tryd.prog 9 #[.slice A len cap] w (SomeTexts w len) := by
  have HR := Lib.hid hr
  clear hr
  obtain ⟨j0, hj, hy0, hy1, hy2⟩ := info_parts Tryd.info9
  go_enter Tryd.func9, Tryd.ntmps9
  go_wp2
  have hN : Texts w.heap.size textsL (w.alloc (.cells (textsL.map (fun l => Value.string ⟨l.toArray⟩)).toArray 9)) := texts_new w textsL 9
  go_loopw [4, 5] (fun v i wr => ∃ (k : Nat) (strs : List (List UInt8)), k ≤ len ∧ k ≤ 30 ∧ i = .int .i64 k ∧ Hid (strs.length = k) ∧ Hid (∀ x ∈ strs, x ∈ textsL) ∧ wr.ownsRow (w.heap.size + 1) 9 1 v strs.length (strs.map SV) ∧ Below (w.heap.size + 1) (w.alloc (.cells (textsL.map (fun l => Value.string ⟨l.toArray⟩)).toArray 9)) wr) (fun _ i _ => 30 - (intOf i).toNat)
  case atStart => exact ⟨0, [], Nat.zero_le _, by omega, rfl, rfl, (fun x hx => absurd hx (by simp)), World.ownsRow_nil _ _ _ _, Below.refl _ _⟩
  case round =>
    obtain ⟨k, strs, hk, hk30, rfl, hsl, hall, hown, hb⟩ := hrel
    have hsz : w.heap.size + 1 ≤ wr.heap.size := by have := hb.size; simpa using this
    have HBW : Hid (Below w.heap.size w wr) := ((Below.refl _ _).alloc (Nat.le_refl _) _).trans (hb.mono (by omega))
    have HT := Lib.hid (hN.below (w' := wr) (X := w.heap.size + 1) hb (Nat.lt_succ_self _))
    have HB := Lib.hid hb
    have hs30 : strs.length ≤ 30 := by rw [hsl.out]; exact hk30
    clear hN hb
    by_cases hlt : k < len
    · by_cases h30 : k < 30
      · obtain ⟨b, off, rfl, hbB, hc⟩ : ∃ b off, A = some ⟨b, off, none⟩ ∧ b < w.heap.size ∧ ∀ i, i < len → ∃ z : Int, -9223372036854775808 ≤ z ∧ z ≤ 9223372036854775807 ∧ w.cell? ⟨b, off + i, none⟩ = some (.int .i64 z) := by
          rcases HR.out with h0 | h0
          · omega
          · exact h0
        obtain ⟨z, z1, z2, hz⟩ := hc k hlt
        have hzr : wr.cell? ⟨b, off + k, none⟩ = some (.int .i64 z) := (HBW.out.cell (p := ⟨b, off + k, none⟩) hbB).trans hz
        clear hc hz
        have h30' : decide ((k : Int) < 30) = true := by simp; omega
        have hki : (k : Int) < (len : Int) := by omega
        have hk0 : (0 : Int) ≤ (k : Int) := by omega
        go_wp2_with fail
        refine (around_any z 34 _ z1 z2 (by omega) (by omega)).mono ?_
        rintro e w' ⟨q, hq, rfl, rfl⟩
        have hql : q < textsL.length := by show q < 34; omega
        have hcq := HT.out q hql
        have hmem : textsL[q] ∈ textsL := List.getElem_mem hql
        generalize textsL[q] = t at *
        have hq0 : (0 : Int) ≤ (q : Int) := by omega
        go_wp2_with (at_builtin; refine wpList_append_own _ rfl (.tmp 17) (.tmp 28) 23 rfl (w.heap.size + 1) 9 j0 (.string ⟨#[]⟩) 1 16 Tryd.underlying23 hj hy0 hy1 hy2 rfl (by decide) _ _ _ rfl (hown.alloc _) ⟨wr.heap.size, 0, none⟩ 1 1 [.string ⟨t.toArray⟩] rfl rfl (cell_one_new _ _ _) (one_str _) (by unfold maxLen; omega) (by omega) (by simp; omega) ?_; intro v' w2 hown2 hg2 _)
        have HB3 : Below (w.heap.size + 1) (w.alloc (.cells (textsL.map (fun l => Value.string ⟨l.toArray⟩)).toArray 9)) w2 := (HB.out.alloc hsz _).grown (row := u4.ownBlock) hg2 (by simp; omega) (fun x hx => (hown.lt x hx).1)
        have hown3 : w2.ownsRow (w.heap.size + 1) 9 1 v' (strs ++ [t]).length ((strs ++ [t]).map SV) := by
          rw [List.map_append, List.length_append]; exact hown2
        clear hown2 hg2
        go_roundw
        case rel => exact ⟨k + 1, strs ++ [t], by omega, by omega, by go_num, by show (strs ++ [t]).length = k + 1; rw [List.length_append, hsl.out]; rfl, fun x hx => by rcases List.mem_append.1 hx with h9 | h9; exact hall.out x h9; rw [List.mem_singleton.1 h9]; exact hmem, hown3, HB3⟩
        case measure => simp [intOf]; omega
      · have h30' : decide ((k : Int) < 30) = false := by simp; omega
        go_wp2
        go_ret
        exact ⟨strs, _, rfl, by rw [hsl.out]; omega, hall.out, hown, HBW.out⟩
    · have hd : decide (k < len) = false := by simpa using hlt
      go_wp2
      go_ret
      exact ⟨strs, _, rfl, by rw [hsl.out]; omega, hall.out, hown, HBW.out⟩

/-- A slice of texts: it lies below block B. -/
def StrRow (B : Nat) (w : World) (A : Option Addr) (strs : List (List UInt8)) : Prop :=
  strs = [] ∨ ∃ g, A = some ⟨g, 0, none⟩ ∧ g < B ∧ ∀ i (h : i < strs.length), w.cell? ⟨g, i, none⟩ = some (SV strs[i])
theorem StrRow.below {B X : Nat} {A : Option Addr} {strs : List (List UInt8)} {w w' : World} (h : StrRow B w A strs) (hb : Below X w w') (hB : B ≤ X) : StrRow B w' A strs := by
  rcases h with h | ⟨g, e, hg, hc⟩
  · exact .inl h
  · exact .inr ⟨g, e, hg, fun i hi => (hb.cell (p := ⟨g, i, none⟩) (by show g < X; omega)).trans (hc i hi)⟩
theorem strRow_of_own {w : World} {base : Nat} {v : Value} {strs : List (List UInt8)} (h : w.ownsRow base 9 1 v strs.length (strs.map SV)) : ∃ A c, v = .slice A strs.length c ∧ StrRow w.heap.size w A strs := by
  rcases h.2 with ⟨hv, h0⟩ | ⟨g, cap, cur, hv, hg, hh, _⟩
  · exact ⟨none, 0, by rw [hv, h0], .inl (List.eq_nil_of_length_eq_zero h0)⟩
  · subst hv
    refine ⟨_, cap, rfl, .inr ⟨g, rfl, ?_, fun i hi => ?_⟩⟩
    · rcases Nat.lt_or_ge g w.heap.size with h9 | h9
      · exact h9
      · rw [Array.getElem?_eq_none h9] at hh; cases hh
    · rw [h.cellAt i (by omega)]; simp [hi]

/-- What source made: these texts, each with blanks ahead. -/
def SomeSource (w : World) (strs : List (List UInt8)) (e : Ending) (w' : World) : Prop := ∃ ps : List (List UInt8 × List UInt8), ps.map (·.2) = strs ∧ Fine ps ∧ e = .returned (.string ⟨(srcL ps).toArray⟩) ∧ Below w.heap.size w w'
theorem srcL_snoc (ps : List (List UInt8 × List UInt8)) (g t : List UInt8) : srcL (ps ++ [(g, t)]) = srcL ps ++ g ++ t := by simp [srcL]
theorem append_mk2 (a b : List UInt8) : (⟨a.toArray⟩ : ByteArray) ++ ⟨b.toArray⟩ = ⟨(a ++ b).toArray⟩ := by
  apply ByteArray.ext
  simp [ByteArray.data_append]

set_option maxRecDepth 100000 in
set_option maxHeartbeats 1000000 in
theorem source_any (A A2 : Option Addr) (strs : List (List UInt8)) (c len2 c2 : Nat) (w : World) (hs : StrRow w.heap.size w A strs) (hg : IntRow w.heap.size w A2 len2) (hn : strs.length ≤ 200) (hall : ∀ x ∈ strs, x ∈ textsL) :
    Calls Tryd.prog 11 #[.slice A strs.length c, .slice A2 len2 c2] w (SomeSource w strs) := by
  have HS := Lib.hid hs
  have HG := Lib.hid hg
  have HALL := Lib.hid hall
  clear hs hg hall
  go_enter Tryd.func11, Tryd.ntmps11
  go_wp2
  go_loopw [5, 6] (fun v i wr => ∃ (k : Nat) (ps : List (List UInt8 × List UInt8)), k ≤ strs.length ∧ i = .int .i64 k ∧ v = .string ⟨(srcL ps).toArray⟩ ∧ Hid (ps.map (·.2) = strs.take k) ∧ Hid (Fine ps) ∧ Below w.heap.size w wr) (fun _ i _ => strs.length - (intOf i).toNat)
  case atStart => exact ⟨0, [], Nat.zero_le _, rfl, rfl, rfl, (fun p hp => absurd hp (by simp)), Below.refl _ _⟩
  case round =>
    obtain ⟨k, ps, hk, rfl, rfl, hmap, hfine, hb⟩ := hrel
    have hpl : ps.length ≤ 200 := by
      have := congrArg List.length hmap.out
      simp at this; omega
    have hsl := srcL_len ps hfine.out
    have hsl2 : (srcL ps).length ≤ 3600 := by omega
    by_cases hlt : k < strs.length
    · obtain ⟨g, rfl, hgB, hc⟩ : ∃ g, A = some ⟨g, 0, none⟩ ∧ g < w.heap.size ∧ ∀ i (h : i < strs.length), w.cell? ⟨g, i, none⟩ = some (SV strs[i]) := by
        rcases HS.out with h0 | h0
        · rw [h0] at hlt; simp at hlt
        · exact h0
      have hck := hc k hlt
      have hmem := HALL.out strs[k] (List.getElem_mem hlt)
      have htk : strs.take (k + 1) = strs.take k ++ [strs[k]] := List.take_succ_eq_append_getElem hlt
      have HTK := Lib.hid htk
      have htl := (texts_len _ hmem).2
      clear hc htk
      generalize strs[k] = t at *
      have hki : (k : Int) < (strs.length : Int) := by omega
      have hk0 : (0 : Int) ≤ (k : Int) := by omega
      unfold SV at hck
      have HCK := Lib.hid hck
      have hts : (⟨t.toArray⟩ : ByteArray).size = t.length := by show t.toArray.size = _; simp
      by_cases hlg : k < len2
      · obtain ⟨b, off, rfl, hbB, hcz⟩ : ∃ b off, A2 = some ⟨b, off, none⟩ ∧ b < w.heap.size ∧ ∀ i, i < len2 → ∃ z : Int, -9223372036854775808 ≤ z ∧ z ≤ 9223372036854775807 ∧ w.cell? ⟨b, off + i, none⟩ = some (.int .i64 z) := by
          rcases HG.out with h0 | h0
          · omega
          · exact h0
        obtain ⟨z, z1, z2, hz⟩ := hcz k hlg
        have hzr : wr.cell? ⟨b, off + k, none⟩ = some (.int .i64 z) := (hb.cell (p := ⟨b, off + k, none⟩) hbB).trans hz
        have hlgi : (k : Int) < (len2 : Int) := by omega
        clear hcz hz hck
        go_wp2_with fail
        refine (gap_any z _ z1 z2).mono ?_
        rintro e w1 ⟨gp, hgp, rfl, b1⟩
        have hgl := (gaps_len _ hgp).2
        have B1 := hb.trans (b1.mono hb.size)
        have hct : w1.cell? ⟨g, k, none⟩ = some (.string ⟨t.toArray⟩) := (B1.cell (p := ⟨g, k, none⟩) hgB).trans HCK.out
        have hgs : (⟨gp.toArray⟩ : ByteArray).size = gp.length := by show gp.toArray.size = _; simp
        have HE : Hid (srcL (ps ++ [(gp, t)]) = srcL ps ++ gp ++ t) := srcL_snoc _ _ _
        have HM : Hid ((ps ++ [(gp, t)]).map (·.2) = strs.take (k + 1)) := by show _ = _; rw [List.map_append, hmap.out, HTK.out]; rfl
        have HF : Hid (Fine (ps ++ [(gp, t)])) := fun p hp => by
          rcases List.mem_append.1 hp with h9 | h9
          · exact hfine.out p h9
          · rw [List.mem_singleton.1 h9]; exact ⟨hgp, hmem⟩
        generalize srcL ps = S at *
        clear b1 hb
        go_wp2
        go_roundw
        case rel => exact ⟨k + 1, ps ++ [(gp, t)], by omega, by go_num, by rw [HE.out, ← append_mk2, ← append_mk2], HM, HF, B1⟩
        case measure => simp [intOf]; omega
      · have hd : decide (k < len2) = false := by simpa using hlg
        have hct : wr.cell? ⟨g, k, none⟩ = some (.string ⟨t.toArray⟩) := (hb.cell (p := ⟨g, k, none⟩) hgB).trans HCK.out
        have HE : Hid (srcL (ps ++ [(([32] : List UInt8), t)]) = srcL ps ++ [32] ++ t) := srcL_snoc _ _ _
        have HM : Hid ((ps ++ [(([32] : List UInt8), t)]).map (·.2) = strs.take (k + 1)) := by show _ = _; rw [List.map_append, hmap.out, HTK.out]; rfl
        have HF : Hid (Fine (ps ++ [(([32] : List UInt8), t)])) := fun p hp => by
          rcases List.mem_append.1 hp with h9 | h9
          · exact hfine.out p h9
          · rw [List.mem_singleton.1 h9]; exact ⟨(show ([32] : List UInt8) ∈ gapsL by decide), hmem⟩
        generalize srcL ps = S at *
        clear hck
        go_wp2
        go_roundw
        case rel => exact ⟨k + 1, ps ++ [(([32] : List UInt8), t)], by omega, by go_num, by rw [HE.out, ← append_mk2, ← append_mk2], HM, HF, hb⟩
        case measure => simp [intOf]; omega
    · have hd : decide (k < strs.length) = false := by simpa using hlt
      have HM : Hid (ps.map (·.2) = strs) := by show _ = _; rw [hmap.out, List.take_of_length_le (by omega)]
      go_wp2
      go_ret
      exact ⟨ps, HM.out, hfine.out, rfl, hb⟩
end Go.Proofs.YtcjojfclgbjapaaDoor
