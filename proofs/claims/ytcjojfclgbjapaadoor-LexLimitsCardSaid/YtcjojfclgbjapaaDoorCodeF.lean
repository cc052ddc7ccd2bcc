/- The contract of the program's Print (lex). Conditions: the row reads as tokens; at most 5000, their texts of at most 4000 bytes. -/
import Derived.Test.YtcjojfclgbjapaaDoorCodeE
import Derived.Test.YtcjojfclgbjapaaDoorLexWords
import Derived.Laws.MakeOwn
import Derived.Lib.Join
namespace Go.Proofs.YtcjojfclgbjapaaDoor
open Go.RowKit

/-- The texts of tokens but those of the end. -/
def textsOf (l : List Tok) : List (List UInt8) := (l.filter (fun t => t.kind != 6)).map (·.text)
theorem textsOf_snoc (l : List Tok) (t : Tok) : textsOf (l ++ [t]) = textsOf l ++ (if t.kind = 6 then [] else [t.text]) := by
  unfold textsOf
  rw [List.filter_append, List.map_append]
  by_cases h : t.kind = 6 <;> simp [h]
theorem textsOf_len (l : List Tok) : (textsOf l).length ≤ l.length := by
  unfold textsOf; rw [List.length_map]; exact List.length_filter_le _ _
theorem textsOf_mem {l : List Tok} {x : List UInt8} (h : x ∈ textsOf l) : ∃ t ∈ l, t.text = x := by
  unfold textsOf at h
  obtain ⟨t, ht, e⟩ := List.mem_map.1 h
  exact ⟨t, (List.mem_filter.1 ht).1, e⟩
theorem join_join (xs : List (List UInt8)) : Lib.join xs [32] = joinL xs := by
  cases xs with
  | nil => rfl
  | cons t r =>
    rw [Lib.join_cons]
    unfold joinL Lib.joinTail
    simp only [List.flatMap_def]
    rfl
theorem joinL_len2 (M : Nat) (xs : List (List UInt8)) (h : ∀ x ∈ xs, x.length ≤ M) : (joinL xs).length ≤ (M + 1) * xs.length := by
  have aux : ∀ r : List (List UInt8), (∀ x ∈ r, x.length ≤ M) → (r.flatMap (fun x => (32 : UInt8) :: x)).length ≤ (M + 1) * r.length := by
    intro r
    induction r with
    | nil => intro _; simp
    | cons x r ih =>
      intro h
      have h1 := h x (List.mem_cons_self ..)
      have := ih (fun y hy => h y (List.mem_cons_of_mem _ hy))
      simp only [List.flatMap_cons, List.length_append, List.length_cons, Nat.mul_add] at *
      omega
  cases xs with
  | nil => simp [joinL]
  | cons t r =>
    have h1 := h t (List.mem_cons_self ..)
    have := aux r (fun y hy => h y (List.mem_cons_of_mem _ hy))
    simp only [joinL, List.length_append, List.length_cons, Nat.mul_add] at *
    omega

set_option maxRecDepth 100000 in
set_option maxHeartbeats 1000000 in
theorem print_any (l : List Tok) (v : Value) (w : World) (hr : TokRow w v l) (hn : l.length ≤ 5000) (ht : ∀ t ∈ l, t.text.length ≤ 4000) :
    Calls Tryd.prog 16 #[v] w fun e w' => e = .returned (.string ⟨(joinL (textsOf l)).toArray⟩) ∧ Below w.heap.size w w' := by
  obtain ⟨A, c, rfl⟩ := tokRow_form hr
  have HR := Lib.hid hr
  have HT := Lib.hid ht
  clear hr ht
  obtain ⟨i0, hi, hz0, hz1, hz2⟩ := info_parts Tryd.info9
  obtain ⟨w1, hmk, hown0, hg0⟩ := run_make_own (P := Tryd.prog) (w := w) w.heap.size 23 9 i0 (.string ⟨#[]⟩) 1 Tryd.underlying23 hi hz0 hz1 .i64 .i64 l.length (by rw [hz2]; omega) (by unfold maxLen; omega) (Nat.le_refl _)
  have hB0 : Below w.heap.size w w1 := (Below.refl _ _).grown hg0 (Nat.le_refl _) (by simp)
  have HB0 := Lib.hid hB0
  clear hB0 hg0
  go_enter Tryd.func16, Tryd.ntmps16
  go_wp2
  clear hmk
  go_loopw [3, 11] (fun v i wr => ∃ k : Nat, k ≤ l.length ∧ i = .int .i64 k ∧ wr.ownsRow w.heap.size 9 1 v (textsOf (l.take k)).length ((textsOf (l.take k)).map SV) ∧ Below w.heap.size w wr) (fun _ i _ => l.length - (intOf i).toNat)
  case atStart => exact ⟨0, Nat.zero_le _, rfl, hown0, HB0.out⟩
  case round =>
    obtain ⟨k, hk, rfl, hown, hb⟩ := hrel
    have hsz := hb.size
    have hwl : (textsOf (l.take k)).length ≤ 5000 := Nat.le_trans (textsOf_len _) (by simp; omega)
    by_cases hlt : k < l.length
    · obtain ⟨g, d, e1, hgw, r1⟩ : ∃ g cap, Value.slice A l.length c = .slice (some ⟨g, 0, none⟩) l.length cap ∧ _ := by
        rcases HR.out with ⟨_, h9⟩ | h9
        · rw [h9] at hlt; simp at hlt
        · exact h9
      have e1' : A = some ⟨g, 0, none⟩ := by injection e1
      clear e1
      subst e1'
      obtain ⟨q0, q1, q2, q3⟩ := r1 k hlt
      have p0 := (hb.cell (p := ⟨g, k * 4, none⟩) hgw).trans q0
      have p1 := (hb.cell (p := ⟨g, k * 4 + 1, none⟩) hgw).trans q1
      have p2 := (hb.cell (p := ⟨g, k * 4 + 2, none⟩) hgw).trans q2
      have p3 := (hb.cell (p := ⟨g, k * 4 + 3, none⟩) hgw).trans q3
      have htk : l.take (k + 1) = l.take k ++ [l[k]] := List.take_succ_eq_append_getElem hlt
      have hst : textsOf (l.take (k + 1)) = textsOf (l.take k) ++ (if l[k].kind = 6 then [] else [l[k].text]) := by rw [htk, textsOf_snoc]
      have HST := Lib.hid hst
      clear r1 q0 q1 q2 q3 htk hst
      generalize l[k] = t at *
      have hki : (k : Int) < (l.length : Int) := by omega
      have hk0 : (0 : Int) ≤ (k : Int) := by omega
      by_cases h6 : t.kind = 6
      · have HE : Hid (textsOf (l.take (k + 1)) = textsOf (l.take k)) := by show _ = _; rw [HST.out, if_pos h6, List.append_nil]
        have h6' : ((t.kind : Int) != 6) = false := by simp; omega
        clear h6 HST
        have HB := Lib.hid hb
        clear hb
        go_wp2
        go_roundw
        case rel => exact ⟨k + 1, by omega, by go_num, by rw [HE.out]; exact hown.alloc _, HB.out.alloc hsz _⟩
        case measure => simp [intOf]; omega
      · have HE : Hid (textsOf (l.take (k + 1)) = textsOf (l.take k) ++ [t.text]) := by show _ = _; rw [HST.out, if_neg h6]
        have h6' : ((t.kind : Int) != 6) = true := by rw [bne_iff_ne]; omega
        clear h6 HST
        have HB := Lib.hid hb
        clear hb
        go_wp2_with (at_builtin; refine wpList_append_own _ rfl (.tmp 18) (.tmp 21) 23 rfl w.heap.size 9 i0 (.string ⟨#[]⟩) 1 16 Tryd.underlying23 hi hz0 hz1 hz2 rfl (by decide) _ _ _ rfl ((hown.alloc _).alloc _) ⟨wr.heap.size + 1, 0, none⟩ 1 1 [.string ⟨t.text.toArray⟩] rfl rfl (by intro j u h; have hj : j = 0 := (by have := (List.getElem?_eq_some_iff.1 h).1; simp at this; omega); subst hj; simp at h; subst h; simp [Addr.add, go_sem]) (by intro u hu; simp at hu; subst hu; rfl) (by unfold maxLen; omega) (by omega) (by simp; omega) ?_; intro v' w2 hown2 hg2 _)
        have HB3 : Below w.heap.size w w2 := ((HB.out.alloc hsz _).alloc (by simp; omega) _).grown (row := u3.ownBlock) hg2 (by simp; omega) (fun x hx => (hown.lt x hx).1)
        have hown3 : w2.ownsRow w.heap.size 9 1 v' (textsOf (l.take (k + 1))).length ((textsOf (l.take (k + 1))).map SV) := by
          rw [HE.out, List.length_append, List.map_append]; exact hown2
        clear hown2 hg2
        go_roundw
        case rel => exact ⟨k + 1, by omega, by go_num, hown3, HB3⟩
        case measure => simp [intOf]; omega
    · have hd : decide (k < l.length) = false := by simpa using hlt
      have hown3 : wr.ownsRow w.heap.size 9 1 u3 (textsOf l).length ((textsOf l).map SV) := by
        have e : l.take k = l := List.take_of_length_le (by omega)
        rw [e] at hown; exact hown
      have HB := Lib.hid hb
      clear hb hown
      have hlen : (joinL (textsOf l)).length ≤ 4001 * 5000 := Nat.le_trans (joinL_len2 4000 _ (fun x hx => by obtain ⟨t, h1, h2⟩ := textsOf_mem hx; rw [← h2]; exact HT.out t h1)) (Nat.mul_le_mul_left _ (Nat.le_trans (textsOf_len l) hn))
      have htl : (textsOf l).length ≤ 5000 := Nat.le_trans (textsOf_len l) hn
      rcases hown3.2 with ⟨hv, hz⟩ | ⟨g, cap, cur, hv, hg, hh, hcap, _, _, _⟩
      · have he : textsOf l = [] := List.eq_nil_of_length_eq_zero hz
        have HE : Hid (joinL (textsOf l) = []) := by show _ = _; rw [he]; rfl
        subst hv
        clear he hz hown3 hlen htl
        go_wp2_with fail
        refine (Tryd.strings_Join_none none 0 _ _).mono ?_
        rintro e w' ⟨rfl, hw'⟩
        obtain rfl := hw'.symm
        go_wp2
        go_ret
        exact ⟨by rw [HE.out]; rfl, HB.out⟩
      · subst hv
        have hgl : g < wr.heap.size := by
          rcases Nat.lt_or_ge g wr.heap.size with h9 | h9
          · exact h9
          · rw [Array.getElem?_eq_none h9] at hh; cases hh
        have hcells : ∀ (j : Nat) x, ((textsOf l).map (fun x => (⟨x.toArray⟩ : ByteArray)))[j]? = some x → wr.cell? ⟨g, 0 + j, none⟩ = some (.string x) := by
          intro j x hx
          rw [List.getElem?_map] at hx
          obtain ⟨y, hy, rfl⟩ := Option.map_eq_some_iff.1 hx
          have hjl : j < (textsOf l).length := (List.getElem?_eq_some_iff.1 hy).1
          have h9 := hown3.cellAt j (by omega)
          rw [Nat.zero_add, h9]
          rw [List.getElem?_map, hy]; rfl
        have hmm : ((textsOf l).map (fun x => (⟨x.toArray⟩ : ByteArray))).map (·.data.toList) = textsOf l := by simp [Function.comp_def]
        have hlz : ((textsOf l).map (fun x => (⟨x.toArray⟩ : ByteArray))).length = (textsOf l).length := by simp
        have hj := Tryd.strings_Join g 0 cap ((textsOf l).map (fun x => (⟨x.toArray⟩ : ByteArray))) ⟨#[32]⟩ wr hcells hgl (by rw [hlz]; omega) (by rw [hlz]; exact hcap) (by rw [hmm]; show (Lib.join (textsOf l) [32]).length ≤ _; rw [join_join]; omega)
        rw [hmm, hlz] at hj
        rw [show Lib.join (textsOf l) (⟨#[32]⟩ : ByteArray).data.toList = joinL (textsOf l) from join_join _] at hj
        have HJ := Lib.hid hj
        clear hj hmm hlz hcells hown3 hh hcap hlen
        go_wp2_with fail
        refine HJ.out.mono ?_
        rintro e w2 ⟨rfl, b2⟩
        go_wp2
        go_ret
        exact ⟨rfl, HB.out.trans (b2.mono hsz)⟩
end Go.Proofs.YtcjojfclgbjapaaDoor
