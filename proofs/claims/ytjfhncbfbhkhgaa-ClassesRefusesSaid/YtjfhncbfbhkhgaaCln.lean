/- slices.Clone at instances. Conditions: those that each theorem names. -/
import Derived.Test.YtjfhncbfbhkhgaaLck
import Derived.Laws.Cover3
namespace Go.Proofs.Ytjfhncbfbhkhgaa
open Go.RowKit
/-- The cells of an instance. -/
def insC (x : Ins) : List Value := [.string x.cls, .int .i64 x.atp, .string x.con, .slice none 0 0, .slice none 0 0, .slice none 0 0]
def insCs (I : List Ins) : List Value := (I.map insC).flatten
theorem flat6 {α : Type} {f : α → List Value} (hf : ∀ x, (f x).length = 6) : ∀ (l : List α) (i r : Nat) (x : α), l[i]? = some x → r < 6 → ((l.map f).flatten)[i * 6 + r]? = (f x)[r]?
  | [], _, _, _, h, _ => by simp at h
  | a :: l, 0, r, x, h, hr => by
    simp at h; subst h
    rw [List.map_cons, List.flatten_cons, List.getElem?_append_left (by rw [hf]; omega)]
    simp
  | a :: l, i + 1, r, x, h, hr => by
    rw [List.map_cons, List.flatten_cons, List.getElem?_append_right (by rw [hf]; omega), hf]
    have := flat6 hf l i r x (by simpa using h) hr
    rw [show (i + 1) * 6 + r - 6 = i * 6 + r by omega]; exact this
theorem insCs_len : ∀ I : List Ins, (insCs I).length = I.length * 6
  | [] => rfl
  | x :: l => by
    show (insC x ++ insCs l).length = _
    rw [List.length_append, insCs_len l]; simp [insC]; omega
theorem insCs_at {I : List Ins} {i r : Nat} {x : Ins} (h : I[i]? = some x) (hr : r < 6) : (insCs I)[i * 6 + r]? = (insC x)[r]? := flat6 (fun _ => rfl) I i r x h hr
theorem insCs_snoc (I : List Ins) (x : Ins) : insCs (I ++ [x]) = insCs I ++ insC x := by unfold insCs; rw [List.map_append, List.flatten_append]; simp
theorem insCs_one (I : List Ins) : ∀ u ∈ insCs I, u.oneCell' = true := by
  intro u hu
  obtain ⟨l, hl, hu⟩ := List.mem_flatten.1 hu
  obtain ⟨x, _, rfl⟩ := List.mem_map.1 hl
  simp [insC] at hu
  rcases hu with rfl | rfl | rfl | rfl <;> rfl
theorem InstsAt.cells {Q : Nat → Prop} {w : World} {ad : Addr} {n c : Nat} {I : List Ins} (h : InstsAt Q w (.slice (some ad) n c) I) : ∀ j u, (insCs I)[j]? = some u → w.cell? (ad.add j) = some u := by
  intro j u hu
  have hj := (List.getElem?_eq_some_iff.1 hu).1
  rw [insCs_len] at hj
  obtain ⟨x, hx⟩ : ∃ x, I[j / 6]? = some x := ⟨_, List.getElem?_eq_getElem (by omega)⟩
  obtain ⟨b, e, hb, q⟩ := h.at hx
  injection e with e
  subst e
  have h9 := insCs_at hx (r := j % 6) (by omega)
  rw [show j / 6 * 6 + j % 6 = j by omega, hu] at h9
  have hA : (⟨b, 0, none⟩ : Addr).add j = ⟨b, j, none⟩ := by
    by_cases e : j = 0
    · subst e; simp [Addr.add]
    · simp [Addr.add, e]
  rw [hA]
  obtain ⟨r, hr⟩ : ∃ r, j % 6 = r := ⟨_, rfl⟩
  have hjr : j = j / 6 * 6 + r := by omega
  rw [hr] at h9
  rw [hjr]
  have hr6 : r < 6 := by omega
  obtain ⟨q0, q1, q2, q3, q4, q5⟩ := q
  rcases (by omega : r = 0 ∨ r = 1 ∨ r = 2 ∨ r = 3 ∨ r = 4 ∨ r = 5) with rfl | rfl | rfl | rfl | rfl | rfl <;> (simp [insC] at h9; subst h9; assumption)
theorem InstsAt.of_own {B : Nat} {w : World} {v : Value} {I : List Ins} (h : w.ownsRow B 70 6 v I.length (insCs I)) : InstsAt (fun b => B ≤ b ∧ v.ownBlock = some b) w v I := by
  obtain ⟨A, c, e, hc, hm⟩ := own_form h
  refine ⟨A, c, e, hc, hm, ?_⟩
  rcases h.2 with ⟨h1, h2⟩ | ⟨g, cap, cur, h1, h2, h3, h4, h5, h6, h7⟩
  · exact .inl (List.eq_nil_of_length_eq_zero h2)
  · rw [h1] at e; injection e with e1 e2 e3
    subst e3
    refine .inr ⟨g, e1.symm, ⟨h2, by rw [h1]; rfl⟩, lt_of_block h3, fun i hi => ?_⟩
    rw [h1] at h
    have hx : I[i]? = some I[i] := List.getElem?_eq_getElem hi
    have t : ∀ r, r < 6 → w.cell? ⟨g, i * 6 + r, none⟩ = (insC I[i])[r]? := fun r hr => (h.cellAt (i * 6 + r) (by omega)).trans (insCs_at hx hr)
    exact ⟨t 0 (by omega), t 1 (by omega), t 2 (by omega), t 3 (by omega), t 4 (by omega), t 5 (by omega)⟩
def CloneRes (I : List Ins) (w : World) (e : Ending) (w' : World) : Prop :=
  (∃ v, e = .returned v ∧ InstsAt (fun b => w.heap.size ≤ b) w' v I) ∧ Below w.heap.size w w'
set_option maxRecDepth 100000 in
set_option maxHeartbeats 1000000 in
theorem clone_any {Q : Nat → Prop} {w : World} {v : Value} {I : List Ins} (h : InstsAt Q w v I) (hv : v = .slice none 0 0 ∨ ∃ ad n c, v = .slice (some ad) n c) (hl : I.length ≤ 536870912) :
    Calls Try.prog 32 #[v] w (CloneRes I w) := by
  obtain ⟨A, c, e, hc, hm, hr⟩ := h
  rcases hv with rfl | ⟨ad, n, c', rfl⟩
  · injection e with e1 e2 e3
    have hI : I = [] := List.eq_nil_of_length_eq_zero e2.symm
    subst hI
    clear hr hc hm e1 e2 e3
    have heq : (binOp .eql 25 (.slice none 0 0) (.slice none 0 0)).run Try.prog w = .ok (.bool true) w := by
      simp only [binOp]
      simp [run_equal_slice_nil w 25 70 none 0 0 Try.underlying25]
    go_enter Try.func32, Try.ntmps32
    go_wp2
    show bodyPost _ _ _ _ _ _
    go_ret
    exact ⟨⟨_, rfl, none, 0, rfl, Nat.le_refl _, Nat.zero_le _, .inl rfl⟩, Below.refl _ _⟩
  · injection e with e1 e2 e3
    subst e1 e2 e3
    have H : InstsAt Q w (.slice (some ad) I.length c') I := ⟨some ad, c', rfl, hc, hm, hr⟩
    have HC := Lib.hid H.cells
    have HL := Lib.hid hl
    obtain ⟨i70, hi70, hz70, hs70, hb70⟩ := info_parts Try.info70
    have HOW : Hid ((w.alloc (.cells #[] 70)).ownsRow w.heap.size 70 6 (.slice (some ⟨w.heap.size, 0, none⟩) 0 0) 0 []) := Lib.hid (World.ownsRow_lit w #[] 0 (Nat.le_refl _) (Nat.zero_le _) rfl)
    have HNW : Hid (∀ j u, (insCs I)[j]? = some u → (w.alloc (.cells #[] 70)).cell? (ad.add j) = some u) := Lib.hid fun j u hu => by
      have hj := (List.getElem?_eq_some_iff.1 hu).1
      rw [insCs_len] at hj
      obtain ⟨x, hx⟩ : ∃ x, I[0]? = some x := ⟨_, List.getElem?_eq_getElem (by omega)⟩
      obtain ⟨b, e, hb, _⟩ := H.at hx
      injection e with e; subst e
      have h9 := HC.out j u hu
      rw [← h9]
      exact (below_new w _).cell (p := (⟨b, 0, none⟩ : Addr).add j) (by unfold Addr.add; split <;> exact hb)
    have HLN : Hid ((insCs I).length = I.length * 6) := Lib.hid (insCs_len I)
    have H63 : Hid (0 + I.length ≤ maxLen) := Lib.hid (by unfold maxLen; omega)
    have HBY : Hid ((0 + I.length) * 112 ≤ 140737488355328) := Lib.hid (by omega)
    have heq : (binOp .eql 25 (.slice (some ad) I.length c') (.slice none 0 0)).run Try.prog w = .ok (.bool false) w := by
      simp only [binOp]
      simp [run_equal_slice_nil w 25 70 (some ad) I.length c' Try.underlying25]
    clear hr H
    go_enter Try.func32, Try.ntmps32
    go_wp2_with (at_builtin; refine wpList_append_own_at _ rfl (.tmp 5) (.tmp 6) 25 rfl w.heap.size 70 i70 _ 6 112 Try.underlying25 hi70 hz70 hs70 hb70 rfl (by decide) _ 0 [] rfl HOW.out ad I.length c' (insCs I) rfl HLN.out HNW.out (insCs_one I) H63.out HBY.out (by simp) ?_; intro v' w3 hown2 hg2 _ hat2; obtain ⟨A3, c3, rfl, _⟩ := own_form hown2; have HO := Lib.hid hown2; have HG := Lib.hid hg2; clear hown2 hg2 hat2)
    have HO2 : Hid (w3.ownsRow w.heap.size 70 6 (.slice A3 I.length c3) I.length (insCs I)) := Lib.hid (by have := HO.out; rw [Nat.zero_add, List.nil_append] at this; exact this)
    have HB : Hid (Below w.heap.size w w3) := Lib.hid (by
      have hg : (w.alloc (.cells #[] 70)).grownBy w3 (some w.heap.size) := HG.out
      exact (((Fr.refl (fun k => w.heap.size ≤ k) w).alloc _).grown hg (fun k e => by injection e with e; omega)).below (Nat.le_refl _) (fun k h => h))
    clear HO HG
    show bodyPost _ _ _ _ _ _
    go_ret
    exact ⟨⟨_, rfl, (InstsAt.of_own HO2.out).mono (fun b h _ => h.1)⟩, HB.out⟩
end Go.Proofs.Ytjfhncbfbhkhgaa
