/- The contract of types.Same (chapter 4). Conditions: names are of at most 2^40 bytes, the first type has at most 2^28 nodes. The contract of the document's Same of types (chapter 4): it tells what the program's own way tells. Conditions: names of at most 2^20 bytes, numbers from 0 to 2^20, at most 2^20 nodes. The contract of the document's at (chapter 4), and small mathematics of what is put: the first of a name. No conditions but those that each theorem names. -/
import Derived.Test.YtbdfjboojokgdaaDoorJU39
import Derived.Test.YtbdfjboojokgdaaDoorJU38
import Derived.Test.YtbdfjboojokgdaaDoorJU18
import Derived.Test.YtbdfjboojokgdaaDoorJU11
namespace Go.Proofs.YtbdfjboojokgdaaDoor
open Go.RowKit

theorem sameIs_any (ma mb : Nat) (hne : ma ≠ mb) : ∀ n, SameIs ma mb n := by
  intro n
  induction n with
  | zero => intro a b P Q va vb fa fb d N w han; cases a <;> simp [Ty.sz] at han
  | succ n ih =>
    intro a b P Q va vb fa fb d N w han ha hb hsa hsb hma hmb hN hd0 hd
    by_cases hno : a.form ≠ b.form ∨ a.num ≠ b.num
    · exact same_no ma mb a b P Q va vb fa fb d N w ha hb hsa hsb hma hmb hno
    · have hf : a.form = b.form := Classical.byContradiction (fun h => hno (.inl h))
      have hn : a.num = b.num := Classical.byContradiction (fun h => hno (.inr h))
      have hal := args_len hf
      by_cases h2 : a.form = 2
      · exact same_var ma mb a b P Q va vb fa fb d N w ha hb hsa hsb hma hmb h2 (hf ▸ h2) hn hal
      · by_cases h5 : a.form = 5
        · exact same_all ma mb a b P Q va vb fa fb d N w ha hb hsa hsb hma hmb hN hd0 hd hne n ih han h5 (hf ▸ h5) hn hal
        · exact same_else ma mb a b P Q va vb fa fb d N w ha hb hsa hsb hma hmb hN hd0 hd hne n ih han hf h2 h5 hn hal
def noG : ByteArray → Int := fun _ => 0
theorem MapG.new (w : World) : MapG (w.alloc (.map #[] 0)) w.heap.size noG 0 := ⟨0, _, MapS.made Tryd.prog 9 w, Nat.le_refl _, fun _ => .inl ⟨rfl, rfl⟩⟩
set_option maxRecDepth 100000 in
set_option maxHeartbeats 1000000 in
theorem same_any (P Q : Nat → Prop) (a b : Ty) (va vb : Value) (w : World) (ha : TyAt P w a va) (hb : TyAt Q w b vb) (hsa : a.short) (hsb : b.short) (hsz : a.sz ≤ 268435456) :
    Calls Tryd.prog 25 #[va, vb] w fun e w' => e = .returned (.bool (sameT noG noG 0 a b)) ∧ Below w.heap.size w w' := by
  obtain ⟨f1, n1, s1, A1, l1, c1, rfl⟩ := ha.flat
  obtain ⟨f2, n2, s2, A2, l2, c2, rfl⟩ := hb.flat
  have HA := Lib.hid ha
  have HB := Lib.hid hb
  clear ha hb
  obtain ⟨W, eW, q1, q2, b1, z1⟩ := two_boxes w (.int .i64 f1) (.int .i64 n1) (.string s1) (.slice A1 l1 c1) (.int .i64 f2) (.int .i64 n2) (.string s2) (.slice A2 l2 c2) 25 25
  have HEW := Lib.hid eW
  have hg1 := (MapG.new W).on (below_new _ (.map #[] 0))
  have hg2 := MapG.new (W.alloc (.map #[] 0))
  have b2 : Below W.heap.size W ((W.alloc (.map #[] 0)).alloc (.map #[] 0)) := below2 W _ _
  have z2 : ((W.alloc (.map #[] 0)).alloc (.map #[] 0)).heap.size = W.heap.size + 2 := by simp
  simp only [World.size_alloc] at hg2
  obtain ⟨X, eX⟩ : ∃ X, (W.alloc (.map #[] 0)).alloc (.map #[] 0) = X := ⟨_, rfl⟩
  rw [eX] at hg1 hg2 b2 z2
  have HEX := Lib.hid eX
  have bX := b1.trans (b2.mono b1.size)
  obtain ⟨x0, x1, x2, x3, x4, _⟩ := q1
  obtain ⟨y0, y1, y2, y3, y4, _⟩ := q2
  have HC := Lib.hid (sameIs_any W.heap.size (W.heap.size + 1) (by omega) _ a b P Q _ _ noG noG 0 0 X (Nat.le_refl _) (HA.out.on bX) (HB.out.on bX) hsa hsb hg1 hg2 (by omega) (by omega) (by omega))
  rw [show W.heap.size = w.heap.size + 1 + 1 by omega] at HC
  have HBX := Lib.hid bX
  clear eW eX hg1 hg2 hsa hsb hsz HA HB b1 b2 bX
  have hw1 : w.heap.size ≤ W.heap.size := by omega
  have hmm : ∀ y : World, (Instr.makeMap 105 none).run Tryd.prog y = .ok (.map (some y.heap.size)) (y.alloc (.map #[] 0)) := fun y => run_makeMap 105 y
  go_enter Tryd.func25, Tryd.ntmps25
  go_wp2_with fail
  rw [HEW.out]
  go_wp2_with fail
  rw [HEX.out]
  (with_reducible refine HC.out.mono ?_)
  intro e y h
  have he := h.1
  subst he
  have HR := Lib.hid h.2.2.2
  clear h
  go_wp2
  go_ret
  exact ⟨rfl, HBX.out.trans (Fr.below HR.out (by omega) (fun k hk => by rcases hk with rfl | rfl <;> omega))⟩
end Go.Proofs.YtbdfjboojokgdaaDoor
namespace Go.Proofs.YtbdfjboojokgdaaDoor
open Go.RowKit

/-- Types that both ways tell. -/
structure Ty.tame (t : Ty) : Prop where
  ok : t.okN
  lt : t.lt 1048576
  sz : t.sz ≤ 1048576
theorem tame_same {a b : Ty} (ha : a.tame) (hb : b.tame) : ((⟨(a.nt []).pr.toArray⟩ : ByteArray).toList == (⟨(b.nt []).pr.toArray⟩ : ByteArray).toList) = sameT noG noG 0 a b := by
  have h1 : ((⟨(a.nt []).pr.toArray⟩ : ByteArray).toList = (⟨(b.nt []).pr.toArray⟩ : ByteArray).toList) ↔ sameT noG noG 0 a b = true := by
    rw [Lib.toList_data, Lib.toList_data]
    show (a.nt []).pr = (b.nt []).pr ↔ _
    rw [ntpr_eq (nt_ok a [] ha.ok) (nt_ok b [] hb.ok)]
    exact (same_nt0 a b).symm
  cases h2 : sameT noG noG 0 a b with
  | true => rw [beq_iff_eq]; exact h1.2 h2
  | false => rw [beq_eq_false_iff_ne]; intro e; rw [h1.1 e] at h2; cases h2
set_option maxRecDepth 100000 in
set_option maxHeartbeats 1000000 in
theorem refsame_any (P Q : Nat → Prop) (a b : Ty) (va vb : Value) (w : World) (ha : TyAt P w a va) (hb : TyAt Q w b vb) (hta : a.tame) (htb : b.tame) :
    Calls Tryd.prog 26 #[va, vb] w fun e w' => e = .returned (.bool (sameT noG noG 0 a b)) ∧ Below w.heap.size w w' := by
  have HE := Lib.hid (tame_same hta htb)
  obtain ⟨f1, n1, s1, A1, l1, c1, rfl⟩ := ha.flat
  obtain ⟨f2, n2, s2, A2, l2, c2, rfl⟩ := hb.flat
  obtain ⟨W, eW, q1, q2, b2, z2⟩ := two_boxes w (.int .i64 f1) (.int .i64 n1) (.string s1) (.slice A1 l1 c1) (.int .i64 f2) (.int .i64 n2) (.string s2) (.slice A2 l2 c2) 25 25
  have HEW := Lib.hid eW
  have HB := Lib.hid b2
  have hNil : ∀ q : World, StrsAt (fun _ => True) q (.slice none 0 0) [] := fun q => ⟨none, 0, rfl, Nat.le_refl _, Nat.zero_le _, .inl rfl⟩
  have HCA : Hid (∀ q, Below W.heap.size W q → Calls Tryd.prog 69 #[.agg #[.int .i64 f1, .int .i64 n1, .string s1, .slice A1 l1 c1], .slice none 0 0] q fun e q' => e = .returned (.string ⟨(a.nt []).pr.toArray⟩) ∧ Below W.heap.size W q') := fun q hq => (nl_any a.sz P _ a [] _ _ q (Nat.le_refl _) ((ha.on b2).on hq) (hNil q) hta.ok hta.lt (by simpa using hta.sz)).mono (by
    rintro e q' ⟨h1, h2⟩; exact ⟨by simpa using h1, hq.trans (h2.mono hq.size)⟩)
  have HCB : Hid (∀ q, Below W.heap.size W q → Calls Tryd.prog 69 #[.agg #[.int .i64 f2, .int .i64 n2, .string s2, .slice A2 l2 c2], .slice none 0 0] q fun e q' => e = .returned (.string ⟨(b.nt []).pr.toArray⟩) ∧ Below W.heap.size W q') := fun q hq => (nl_any b.sz Q _ b [] _ _ q (Nat.le_refl _) ((hb.on b2).on hq) (hNil q) htb.ok htb.lt (by simpa using htb.sz)).mono (by
    rintro e q' ⟨h1, h2⟩; exact ⟨by simpa using h1, hq.trans (h2.mono hq.size)⟩)
  have HK : Hid (∀ x, Below W.heap.size W x → (x.cell? ⟨w.heap.size, 0, none⟩ = some (.int .i64 f1) ∧ x.cell? ⟨w.heap.size, 1, none⟩ = some (.int .i64 n1) ∧ x.cell? ⟨w.heap.size, 2, none⟩ = some (.string s1) ∧ x.cell? ⟨w.heap.size, 3, none⟩ = some (.slice A1 l1 c1)) ∧ (x.cell? ⟨w.heap.size + 1, 0, none⟩ = some (.int .i64 f2) ∧ x.cell? ⟨w.heap.size + 1, 1, none⟩ = some (.int .i64 n2) ∧ x.cell? ⟨w.heap.size + 1, 2, none⟩ = some (.string s2) ∧ x.cell? ⟨w.heap.size + 1, 3, none⟩ = some (.slice A2 l2 c2))) := fun x hx => by
    obtain ⟨_, a0, a1, a2, a3, _⟩ := q1.on hx
    obtain ⟨_, b0, b1, b2, b3, _⟩ := q2.on hx
    exact ⟨⟨a0, a1, a2, a3⟩, b0, b1, b2, b3⟩
  generalize hX1 : (⟨(a.nt []).pr.toArray⟩ : ByteArray) = X1 at *
  generalize hX2 : (⟨(b.nt []).pr.toArray⟩ : ByteArray) = X2 at *
  obtain ⟨r, hr⟩ : ∃ r, r = sameT noG noG 0 a b := ⟨_, rfl⟩
  rw [← hr] at HE ⊢
  have hrb : (X1.toList == X2.toList) = r := HE.out
  clear eW b2 ha hb q1 q2 hX1 hX2 hta htb hr
  go_enter Tryd.func26, Tryd.ntmps26
  go_upto_region 1 with (fail)
  rw [HEW.out]
  have hyd : Below W.heap.size W W.drew := (Below.refl _ W).drew
  have hS0 := HK.out W.drew hyd
  go_region_held3 (fun x : World => (x.cell? ⟨w.heap.size, 0, none⟩ = some (.int .i64 f1) ∧ x.cell? ⟨w.heap.size, 1, none⟩ = some (.int .i64 n1) ∧ x.cell? ⟨w.heap.size, 2, none⟩ = some (.string s1) ∧ x.cell? ⟨w.heap.size, 3, none⟩ = some (.slice A1 l1 c1)) ∧ (x.cell? ⟨w.heap.size + 1, 0, none⟩ = some (.int .i64 f2) ∧ x.cell? ⟨w.heap.size + 1, 1, none⟩ = some (.int .i64 n2) ∧ x.cell? ⟨w.heap.size + 1, 2, none⟩ = some (.string s2) ∧ x.cell? ⟨w.heap.size + 1, 3, none⟩ = some (.slice A2 l2 c2))) (first | with_reducible exact hS0 | with_reducible exact hS1 | with_reducible exact hS2)
    (first | (go_at_call 69; (with_reducible refine (HCA.out _ hyd).mono ?_); rintro e q1 ⟨rfl, hb1⟩; have hS1 := HK.out q1 hb1) | (go_at_call 69; (with_reducible refine (HCB.out _ hb1).mono ?_); rintro e q2 ⟨rfl, hb2⟩; have hS2 := HK.out q2 hb2))
  go_wp2
  go_ret
  exact ⟨by first | rfl | (rw [hrb]; rfl), HB.out.trans (hb2.mono HB.out.size)⟩
end Go.Proofs.YtbdfjboojokgdaaDoor
namespace Go.Proofs.YtbdfjboojokgdaaDoor
open Go.RowKit

theorem lookS_first {s : ByteArray} : ∀ {σ : List (ByteArray × Ty)} (i : Nat) (h : i < σ.length), σ[i].1 = s → s ∉ (σ.map (·.1)).take i → lookS σ s = some σ[i].2
  | [], i, h, _, _ => by simp at h
  | p :: r, 0, h, e, _ => by simp only [List.getElem_cons_zero] at e ⊢; simp [lookS, e]
  | p :: r, i + 1, h, e, hn => by
    simp only [List.map_cons, List.take_succ_cons, List.mem_cons, not_or] at hn
    have := lookS_first (σ := r) i (by simpa using h) (by simpa using e) hn.2
    simp only [List.getElem_cons_succ]
    simp only [lookS]
    rw [if_neg (fun e => hn.1 e.symm)]
    exact this
/-- Where a name stands first; or nowhere. -/
def AtIs (ss : List ByteArray) (x : ByteArray) (k : Int) : Prop := (k = -1 ∧ x ∉ ss) ∨ ∃ i : Nat, k = i ∧ ∃ h : i < ss.length, ss[i] = x ∧ x ∉ ss.take i
set_option maxRecDepth 100000 in
set_option maxHeartbeats 1000000 in
theorem at_any (P : Nat → Prop) (ss : List ByteArray) (x : ByteArray) (v : Value) (w : World) (h : StrsAt P w v ss) : Calls Tryd.prog 65 #[v, .string x] w fun e w' => (∃ k, e = .returned (.int .i64 k) ∧ AtIs ss x k) ∧ w = w' := by
  obtain ⟨A, c, rfl, hc, hm⟩ := h.shape
  unfold maxLen at hm
  have HH := Lib.hid h
  have hlen : ss.length ≤ 9223372036854775807 := by omega
  clear h
  go_enter Tryd.func65, Tryd.ntmps65
  go_wp2
  go_loop [5] (fun i => ∃ k : Nat, k ≤ ss.length ∧ i = .int .i64 k ∧ Hid (x ∉ ss.take k)) (fun i => ss.length - (intOf i).toNat)
  case atStart => exact ⟨0, Nat.zero_le _, rfl, by simp [Hid]⟩
  case round =>
    obtain ⟨k, hk, rfl, hno⟩ := hrel
    by_cases hlt : k < ss.length
    · obtain ⟨b, off, e1, hb, hcell⟩ := HH.out.at k hlt
      subst e1
      have htk : ss.take (k + 1) = ss.take k ++ [ss[k]] := List.take_succ_eq_append_getElem hlt
      have hki : (k : Int) < (ss.length : Int) := by omega
      have hk0 : (0 : Int) ≤ (k : Int) := by omega
      by_cases he : ss[k] = x
      · have HE : Hid (AtIs ss x k) := .inr ⟨k, rfl, hlt, he, hno.out⟩
        have hbq : (ss[k].toList == x.toList) = true := by rw [he]; simp
        generalize ss[k] = v at *
        clear htk he
        go_wp2
        go_ret
        exact ⟨⟨_, rfl, HE.out⟩, rfl⟩
      · have hbq : (ss[k].toList == x.toList) = false := by
          rw [beq_eq_false_iff_ne]; intro e; apply he
          have : ss[k].data.toList = x.data.toList := by simpa [Lib.toList_data] using e
          cases hss : ss[k]; cases hx : x; rw [hss, hx] at this; simp at this; rw [this]
        have HR : Hid (x ∉ ss.take (k + 1)) := by
          show ¬ _
          rw [htk, List.mem_append, List.mem_singleton]
          rintro (h | h)
          · exact hno.out h
          · exact he h.symm
        generalize ss[k] = v at *
        clear htk he
        go_wp2
        go_round
        case rel => exact ⟨k + 1, by omega, by go_num, HR⟩
        case measure => simp [intOf]; omega
    · have hd : decide (k < ss.length) = false := by simpa using hlt
      have HE : Hid (AtIs ss x (-1)) := by
        refine .inl ⟨rfl, ?_⟩
        have h9 := hno.out
        rwa [List.take_of_length_le (by omega)] at h9
      go_wp2
      go_ret
      exact ⟨⟨_, rfl, HE.out⟩, rfl⟩
end Go.Proofs.YtbdfjboojokgdaaDoor
