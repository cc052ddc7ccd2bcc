/- The contract of types.Same (chapter 4). Conditions: names are of at most 2^40 bytes, the first type has at most 2^28 nodes. -/
import Derived.Test.YtbdfjboojokgdaaDoorJS38
namespace Go.Proofs.YtbdfjboojokgdaaDoor
open Go.RowKit

theorem sameIs_any (ma mb : Nat) (hne : ma ≠ mb) : ∀ n, SameIs ma mb n := by
  intro n
  induction n with
  | zero => intro a b P Q va vb fa fb d N w han; cases a <;> simp [Ty.sz] at han
  | succ n ih =>
    intro a b P Q va vb fa fb d N w han ha hb hsa hsb hma hmb hN hd0 hd
    by_cases hno : a.form ≠ b.form ∨ a.num ≠ b.num
    · exact same_no ma mb a b P Q va vb fa fb d N w ha hb hsa hsb hma hmb hno
    · have hf : a.form = b.form := Classical.byContradiction (fun h => hno (.inl h))
      have hn : a.num = b.num := Classical.byContradiction (fun h => hno (.inr h))
      have hal := args_len hf
      by_cases h2 : a.form = 2
      · exact same_var ma mb a b P Q va vb fa fb d N w ha hb hsa hsb hma hmb h2 (hf ▸ h2) hn hal
      · by_cases h5 : a.form = 5
        · exact same_all ma mb a b P Q va vb fa fb d N w ha hb hsa hsb hma hmb hN hd0 hd hne n ih han h5 (hf ▸ h5) hn hal
        · exact same_else ma mb a b P Q va vb fa fb d N w ha hb hsa hsb hma hmb hN hd0 hd hne n ih han hf h2 h5 hn hal
def noG : ByteArray → Int := fun _ => 0
theorem MapG.new (w : World) : MapG (w.alloc (.map #[] 0)) w.heap.size noG 0 := ⟨0, _, MapS.made Tryd.prog 9 w, Nat.le_refl _, fun _ => .inl ⟨rfl, rfl⟩⟩
set_option maxRecDepth 100000 in
set_option maxHeartbeats 1000000 in
theorem same_any (P Q : Nat → Prop) (a b : Ty) (va vb : Value) (w : World) (ha : TyAt P w a va) (hb : TyAt Q w b vb) (hsa : a.short) (hsb : b.short) (hsz : a.sz ≤ 268435456) :
    Calls Tryd.prog 25 #[va, vb] w fun e w' => e = .returned (.bool (sameT noG noG 0 a b)) ∧ Below w.heap.size w w' := by
  obtain ⟨f1, n1, s1, A1, l1, c1, rfl⟩ := ha.flat
  obtain ⟨f2, n2, s2, A2, l2, c2, rfl⟩ := hb.flat
  have HA := Lib.hid ha
  have HB := Lib.hid hb
  clear ha hb
  obtain ⟨W, eW, q1, q2, b1, z1⟩ := two_boxes w (.int .i64 f1) (.int .i64 n1) (.string s1) (.slice A1 l1 c1) (.int .i64 f2) (.int .i64 n2) (.string s2) (.slice A2 l2 c2) 25 25
  have HEW := Lib.hid eW
  have hg1 := (MapG.new W).on (below_new _ (.map #[] 0))
  have hg2 := MapG.new (W.alloc (.map #[] 0))
  have b2 : Below W.heap.size W ((W.alloc (.map #[] 0)).alloc (.map #[] 0)) := below2 W _ _
  have z2 : ((W.alloc (.map #[] 0)).alloc (.map #[] 0)).heap.size = W.heap.size + 2 := by simp
  simp only [World.size_alloc] at hg2
  obtain ⟨X, eX⟩ : ∃ X, (W.alloc (.map #[] 0)).alloc (.map #[] 0) = X := ⟨_, rfl⟩
  rw [eX] at hg1 hg2 b2 z2
  have HEX := Lib.hid eX
  have bX := b1.trans (b2.mono b1.size)
  obtain ⟨x0, x1, x2, x3, x4, _⟩ := q1
  obtain ⟨y0, y1, y2, y3, y4, _⟩ := q2
  have HC := Lib.hid (sameIs_any W.heap.size (W.heap.size + 1) (by omega) _ a b P Q _ _ noG noG 0 0 X (Nat.le_refl _) (HA.out.on bX) (HB.out.on bX) hsa hsb hg1 hg2 (by omega) (by omega) (by omega))
  rw [show W.heap.size = w.heap.size + 1 + 1 by omega] at HC
  have HBX := Lib.hid bX
  clear eW eX hg1 hg2 hsa hsb hsz HA HB b1 b2 bX
  have hw1 : w.heap.size ≤ W.heap.size := by omega
  have hmm : ∀ y : World, (Instr.makeMap 105 none).run Tryd.prog y = .ok (.map (some y.heap.size)) (y.alloc (.map #[] 0)) := fun y => run_makeMap 105 y
  go_enter Tryd.func25, Tryd.ntmps25
  go_wp2_with fail
  rw [HEW.out]
  go_wp2_with fail
  rw [HEX.out]
  (with_reducible refine HC.out.mono ?_)
  intro e y h
  have he := h.1
  subst he
  have HR := Lib.hid h.2.2.2
  clear h
  go_wp2
  go_ret
  exact ⟨rfl, HBX.out.trans (Fr.below HR.out (by omega) (fun k hk => by rcases hk with rfl | rfl <;> omega))⟩
end Go.Proofs.YtbdfjboojokgdaaDoor
