/- The contract of the document's Size (chapter 4). Condition: the type has at most 2^40 nodes. -/
import Derived.Test.YtbdfjboojokgdaaDoorJS13
namespace Go.Proofs.YtbdfjboojokgdaaDoor
open Go.RowKit

/-- How many names and numbers there are. -/
def Ty.count : Ty → Nat
  | .app a b => a.count + b.count | .all _ a => 1 + a.count | _ => 1
def Ty.own1 (t : Ty) : Nat := if t.form = 4 then 0 else 1
def sumC (l : List Ty) : Nat := (l.map Ty.count).sum
theorem count_args (t : Ty) : t.count = t.own1 + sumC t.args := by
  cases t <;> simp [Ty.count, Ty.own1, Ty.form, sumC, Ty.args]
theorem count_le : ∀ t : Ty, t.count ≤ t.sz
  | .app a b => by have := count_le a; have := count_le b; simp [Ty.count, Ty.sz]; omega
  | .all _ a => by have := count_le a; simp [Ty.count, Ty.sz]; omega
  | .hole _ => by simp [Ty.count, Ty.sz]
  | .var _ => by simp [Ty.count, Ty.sz]
  | .con _ => by simp [Ty.count, Ty.sz]
theorem sumC_take {l : List Ty} {k : Nat} (h : k < l.length) : sumC (l.take (k + 1)) = sumC (l.take k) + l[k].count := by
  unfold sumC; rw [List.take_succ_eq_append_getElem h, List.map_append, List.sum_append]; simp
theorem sumC_le (l : List Ty) (k : Nat) : sumC (l.take k) ≤ sumC l := by
  induction l generalizing k with
  | nil => simp [sumC]
  | cons a r ih =>
    cases k with
    | zero => simp [sumC]
    | succ k => have := ih k; simp [sumC] at this ⊢; omega
set_option maxRecDepth 100000 in
set_option maxHeartbeats 1000000 in
theorem refsize_any (P : Nat → Prop) : ∀ (n : Nat) (t : Ty) (v : Value) (w : World), t.sz ≤ n → TyAt P w t v → t.sz ≤ 1099511627776 →
    Calls Tryd.prog 20 #[v] w fun e w' => e = .returned (.int .i64 t.count) ∧ Below w.heap.size w w'
  | 0, t, _, _, hn, _, _ => by cases t <;> simp [Ty.sz] at hn
  | n + 1, t, v, w, hn, h, hz => by
    obtain ⟨sv, rfl, hs⟩ := h.tys
    obtain ⟨A, c, rfl, hc, hm⟩ := hs.form
    have HS := Lib.hid hs
    have hca := count_args t
    have hcl := count_le t
    have HCA := Lib.hid hca
    have hl2 := t.args_le
    have IH := Lib.hid (fun (x : Ty) (hx : x ∈ t.args) (v : Value) (y : World) (h : TyAt P y x v) => refsize_any P n x v y (by have := Ty.arg_sz hx; omega) h (by have := Ty.arg_sz hx; omega))
    obtain ⟨W, eW, q1, b1, z1⟩ := one_box w (.int .i64 t.form) (.int .i64 t.num) (.string t.name) (.slice A t.args.length c) 25
    have HEW := Lib.hid eW
    have HQ := Lib.hid q1
    have HB := Lib.hid b1
    have hW : w.heap.size < W.heap.size := by omega
    clear eW b1 h hs hn hca
    have ho : t.own1 ≤ 1 := by unfold Ty.own1; split <;> omega
    have hfo : (t.form = 4 ∧ t.own1 = 0) ∨ (¬ t.form = 4 ∧ t.own1 = 1) := by unfold Ty.own1; by_cases h : t.form = 4 <;> simp [h]
    have hsum : t.own1 + sumC t.args ≤ 1099511627776 := by rw [← HCA.out]; omega
    obtain ⟨x0, x1, x2, x3, x4, _⟩ := q1
    clear hcl hz hc hm
    generalize ht : t.form = ff at *
    generalize t.num = nn at *
    generalize t.name = ss at *
    generalize t.own1 = oo at *
    clear ht
    rcases hfo with ⟨rfl, rfl⟩ | ⟨hff, rfl⟩
    · go_enter Tryd.func20, Tryd.ntmps20
      go_wp2_with fail
      rw [HEW.out]
      go_wp2_with fail
      go_loopw [3, 4] (fun o i wr => ∃ k : Nat, k ≤ t.args.length ∧ i = .int .i64 k ∧ o = .int .i64 ((0 : Int) + sumC (t.args.take k)) ∧ Below W.heap.size W wr) (fun _ i _ => t.args.length - (intOf i).toNat)
      case atStart => exact ⟨0, Nat.zero_le _, rfl, by simp [sumC], Below.refl _ _⟩
      case round =>
        obtain ⟨k, hk, rfl, rfl, hb⟩ := hrel
        obtain ⟨y0, y1, y2, y3, y4, _⟩ := HQ.out.on hb
        have HBR := Lib.hid hb
        have hbw := HB.out.trans (hb.mono HB.out.size)
        have hsl := sumC_le t.args k
        clear hb
        by_cases hlt : k < t.args.length
        · obtain ⟨g, off, A3, c3, e3, _, hg, m0, m1, m2, m3, hx⟩ := (HS.out.on hbw).at k hlt
          subst e3
          have hmem : t.args[k] ∈ t.args := List.getElem_mem hlt
          have HC := Lib.hid (IH.out _ hmem _ _ hx)
          have HTK := Lib.hid (sumC_take hlt)
          have hst := sumC_le t.args (k + 1)
          have hti := sumC_take hlt
          have hki : (k : Int) < (t.args.length : Int) := by omega
          have hk0 : (0 : Int) ≤ (k : Int) := by omega
          clear hx hbw
          generalize t.args[k] = x at *
          generalize x.form = xf, x.num = xn, x.name = xs, x.args.length = xl at *
          generalize x.count = xc at *
          generalize sumC (t.args.take k) = s1 at *
          go_wp2_with fail
          refine HC.out.mono ?_
          rintro e w1 ⟨rfl, b2⟩
          have HB2 := Lib.hid (HBR.out.trans (b2.mono HBR.out.size))
          clear b2
          go_wp2
          go_roundw
          case rel => exact ⟨k + 1, by omega, by go_num, by (rw [HTK.out]; go_num), HB2.out⟩
          case measure => simp [intOf]; omega
        · have hd : decide (k < t.args.length) = false := by simpa using hlt
          have hkl : t.args.take k = t.args := List.take_of_length_le (by omega)
          rw [hkl]
          clear hkl
          go_wp2
          go_ret
          exact ⟨by rw [HCA.out]; push_cast; rfl, hbw⟩
    · go_enter Tryd.func20, Tryd.ntmps20
      go_wp2_with fail
      rw [HEW.out]
      go_wp2_with fail
      rw [show (ff != 4) = true by simpa using hff]
      go_loopw [3, 4] (fun o i wr => ∃ k : Nat, k ≤ t.args.length ∧ i = .int .i64 k ∧ o = .int .i64 ((1 : Int) + sumC (t.args.take k)) ∧ Below W.heap.size W wr) (fun _ i _ => t.args.length - (intOf i).toNat)
      case atStart => exact ⟨0, Nat.zero_le _, rfl, by simp [sumC], Below.refl _ _⟩
      case round =>
        obtain ⟨k, hk, rfl, rfl, hb⟩ := hrel
        obtain ⟨y0, y1, y2, y3, y4, _⟩ := HQ.out.on hb
        have HBR := Lib.hid hb
        have hbw := HB.out.trans (hb.mono HB.out.size)
        have hsl := sumC_le t.args k
        clear hb
        by_cases hlt : k < t.args.length
        · obtain ⟨g, off, A3, c3, e3, _, hg, m0, m1, m2, m3, hx⟩ := (HS.out.on hbw).at k hlt
          subst e3
          have hmem : t.args[k] ∈ t.args := List.getElem_mem hlt
          have HC := Lib.hid (IH.out _ hmem _ _ hx)
          have HTK := Lib.hid (sumC_take hlt)
          have hst := sumC_le t.args (k + 1)
          have hti := sumC_take hlt
          have hki : (k : Int) < (t.args.length : Int) := by omega
          have hk0 : (0 : Int) ≤ (k : Int) := by omega
          clear hx hbw
          generalize t.args[k] = x at *
          generalize x.form = xf, x.num = xn, x.name = xs, x.args.length = xl at *
          generalize x.count = xc at *
          generalize sumC (t.args.take k) = s1 at *
          go_wp2_with fail
          refine HC.out.mono ?_
          rintro e w1 ⟨rfl, b2⟩
          have HB2 := Lib.hid (HBR.out.trans (b2.mono HBR.out.size))
          clear b2
          go_wp2
          go_roundw
          case rel => exact ⟨k + 1, by omega, by go_num, by (rw [HTK.out]; go_num), HB2.out⟩
          case measure => simp [intOf]; omega
        · have hd : decide (k < t.args.length) = false := by simpa using hlt
          have hkl : t.args.take k = t.args := List.take_of_length_le (by omega)
          rw [hkl]
          clear hkl
          go_wp2
          go_ret
          exact ⟨by rw [HCA.out]; push_cast; rfl, hbw⟩
end Go.Proofs.YtbdfjboojokgdaaDoor
