/- The contracts of types.give, App and All. Condition: the rows are of at most 2^40 types. -/
import Derived.Test.YtbdfjboojokgdaaDoorJS04
namespace Go.Proofs.YtbdfjboojokgdaaDoor
open Go.RowKit

theorem Box4.put {w : World} {b : Nat} {a0 a1 a2 a3 : Value} (h : Box4 w b a0 a1 a2 a3) (x0 x1 x2 x3 : Value) : Box4 ((((w.setCell ⟨b, 0, none⟩ x0).setCell ⟨b, 1, none⟩ x1).setCell ⟨b, 2, none⟩ x2).setCell ⟨b, 3, none⟩ x3) b x0 x1 x2 x3 := by
  obtain ⟨h0, h1, h2, h3, h4, f1, f2, f3, f4⟩ := h
  refine ⟨by simpa using h0, ?_, ?_, ?_, ?_, ?_, ?_, ?_, ?_⟩ <;> simp [go_sem, h1, h2, h3, h4, f1, f2, f3, f4]
theorem Box4.other {w : World} {b b' : Nat} {a0 a1 a2 a3 : Value} (h : Box4 w b' a0 a1 a2 a3) (hne : b' ≠ b) (x0 x1 x2 x3 : Value) : Box4 ((((w.setCell ⟨b, 0, none⟩ x0).setCell ⟨b, 1, none⟩ x1).setCell ⟨b, 2, none⟩ x2).setCell ⟨b, 3, none⟩ x3) b' a0 a1 a2 a3 := by
  obtain ⟨h0, h1, h2, h3, h4, f1, f2, f3, f4⟩ := h
  refine ⟨by simpa using h0, ?_, ?_, ?_, ?_, ?_, ?_, ?_, ?_⟩
  · rw [cell_box _ _ _ _ _ _ _ _ hne]; exact h1
  · rw [cell_box _ _ _ _ _ _ _ _ hne]; exact h2
  · rw [cell_box _ _ _ _ _ _ _ _ hne]; exact h3
  · rw [cell_box _ _ _ _ _ _ _ _ hne]; exact h4
  all_goals simpa [World.frozen?_setCell] using (by assumption)
/-- A type that is given others, one behind the other. -/
def Ty.give (f : Ty) (l : List Ty) : Ty := l.foldl .app f
theorem Ty.give_snoc (f : Ty) (l : List Ty) (a : Ty) : Ty.give f (l ++ [a]) = .app (Ty.give f l) a := by simp [Ty.give]
set_option maxRecDepth 100000 in
set_option maxHeartbeats 1000000 in
theorem give_any (P : Nat → Prop) (f : Ty) (ts : List Ty) (vf vl : Value) (w : World) (hf : TyAt P w f vf) (hl : TysAt P w ts vl) : Calls Tryd.prog 103 #[vf, vl] w (TyShares P w (f.give ts)) := by
  obtain ⟨f1, n1, s1, A1, l1, c1, rfl⟩ := hf.flat
  obtain ⟨A, c, rfl, hc, hm⟩ := hl.form
  unfold maxLen at hm
  have HF := Lib.hid hf.bound
  have HL := Lib.hid hl.bound
  clear hf hl
  go_enter Tryd.func103, Tryd.ntmps103
  go_wp2_with fail
  have q1 := Box4.new w (.int .i64 f1) (.int .i64 n1) (.string s1) (.slice A1 l1 c1) 25
  have q2 := Box4.new (w.alloc (.cells #[.int .i64 f1, .int .i64 n1, .string s1, .slice A1 l1 c1] 25)) (.int .i64 0) (.int .i64 0) (.string ⟨#[]⟩) (.slice none 0 0) 25
  have q1' := q1.on (below_new _ (.cells #[.int .i64 0, .int .i64 0, .string ⟨#[]⟩, .slice none 0 0] 25))
  have b2 := below2 w (.cells #[.int .i64 f1, .int .i64 n1, .string s1, .slice A1 l1 c1] 25) (.cells #[.int .i64 0, .int .i64 0, .string ⟨#[]⟩, .slice none 0 0] 25)
  simp only [World.size_alloc] at q2
  generalize (w.alloc (.cells #[.int .i64 f1, .int .i64 n1, .string s1, .slice A1 l1 c1] 25)).alloc (.cells #[.int .i64 0, .int .i64 0, .string ⟨#[]⟩, .slice none 0 0] 25) = w2 at *
  have HQ1 := Lib.hid q1'
  have HQ2 := Lib.hid q2
  have HB2 := Lib.hid b2
  clear q1 q1' q2 b2
  go_loopw [9, 6] (fun i _ wr => ∃ k : Nat, k ≤ ts.length ∧ i = .int .i64 k ∧ Below w.heap.size w wr ∧ Box4 wr (w.heap.size + 1) (.int .i64 0) (.int .i64 0) (.string ⟨#[]⟩) (.slice none 0 0) ∧
      ∃ (f9 n9 : Int) (s9 : ByteArray) (A9 : Option Addr) (l9 c9 : Nat), Box4 wr w.heap.size (.int .i64 f9) (.int .i64 n9) (.string s9) (.slice A9 l9 c9) ∧
        TyAt (fun x => (P x ∧ x < w.heap.size) ∨ w.heap.size + 2 ≤ x) wr (f.give (ts.take k)) (.agg #[.int .i64 f9, .int .i64 n9, .string s9, .slice A9 l9 c9])) (fun i _ _ => ts.length - (intOf i).toNat)
  case atStart => exact ⟨0, Nat.zero_le _, rfl, HB2.out, HQ2.out, f1, n1, s1, A1, l1, c1, HQ1.out, (HF.out.on HB2.out).mono (fun x hx => .inl hx)⟩
  case round =>
    obtain ⟨k, hk, rfl, hb, hq2, f9, n9, s9, A9, l9, c9, hq1, ht⟩ := hrel
    have HW := Lib.hid hb
    have HR := Lib.hid hq2
    have HR1 := Lib.hid hq1
    have HT := Lib.hid ht
    obtain ⟨z0, z1, z2, z3, z4, z5, z6, z7, z8⟩ := hq1
    obtain ⟨y0, y1, y2, y3, y4, y5, y6, y7, y8⟩ := hq2
    clear hb ht
    by_cases hlt : k < ts.length
    · obtain ⟨b, off, A2, c2, rfl, hpb, hbl, d0, d1, d2, d3, hx⟩ := (HL.out.keep (.of_belowB (fun x h => h.2) HW.out)).at k hlt
      have hki : (k : Int) < (ts.length : Int) := by omega
      have hk0 : (0 : Int) ≤ (k : Int) := by omega
      have HX := Lib.hid hx
      have HTK : Hid (f.give (ts.take (k + 1)) = .app (f.give (ts.take k)) ts[k]) := by show _ = _; rw [List.take_succ_eq_append_getElem hlt, Ty.give_snoc]
      clear hx
      generalize ts[k].form = tf, ts[k].num = tn, ts[k].name = tm, ts[k].args.length = tl at *
      go_wp2
      go_roundw
      case rel =>
        have hnb : ¬ ((fun x => (P x ∧ x < w.heap.size) ∨ w.heap.size + 2 ≤ x) w.heap.size) := fun hx => by rcases hx with hx | hx <;> omega
        have t1 := HT.out.keep (.box hnb (.int .i64 4) (.int .i64 0) (.string ⟨#[]⟩) (.slice (some ⟨wr.heap.size + 1, 0, none⟩) 2 2))
        have x1 := (HX.out.mono (Q := fun x => (P x ∧ x < w.heap.size) ∨ w.heap.size + 2 ≤ x) (fun x hx => .inl hx)).keep (.box hnb (.int .i64 4) (.int .i64 0) (.string ⟨#[]⟩) (.slice (some ⟨wr.heap.size + 1, 0, none⟩) 2 2))
        have p1 := HR1.out.put (.int .i64 4) (.int .i64 0) (.string ⟨#[]⟩) (.slice (some ⟨wr.heap.size + 1, 0, none⟩) 2 2)
        have p2 := HR.out.other (b := w.heap.size) (by omega) (.int .i64 4) (.int .i64 0) (.string ⟨#[]⟩) (.slice (some ⟨wr.heap.size + 1, 0, none⟩) 2 2)
        have b1 := below_box HW.out (Nat.le_refl _) (.int .i64 4) (.int .i64 0) (.string ⟨#[]⟩) (.slice (some ⟨wr.heap.size + 1, 0, none⟩) 2 2)
        have z1 : ((((wr.setCell ⟨w.heap.size, 0, none⟩ (.int .i64 4)).setCell ⟨w.heap.size, 1, none⟩ (.int .i64 0)).setCell ⟨w.heap.size, 2, none⟩ (.string ⟨#[]⟩)).setCell ⟨w.heap.size, 3, none⟩ (.slice (some ⟨wr.heap.size + 1, 0, none⟩) 2 2)).heap.size = wr.heap.size := by simp
        generalize (((wr.setCell ⟨w.heap.size, 0, none⟩ (.int .i64 4)).setCell ⟨w.heap.size, 1, none⟩ (.int .i64 0)).setCell ⟨w.heap.size, 2, none⟩ (.string ⟨#[]⟩)).setCell ⟨w.heap.size, 3, none⟩ (.slice (some ⟨wr.heap.size + 1, 0, none⟩) 2 2) = v1 at *
        have n1 := below_new v1 (.cells #[.int .i64 tf, .int .i64 tn, .string tm, .slice A2 tl c2] 25)
        have t2 := t1.on n1
        have x2 := x1.on n1
        have p1' := p1.on n1
        have p2' := p2.on n1
        have b2 := b1.alloc b1.size (.cells #[.int .i64 tf, .int .i64 tn, .string tm, .slice A2 tl c2] 25)
        have z2 : (v1.alloc (.cells #[.int .i64 tf, .int .i64 tn, .string tm, .slice A2 tl c2] 25)).heap.size = wr.heap.size + 1 := by simp [z1]
        generalize v1.alloc (.cells #[.int .i64 tf, .int .i64 tn, .string tm, .slice A2 tl c2] 25) = v2 at *
        have n2 := below_new v2 (.cells #[.int .i64 f9, .int .i64 n9, .string s9, .slice A9 l9 c9, .int .i64 tf, .int .i64 tn, .string tm, .slice A2 tl c2] 25)
        have t3 := app_new t2 x2 25
        rw [z2] at t3
        refine ⟨k + 1, by omega, by go_num, b2.alloc b2.size _, p2'.on n2, _, _, _, _, _, _, p1'.on n2, ?_⟩
        rw [HTK.out]
        refine t3.mono (fun x hx => ?_)
        rcases hx with hx | hx
        · exact hx
        · exact .inr (by rw [hx]; omega)
      case measure => simp [intOf]; omega
    · obtain rfl : k = ts.length := by omega
      have hd : decide (ts.length < ts.length) = false := by simp
      have htk : ts.take ts.length = ts := List.take_length
      rw [htk] at HT
      clear htk
      go_wp2
      refine bodyPost_ret (v := .agg #[.int .i64 f9, .int .i64 n9, .string s9, .slice A9 l9 c9]) (by simp [results, Tryd.results103, go_sem, y1, y2, y3, y4]) rfl ⟨_, rfl, (HT.out.keep (.box (fun hx => by rcases hx with hx | hx <;> omega) _ _ _ _)).mono (fun x hx => ?_), below_box HW.out (by omega) _ _ _ _⟩
      rcases hx with hx | hx
      · exact .inl hx.1
      · exact .inr (by omega)
end Go.Proofs.YtbdfjboojokgdaaDoor
