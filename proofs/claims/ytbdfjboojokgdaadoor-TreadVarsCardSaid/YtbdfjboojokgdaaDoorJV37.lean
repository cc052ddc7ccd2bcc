/- The contract of the document's Plain (chapter 4): a type made of numbers, without TAlls. Condition: the slice reads as numbers. -/
import Derived.Test.YtbdfjboojokgdaaDoorJV36
namespace Go.Proofs.YtbdfjboojokgdaaDoor
open Go.RowKit

/-- A type without TAlls, made of numbers, nested at most so deep; and what is left of them. -/
def builtP : Nat → List Int → Ty × List Int
  | _, [] => (.con ⟨#[73, 110, 116]⟩, [])
  | 0, z :: l => (leafZ (aroundI z 40) (aroundI z 40 % 5), l)
  | f + 1, z :: l => if aroundI z 40 % 10 < 5 then (leafZ (aroundI z 40) (aroundI z 40 % 10), l)
      else (if aroundI z 40 % 10 < 8 then Ty.fn (builtP f l).1 (builtP f (builtP f l).2).1 else .app (builtP f l).1 (builtP f (builtP f l).2).1, (builtP f (builtP f l).2).2)
theorem plain_leaf_eq {f d : Nat} (hd : d + f = 5) {z : Int} {r : List Int} {k : Int} (hk : k = if f = 0 then aroundI z 40 % 5 else aroundI z 40 % 10) (h5 : k < 5) : builtP f (z :: r) = (leafZ (aroundI z 40) k, r) := by
  cases f with
  | zero => rw [hk]; rfl
  | succ f =>
    rw [if_neg (by omega)] at hk
    subst hk
    rw [builtP, if_pos h5]
set_option maxRecDepth 100000 in
set_option maxHeartbeats 1000000 in
theorem plain_leaf (f d : Nat) (z : Int) (r : List Int) (v : Value) (Q : Nat → Prop) (w : World) (hd : d + f = 5) (h : IntsAt Q w v (z :: r)) (hQ : ∀ b, Q b → b < w.heap.size) (k : Int) (hk : k = if f = 0 then aroundI z 40 % 5 else aroundI z 40 % 10) (h5 : k < 5) :
    Calls Tryd.prog 52 #[v, .int .i64 d, .bool false] w (Built w (builtP f (z :: r)) Q) := by
  rw [plain_leaf_eq hd hk h5]
  obtain ⟨b, off, c, rfl, hrl, hcm, hlt, hz, ⟨hz1, hz2⟩, A9, hA9, hi⟩ := ints_tail h
  have HI := Lib.hid hi
  have hlen0 : (((r.length : Int) + 1) == 0) = false := by rw [beq_eq_false_iff_ne]; omega
  unfold maxLen at hcm
  have hbd := aroundI_bd z 40 (by omega)
  have HA := Lib.hid (fun W => around_is z 40 W hz1 hz2 (by omega) (by omega))
  generalize aroundI z 40 = n at *
  have hn10 : n / 10 ≤ 3 := by omega
  have hn10' : 0 ≤ n / 10 := by omega
  have hn5 : n / 5 ≤ 7 := by omega
  have hn5' : 0 ≤ n / 5 := by omega
  have HNM := Lib.hid (fun W => name_any (n / 10) W (by omega) (by omega))
  have HCN := Lib.hid (fun W => refcon_any (n / 5) W (by omega) (by omega))
  clear h hi
  obtain ⟨W, eW, q1, b1, zz1⟩ := one_box w (.int .i64 0) (.int .i64 0) (.string ⟨#[]⟩) (.slice none 0 0) 25
  have HEW := Lib.hid eW
  have HQ1 := Lib.hid q1
  have HB1 := Lib.hid b1
  have hzW := (b1.cell (p := ⟨b, off, none⟩) hlt).trans hz
  clear eW q1 b1
  by_cases hf0 : f = 0
  · rw [if_pos hf0] at hk
    have hd4 : (4 : Int) < (d : Int) := by omega
    have HK := Lib.hid hk
    by_cases h2 : k < 2
    · have h2' : n % 5 < 2 := by rw [← hk]; exact h2
      have HL : Hid (leafZ n k = .var (nameS (n / 10))) := by show _ = _; unfold leafZ; rw [if_pos h2]
      clear hk h5 h2 hf0
      go_enter Tryd.func52, Tryd.ntmps52
      go_wp2_with (first | (go_at_call 36; refine (HA.out _).mono ?_; rintro e w' ⟨rfl, rfl⟩) | (go_at_call 23; refine (HNM.out _).mono ?_))
      rintro e y ⟨rfl, hb⟩
      rw [HEW.out] at hb
      obtain ⟨z0, z1, z2, z3, z4, z5, z6, z7, z8⟩ := HQ1.out.on hb
      have HB := Lib.hid (HB1.out.trans (hb.mono HB1.out.size))
      clear hb
      go_wp2
      have hbb := below_box HB.out (Nat.le_refl _) (.int .i64 2) (.int .i64 0) (.string (nameS (n / 10))) (.slice none 0 0)
      exact bodyPost_ret (v := .tuple #[.agg #[.int .i64 2, .int .i64 0, .string (nameS (n / 10)), .slice none 0 0], .slice (some A9) r.length (c - 1)]) (by simp [results, Tryd.results52, go_sem, z1, z2, z3, z4]) rfl
        ⟨_, _, rfl, by rw [HL.out]; exact ty_leaf _ _ (.var (nameS (n / 10))) rfl none 0 (Nat.zero_le _), HI.out.below' hQ hbb, hbb⟩
    · have h2' : ¬ n % 5 < 2 := by rw [← hk]; exact h2
      by_cases h3 : k < 3
      · have h3' : n % 5 < 3 := by rw [← hk]; exact h3
        have HL : Hid (leafZ n k = .hole (1 + n / 10)) := by show _ = _; unfold leafZ; rw [if_neg h2, if_pos h3]
        clear hk h5 h2 h3 hf0
        go_enter Tryd.func52, Tryd.ntmps52
        go_wp2_with (go_at_call 36; refine (HA.out _).mono ?_; rintro e w' ⟨rfl, rfl⟩)
        have hbb := below_new w (.cells #[.int .i64 1, .int .i64 (1 + n / 10), .string ⟨#[]⟩, .slice none 0 0] 25)
        exact bodyPost_ret (v := .tuple #[.agg #[.int .i64 1, .int .i64 (1 + n / 10), .string ⟨#[]⟩, .slice none 0 0], .slice (some A9) r.length (c - 1)]) (by simp [results, Tryd.results52, go_sem]) rfl
          ⟨_, _, rfl, by rw [HL.out]; exact ty_leaf _ _ (.hole (1 + n / 10)) rfl none 0 (Nat.zero_le _), HI.out.below' hQ hbb, hbb⟩
      · have h3' : ¬ n % 5 < 3 := by rw [← hk]; exact h3
        have h5' : n % 5 < 5 := by rw [← hk]; exact h5
        have HL : Hid (leafZ n k = .con (conS (n / 5))) := by show _ = _; unfold leafZ; rw [if_neg h2, if_neg h3]
        clear hk h5 h2 h3 hf0
        go_enter Tryd.func52, Tryd.ntmps52
        go_wp2_with (first | (go_at_call 36; refine (HA.out _).mono ?_; rintro e w' ⟨rfl, rfl⟩) | (go_at_call 100; refine (HCN.out _).mono ?_))
        rintro e y ⟨rfl, hb⟩
        rw [HEW.out] at hb
        obtain ⟨z0, z1, z2, z3, z4, z5, z6, z7, z8⟩ := HQ1.out.on hb
        have HB := Lib.hid (HB1.out.trans (hb.mono HB1.out.size))
        clear hb
        go_wp2
        have hbb := below_box HB.out (Nat.le_refl _) (.int .i64 3) (.int .i64 0) (.string (conS (n / 5))) (.slice none 0 0)
        exact bodyPost_ret (v := .tuple #[.agg #[.int .i64 3, .int .i64 0, .string (conS (n / 5)), .slice none 0 0], .slice (some A9) r.length (c - 1)]) (by simp [results, Tryd.results52, go_sem, z1, z2, z3, z4]) rfl
          ⟨_, _, rfl, by rw [HL.out]; exact ty_leaf _ _ (.con (conS (n / 5))) rfl none 0 (Nat.zero_le _), HI.out.below' hQ hbb, hbb⟩
  · rw [if_neg hf0] at hk
    have hd4 : ¬ ((4 : Int) < (d : Int)) := by omega
    have HK := Lib.hid hk
    by_cases h2 : k < 2
    · have h2' : n % 10 < 2 := by rw [← hk]; exact h2
      have HL : Hid (leafZ n k = .var (nameS (n / 10))) := by show _ = _; unfold leafZ; rw [if_pos h2]
      clear hk h5 h2 hf0
      go_enter Tryd.func52, Tryd.ntmps52
      go_wp2_with (first | (go_at_call 36; refine (HA.out _).mono ?_; rintro e w' ⟨rfl, rfl⟩) | (go_at_call 23; refine (HNM.out _).mono ?_))
      rintro e y ⟨rfl, hb⟩
      rw [HEW.out] at hb
      obtain ⟨z0, z1, z2, z3, z4, z5, z6, z7, z8⟩ := HQ1.out.on hb
      have HB := Lib.hid (HB1.out.trans (hb.mono HB1.out.size))
      clear hb
      go_wp2
      have hbb := below_box HB.out (Nat.le_refl _) (.int .i64 2) (.int .i64 0) (.string (nameS (n / 10))) (.slice none 0 0)
      exact bodyPost_ret (v := .tuple #[.agg #[.int .i64 2, .int .i64 0, .string (nameS (n / 10)), .slice none 0 0], .slice (some A9) r.length (c - 1)]) (by simp [results, Tryd.results52, go_sem, z1, z2, z3, z4]) rfl
        ⟨_, _, rfl, by rw [HL.out]; exact ty_leaf _ _ (.var (nameS (n / 10))) rfl none 0 (Nat.zero_le _), HI.out.below' hQ hbb, hbb⟩
    · have h2' : ¬ n % 10 < 2 := by rw [← hk]; exact h2
      by_cases h3 : k < 3
      · have h3' : n % 10 < 3 := by rw [← hk]; exact h3
        have HL : Hid (leafZ n k = .hole (1 + n / 10)) := by show _ = _; unfold leafZ; rw [if_neg h2, if_pos h3]
        clear hk h5 h2 h3 hf0
        go_enter Tryd.func52, Tryd.ntmps52
        go_wp2_with (go_at_call 36; refine (HA.out _).mono ?_; rintro e w' ⟨rfl, rfl⟩)
        have hbb := below_new w (.cells #[.int .i64 1, .int .i64 (1 + n / 10), .string ⟨#[]⟩, .slice none 0 0] 25)
        exact bodyPost_ret (v := .tuple #[.agg #[.int .i64 1, .int .i64 (1 + n / 10), .string ⟨#[]⟩, .slice none 0 0], .slice (some A9) r.length (c - 1)]) (by simp [results, Tryd.results52, go_sem]) rfl
          ⟨_, _, rfl, by rw [HL.out]; exact ty_leaf _ _ (.hole (1 + n / 10)) rfl none 0 (Nat.zero_le _), HI.out.below' hQ hbb, hbb⟩
      · have h3' : ¬ n % 10 < 3 := by rw [← hk]; exact h3
        have h5' : n % 10 < 5 := by rw [← hk]; exact h5
        have HL : Hid (leafZ n k = .con (conS (n / 5))) := by show _ = _; unfold leafZ; rw [if_neg h2, if_neg h3]
        clear hk h5 h2 h3 hf0
        go_enter Tryd.func52, Tryd.ntmps52
        go_wp2_with (first | (go_at_call 36; refine (HA.out _).mono ?_; rintro e w' ⟨rfl, rfl⟩) | (go_at_call 100; refine (HCN.out _).mono ?_))
        rintro e y ⟨rfl, hb⟩
        rw [HEW.out] at hb
        obtain ⟨z0, z1, z2, z3, z4, z5, z6, z7, z8⟩ := HQ1.out.on hb
        have HB := Lib.hid (HB1.out.trans (hb.mono HB1.out.size))
        clear hb
        go_wp2
        have hbb := below_box HB.out (Nat.le_refl _) (.int .i64 3) (.int .i64 0) (.string (conS (n / 5))) (.slice none 0 0)
        exact bodyPost_ret (v := .tuple #[.agg #[.int .i64 3, .int .i64 0, .string (conS (n / 5)), .slice none 0 0], .slice (some A9) r.length (c - 1)]) (by simp [results, Tryd.results52, go_sem, z1, z2, z3, z4]) rfl
          ⟨_, _, rfl, by rw [HL.out]; exact ty_leaf _ _ (.con (conS (n / 5))) rfl none 0 (Nat.zero_le _), HI.out.below' hQ hbb, hbb⟩
def PlainIs (f : Nat) : Prop := ∀ (d : Nat) (zs : List Int) (v : Value) (Q : Nat → Prop) (w : World), d + f = 5 → IntsAt Q w v zs → (∀ b, Q b → b < w.heap.size) →
    Calls Tryd.prog 52 #[v, .int .i64 d, .bool false] w (Built w (builtP f zs) Q)
set_option maxRecDepth 100000 in
set_option maxHeartbeats 1000000 in
theorem plain_nil (f d : Nat) (v : Value) (Q : Nat → Prop) (w : World) (h : IntsAt Q w v []) (hQ : ∀ b, Q b → b < w.heap.size) :
    Calls Tryd.prog 52 #[v, .int .i64 d, .bool false] w (Built w (builtP f []) Q) := by
  have HI := Lib.hid h
  obtain ⟨A, c, rfl, hc, hcm, _, _⟩ := h
  have HE : Hid (builtP f [] = (.con ⟨#[73, 110, 116]⟩, [])) := by show _ = _; cases f <;> rfl
  go_enter Tryd.func52, Tryd.ntmps52
  go_wp2
  have hbb := below_new w (.cells #[.int .i64 3, .int .i64 0, .string ⟨#[73, 110, 116]⟩, .slice none 0 0] 25)
  exact bodyPost_ret (v := .tuple #[.agg #[.int .i64 3, .int .i64 0, .string ⟨#[73, 110, 116]⟩, .slice none 0 0], .slice A 0 c]) (by simp [results, Tryd.results52, go_sem]) rfl
    (by rw [HE.out]; exact ⟨_, _, rfl, ty_leaf _ _ (.con ⟨#[73, 110, 116]⟩) rfl none 0 (Nat.zero_le _), HI.out.below' hQ hbb, hbb⟩)
set_option maxRecDepth 100000 in
set_option maxHeartbeats 1000000 in
theorem plain_node (f d : Nat) (z : Int) (r : List Int) (v : Value) (Q : Nat → Prop) (w : World) (hd : d + (f + 1) = 5) (h : IntsAt Q w v (z :: r)) (hQ : ∀ b, Q b → b < w.heap.size) (h5 : ¬ aroundI z 40 % 10 < 5) (ih : PlainIs f) :
    Calls Tryd.prog 52 #[v, .int .i64 d, .bool false] w (Built w (builtP (f + 1) (z :: r)) Q) := by
  obtain ⟨b, off, c, rfl, hrl, hcm, hlt, hz, ⟨hz1, hz2⟩, A9, hA9, hi⟩ := ints_tail h
  have HI := Lib.hid hi
  have hlen0 : (((r.length : Int) + 1) == 0) = false := by rw [beq_eq_false_iff_ne]; omega
  unfold maxLen at hcm
  have hbd := aroundI_bd z 40 (by omega)
  have HA := Lib.hid (fun W => around_is z 40 W hz1 hz2 (by omega) (by omega))
  have HZ : Hid (builtP (f + 1) (z :: r) = (if aroundI z 40 % 10 < 8 then Ty.fn (builtP f r).1 (builtP f (builtP f r).2).1 else .app (builtP f r).1 (builtP f (builtP f r).2).1, (builtP f (builtP f r).2).2)) := by show _ = _; rw [builtP, if_neg h5]
  have HIH1 := Lib.hid (ih (d + 1) r)
  have HIH2 := Lib.hid (ih (d + 1) (builtP f r).2)
  generalize hR : builtP (f + 1) (z :: r) = R at *
  clear hR
  generalize builtP f r = R1 at *
  generalize builtP f R1.2 = R2 at *
  generalize aroundI z 40 = n at *
  have hn10 : n / 10 ≤ 3 := by omega
  have hn10' : 0 ≤ n / 10 := by omega
  have HNM := Lib.hid (fun W => name_any (n / 10) W (by omega) (by omega))
  have h2 : ¬ n % 10 < 2 := by omega
  have h3 : ¬ n % 10 < 3 := by omega
  have hd4 : ¬ ((4 : Int) < (d : Int)) := by omega
  have hdd : ((d + 1 : Nat) : Int) = (d : Int) + 1 := by omega
  rw [hdd] at HIH1 HIH2
  clear h hi ih hdd
  obtain ⟨W, eW, q1, b1, zz1⟩ := one_box w (.int .i64 0) (.int .i64 0) (.string ⟨#[]⟩) (.slice none 0 0) 25
  have HEW := Lib.hid eW
  have HQ1 := Lib.hid q1
  have HB1 := Lib.hid b1
  have hQW : ∀ b, Q b → b < W.heap.size := fun b hb => by have := hQ b hb; omega
  have HIW := Lib.hid (HI.out.below' hQ b1)
  have HQ := Lib.hid hQ
  have HQW := Lib.hid hQW
  have hdf : d + 1 + f = 5 := by omega
  clear eW q1 b1 HI hQ hQW
  have h5' : ¬ n % 10 < 5 := h5
  clear HNM
  by_cases h9 : n % 10 = 9
  · have h9' : (n % 10 == 9) = true := by rw [h9]; rfl
    have h8 : ¬ n % 10 < 8 := by omega
    clear h9
    rw [if_neg h8] at HZ
    go_enter Tryd.func52, Tryd.ntmps52
    go_wp2_with (go_at_call 36; refine (HA.out _).mono ?_; rintro e w' ⟨rfl, rfl⟩)
    rw [HEW.out]
    refine (HIH1.out _ Q W hdf HIW.out HQW.out).mono ?_
    rintro e y1 ⟨ta, va, rfl, hta, hva, hb1⟩
    obtain ⟨f1, n1, s1, A1, l1, c1, rfl⟩ := hta.flat
    obtain ⟨A2, c2, rfl⟩ := hva.slice
    have n1' := below_new y1 (.cells #[.int .i64 f1, .int .i64 n1, .string s1, .slice A1 l1 c1] 25)
    have x10 := Box4.new y1 (.int .i64 f1) (.int .i64 n1) (.string s1) (.slice A1 l1 c1) 25
    obtain ⟨V, eV⟩ : ∃ V, y1.alloc (.cells #[.int .i64 f1, .int .i64 n1, .string s1, .slice A1 l1 c1] 25) = V := ⟨_, rfl⟩
    rw [eV] at n1' x10
    have HEV := Lib.hid eV
    have HX10 := Lib.hid x10
    have HTA := Lib.hid (((hta.mono (Q := fun x => w.heap.size + 1 ≤ x) (fun x (hx : W.heap.size ≤ x) => (by omega : w.heap.size + 1 ≤ x))).on n1'))
    have HVA := Lib.hid (hva.on n1')
    have HBV := Lib.hid (hb1.trans (n1'.mono hb1.size))
    clear hta hva hb1 n1' x10 eV
    have hQV : ∀ b, Q b → b < V.heap.size := fun b hb => by have := HQW.out b hb; have := HBV.out.size; omega
    have HQV := Lib.hid hQV
    clear hQV
    go_wp2_with fail
    rw [HEV.out]
    refine (HIH2.out _ Q V hdf HVA.out HQV.out).mono ?_
    rintro e y2 ⟨tb, vb, rfl, htb, hvb, hb2⟩
    obtain ⟨f2, n2, s2, A3, l2, c3, rfl⟩ := htb.flat
    obtain ⟨A4, c4, rfl⟩ := hvb.slice
    have n2' := below_new y2 (.cells #[.int .i64 f2, .int .i64 n2, .string s2, .slice A3 l2 c3] 25)
    have x12 := Box4.new y2 (.int .i64 f2) (.int .i64 n2) (.string s2) (.slice A3 l2 c3) 25
    obtain ⟨U, eU⟩ : ∃ U, y2.alloc (.cells #[.int .i64 f2, .int .i64 n2, .string s2, .slice A3 l2 c3] 25) = U := ⟨_, rfl⟩
    rw [eU] at n2' x12
    have HEU := Lib.hid eU
    have HVU := Lib.hid (hb2.trans (n2'.mono hb2.size))
    have HTB := Lib.hid (((htb.mono (Q := fun x => w.heap.size + 1 ≤ x) (fun x (hx : V.heap.size ≤ x) => (by have := HBV.out.size; omega : w.heap.size + 1 ≤ x))).on n2'))
    have HTA2 := Lib.hid (HTA.out.on HVU.out)
    have HVB := Lib.hid (hvb.on n2')
    have HWU := Lib.hid (HBV.out.trans (HVU.out.mono HBV.out.size))
    obtain ⟨x0, x1, x2, x3, x4, _⟩ := HX10.out.on hb2
    clear htb hvb hb2 n2' x12 eU
    go_wp2_with fail
    rw [HEU.out]
    refine (refapp_any _ _ _ _ _ _ HTA2.out HTB.out).mono ?_
    rintro e y3 ⟨v3, rfl, hv3, hb3⟩
    obtain ⟨f5, n5, s5, A5, l5, c5, rfl⟩ := hv3.flat
    obtain ⟨z0, z1, z2, z3, z4, z5, z6, z7, z8⟩ := HQ1.out.on (HWU.out.trans (hb3.mono HWU.out.size))
    have HBF := Lib.hid ((HB1.out.trans (HWU.out.mono HB1.out.size)).trans (hb3.mono (Nat.le_trans HB1.out.size HWU.out.size)))
    have HIF := Lib.hid (HVB.out.on hb3)
    have HTF := Lib.hid (hv3.mono (Q := fun x => w.heap.size + 1 ≤ x) (fun x hx => by
      rcases hx with hx | hx
      · exact hx
      · have := HWU.out.size; exact (by omega : w.heap.size + 1 ≤ x)))
    clear hv3 hb3 x0 x1 x2 x3 x4
    go_wp2
    have hv := HTF.out.keep (.box (b := w.heap.size) (fun hx => by omega) (.int .i64 f5) (.int .i64 n5) (.string s5) (.slice A5 l5 c5))
    have hi := HIF.out.keep (.box (b := w.heap.size) (fun hx => by have := HQ.out _ hx; omega) (.int .i64 f5) (.int .i64 n5) (.string s5) (.slice A5 l5 c5))
    have hb := below_box HBF.out (Nat.le_refl _) (.int .i64 f5) (.int .i64 n5) (.string s5) (.slice A5 l5 c5)
    exact bodyPost_ret (v := .tuple #[.agg #[.int .i64 f5, .int .i64 n5, .string s5, .slice A5 l5 c5], .slice A4 R2.2.length c4]) (by simp [results, Tryd.results52, go_sem, z1, z2, z3, z4]) rfl
      (by rw [HZ.out]; exact ⟨_, _, rfl, hv.mono (fun x (hx : w.heap.size + 1 ≤ x) => (by omega : w.heap.size ≤ x)), hi, hb⟩)
  · have h9' : (n % 10 == 9) = false := by simpa using h9
    clear h9
    by_cases h8 : n % 10 < 8
    · rw [if_pos h8] at HZ
      go_enter Tryd.func52, Tryd.ntmps52
      go_wp2_with (go_at_call 36; refine (HA.out _).mono ?_; rintro e w' ⟨rfl, rfl⟩)
      rw [HEW.out]
      refine (HIH1.out _ Q W hdf HIW.out HQW.out).mono ?_
      rintro e y1 ⟨ta, va, rfl, hta, hva, hb1⟩
      obtain ⟨f1, n1, s1, A1, l1, c1, rfl⟩ := hta.flat
      obtain ⟨A2, c2, rfl⟩ := hva.slice
      have n1' := below_new y1 (.cells #[.int .i64 f1, .int .i64 n1, .string s1, .slice A1 l1 c1] 25)
      have x10 := Box4.new y1 (.int .i64 f1) (.int .i64 n1) (.string s1) (.slice A1 l1 c1) 25
      obtain ⟨V, eV⟩ : ∃ V, y1.alloc (.cells #[.int .i64 f1, .int .i64 n1, .string s1, .slice A1 l1 c1] 25) = V := ⟨_, rfl⟩
      rw [eV] at n1' x10
      have HEV := Lib.hid eV
      have HX10 := Lib.hid x10
      have HTA := Lib.hid (((hta.mono (Q := fun x => w.heap.size + 1 ≤ x) (fun x (hx : W.heap.size ≤ x) => (by omega : w.heap.size + 1 ≤ x))).on n1'))
      have HVA := Lib.hid (hva.on n1')
      have HBV := Lib.hid (hb1.trans (n1'.mono hb1.size))
      clear hta hva hb1 n1' x10 eV
      have hQV : ∀ b, Q b → b < V.heap.size := fun b hb => by have := HQW.out b hb; have := HBV.out.size; omega
      have HQV := Lib.hid hQV
      clear hQV
      go_wp2_with fail
      rw [HEV.out]
      refine (HIH2.out _ Q V hdf HVA.out HQV.out).mono ?_
      rintro e y2 ⟨tb, vb, rfl, htb, hvb, hb2⟩
      obtain ⟨f2, n2, s2, A3, l2, c3, rfl⟩ := htb.flat
      obtain ⟨A4, c4, rfl⟩ := hvb.slice
      have n2' := below_new y2 (.cells #[.int .i64 f2, .int .i64 n2, .string s2, .slice A3 l2 c3] 25)
      have x12 := Box4.new y2 (.int .i64 f2) (.int .i64 n2) (.string s2) (.slice A3 l2 c3) 25
      obtain ⟨U, eU⟩ : ∃ U, y2.alloc (.cells #[.int .i64 f2, .int .i64 n2, .string s2, .slice A3 l2 c3] 25) = U := ⟨_, rfl⟩
      rw [eU] at n2' x12
      have HEU := Lib.hid eU
      have HVU := Lib.hid (hb2.trans (n2'.mono hb2.size))
      have HTB := Lib.hid (((htb.mono (Q := fun x => w.heap.size + 1 ≤ x) (fun x (hx : V.heap.size ≤ x) => (by have := HBV.out.size; omega : w.heap.size + 1 ≤ x))).on n2'))
      have HTA2 := Lib.hid (HTA.out.on HVU.out)
      have HVB := Lib.hid (hvb.on n2')
      have HWU := Lib.hid (HBV.out.trans (HVU.out.mono HBV.out.size))
      obtain ⟨x0, x1, x2, x3, x4, _⟩ := HX10.out.on hb2
      clear htb hvb hb2 n2' x12 eU
      go_wp2_with fail
      rw [HEU.out]
      refine (reffun_any _ _ _ _ _ _ HTA2.out HTB.out).mono ?_
      rintro e y3 ⟨v3, rfl, hv3, hb3⟩
      obtain ⟨f5, n5, s5, A5, l5, c5, rfl⟩ := hv3.flat
      obtain ⟨z0, z1, z2, z3, z4, z5, z6, z7, z8⟩ := HQ1.out.on (HWU.out.trans (hb3.mono HWU.out.size))
      have HBF := Lib.hid ((HB1.out.trans (HWU.out.mono HB1.out.size)).trans (hb3.mono (Nat.le_trans HB1.out.size HWU.out.size)))
      have HIF := Lib.hid (HVB.out.on hb3)
      have HTF := Lib.hid (hv3.mono (Q := fun x => w.heap.size + 1 ≤ x) (fun x hx => by
        rcases hx with hx | hx
        · exact hx
        · have := HWU.out.size; exact (by omega : w.heap.size + 1 ≤ x)))
      clear hv3 hb3 x0 x1 x2 x3 x4
      go_wp2
      have hv := HTF.out.keep (.box (b := w.heap.size) (fun hx => by omega) (.int .i64 f5) (.int .i64 n5) (.string s5) (.slice A5 l5 c5))
      have hi := HIF.out.keep (.box (b := w.heap.size) (fun hx => by have := HQ.out _ hx; omega) (.int .i64 f5) (.int .i64 n5) (.string s5) (.slice A5 l5 c5))
      have hb := below_box HBF.out (Nat.le_refl _) (.int .i64 f5) (.int .i64 n5) (.string s5) (.slice A5 l5 c5)
      exact bodyPost_ret (v := .tuple #[.agg #[.int .i64 f5, .int .i64 n5, .string s5, .slice A5 l5 c5], .slice A4 R2.2.length c4]) (by simp [results, Tryd.results52, go_sem, z1, z2, z3, z4]) rfl
        (by rw [HZ.out]; exact ⟨_, _, rfl, hv.mono (fun x (hx : w.heap.size + 1 ≤ x) => (by omega : w.heap.size ≤ x)), hi, hb⟩)
    · rw [if_neg h8] at HZ
      go_enter Tryd.func52, Tryd.ntmps52
      go_wp2_with (go_at_call 36; refine (HA.out _).mono ?_; rintro e w' ⟨rfl, rfl⟩)
      rw [HEW.out]
      refine (HIH1.out _ Q W hdf HIW.out HQW.out).mono ?_
      rintro e y1 ⟨ta, va, rfl, hta, hva, hb1⟩
      obtain ⟨f1, n1, s1, A1, l1, c1, rfl⟩ := hta.flat
      obtain ⟨A2, c2, rfl⟩ := hva.slice
      have n1' := below_new y1 (.cells #[.int .i64 f1, .int .i64 n1, .string s1, .slice A1 l1 c1] 25)
      have x10 := Box4.new y1 (.int .i64 f1) (.int .i64 n1) (.string s1) (.slice A1 l1 c1) 25
      obtain ⟨V, eV⟩ : ∃ V, y1.alloc (.cells #[.int .i64 f1, .int .i64 n1, .string s1, .slice A1 l1 c1] 25) = V := ⟨_, rfl⟩
      rw [eV] at n1' x10
      have HEV := Lib.hid eV
      have HX10 := Lib.hid x10
      have HTA := Lib.hid (((hta.mono (Q := fun x => w.heap.size + 1 ≤ x) (fun x (hx : W.heap.size ≤ x) => (by omega : w.heap.size + 1 ≤ x))).on n1'))
      have HVA := Lib.hid (hva.on n1')
      have HBV := Lib.hid (hb1.trans (n1'.mono hb1.size))
      clear hta hva hb1 n1' x10 eV
      have hQV : ∀ b, Q b → b < V.heap.size := fun b hb => by have := HQW.out b hb; have := HBV.out.size; omega
      have HQV := Lib.hid hQV
      clear hQV
      go_wp2_with fail
      rw [HEV.out]
      refine (HIH2.out _ Q V hdf HVA.out HQV.out).mono ?_
      rintro e y2 ⟨tb, vb, rfl, htb, hvb, hb2⟩
      obtain ⟨f2, n2, s2, A3, l2, c3, rfl⟩ := htb.flat
      obtain ⟨A4, c4, rfl⟩ := hvb.slice
      have n2' := below_new y2 (.cells #[.int .i64 f2, .int .i64 n2, .string s2, .slice A3 l2 c3] 25)
      have x12 := Box4.new y2 (.int .i64 f2) (.int .i64 n2) (.string s2) (.slice A3 l2 c3) 25
      obtain ⟨U, eU⟩ : ∃ U, y2.alloc (.cells #[.int .i64 f2, .int .i64 n2, .string s2, .slice A3 l2 c3] 25) = U := ⟨_, rfl⟩
      rw [eU] at n2' x12
      have HEU := Lib.hid eU
      have HVU := Lib.hid (hb2.trans (n2'.mono hb2.size))
      have HTB := Lib.hid (((htb.mono (Q := fun x => w.heap.size + 1 ≤ x) (fun x (hx : V.heap.size ≤ x) => (by have := HBV.out.size; omega : w.heap.size + 1 ≤ x))).on n2'))
      have HTA2 := Lib.hid (HTA.out.on HVU.out)
      have HVB := Lib.hid (hvb.on n2')
      have HWU := Lib.hid (HBV.out.trans (HVU.out.mono HBV.out.size))
      obtain ⟨x0, x1, x2, x3, x4, _⟩ := HX10.out.on hb2
      clear htb hvb hb2 n2' x12 eU
      go_wp2_with fail
      rw [HEU.out]
      refine (refapp_any _ _ _ _ _ _ HTA2.out HTB.out).mono ?_
      rintro e y3 ⟨v3, rfl, hv3, hb3⟩
      obtain ⟨f5, n5, s5, A5, l5, c5, rfl⟩ := hv3.flat
      obtain ⟨z0, z1, z2, z3, z4, z5, z6, z7, z8⟩ := HQ1.out.on (HWU.out.trans (hb3.mono HWU.out.size))
      have HBF := Lib.hid ((HB1.out.trans (HWU.out.mono HB1.out.size)).trans (hb3.mono (Nat.le_trans HB1.out.size HWU.out.size)))
      have HIF := Lib.hid (HVB.out.on hb3)
      have HTF := Lib.hid (hv3.mono (Q := fun x => w.heap.size + 1 ≤ x) (fun x hx => by
        rcases hx with hx | hx
        · exact hx
        · have := HWU.out.size; exact (by omega : w.heap.size + 1 ≤ x)))
      clear hv3 hb3 x0 x1 x2 x3 x4
      go_wp2
      have hv := HTF.out.keep (.box (b := w.heap.size) (fun hx => by omega) (.int .i64 f5) (.int .i64 n5) (.string s5) (.slice A5 l5 c5))
      have hi := HIF.out.keep (.box (b := w.heap.size) (fun hx => by have := HQ.out _ hx; omega) (.int .i64 f5) (.int .i64 n5) (.string s5) (.slice A5 l5 c5))
      have hb := below_box HBF.out (Nat.le_refl _) (.int .i64 f5) (.int .i64 n5) (.string s5) (.slice A5 l5 c5)
      exact bodyPost_ret (v := .tuple #[.agg #[.int .i64 f5, .int .i64 n5, .string s5, .slice A5 l5 c5], .slice A4 R2.2.length c4]) (by simp [results, Tryd.results52, go_sem, z1, z2, z3, z4]) rfl
        (by rw [HZ.out]; exact ⟨_, _, rfl, hv.mono (fun x (hx : w.heap.size + 1 ≤ x) => (by omega : w.heap.size ≤ x)), hi, hb⟩)
theorem plainB_any : ∀ f, PlainIs f
  | f, d, [], v, Q, w, _, h, hQ => plain_nil f d v Q w h hQ
  | 0, d, z :: r, v, Q, w, hd, h, hQ => plain_leaf 0 d z r v Q w hd h hQ _ (if_pos rfl).symm (by have := aroundI_bd z 40 (by omega); omega)
  | f + 1, d, z :: r, v, Q, w, hd, h, hQ => by
    by_cases h5 : aroundI z 40 % 10 < 5
    · exact plain_leaf (f + 1) d z r v Q w hd h hQ _ (if_neg (by omega)).symm h5
    · exact plain_node f d z r v Q w hd h hQ h5 (plainB_any f)
/-- A type made of numbers. -/
def plainZ (zs : List Int) : Ty := (builtP 5 (zs.take 24)).1
set_option maxRecDepth 100000 in
set_option maxHeartbeats 1000000 in
theorem plain_any (P : Nat → Prop) (v : Value) (zs : List Int) (w : World) (h : IntsAt P w v zs) : Calls Tryd.prog 99 #[v] w (TyMade w (plainZ zs)) := by
  have HI := Lib.hid h
  obtain ⟨A, c, rfl⟩ := h.slice
  have HE : Hid (plainZ zs = (builtP 5 (zs.take 24)).1) := rfl
  have HIN := Lib.hid (fun (w' : World) (hb : Below w.heap.size w w') => ints_any P _ zs 24 w' (HI.out.on hb) (by omega) (by omega))
  generalize zs.take 24 = ys at *
  obtain ⟨W, eW, q1, b1, z1⟩ := one_box w (.int .i64 0) (.int .i64 0) (.string ⟨#[]⟩) (.slice none 0 0) 25
  have HEW := Lib.hid eW
  have HQ1 := Lib.hid q1
  have HB1 := Lib.hid b1
  clear eW q1 b1 h
  go_enter Tryd.func99, Tryd.ntmps99
  go_wp2_with fail
  rw [HEW.out]
  refine (HIN.out W HB1.out).mono ?_
  rintro e y1 ⟨v1, rfl, hv1, hb1⟩
  obtain ⟨A1, c1, rfl⟩ := hv1.slice
  have hb9 : IntsAt (fun b => b < y1.heap.size) y1 (.slice A1 ys.length c1) ys := by
    obtain ⟨A2, c2, e, h1, h2, h3, hr⟩ := hv1
    refine ⟨A2, c2, e, h1, h2, h3, ?_⟩
    rcases hr with hr | ⟨b, off, e', hp, hlt, r⟩
    · exact .inl hr
    · exact .inr ⟨b, off, e', hlt, hlt, r⟩
  have HV := Lib.hid hb9
  have HBY := Lib.hid hb1
  clear hv1 hb1 hb9
  go_wp2_with fail
  refine (plainB_any 5 0 ys _ _ y1 rfl HV.out (fun b hb => hb)).mono ?_
  rintro e y2 ⟨tv, v2, rfl, htv, hv2, hb2⟩
  obtain ⟨f1, n1, s1, A3, l1, c3, rfl⟩ := htv.flat
  obtain ⟨A4, c4, rfl⟩ := hv2.slice
  have HWY := Lib.hid (HBY.out.trans (hb2.mono HBY.out.size))
  have HQY := Lib.hid (HQ1.out.on HWY.out)
  have HT := Lib.hid (htv.mono (Q := fun x => w.heap.size + 1 ≤ x) (fun x (hx : y1.heap.size ≤ x) => (by have := HBY.out.size; omega : w.heap.size + 1 ≤ x)))
  have HBF := Lib.hid (HB1.out.trans (HWY.out.mono HB1.out.size))
  obtain ⟨x0, x1, x2, x3, x4, x5, x6, x7, x8⟩ := HQY.out
  clear htv hv2 hb2
  generalize (builtP 5 ys).2.length = L at *
  go_wp2
  have hv := HT.out.keep (.box (b := w.heap.size) (fun hx => by omega) (.int .i64 f1) (.int .i64 n1) (.string s1) (.slice A3 l1 c3))
  have hb := below_box HBF.out (Nat.le_refl _) (.int .i64 f1) (.int .i64 n1) (.string s1) (.slice A3 l1 c3)
  have hq := HQY.out.put (.int .i64 f1) (.int .i64 n1) (.string s1) (.slice A3 l1 c3)
  generalize (((y2.setCell ⟨w.heap.size, 0, none⟩ (.int .i64 f1)).setCell ⟨w.heap.size, 1, none⟩ (.int .i64 n1)).setCell ⟨w.heap.size, 2, none⟩ (.string s1)).setCell ⟨w.heap.size, 3, none⟩ (.slice A3 l1 c3) = U at *
  have hn := below_new U (.cells #[.int .i64 f1, .int .i64 n1, .string s1, .slice A3 l1 c3] 25)
  have hv' := hv.on hn
  have hb' := hb.alloc hb.size (.cells #[.int .i64 f1, .int .i64 n1, .string s1, .slice A3 l1 c3] 25)
  obtain ⟨_, u1, u2, u3, u4, _⟩ := hq.on hn
  generalize U.alloc (.cells #[.int .i64 f1, .int .i64 n1, .string s1, .slice A3 l1 c3] 25) = U2 at *
  exact bodyPost_ret (v := .agg #[.int .i64 f1, .int .i64 n1, .string s1, .slice A3 l1 c3]) (by simp [results, Tryd.results99, go_sem, u1, u2, u3, u4]) rfl ⟨_, rfl, by rw [HE.out]; exact hv'.mono (fun x (hx : w.heap.size + 1 ≤ x) => (by omega : w.heap.size ≤ x)), hb'⟩
end Go.Proofs.YtbdfjboojokgdaaDoor
