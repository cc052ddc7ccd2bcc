/- The contract of the document's Equal (chapter 4): the same, names and all. No conditions but those that each theorem names. The contracts of the document's SamePreds, SameScheme (chapter 5) at what is the same, and of Equal at no type. No conditions but those that each theorem names. The contracts of the program's small functions of lex: digit, sign, Keys, symbol; and of strings.Clone. Condition, where it is named: the list of symbols stands in memory as the program's text lays it. The contracts of the program's number and name (lex). Conditions: the text is not empty, and has at most 2^40 bytes. -/
import Derived.Test.YtbdfjboojokgdaaDoorJP04
import Derived.Test.YtbdfjboojokgdaaDoorJP35
import Derived.Test.YtbdfjboojokgdaaDoorJP18
import Derived.Test.YtbdfjboojokgdaaDoorJP13
import Derived.Test.YtbdfjboojokgdaaDoorJP05
import Derived.Lib.Hide
namespace Go.Proofs.YtbdfjboojokgdaaDoor
open Go.RowKit

noncomputable def eqT (a b : Ty) : Bool := @decide (a = b) (Classical.propDecidable _)
theorem eqT_true {a b : Ty} (h : a = b) : eqT a b = true := by unfold eqT; exact @decide_eq_true _ (Classical.propDecidable _) h
theorem eqT_false {a b : Ty} (h : a ≠ b) : eqT a b = false := by unfold eqT; exact @decide_eq_false _ (Classical.propDecidable _) h
theorem bne_lists {a b : ByteArray} : (!(a.toList == b.toList)) = (a != b) := by rw [beq_lists (a := a) (b := b) rfl]; rfl
theorem bytes_beq {a b : ByteArray} : (a == b) = true ↔ a = b := by
  constructor
  · intro h
    have h' : (a.data == b.data) = true := h
    rw [beq_iff_eq] at h'
    cases a; cases b; simp at h'; rw [h']
  · intro h; subst h; show (a.data == a.data) = true; simp
set_option maxRecDepth 100000 in
set_option maxHeartbeats 1000000 in
theorem equal_any (P Q : Nat → Prop) : ∀ (n : Nat) (a b : Ty) (v1 v2 : Value) (w : World), a.sz ≤ n → TyAt P w a v1 → TyAt Q w b v2 →
    Calls Tryd.prog 28 #[v1, v2] w fun e w' => e = .returned (.bool (eqT a b)) ∧ Below w.heap.size w w'
  | 0, a, _, _, _, _, hn, _, _ => by cases a <;> simp [Ty.sz] at hn
  | n + 1, a, b, v1, v2, w, hn, h1, h2 => by
    obtain ⟨sv1, rfl, hs1⟩ := h1.tys
    obtain ⟨sv2, rfl, hs2⟩ := h2.tys
    obtain ⟨A1, c1, rfl, hc1, hm1⟩ := hs1.form
    obtain ⟨A2, c2, rfl, hc2, hm2⟩ := hs2.form
    have IH := Lib.hid (equal_any P Q n)
    have HN := Lib.hid (fun i (h : i < a.args.length) => (show a.args[i].sz ≤ n from by have := Ty.arg_sz (List.getElem_mem h); omega))
    have HS1 := Lib.hid hs1
    have HS2 := Lib.hid hs2
    have hl1 := a.args_le
    have hl2 := b.args_le
    obtain ⟨W, eW, q1, q2, b2, z2⟩ := two_boxes w (.int .i64 a.form) (.int .i64 a.num) (.string a.name) (.slice A1 a.args.length c1) (.int .i64 b.form) (.int .i64 b.num) (.string b.name) (.slice A2 b.args.length c2) 25 25
    have HEW := Lib.hid eW
    have HQ1 := Lib.hid q1
    have HQ2 := Lib.hid q2
    have HB2 := Lib.hid b2
    clear h1 h2 hn hs1 hs2 eW q1 q2 b2
    by_cases hsame : a.form = b.form ∧ a.num = b.num ∧ a.name = b.name ∧ a.args.length = b.args.length
    · obtain ⟨hf, hnu, hna, hal⟩ := hsame
      have HEQ : Hid (a.args = b.args → eqT a b = true) := fun h => eqT_true (Ty.eq_of a b hf hnu hna h)
      have HNE : Hid (a.args ≠ b.args → eqT a b = false) := fun h => eqT_false (fun e => h (by rw [e]))
      have HLEN := Lib.hid hal
      rw [← hf, ← hnu, ← hna, ← hal] at HQ2 HEW ⊢
      rw [← hal] at HS2
      clear hf hnu hna hal
      generalize a.form = af, a.num = an, a.name = az at *
      generalize a.args = la at *
      generalize b.args = lb at *
      go_enter Tryd.func28, Tryd.ntmps28
      go_wp2_with fail
      rw [HEW.out]
      obtain ⟨_, _, _, _, x4, _⟩ := HQ1.out
      obtain ⟨_, _, _, _, y4, _⟩ := HQ2.out
      have X4 := Lib.hid x4
      have Y4 := Lib.hid y4
      clear x4 y4
      go_loopw [5, 6] (fun i _ wr => ∃ k : Nat, k ≤ la.length ∧ i = .int .i64 k ∧ Hid (∀ j (h : j < la.length) (h' : j < lb.length), j < k → la[j] = lb[j]) ∧ Below W.heap.size W wr) (fun i _ _ => la.length - (intOf i).toNat)
      case atStart => exact ⟨0, Nat.zero_le _, rfl, fun j _ _ h => absurd h (Nat.not_lt_zero _), Below.refl _ _⟩
      case round =>
        obtain ⟨k, hk, rfl, heq, hb⟩ := hrel
        have hzr := hb.size
        have z0 : w.heap.size < W.heap.size := by omega
        have z1 : w.heap.size + 1 < W.heap.size := by omega
        have x4 := (hb.cell (p := ⟨w.heap.size, 3, none⟩) z0).trans X4.out
        have y4 := (hb.cell (p := ⟨w.heap.size + 1, 3, none⟩) z1).trans Y4.out
        have HB := Lib.hid hb
        have HBW := Lib.hid (HB2.out.trans (hb.mono HB2.out.size))
        clear hb
        by_cases hlt : k < la.length
        · have hlr : k < lb.length := by rw [← HLEN.out]; exact hlt
          obtain ⟨b1, o1, A3, c3, e1, _, hb1, d0, d1, d2, d3, ht1⟩ := (HS1.out.on HBW.out).at k hlt
          obtain ⟨b2, o2, A4, c4, e2, _, hb2, g0, g1, g2, g3, ht2⟩ := (HS2.out.on HBW.out).at k hlr
          subst e1 e2
          have HT1 := Lib.hid ht1
          have HT2 := Lib.hid ht2
          have hki : (k : Int) < (la.length : Int) := by omega
          have hk0 : (0 : Int) ≤ (k : Int) := by omega
          have HSZ := Lib.hid (HN.out k hlt)
          have HEK : Hid (la[k] = lb[k] ∨ la[k] ≠ lb[k]) := Classical.em _
          clear ht1 ht2
          generalize hla : la[k] = ea at *
          generalize hlb : lb[k] = eb at *
          have HLA := Lib.hid hla
          have HLB := Lib.hid hlb
          clear hla hlb
          generalize ea.form = e1, ea.num = e2, ea.name = e3, ea.args.length = e4 at *
          generalize eb.form = j1, eb.num = j2, eb.name = j3, eb.args.length = j4 at *
          go_wp2_with fail
          go_still_tail 10, (by kernel_rfl)
          go_wp2_with fail
          refine (IH.out _ _ _ _ _ HSZ.out (HT1.out.on (Below.refl _ _).drew) (HT2.out.on (Below.refl _ _).drew)).mono ?_
          rintro e w1 ⟨rfl, b1'⟩
          have HB1 : Hid (Below W.heap.size W w1) := HB.out.drew.trans (b1'.mono hzr)
          clear b1'
          rcases HEK.out with he | he
          · rw [eqT_true he]
            have HR : Hid (∀ j (h : j < la.length) (h' : j < lb.length), j < k + 1 → la[j] = lb[j]) := fun j h h' hj => by
              by_cases hjk : j = k
              · subst hjk; exact (HLA.out.trans he).trans HLB.out.symm
              · exact heq.out j h h' (by omega)
            clear he
            go_wp2
            go_roundw
            case rel => exact ⟨k + 1, by omega, by go_num, HR, HB1.out⟩
            case measure => simp [intOf]; omega
          · rw [eqT_false he]
            have HE : Hid (eqT a b = false) := HNE.out (fun h9 => he (by rw [← HLA.out, ← HLB.out]; subst h9; rfl))
            clear he
            go_wp2
            go_ret
            exact ⟨ret_bool HE.out.symm, HB2.out.trans (HB1.out.mono HB2.out.size)⟩
        · have hd : decide (k < la.length) = false := by simpa using hlt
          have HE : Hid (eqT a b = true) := HEQ.out (List.ext_getElem HLEN.out (fun j h h' => heq.out j h h' (by omega)))
          go_wp2
          go_ret
          exact ⟨ret_bool HE.out.symm, HBW.out⟩
    · have HE : Hid (eqT a b = false) := eqT_false (fun e => hsame (by subst e; exact ⟨rfl, rfl, rfl, rfl⟩))
      have hcase : (a.form != b.form) = true ∨ ((a.form != b.form) = false ∧ (a.num != b.num) = true) ∨ ((a.form != b.form) = false ∧ (a.num != b.num) = false ∧ (!(a.name.toList == b.name.toList)) = true) ∨ ((a.form != b.form) = false ∧ (a.num != b.num) = false ∧ (!(a.name.toList == b.name.toList)) = false ∧ ((a.args.length : Int) != (b.args.length : Int)) = true) := by
        by_cases h1 : a.form = b.form
        · have h1' : (a.form != b.form) = false := by simp [h1]
          by_cases h2 : a.num = b.num
          · have h2' : (a.num != b.num) = false := by simp [h2]
            by_cases h3 : a.name = b.name
            · have h3' : (!(a.name.toList == b.name.toList)) = false := by rw [h3]; simp
              refine .inr (.inr (.inr ⟨h1', h2', h3', ?_⟩))
              rw [bne_iff_ne]
              exact fun h4 => hsame ⟨h1, h2, h3, by omega⟩
            · refine .inr (.inr (.inl ⟨h1', h2', ?_⟩))
              rw [bne_lists]
              show (!(a.name == b.name)) = true
              cases hq : (a.name == b.name) with
              | false => rfl
              | true => exact absurd (bytes_beq.1 hq) h3
          · exact .inr (.inl ⟨h1', by rw [bne_iff_ne]; exact h2⟩)
        · exact .inl (by rw [bne_iff_ne]; exact h1)

      clear hsame HN HS1 HS2 IH HQ1 HQ2 HEW
      generalize a.form = af, a.num = an, a.name = az, a.args.length = al at *
      generalize b.form = bf, b.num = bn, b.name = bz, b.args.length = bl at *
      rcases hcase with t1 | ⟨t1, t2⟩ | ⟨t1, t2, t3⟩ | ⟨t1, t2, t3, t4⟩
      all_goals
        go_enter Tryd.func28, Tryd.ntmps28
        go_wp2
        go_ret
        exact ⟨ret_bool HE.out.symm, below2 w _ _⟩
end Go.Proofs.YtbdfjboojokgdaaDoor
namespace Go.Proofs.YtbdfjboojokgdaaDoor
open Go.RowKit Lx

set_option maxRecDepth 100000 in
set_option maxHeartbeats 1000000 in
theorem equal_zero (w : World) : Calls Tryd.prog 28 #[.agg #[.int .i64 0, .int .i64 0, .string ⟨#[]⟩, .slice none 0 0], .agg #[.int .i64 0, .int .i64 0, .string ⟨#[]⟩, .slice none 0 0]] w fun e w' => e = .returned (.bool true) ∧ Below w.heap.size w w' := by
  obtain ⟨W, eW, q1, q2, b2, z2⟩ := two_boxes w (.int .i64 0) (.int .i64 0) (.string ⟨#[]⟩) (.slice none 0 0) (.int .i64 0) (.int .i64 0) (.string ⟨#[]⟩) (.slice none 0 0) 25 25
  have HEW := Lib.hid eW
  have HB2 := Lib.hid b2
  obtain ⟨x0, x1, x2, x3, x4, _⟩ := q1
  obtain ⟨y0, y1, y2, y3, y4, _⟩ := q2
  clear eW b2
  go_enter Tryd.func28, Tryd.ntmps28
  go_wp2_with fail
  rw [HEW.out]
  go_loopw [5] (fun i wr => i = .int .i64 0 ∧ wr = W) (fun _ _ => 0)
  case atStart => exact ⟨rfl, rfl⟩
  case round =>
    obtain ⟨rfl, rfl⟩ := hrel
    go_wp2
    go_ret
    exact ⟨rfl, HB2.out⟩
set_option maxRecDepth 100000 in
set_option maxHeartbeats 1000000 in
theorem samePreds_any (P Q : Nat → Prop) (ps : List (ByteArray × Ty)) (v1 v2 : Value) (w : World) (hn : ps.length ≤ 1099511627776) (h1 : PsP P w ps v1) (h2 : PsP Q w ps v2) :
    Calls Tryd.prog 43 #[v1, v2] w fun e w' => e = .returned (.bool true) ∧ Below w.heap.size w w' := by
  have H1 := Lib.hid h1
  have H2 := Lib.hid h2
  obtain ⟨A1, c1, rfl, hr1⟩ := h1
  obtain ⟨A2, c2, rfl, hr2⟩ := h2
  clear hr1 hr2
  go_enter Tryd.func43, Tryd.ntmps43
  go_wp2_with fail
  go_loopw [5] (fun i wr => ∃ k : Nat, k ≤ ps.length ∧ i = .int .i64 k ∧ Below w.heap.size w wr) (fun i _ => ps.length - (intOf i).toNat)
  case atStart => exact ⟨0, Nat.zero_le _, rfl, Below.refl _ _⟩
  case round =>
    obtain ⟨k, hk, rfl, hb⟩ := hrel
    have hzr := hb.size
    by_cases hlt : k < ps.length
    · obtain ⟨Ax, cx, e9, hr9⟩ := H1.out.on hb
      injection e9 with e9 _ e9c
      subst e9 e9c
      obtain ⟨Ay, cy, f9, hq9⟩ := H2.out.on hb
      injection f9 with f9 _ f9c
      subst f9 f9c
      rcases hr9 with hr9 | ⟨b, e8, hbl, _, hc9⟩
      · rw [hr9] at hlt; simp at hlt
      rcases hq9 with hq9 | ⟨d, d8, hdl, _, hd9⟩
      · rw [hq9] at hlt; simp at hlt
      subst e8 d8
      obtain ⟨fx, nx, sx, A9, lx, c9, h0, h1, h2, h3, h4, htx⟩ := hc9 k hlt
      obtain ⟨fy, ny, sy, B9, ly, d9, g0, g1, g2, g3, g4, hty⟩ := hd9 k hlt
      have HE : Hid (∀ y, Below wr.heap.size wr y → Calls Tryd.prog 28 #[.agg #[.int .i64 fx, .int .i64 nx, .string sx, .slice A9 lx c9], .agg #[.int .i64 fy, .int .i64 ny, .string sy, .slice B9 ly d9]] y fun e x => e = .returned (.bool true) ∧ Below w.heap.size w x ∧ Below wr.heap.size wr x) := fun y hy => by
        refine (equal_any P Q _ ps[k].2 ps[k].2 _ _ y (Nat.le_refl _) (htx.on hy) (hty.on hy)).mono ?_
        rintro e x ⟨rfl, hx⟩
        exact ⟨by rw [eqT_true rfl], (hb.trans (hy.mono hzr)).trans (hx.mono (by have := hy.size; omega)), hy.trans (hx.mono hy.size)⟩
      have he1 := HE.out wr.drew (Below.refl _ wr).drew
      have hki : (k : Int) < (ps.length : Int) := by omega
      have hk0 : (0 : Int) ≤ (k : Int) := by omega
      have hcls : (ps[k].1.toList == ps[k].1.toList) = true := by simp
      have HB := Lib.hid hb
      generalize ps[k].1 = cl at *
      have HE1 : Hid (Calls Tryd.prog 28 #[.agg #[.int .i64 fx, .int .i64 nx, .string sx, .slice A9 lx c9], .agg #[.int .i64 fy, .int .i64 ny, .string sy, .slice B9 ly d9]] wr.drew fun e x => e = .returned (.bool true) ∧ Hid (Below w.heap.size w x) ∧ (fun y : World => (y.cell? ⟨b, k * 5, none⟩ = some (.string cl) ∧ y.cell? ⟨b, k * 5 + 1, none⟩ = some (.int .i64 fx) ∧ y.cell? ⟨b, k * 5 + 2, none⟩ = some (.int .i64 nx) ∧ y.cell? ⟨b, k * 5 + 3, none⟩ = some (.string sx) ∧ y.cell? ⟨b, k * 5 + 4, none⟩ = some (.slice A9 lx c9)) ∧ (y.cell? ⟨d, k * 5, none⟩ = some (.string cl) ∧ y.cell? ⟨d, k * 5 + 1, none⟩ = some (.int .i64 fy) ∧ y.cell? ⟨d, k * 5 + 2, none⟩ = some (.int .i64 ny) ∧ y.cell? ⟨d, k * 5 + 3, none⟩ = some (.string sy) ∧ y.cell? ⟨d, k * 5 + 4, none⟩ = some (.slice B9 ly d9))) x) := he1.mono (fun e x ⟨q1, q2, q3⟩ => ⟨q1, q2, ⟨(q3.cell hbl).trans h0, (q3.cell hbl).trans h1, (q3.cell hbl).trans h2, (q3.cell hbl).trans h3, (q3.cell hbl).trans h4⟩, (q3.cell hdl).trans g0, (q3.cell hdl).trans g1, (q3.cell hdl).trans g2, (q3.cell hdl).trans g3, (q3.cell hdl).trans g4⟩)
      clear htx hty hc9 hd9 hb HE he1
      go_wp2_with fail
      have hS0 : (fun y : World => (y.cell? ⟨b, k * 5, none⟩ = some (.string cl) ∧ y.cell? ⟨b, k * 5 + 1, none⟩ = some (.int .i64 fx) ∧ y.cell? ⟨b, k * 5 + 2, none⟩ = some (.int .i64 nx) ∧ y.cell? ⟨b, k * 5 + 3, none⟩ = some (.string sx) ∧ y.cell? ⟨b, k * 5 + 4, none⟩ = some (.slice A9 lx c9)) ∧ (y.cell? ⟨d, k * 5, none⟩ = some (.string cl) ∧ y.cell? ⟨d, k * 5 + 1, none⟩ = some (.int .i64 fy) ∧ y.cell? ⟨d, k * 5 + 2, none⟩ = some (.int .i64 ny) ∧ y.cell? ⟨d, k * 5 + 3, none⟩ = some (.string sy) ∧ y.cell? ⟨d, k * 5 + 4, none⟩ = some (.slice B9 ly d9))) wr.drew := ⟨⟨h0, h1, h2, h3, h4⟩, g0, g1, g2, g3, g4⟩
      go_region_held3 (fun y : World => (y.cell? ⟨b, k * 5, none⟩ = some (.string cl) ∧ y.cell? ⟨b, k * 5 + 1, none⟩ = some (.int .i64 fx) ∧ y.cell? ⟨b, k * 5 + 2, none⟩ = some (.int .i64 nx) ∧ y.cell? ⟨b, k * 5 + 3, none⟩ = some (.string sx) ∧ y.cell? ⟨b, k * 5 + 4, none⟩ = some (.slice A9 lx c9)) ∧ (y.cell? ⟨d, k * 5, none⟩ = some (.string cl) ∧ y.cell? ⟨d, k * 5 + 1, none⟩ = some (.int .i64 fy) ∧ y.cell? ⟨d, k * 5 + 2, none⟩ = some (.int .i64 ny) ∧ y.cell? ⟨d, k * 5 + 3, none⟩ = some (.string sy) ∧ y.cell? ⟨d, k * 5 + 4, none⟩ = some (.slice B9 ly d9))) (first | with_reducible exact hS0 | with_reducible exact hS1) (first | (go_at_call 28; (with_reducible refine HE1.out.mono ?_); rintro e5 x5 ⟨rfl, HB5, hS1⟩))
      all_goals
        go_wp2_with fail
        go_roundw
        case rel =>
          have hfin : ∃ k9 : Nat, k9 ≤ ps.length ∧ Value.int .i64 ((k : Int) + 1) = .int .i64 k9 ∧ Below w.heap.size w x5 := ⟨k + 1, by omega, by go_num, HB5.out⟩
          first | exact hfin | ((repeat apply Exists.intro); exact ⟨hfin, rfl⟩)
        case measure => simp [intOf]; omega
    · have hd : decide (k < ps.length) = false := by simpa using hlt
      have HB := Lib.hid hb
      clear hb
      go_wp2
      go_ret
      exact ⟨rfl, HB.out⟩
set_option maxRecDepth 100000 in
set_option maxHeartbeats 1000000 in
theorem sameScheme_any (P1 P2 Q1 Q2 : Nat → Prop) (vs : List ByteArray) (ps : List (ByteArray × Ty)) (w : World) (hn : ps.length ≤ 1099511627776) (A1 : Option Addr) (n1 c1 : Nat) (A2 : Option Addr) (n2 c2 : Nat) (A3 : Option Addr) (n3 c3 : Nat) (f1 m1 : Int) (s1 : ByteArray) (A4 : Option Addr) (n4 c4 : Nat) (B1 : Option Addr) (l1 d1 : Nat) (B2 : Option Addr) (l2 d2 : Nat) (B3 : Option Addr) (l3 d3 : Nat) (f2 m2 : Int) (s2 : ByteArray) (B4 : Option Addr) (l4 d4 : Nat)
    (h1 : StrsAt P1 w (.slice A1 n1 c1) vs) (h2 : PsP P2 w ps (.slice A3 n3 c3)) (g1 : StrsAt Q1 w (.slice B1 l1 d1) vs) (g2 : PsP Q2 w ps (.slice B3 l3 d3)) (h3 : ∀ y, Below w.heap.size w y → Calls Tryd.prog 28 #[.agg #[.int .i64 f1, .int .i64 m1, .string s1, .slice A4 n4 c4], .agg #[.int .i64 f2, .int .i64 m2, .string s2, .slice B4 l4 d4]] y fun e x => e = .returned (.bool true) ∧ Below y.heap.size y x) :
    Calls Tryd.prog 46 #[.agg #[.slice A1 n1 c1, .slice A2 n2 c2, .slice A3 n3 c3, .int .i64 f1, .int .i64 m1, .string s1, .slice A4 n4 c4], .agg #[.slice B1 l1 d1, .slice B2 l2 d2, .slice B3 l3 d3, .int .i64 f2, .int .i64 m2, .string s2, .slice B4 l4 d4]] w fun e w' => e = .returned (.bool true) ∧ Below w.heap.size w w' := by
  have k0 := (MapKept.heap_alloc w (.cells #[.slice A1 n1 c1, .slice A2 n2 c2, .slice A3 n3 c3, .int .i64 f1, .int .i64 m1, .string s1, .slice A4 n4 c4] 70)).1
  have b1 := below_new w (.cells #[.slice A1 n1 c1, .slice A2 n2 c2, .slice A3 n3 c3, .int .i64 f1, .int .i64 m1, .string s1, .slice A4 n4 c4] 70)
  obtain ⟨W, eW⟩ : ∃ W, w.alloc (.cells #[.slice A1 n1 c1, .slice A2 n2 c2, .slice A3 n3 c3, .int .i64 f1, .int .i64 m1, .string s1, .slice A4 n4 c4] 70) = W := ⟨_, rfl⟩
  have z1 : W.heap.size = w.heap.size + 1 := by rw [← eW]; simp
  rw [eW] at k0 b1
  have k1 := (MapKept.heap_alloc W (.cells #[.slice B1 l1 d1, .slice B2 l2 d2, .slice B3 l3 d3, .int .i64 f2, .int .i64 m2, .string s2, .slice B4 l4 d4] 70)).1
  have b2 := below_new W (.cells #[.slice B1 l1 d1, .slice B2 l2 d2, .slice B3 l3 d3, .int .i64 f2, .int .i64 m2, .string s2, .slice B4 l4 d4] 70)
  obtain ⟨V, eV⟩ : ∃ V, W.alloc (.cells #[.slice B1 l1 d1, .slice B2 l2 d2, .slice B3 l3 d3, .int .i64 f2, .int .i64 m2, .string s2, .slice B4 l4 d4] 70) = V := ⟨_, rfl⟩
  have z2 : V.heap.size = W.heap.size + 1 := by rw [← eV]; simp
  rw [eV] at k1 b2
  have bV := b1.trans (b2.mono b1.size)
  have hk : ∀ y, Below V.heap.size V y → y.heap[w.heap.size]? = some (.cells #[.slice A1 n1 c1, .slice A2 n2 c2, .slice A3 n3 c3, .int .i64 f1, .int .i64 m1, .string s1, .slice A4 n4 c4] 70) ∧ y.heap[W.heap.size]? = some (.cells #[.slice B1 l1 d1, .slice B2 l2 d2, .slice B3 l3 d3, .int .i64 f2, .int .i64 m2, .string s2, .slice B4 l4 d4] 70) ∧ Below w.heap.size w y := fun y hy =>
    ⟨(hy.block _ (by omega)).trans ((b2.block _ (by omega)).trans k0), (hy.block _ (by omega)).trans k1, bV.trans (hy.mono bV.size)⟩
  have H1 := Lib.hid (sameTexts_any P1 Q1 vs _ _ V (h1.on bV) (g1.on bV))
  have H2 := Lib.hid (fun y (hy : Below V.heap.size V y) => samePreds_any P2 Q2 ps _ _ y hn ((h2.on bV).on hy) ((g2.on bV).on hy))
  have H3 := Lib.hid (fun y (hy : Below V.heap.size V y) => h3 y (bV.trans (hy.mono bV.size)))
  have HK := Lib.hid hk
  have HEW := Lib.hid eW
  have HEV := Lib.hid eV
  rw [z1] at k1
  obtain ⟨p0, p1, p2, p3, p4, p5, p6, _⟩ := seven_cells ((b2.block _ (by omega)).trans k0)
  obtain ⟨q0, q1, q2, q3, q4, q5, q6, _⟩ := seven_cells k1
  clear k0 b1 eW k1 b2 eV bV hk h1 h2 h3 g1 g2
  go_enter Tryd.func46, Tryd.ntmps46
  go_upto_region 1 with (fail)
  rw [HEW.out, HEV.out]
  go_wp2_with fail
  (with_reducible refine H1.out.mono ?_)
  rintro e x ⟨rfl, hb⟩
  obtain ⟨r0, r1, r2⟩ := HK.out x hb
  rw [z1] at r1
  have HX := Lib.hid hb
  have HC := Lib.hid (H2.out x hb)
  obtain ⟨p0, p1, p2, p3, p4, p5, p6, _⟩ := seven_cells r0
  obtain ⟨q0, q1, q2, q3, q4, q5, q6, _⟩ := seven_cells r1
  clear hb r0 r1 r2
  go_wp2_with fail
  (with_reducible refine HC.out.mono ?_)
  rintro e y ⟨rfl, hb⟩
  have hb2 := HX.out.trans (hb.mono HX.out.size)
  obtain ⟨r0, r1, r2⟩ := HK.out y hb2
  rw [z1] at r1
  have HY := Lib.hid hb2
  have HD := Lib.hid (H3.out y hb2)
  obtain ⟨p0, p1, p2, p3, p4, p5, p6, _⟩ := seven_cells r0
  obtain ⟨q0, q1, q2, q3, q4, q5, q6, _⟩ := seven_cells r1
  clear hb hb2 r0 r1 r2
  go_wp2_with fail
  (with_reducible refine HD.out.mono ?_)
  rintro e z ⟨rfl, hb⟩
  have hb2 := HY.out.trans (hb.mono HY.out.size)
  have HZ := Lib.hid (HK.out z hb2).2.2
  clear hb hb2
  go_wp2
  go_ret
  exact ⟨rfl, HZ.out⟩
end Go.Proofs.YtbdfjboojokgdaaDoor
namespace Go.Proofs.YtbdfjboojokgdaaDoor.Lx
open Go.RowKit

set_option maxHeartbeats 400000 in
theorem digit_any (c : Int) (w : World) :
    Calls Tryd.prog 119 #[.int .u8 c] w fun e w' => e = .returned (.bool (rangeB 48 57 c)) ∧ w = w' := by
  go_enter Tryd.func119, Tryd.ntmps119
  go_wp2
  all_goals go_ret
  all_goals exact ⟨ret_bool (by simp [rangeB]; omega), rfl⟩

theorem name_two (c : UInt8) : nameB 97 122 ⟨#[97, c]⟩ = signB (c.toNat : Int) := by
  cases h : signB (c.toNat : Int) with
  | true =>
    refine nameB_true ⟨Nat.lt_of_lt_of_eq (by decide) (show 2 = _ from rfl), (show (2 : Nat) ≤ 32 by decide), fun i hi => ?_⟩
    have : i = 0 ∨ i = 1 := by have : i < 2 := hi; omega
    rcases this with rfl | rfl
    · rfl
    · exact h
  | false =>
    refine nameB_false (fun hn => ?_)
    have := hn.2.2 1 (Nat.lt_of_lt_of_eq (by decide) (show 2 = _ from rfl))
    have h9 : testB 97 122 1 (c.toNat : Int) = true := this
    unfold testB at h9
    simp [h] at h9

set_option maxHeartbeats 400000 in
theorem sign_any (x : ByteArray) (c : UInt8) (w : World) (hx : x.data.toList = [c]) :
    Calls Tryd.prog 147 #[.string x] w fun e w' => e = .returned (.bool (signB (c.toNat : Int))) ∧ Below w.heap.size w w' := by
  have hb : (⟨#[97]⟩ : ByteArray) ++ x = ⟨#[97, c]⟩ := bytes_ext (by simp [hx])
  have h1 : x.size = 1 := by rw [Lib.size_eq, hx]; rfl
  have HB := Lib.hid hb
  have h1' : x.size ≤ 1 := by omega
  clear hb hx h1
  go_enter Tryd.func147, Tryd.ntmps147
  go_wp2_with fail
  rw [HB.out]
  refine (lower_any (⟨#[97, c]⟩ : ByteArray) _ (show (2 : Nat) ≤ maxLen by decide)).mono ?_
  rintro e w1 ⟨rfl, hb⟩
  rw [name_two]
  go_wp2
  go_ret
  exact ⟨rfl, hb⟩

set_option maxHeartbeats 400000 in
theorem keys_any (w : World) :
    Calls Tryd.prog 149 #[] w fun e w' => e = .returned (.slice (some ⟨w.heap.size, 0, none⟩) 7 7) ∧ Texts w.heap.size keysL w' ∧ Below w.heap.size w w' := by
  go_enter Tryd.func149, Tryd.ntmps149
  go_wp2
  go_ret
  exact ⟨rfl, texts_new w keysL 9, (Below.refl _ _).alloc (Nat.le_refl _) _⟩

set_option maxHeartbeats 400000 in
theorem clone_any (s : ByteArray) (w : World) (h : s.size ≤ 281474976710656) :
    Calls Tryd.prog 150 #[.string s] w fun e w' => e = .returned (.string s) ∧ Below w.heap.size w w' := by
  go_enter Tryd.func150, Tryd.ntmps150
  go_wp2_with (go_at_call 163; refine (Tryd.stringslite_Clone _ _ h).mono ?_; rintro e w' ⟨rfl, hb⟩)
  go_ret
  exact ⟨rfl, hb⟩

theorem run_index_sym (A : Array Value) (k : Nat) (x : ByteArray) (W : World) (hk : k < 13) (hA : A[k]? = some (.string x)) :
    (Instr.index 189 (.agg A) (.int .i64 k)).run Tryd.prog W = .ok (.string x) W := by
  have h : Tryd.prog.underlying 189 = some (.array 13 9) := Tryd.underlying189
  have hn : (0 : Int) ≤ k ∧ (k : Int) < 13 := by omega
  have z9 := Tryd.sizeOf9
  have a9 := Tryd.isAgg9
  simp [Instr.index, run_underlying h, asIntOf, hn, go_sem, hk, z9, a9, hA]
def symA : Array Value := (symsL.map (fun l => Value.string ⟨l.toArray⟩)).toArray
/-- What symbol answered. -/
def symV (l : List UInt8) : Value := if symL l = [] then .tuple #[.agg #[.int .i64 0, .string ⟨#[]⟩, .int .i64 0, .int .i64 0], .int .i64 10] else .tuple #[aggT 4 (symL l) 0 0, .int .i64 0]

set_option maxRecDepth 100000 in
set_option maxHeartbeats 1000000 in
theorem symbol_any (s : ByteArray) (w : World) (hS : Texts 0 symsL w) (h0 : 0 < w.heap.size) :
    Calls Tryd.prog 121 #[.string s] w fun e w' => e = .returned (symV s.data.toList) ∧ Below w.heap.size w w' := by
  have c0 := hS 0 (by decide)
  have c1 := hS 1 (by decide)
  have c2 := hS 2 (by decide)
  have c3 := hS 3 (by decide)
  have c4 := hS 4 (by decide)
  have c5 := hS 5 (by decide)
  have c6 := hS 6 (by decide)
  have c7 := hS 7 (by decide)
  have c8 := hS 8 (by decide)
  have c9 := hS 9 (by decide)
  have c10 := hS 10 (by decide)
  have c11 := hS 11 (by decide)
  have c12 := hS 12 (by decide)
  have HS := Lib.hid hS
  clear hS
  go_enter Tryd.func121, Tryd.ntmps121
  go_wp2_with fail
  clear c0 c1 c2 c3 c4 c5 c6 c7 c8 c9 c10 c11 c12
  have hA : ∀ k (h : k < symsL.length), symA[k]? = some (.string ⟨symsL[k].toArray⟩) := fun k h => by simp [symA, h]
  have HA := Lib.hid hA
  have hAz : symA.size = 13 := rfl
  clear hA
  rw [show (#[Value.string ⟨symsL[0].toArray⟩, Value.string ⟨symsL[1].toArray⟩, Value.string ⟨symsL[2].toArray⟩, Value.string ⟨symsL[3].toArray⟩, Value.string ⟨symsL[4].toArray⟩, Value.string ⟨symsL[5].toArray⟩, Value.string ⟨symsL[6].toArray⟩, Value.string ⟨symsL[7].toArray⟩, Value.string ⟨symsL[8].toArray⟩, Value.string ⟨symsL[9].toArray⟩, Value.string ⟨symsL[10].toArray⟩, Value.string ⟨symsL[11].toArray⟩, Value.string ⟨symsL[12].toArray⟩] : Array Value) = symA from rfl]
  generalize symA = A at *
  go_loop [5, 7] (fun _ i => ∃ k : Nat, k ≤ 13 ∧ i = .int .i64 k ∧ Hid (symsL.find? (fun p => p.isPrefixOf s.data.toList) = (symsL.drop k).find? (fun p => p.isPrefixOf s.data.toList))) (fun _ i => 13 - (intOf i).toNat)
  case atStart => exact ⟨0, by omega, rfl, rfl⟩
  case round =>
    obtain ⟨k, hk, rfl, hfi⟩ := hrel
    by_cases hlt : k < 13
    · have hks : k < symsL.length := hlt
      have hc := HA.out k hks
      have HF := Lib.hid (find_from hks hfi.out)
      have hpos : symsL[k] ≠ [] := by
        have : ∀ x ∈ symsL, x ≠ [] := by decide
        exact this _ (List.getElem_mem hks)
      have HPOS := Lib.hid hpos
      clear hpos
      generalize symsL[k] = x at *
      have hki : (k : Int) < 13 := by omega
      have hk0 : (0 : Int) ≤ (k : Int) := by omega
      have hrun := fun W => run_index_sym A k _ W hlt hc
      clear hfi hks hc
      go_wp2_with fail
      refine (Tryd.strings_HasPrefix _ _ _).mono ?_
      rintro e w' ⟨rfl, rfl⟩
      rw [show Lib.hasPrefix s.data.toList (⟨x.toArray⟩ : ByteArray).data.toList = x.isPrefixOf s.data.toList by unfold Lib.hasPrefix; simp]
      by_cases hp : x.isPrefixOf s.data.toList = true
      · have HE : Hid (symL s.data.toList = x) := HF.out.1 hp
        rw [hp]
        clear hp
        go_wp2
        exact bodyPost_ret (v := .tuple #[.agg #[.int .i64 4, .string ⟨x.toArray⟩, .int .i64 0, .int .i64 0], .int .i64 0]) (by simp [results, Tryd.results121, go_sem]) rfl ⟨by unfold symV; rw [HE.out, if_neg HPOS.out]; rfl, (Below.refl _ _).alloc (Nat.le_refl _) _⟩
      · have hp' : x.isPrefixOf s.data.toList = false := Bool.eq_false_iff.2 hp
        have HR : Hid (symsL.find? (fun p => p.isPrefixOf s.data.toList) = (symsL.drop (k + 1)).find? (fun p => p.isPrefixOf s.data.toList)) := HF.out.2 hp'
        rw [hp']
        clear hp hp'
        go_wp2
        go_round
        case rel => exact ⟨k + 1, by omega, by go_num, HR⟩
        case measure => simp [intOf]; omega
    · obtain rfl : k = 13 := by omega
      have HE : Hid (symL s.data.toList = []) := by show symL _ = []; unfold symL; rw [hfi.out]; rfl
      go_wp2
      exact bodyPost_ret (v := .tuple #[.agg #[.int .i64 0, .string ⟨#[]⟩, .int .i64 0, .int .i64 0], .int .i64 10]) (by simp [results, Tryd.results121, go_sem]) rfl ⟨by unfold symV; rw [if_pos HE.out], (Below.refl _ _).alloc (Nat.le_refl _) _⟩
end Go.Proofs.YtbdfjboojokgdaaDoor.Lx
namespace Go.Proofs.YtbdfjboojokgdaaDoor.Lx
open Go.RowKit

/-- What number answered. -/
def numR (l : List UInt8) : Value := oneV (if 2147483647 < numV (l.takeWhile digB) then .error 11 else .ok (3, l.takeWhile digB, numV (l.takeWhile digB)))
theorem numV_tw_ge (l : List UInt8) (k : Nat) (h : k ≤ (l.takeWhile digB).length) : numV (l.take k) ≤ numV (l.takeWhile digB) := by
  have e : l.takeWhile digB = l.take k ++ (l.takeWhile digB).drop k := by
    conv => lhs; rw [← List.take_append_drop k (l.takeWhile digB)]
    rw [show (l.takeWhile digB).take k = l.take k by
      rw [← tw_take digB l, List.take_take, Nat.min_eq_left h]]
  rw [e]; exact numV_mono _ _

set_option maxRecDepth 100000 in
set_option maxHeartbeats 1000000 in
theorem number_any (s : ByteArray) (w : World) (hm : s.size ≤ 1099511627776) :
    Calls Tryd.prog 120 #[.string s] w fun e w' => e = .returned (numR s.data.toList) ∧ Below w.heap.size w w' := by
  have HTL : Hid ((s.data.toList.takeWhile digB).length ≤ s.size) := by show _ ≤ _; rw [Lib.size_eq]; exact tw_le _ _
  go_enter Tryd.func120, Tryd.ntmps120
  go_wp2_with fail
  go_loop [4, 5] (fun v i => ∃ k : Nat, k ≤ s.size ∧ i = .int .i64 k ∧ v = .int .i64 (numV (s.data.toList.take k)) ∧ numV (s.data.toList.take k) ≤ 2147483647 ∧ Hid (k ≤ (s.data.toList.takeWhile digB).length)) (fun _ i => s.size - (intOf i).toNat)
  case atStart => exact ⟨0, by omega, rfl, rfl, by simp [numV], Nat.zero_le _⟩
  case round =>
    obtain ⟨k, hk, rfl, rfl, hV, hr⟩ := hrel
    by_cases hgo : ∃ h : k < s.size, digB s[k] = true
    · obtain ⟨hlt, hd⟩ := hgo
      have hkl : k < s.data.toList.length := by rw [← Lib.size_eq]; exact hlt
      have HR : Hid (k + 1 ≤ (s.data.toList.takeWhile digB).length) := tw_step digB s.data.toList k hr.out hkl (by rw [get_data s k hlt]; exact hd)
      have hnx := numV_snoc (s.data.toList.take k) s[k]
      rw [← take_get s k hlt] at hnx
      have hdv := dig_val hd
      have hd1 : 48 ≤ s[k].toNat := hdv.1
      have hd2 : s[k].toNat ≤ 57 := hdv.2
      have hd' : rangeB 48 57 (s[k].toNat : Int) = true := hd
      have HNX : Hid (((numV (s.data.toList.take (k + 1)) : Nat) : Int) = 10 * ((numV (s.data.toList.take k) : Nat) : Int) + ((s[k].toNat : Int) - 48)) := by show _ = _; omega
      have hge := numV_tw_ge s.data.toList (k + 1) HR.out
      have hdec : decide (k < s.size) = true := by simpa using hlt
      by_cases hbig : 2147483647 < numV (s.data.toList.take (k + 1))
      · have HE : Hid (numR s.data.toList = oneV (.error 11)) := by show _ = _; unfold numR; rw [if_pos (by omega)]
        have hb' : (2147483647 : Int) < 10 * ((numV (s.data.toList.take k) : Nat) : Int) + ((s[k].toNat : Int) - 48) := by have := HNX.out; omega
        clear hnx hge hbig hdv hd
        generalize numV (s.data.toList.take k) = V at *
        have hmod : ((s[k].toNat : Int) - 48) % 256 = (s[k].toNat : Int) - 48 := by omega
        go_wp2_with (go_at_call 119; refine (digit_any _ _).mono ?_; rintro e w' ⟨rfl, rfl⟩)
        exact bodyPost_ret (v := .tuple #[.agg #[.int .i64 0, .string ⟨#[]⟩, .int .i64 0, .int .i64 0], .int .i64 11]) (by simp [results, Tryd.results120, go_sem]) rfl ⟨by rw [HE.out]; rfl, (Below.refl _ _).alloc (Nat.le_refl _) _⟩
      · have hb' : ¬ (2147483647 : Int) < 10 * ((numV (s.data.toList.take k) : Nat) : Int) + ((s[k].toNat : Int) - 48) := by have := HNX.out; omega
        have HNB : Hid (numV (s.data.toList.take (k + 1)) ≤ 2147483647) := by show _ ≤ _; omega
        clear hnx hge hbig hdv hd
        generalize numV (s.data.toList.take k) = V at *
        have hmod : ((s[k].toNat : Int) - 48) % 256 = (s[k].toNat : Int) - 48 := by omega
        go_wp2_with (go_at_call 119; refine (digit_any _ _).mono ?_; rintro e w' ⟨rfl, rfl⟩)
        go_round
        case rel => exact ⟨k + 1, by omega, by go_num, by rw [HNX.out], HNB.out, HR⟩
        case measure => simp [intOf]; omega
    · have htw : (s.data.toList.takeWhile digB).length = k := by
        by_cases hlt : k < s.size
        · have hkl : k < s.data.toList.length := by rw [← Lib.size_eq]; exact hlt
          refine tw_stop digB s.data.toList k hr.out hkl ?_
          rw [get_data s k hlt]
          cases e9 : digB s[k] with
          | false => rfl
          | true => exact absurd ⟨hlt, e9⟩ hgo
        · have := HTL.out; have := hr.out; omega
      have HTK : Hid (s.data.toList.takeWhile digB = s.data.toList.take k) := by show _ = _; rw [← htw]; exact (tw_take _ _).symm
      have HE : Hid (numR s.data.toList = oneV (.ok (3, s.data.toList.take k, numV (s.data.toList.take k)))) := by show _ = _; unfold numR; rw [HTK.out, if_neg (by omega)]
      have hxt := extract_take s k
      have hxz : (s.extract 0 k).size ≤ 281474976710656 := by rw [ByteArray.size_extract]; omega
      have HX := Lib.hid hxt
      clear htw hxt
      generalize hVV : numV (s.data.toList.take k) = V at *
      have HVV := Lib.hid hVV
      clear hVV
      have hcase : (∃ h : k < s.size, rangeB 48 57 (s[k].toNat : Int) = false) ∨ decide (k < s.size) = false := by
        by_cases hlt : k < s.size
        · left; refine ⟨hlt, ?_⟩
          cases e9 : digB s[k] with
          | false => exact e9
          | true => exact absurd ⟨hlt, e9⟩ hgo
        · right; simpa using hlt
      clear hgo
      rcases hcase with ⟨hlt, hnd⟩ | hdec
      all_goals
        go_wp2_with (first | (go_at_call 119; refine (digit_any _ _).mono ?_; rintro e w' ⟨rfl, rfl⟩))
        refine (clone_any _ _ hxz).mono ?_
        rintro e w1 ⟨rfl, hb⟩
        rw [HX.out]
        obtain ⟨hc, hf⟩ := bcell hb
        have hz : w.heap.size < w1.heap.size := by have := hb.size; simp at this; omega
        have HW : Hid (Below w.heap.size w w1) := ((Below.refl _ _).alloc (Nat.le_refl _) _).trans (hb.mono (by simp))
        clear hb
        go_wp2
        exact bodyPost_ret (v := .tuple #[.agg #[.int .i64 3, .string ⟨(s.data.toList.take k).toArray⟩, .int .i64 V, .int .i64 0], .int .i64 0]) (by simp [results, Tryd.results120, go_sem, hc]) rfl ⟨by rw [HE.out]; rfl, ((((HW.out.setCell (Nat.le_refl _) _).setCell (Nat.le_refl _) _).setCell (Nat.le_refl _) _).setCell (Nat.le_refl _) _)⟩
end Go.Proofs.YtbdfjboojokgdaaDoor.Lx
