/- close: a group is shut. No conditions but those that each theorem names. -/
import Derived.Test.YthmnghngcbkjpaaEnt
import Derived.Deep.Cut
import Derived.Deep.LoopGhost
namespace Go.Proofs.Ythmnghngcbkjpaa
open Go.RowKit
def ShutRes (n B sb cb lb rb : Nat) (uv : Value) (M : List (List Int)) (s : S) (pv : Value) (w : World) (e : Ending) (w' : World) : Prop :=
  e = .returned (.tuple #[]) ∧ ∃ ov, SAt n B sb cb lb rb uv M s ov pv w' ∧ Below B w w'
/-- In the midst: 'done' are shut, 'pre ++ x :: left' are open. -/
def CloseRel (n B sb cb lb rb : Nat) (uv : Value) (M : List (List Int)) (s : S) (pv : Value) (w : World) (pre post : List Nat) (x : Nat) (k : Nat) (wr : World) : Prop :=
  ∃ left done ov, left.length = k ∧ post = left ++ done ∧ SAt n B sb cb lb rb uv M (s.shut (pre ++ x :: left) done x) ov pv wr ∧ Below B w wr
theorem shut_zero (s : S) (x : Nat) : s.shut s.opens [] x = s := by
  unfold S.shut
  simp
theorem shut_more (s : S) (pre pre' : List Nat) (done : List Nat) (x y : Nat) :
    ({ ({ (s.shut pre done x) with opens := pre' } : S) with least := upd (s.shut pre done x).least y top, root := upd (s.shut pre done x).root y x } : S) = s.shut pre' (y :: done) x := by
  have e1 : upd (fun j => if j ∈ done then top else s.least j) y top = fun j => if j ∈ y :: done then top else s.least j := by
    funext j
    unfold upd
    by_cases e : j = y
    · simp [e]
    · by_cases e2 : j ∈ done <;> simp [e, e2]
  have e2 : upd (fun j => if j ∈ done then x else s.root j) y x = fun j => if j ∈ y :: done then x else s.root j := by
    funext j
    unfold upd
    by_cases e : j = y
    · simp [e]
    · by_cases e2 : j ∈ done <;> simp [e, e2]
  show S.mk s.count s.come (upd (fun j => if j ∈ done then top else s.least j) y top) (upd (fun j => if j ∈ done then x else s.root j) y x) pre' s.path = S.mk s.count s.come (fun j => if j ∈ y :: done then top else s.least j) (fun j => if j ∈ y :: done then x else s.root j) pre' s.path
  rw [e1, e2]
/-- A round of close: the last open one, z, is shut. -/
theorem close_round {n B sb cb lb rb : Nat} {uv : Value} {M : List (List Int)} {s : S} {pv : Value} {w : World} {A : Option Addr} {m c : Nat} {l done : List Nat} {z x : Nat} (h : SAt n B sb cb lb rb uv M (s.shut (l ++ [z]) done x) (.slice A m c) pv w) :
    m = l.length + 1 ∧ ∃ g, A = some ⟨g, 0, none⟩ ∧ l.length + 1 ≤ c ∧ c ≤ maxLen ∧ w.cell? ⟨g, l.length, none⟩ = some (natV z) ∧
      SAt n B sb cb lb rb uv M { s.shut (l ++ [z]) done x with opens := l } (.slice A l.length c) pv (w.setCell ⟨sb, 5, none⟩ (.slice A l.length c)) := by
  have e0 : (s.shut (l ++ [z]) done x).opens = l ++ [z] := rfl
  have hl : (s.shut (l ++ [z]) done x).opens.length = l.length + 1 := by rw [e0]; simp
  have ho := h.opens
  rw [hl] at ho
  obtain ⟨g, c', e, _, _, h1, h2⟩ := own_some ho (by omega)
  injection e with ea eb ec
  subst ea eb ec
  have hc := ho.cellAt l.length (by omega)
  rw [e0, List.getElem?_map] at hc
  have h9 := h.popOpen (k := l.length) (by omega) (by omega)
  have e1 : (s.shut (l ++ [z]) done x).opens.take l.length = l := by rw [e0]; simp
  rw [e1] at h9
  exact ⟨rfl, g, rfl, h1, h2, by rw [hc]; simp, h9⟩
theorem natV_top : natV top = .int .i64 9223372036854775807 := rfl
set_option maxRecDepth 100000 in
set_option maxHeartbeats 2000000 in
theorem close_any {n B sb cb lb rb : Nat} {uv : Value} {M : List (List Int)} {s : S} {ov pv : Value} {w : World} (h : SAt n B sb cb lb rb uv M s ov pv w) (hn : n ≤ 1099511627776) (pre post : List Nat) (x : Nat) (ho : s.opens = pre ++ x :: post) (hlt : ∀ y ∈ s.opens, y < n) (hx : x ∉ post) :
    Calls Try.prog 34 #[.pointer (some ⟨sb, 0, none⟩), .int .i64 x] w (ShutRes n B sb cb lb rb uv M (s.shut pre (x :: post) x) pv w) := by
  have hrel0 : CloseRel n B sb cb lb rb uv M s pv w pre post x post.length w := ⟨post, [], ov, rfl, by simp, by rw [← ho, shut_zero s x]; exact h, Below.refl _ _⟩
  have HR0 := Lib.hid hrel0
  have HLT := Lib.hid hlt
  have HO := Lib.hid ho
  have HX := Lib.hid hx
  have HXN := Lib.hid (hlt x (by rw [ho]; simp))
  have HN := Lib.hid hn
  clear hrel0 h hlt ho hx hn
  go_enter Try.func34, Try.ntmps34
  go_wp2_with fail
  go_loopg [] post.length (fun k wr => CloseRel n B sb cb lb rb uv M s pv w pre post x k wr)
  case atStart => exact HR0.out
  case round =>
    obtain ⟨left, done, ov2, hk, hpost, hs, hb⟩ := hrel
    obtain ⟨A, c, rfl, _, _⟩ := own_form hs.opens
    rcases List.eq_nil_or_concat left with e | ⟨l, y, e⟩
    · subst e
      have hpo : done = post := by rw [hpost]; rfl
      subst hpo
      clear hk hpost
      have hr := close_round hs
      obtain ⟨em, g, rfl, hc1, hc2, hcell, hs1⟩ := hr
      obtain ⟨_, _, _, _, _, d5, _, _, cf⟩ := hs.cells
      have cf5 := cf 5
      rw [em] at d5
      unfold maxLen at hc2
      have HB1 : Below B w (wr.setCell ⟨sb, 5, none⟩ (.slice (some ⟨g, 0, none⟩) pre.length c)) := hb.setCell hs1.le.1 _
      have hs2 := ((hs1.setLeast x top).setRoot x x).drew
      rw [shut_more, natV_top] at hs2
      have hB2 : Below B w (((wr.setCell ⟨sb, 5, none⟩ (.slice (some ⟨g, 0, none⟩) pre.length c)).setCell ⟨lb, x, none⟩ (.int .i64 9223372036854775807)).setCell ⟨rb, x, none⟩ (natV x)).drew := ((HB1.setCell hs1.le.2.2.1 _).setCell hs1.le.2.2.2.1 _).drew
      unfold natV at hcell
      clear hb hs cf em
      go_upto_region 3 with (fail)
      generalize wr.setCell ⟨sb, 5, none⟩ (.slice (some ⟨g, 0, none⟩) pre.length c) = w1 at *
      obtain ⟨_, _, _, _, d4, _, _, d7, _⟩ := hs1.cells
      have hx : x < n := HXN.out
      have hxi : (x : Int) < (n : Int) := by omega
      have hn := HN.out
      have hfl := hs1.least.free x
      have hfr := (hs1.setLeast x top).root.free x
      have hfr1 := hs1.root.free x
      have hcl := hs1.least.cell hx
      have hcr := (hs1.setLeast x top).root.cell hx
      have hcr1 := hs1.root.cell hx
      have hne := hs1.ne.2.2
      have HS2 := Lib.hid hs2
      have HB2 := Lib.hid hB2
      clear hs1 hs2 hB2 HB1 d5 cf5
      rw [natV_top] at hfr
      unfold natV at hcl hcr hcr1 HS2 HB2

      go_region
      all_goals
        go_wp2
        go_end0
        exact ⟨rfl, _, HS2.out, HB2.out⟩
    · have e2 : left = l ++ [y] := by rw [e]; simp
      subst e2
      have hyo : y < n := HLT.out y (by rw [HO.out, hpost]; simp)
      have hyx : y ≠ x := fun e => HX.out (by rw [hpost, ← e]; simp)
      have hkl : l.length < gk := by rw [← hk]; simp
      have HPOST := Lib.hid (show post = l ++ (y :: done) by rw [hpost]; simp)
      have HQ := Lib.hid (rfl : pre ++ x :: l = pre ++ x :: l)
      have e3 : pre ++ x :: (l ++ [y]) = (pre ++ x :: l) ++ [y] := by simp
      rw [e3] at hs
      clear hk hpost e e3
      have HQQ : ∃ q, Hid (q = pre ++ x :: l) := ⟨_, Lib.hid rfl⟩
      clear HQ
      generalize hq : pre ++ x :: l = q at *
      have HQ := Lib.hid hq
      have HYO := Lib.hid hyo
      clear hq HQQ hyo
      have hr := close_round hs
      obtain ⟨em, g, rfl, hc1, hc2, hcell, hs1⟩ := hr
      obtain ⟨_, _, _, _, _, d5, _, _, cf⟩ := hs.cells
      have cf5 := cf 5
      rw [em] at d5
      unfold maxLen at hc2
      have HB1 : Below B w (wr.setCell ⟨sb, 5, none⟩ (.slice (some ⟨g, 0, none⟩) q.length c)) := hb.setCell hs1.le.1 _
      have hs2 := ((hs1.setLeast y top).setRoot y x).drew
      rw [shut_more, natV_top] at hs2
      have hB2 : Below B w (((wr.setCell ⟨sb, 5, none⟩ (.slice (some ⟨g, 0, none⟩) q.length c)).setCell ⟨lb, y, none⟩ (.int .i64 9223372036854775807)).setCell ⟨rb, y, none⟩ (natV x)).drew := ((HB1.setCell hs1.le.2.2.1 _).setCell hs1.le.2.2.2.1 _).drew
      unfold natV at hcell
      clear hb hs cf em
      go_upto_region 3 with (fail)
      generalize wr.setCell ⟨sb, 5, none⟩ (.slice (some ⟨g, 0, none⟩) q.length c) = w1 at *
      obtain ⟨_, _, _, _, d4, _, _, d7, _⟩ := hs1.cells
      have hx : y < n := HYO.out
      have hxi : (y : Int) < (n : Int) := by omega
      have hn := HN.out
      have hfl := hs1.least.free y
      have hfr := (hs1.setLeast y top).root.free y
      have hfr1 := hs1.root.free y
      have hcl := hs1.least.cell hx
      have hcr := (hs1.setLeast y top).root.cell hx
      have hcr1 := hs1.root.cell hx
      have hne := hs1.ne.2.2
      have HS2 := Lib.hid hs2
      have HB2 := Lib.hid hB2
      clear hs1 hs2 hB2 HB1 d5 cf5
      rw [natV_top] at hfr
      unfold natV at hcl hcr hcr1 HS2 HB2
      have hyi : ((y : Int) == (x : Int)) = false := by rw [beq_eq_false_iff_ne]; omega
      have hs3 := HS2.out
      rw [← HQ.out] at hs3
      have HREL : Hid (CloseRel n B sb cb lb rb uv M s pv w pre post x l.length (((w1.setCell ⟨lb, y, none⟩ (.int .i64 9223372036854775807)).setCell ⟨rb, y, none⟩ (.int .i64 (x : Int))).drew)) := Lib.hid ⟨l, y :: done, _, rfl, HPOST.out, hs3, HB2.out⟩
      clear hs3 HS2 HB2
      go_region
      all_goals
        go_wp2
        go_roundg l.length
        case rel => exact HREL.out
        case measure => exact hkl
end Go.Proofs.Ythmnghngcbkjpaa
