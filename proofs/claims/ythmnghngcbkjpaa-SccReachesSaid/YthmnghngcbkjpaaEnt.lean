/- leads, enter: a search goes on. No conditions but those that each theorem names. -/
import Derived.Test.YthmnghngcbkjpaaSat
import Derived.Deep.Cut
namespace Go.Proofs.Ythmnghngcbkjpaa
open Go.RowKit
theorem SAt.drew {n B sb cb lb rb : Nat} {uv : Value} {M : List (List Int)} {s : S} {ov pv : Value} {w : World} (h : SAt n B sb cb lb rb uv M s ov pv w) : SAt n B sb cb lb rb uv M s ov pv w.drew := h.on ((Below.refl _ _).drew)
theorem natV_min (a b : Nat) : natV (min a b) = .int .i64 (if b < a then (b : Int) else (a : Int)) := by
  unfold natV
  congr 1
  split
  · rw [Nat.min_eq_right (by omega)]
  · rw [Nat.min_eq_left (by omega)]
def LeadsRes (n B sb cb lb rb : Nat) (uv : Value) (M : List (List Int)) (s : S) (ov pv : Value) (w : World) (e : Ending) (w' : World) : Prop :=
  e = .returned (.tuple #[]) ∧ SAt n B sb cb lb rb uv M s ov pv w' ∧ Below B w w'
set_option maxRecDepth 100000 in
set_option maxHeartbeats 1000000 in
theorem leads_any {n B sb cb lb rb : Nat} {uv : Value} {M : List (List Int)} {s : S} {ov pv : Value} {w : World} (h : SAt n B sb cb lb rb uv M s ov pv w) (x y : Nat) (hx : x < n) (hy : y < n) :
    Calls Try.prog 31 #[.pointer (some ⟨sb, 0, none⟩), .int .i64 x, .int .i64 y] w (LeadsRes n B sb cb lb rb uv M (s.leads x y) ov pv w) := by
  obtain ⟨c0, c1, c2, c3, c4, c5, c6, c7, cf⟩ := h.cells
  have cx := h.least.cell hx
  have cy := h.least.cell hy
  have hfx := h.least.free x
  have hs := h.setLeast x (min (s.least x) (s.least y))
  rw [natV_min] at hs
  have HS := Lib.hid hs.drew
  have HB := Lib.hid h.le
  have hxi : (x : Int) < (n : Int) := by omega
  have hyi : (y : Int) < (n : Int) := by omega
  clear h c0 c1 c2 c3 c5 c6 c7 cf hs
  unfold natV at cx cy
  go_enter Try.func31, Try.ntmps31
  go_wp2
  go_region
  all_goals (go_end0; exact ⟨rfl, HS.out, ((Below.refl _ _).setCell HB.out.2.2.1 _).drew⟩)
theorem natV_succ (a : Nat) : natV (a + 1) = .int .i64 ((a : Int) + 1) := rfl
theorem one_step (x : Int) (A : Option Addr) (l c : Nat) : ∀ u ∈ [Value.int .i64 x, Value.slice A l c], u.oneCell' = true := by simp [Value.oneCell']
def EnterRes (n B sb cb lb rb : Nat) (uv : Value) (M : List (List Int)) (s : S) (w : World) (e : Ending) (w' : World) : Prop :=
  e = .returned (.tuple #[]) ∧ ∃ ov pv, SAt n B sb cb lb rb uv M s ov pv w' ∧ Below B w w'
set_option maxRecDepth 100000 in
set_option maxHeartbeats 2000000 in
theorem enter_any {n B sb cb lb rb : Nat} {uv : Value} {M : List (List Int)} {s : S} {ov pv : Value} {w : World} (h : SAt n B sb cb lb rb uv M s ov pv w) (hn : n ≤ 1099511627776) (x : Nat) (hx : x < n) (hc : s.count ≤ n) (ho : s.opens.length ≤ n) (hp : s.path.length ≤ n) :
    Calls Try.prog 29 #[.pointer (some ⟨sb, 0, none⟩), .int .i64 x] w (EnterRes n B sb cb lb rb uv M (s.enter (useL M) x) w) := by
  obtain ⟨Au, cu, rfl, _, _⟩ := h.mat.form
  generalize hml : M.length = ml at *
  obtain ⟨Ap, cp, rfl⟩ : ∃ Ap cp, pv = .slice Ap s.path.length cp := by
    obtain ⟨vs, _, hp, _⟩ := h.path
    obtain ⟨A, c, e, _⟩ := own_form hp
    exact ⟨A, c, e⟩
  obtain ⟨i3, hi3, hz3, hs3, hb3⟩ := info_parts Try.info3
  obtain ⟨i59, hi59, hz59, hs59, hb59⟩ := info_parts Try.info59
  obtain ⟨_, _, c2, _, _, _, _, _, cf⟩ := h.cells
  have cf2 := cf 2
  have hs1 := h.setCount (s.count + 1)
  have hB1 : Below B w (w.setCell ⟨sb, 2, none⟩ (natV (s.count + 1))) := (Below.refl _ _).setCell h.le.1 _
  rw [natV_succ] at hs1 hB1
  have hxi : (x : Int) < (n : Int) := by omega
  clear h cf
  unfold natV at c2
  go_enter Try.func29, Try.ntmps29
  go_upto_region 1 with (fail)
  generalize w.setCell ⟨sb, 2, none⟩ (.int .i64 ((s.count : Int) + 1)) = w1 at *
  obtain ⟨_, _, d2, d3, d4, _, _, _, cf⟩ := hs1.cells
  have hfc := hs1.come.free x
  have hfl := hs1.least.free x
  have hs2 : SAt n B sb cb lb rb (.slice Au ml cu) M { s with count := s.count + 1, come := upd s.come x (s.count + 1), least := upd s.least x (s.count + 1) } ov (.slice Ap s.path.length cp) (((w1.setCell ⟨cb, x, none⟩ (natV (s.count + 1))).setCell ⟨lb, x, none⟩ (natV (s.count + 1))).drew) := ((hs1.setCome x (s.count + 1)).setLeast x (s.count + 1)).drew
  have hB2 : Below B w (((w1.setCell ⟨cb, x, none⟩ (natV (s.count + 1))).setCell ⟨lb, x, none⟩ (natV (s.count + 1))).drew) := ((hB1.setCell hs1.le.2.1 _).setCell hs1.le.2.2.1 _).drew
  have hcx := hs1.come.cell hx
  have hlx := (hs1.setCome x (s.count + 1)).least.cell hx
  have hfl2 := (hs1.setCome x (s.count + 1)).least.free x
  have hne := hs1.ne.1
  have hlx1 := hs1.least.cell hx
  obtain ⟨n1, n2, _⟩ := hs1.nes
  rw [natV_succ] at hs2 hB2 hlx hfl2
  have e2 : natV ({s with count := s.count + 1} : S).count = .int .i64 ((s.count : Int) + 1) := natV_succ _
  rw [e2] at d2
  unfold natV at hcx hlx hlx1
  clear c2 cf2 hs1 hB1 cf
  have HS2 := Lib.hid hs2
  have HB2 := Lib.hid hB2
  clear hs2 hB2 e2
  go_region
  generalize ((w1.setCell ⟨cb, x, none⟩ (.int .i64 ((s.count : Int) + 1))).setCell ⟨lb, x, none⟩ (.int .i64 ((s.count : Int) + 1))).drew = w2 at *
  have hs2 := HS2.out
  clear HS2 hcx hlx hfl2 hne hlx1 n1 n2 d2 d3 d4 hfc hfl
  generalize hs2e : ({ s with count := s.count + 1, come := upd s.come x (s.count + 1), least := upd s.least x (s.count + 1) } : S) = s2 at *
  have hs2o : s2.opens = s.opens := by rw [← hs2e]
  have hs2p : s2.path = s.path := by rw [← hs2e]
  obtain ⟨_, _, _, _, _, d5, _, _, cf⟩ := hs2.cells
  have cf5 := cf 5
  obtain ⟨Ao, co, rfl, hoc, hom⟩ := own_form hs2.opens
  have hown := hs2.opens
  have hbb := hs2.le.2.2.2.2
  have hsb2 := lt_of_block hs2.obj
  have hos : s2.opens.length ≤ n := by rw [hs2o]; exact ho
  have hnew := one_new w2 (.int .i64 (x : Int)) 3
  have HPO : Hid (∀ v' w3, w3.ownsRow B 3 1 v' (s2.opens.length + 1) (s2.opens.map natV ++ [natV x]) → (w2.alloc (.cells #[.int .i64 (x : Int)] 3)).grownBy w3 (Value.slice Ao s2.opens.length co).ownBlock → (v'.ownBlock = (Value.slice Ao s2.opens.length co).ownBlock ∨ v'.ownBlock = some (w2.alloc (.cells #[.int .i64 (x : Int)] 3)).heap.size) → SAt n B sb cb lb rb (.slice Au ml cu) M { s2 with opens := s2.opens ++ [x] } v' (.slice Ap s.path.length cp) (w3.setCell ⟨sb, 5, none⟩ v') ∧ Below B w (w3.setCell ⟨sb, 5, none⟩ v') ∧ w3.cell? ⟨sb, 5, none⟩ = some (.slice Ao s2.opens.length co) ∧ w3.frozen? ⟨sb, 5, none⟩ = false) := by
    intro v' w3 h1 h2 h3
    have h9 := hs2.on (below_new w2 (.cells #[.int .i64 (x : Int)] 3))
    refine ⟨h9.pushOpen x h1 h2 (h3.imp id (fun e => ⟨_, e, Nat.le_refl _⟩)), ?_⟩
    have hbl : w3.heap[sb]? = w2.heap[sb]? := (h2.block sb (by simp; omega) (fun e => hs2.nes.2.2.2.1 e.symm)).trans ((below_new w2 _).block sb hsb2)
    exact ⟨((HB2.out.alloc hbb _).grown h2 (by simp; omega) (fun k hk => (hown.lt k hk).1)).setCell hs2.le.1 _, (World.cell?_of_block (a := ⟨sb, 5, none⟩) hbl).trans d5, (World.frozen?_of_block (a := ⟨sb, 5, none⟩) hbl).trans cf5⟩
  have HOW := Lib.hid (hown.alloc (.cells #[.int .i64 (x : Int)] 3))
  have HNW := Lib.hid hnew
  have h63 : s2.opens.length + 1 ≤ maxLen := by unfold maxLen; omega
  have H63 := Lib.hid h63
  have HSN := Lib.hid hos
  have HBB := Lib.hid hbb
  clear hs2o hs2p cf hown hnew h63 hbb hoc hom
  go_wp2_with (at_builtin; refine wpList_append_own_at _ rfl (.tmp 35) (.tmp 37) 30 rfl B 3 i3 (.int .i64 0) 1 8 Try.underlying30 hi3 hz3 hs3 hb3 rfl (by decide) _ s2.opens.length (s2.opens.map natV) rfl HOW.out ⟨w2.heap.size, 0, none⟩ 1 1 [.int .i64 (x : Int)] rfl rfl HNW.out (by intro u hu; rw [List.mem_singleton.1 hu]; rfl) H63.out (by have := HSN.out; omega) (by have := HBB.out; simp; omega) ?_; intro v' w3 hown2 hg2 _ hat2; obtain ⟨p1, p2, p3, p4⟩ := HPO.out v' w3 hown2 hg2 hat2; obtain ⟨A3, c3, rfl, _⟩ := own_form hown2; have HP1 := Lib.hid p1; have HP2 := Lib.hid p2; clear p1 p2 hown2 hat2)
  have hs4 := HP1.out
  have HB4 := Lib.hid HP2.out
  generalize hs4e : ({ s2 with opens := s2.opens ++ [x] } : S) = s4 at *
  have hs4p : s4.path = s.path := by rw [← hs4e, ← hs2e]
  have HS4 := Lib.hid hs4e
  have HS2 := Lib.hid hs2e
  clear hs4e hs2e
  generalize w3.setCell ⟨sb, 5, none⟩ (.slice A3 (s2.opens.length + 1) c3) = w4 at *
  clear HP1 HP2 p3 p4 hg2 HOW HNW HPO cf5 d5 hs2 hsb2
  obtain ⟨d0, d1, _, _, _, _, d6, _, cf⟩ := hs4.cells
  have cf6 := cf 6
  obtain ⟨vs, hvl, hvo, hvi⟩ := hs4.path
  have hsb4 := lt_of_block hs4.obj
  have HL := Lib.hid (list_any _ n x _ M w4.drew hs4.drew.mat)
  have H4 := Lib.hid hs4
  have HM := Lib.hid hml
  have hU : ∀ u lv, Below w4.drew.heap.size w4.drew u → IntsAt (fun b => b < B) u lv (useL M x) → u.cell? ⟨sb, 6, none⟩ = some (.slice Ap s.path.length cp) ∧ u.frozen? ⟨sb, 6, none⟩ = false ∧ (u.alloc (.cells #[.int .i64 (x : Int), lv] 59)).cell? ⟨sb, 6, none⟩ = some (.slice Ap s.path.length cp) ∧ (u.alloc (.cells #[.int .i64 (x : Int), lv] 59)).ownsRow B 59 2 (.slice Ap s.path.length cp) s.path.length (pcells s4.path vs) ∧
      ∀ g cap w5, w5.ownsRow B 59 2 (.slice (some ⟨g, 0, none⟩) (s.path.length + 1) cap) (s.path.length + 1) (pcells s4.path vs ++ [.int .i64 (x : Int), lv]) → (u.alloc (.cells #[.int .i64 (x : Int), lv] 59)).grownBy w5 (Value.slice Ap s.path.length cp).ownBlock → ((Value.slice Ap s.path.length cp).ownBlock = some g ∨ g = u.heap.size + 1) →
        EnterRes n B sb cb lb rb (.slice Au ml cu) M (s.enter (useL M) x) w (.returned (.tuple #[])) (w5.setCell ⟨sb, 6, none⟩ (.slice (some ⟨g, 0, none⟩) (s.path.length + 1) cap)) ∧ w5.cell? ⟨sb, 6, none⟩ = some (.slice Ap s.path.length cp) ∧ w5.frozen? ⟨sb, 6, none⟩ = false := by
    intro u lv hu hi
    have hu4 : Below w4.heap.size w4 u := ((Below.refl w4.heap.size w4).drew).trans hu
    have hsu := H4.out.on hu4
    obtain ⟨_, _, _, _, _, _, u6, _, uf⟩ := hsu.cells
    have how := own_on hvo hu4
    rw [hs4p] at how hvl
    refine ⟨u6, uf 6, ((below_new u (.cells #[.int .i64 (x : Int), lv] 59)).cell (p := ⟨sb, 6, none⟩) (show sb < u.heap.size by have := hu4.size; omega)).trans u6, by rw [hs4p]; exact how.alloc _, fun g cap w5 h1 h2 h3 => ?_⟩
    have hsa := hsu.on (below_new u (.cells #[.int .i64 (x : Int), lv] 59))
    have hba := below_new u (.cells #[.int .i64 (x : Int), lv] 59)
    have hzu := hu4.size
    have hbl : w5.heap[sb]? = u.heap[sb]? := (h2.block sb (by simp; omega) (fun e => hsu.nes.2.2.2.2.1 e.symm)).trans (hba.block sb (by omega))
    refine ⟨⟨rfl, .slice A3 (s2.opens.length + 1) c3, .slice (some ⟨g, 0, none⟩) (s.path.length + 1) cap, ?_, ?_⟩, (World.cell?_of_block (a := ⟨sb, 6, none⟩) hbl).trans u6, (World.frozen?_of_block (a := ⟨sb, 6, none⟩) hbl).trans (uf 6)⟩
    · have h9 := hsa.pushPath (w2 := w5) (pv' := .slice (some ⟨g, 0, none⟩) (s.path.length + 1) cap) (u := lv) x (useL M x) (vs := vs) (by rw [hs4p]; exact hvl) (fun j a b => (((hvi j a b).on hu4).on hba)) (hi.on hba) (by rw [hs4p] at h1 ⊢; exact h1) h2 (h3.imp (fun e => e.symm) (fun e => ⟨g, rfl, by simp; omega⟩))
      have e9 : ({ s4 with path := s4.path ++ [(x, useL M x)] } : S) = s.enter (useL M) x := by
        rw [← HS4.out, ← HS2.out]; rfl
      rw [e9] at h9
      exact h9
    · have hbu : B ≤ u.heap.size := by have := hsu.le.2.2.2.2; exact this
      have hb5 : Below B w w5 := (((HB4.out.trans (hu4.mono hs4.le.2.2.2.2)).alloc hbu _).grown h2 (by simp; omega) (fun k hk => by have := (how.lt k hk).1; exact this))
      exact hb5.setCell hs4.le.1 _
  have HU := Lib.hid hU
  have h63 : s.path.length + 1 ≤ maxLen := by unfold maxLen; omega
  have H63 := Lib.hid h63
  have hbb4 := hs4.le.2.2.2.2
  have HBB4 := Lib.hid hbb4
  have HPN := Lib.hid hp
  have ec : natV s4.count = .int .i64 ((s4.count : Nat) : Int) := rfl
  clear hU hs4 hvo hvi hvl cf hml h63 hbb4 hp ec hs4p hc ho hos
  go_region_law (first | (go_simp; go_at_call 23; (with_reducible refine HL.out.mono ?_); rintro e u ⟨⟨lv, rfl, hi⟩, hbu⟩; obtain ⟨Al, cl, rfl, _⟩ := hi.form; obtain ⟨k1, k2, k5, k3, k4⟩ := HU.out u _ hbu hi; have K3 := Lib.hid k3; have K4 := Lib.hid k4; have HBU := Lib.hid hbu.size; clear k3 k4 hbu hi) | (refine step_append_lies _ rfl (.tmp 45) (.tmp 54) 45 rfl B 59 i59 (.agg #[.int .i64 0, .slice none 0 0]) 2 32 Try.underlying45 hi59 hz59 hs59 hb59 rfl (by decide) (.slice Ap s.path.length cp) s.path.length (pcells s4.path vs) rfl K3.out ⟨u.heap.size, 0, none⟩ 1 1 [.int .i64 (x : Int), .slice Al (useL M x).length cl] rfl rfl (two_new u _ _ 59) (one_step _ _ _ _) (by decide) H63.out (by have := HPN.out; omega) (by have := HBB4.out; have := HBU.out; simp at *; omega) (u.heap.size + 1) (by simp) ?_; intro gg cap w5 h2 g2 hat _; obtain ⟨q1, q2, q3⟩ := K4.out gg cap w5 h2 g2 hat; have Q1 := Lib.hid q1; clear q1 h2 g2 hat))
  all_goals (go_end0; exact Q1.out)
end Go.Proofs.Ythmnghngcbkjpaa
