/- The contract of the law's of: the document's term as the program has it. Conditions: those that each theorem names. -/
import Derived.Test.YtomhojpoaicioaaKindS
import Derived.Deep.RegionLaw
import Derived.Deep.AppendLies
namespace Go.Proofs.Ytomhojpoaicioaa
open Go.RowKit Tm

theorem Try.info49 : (Try.prog.info? 49).map (fun i => (i.zero, i.size, i.bytes)) = some (some (.agg #[.int .i64 0, .int .i64 0, .slice none 0 0]), 3, 40) := by kernel_rfl
/-- A term's three cells. -/
structure Z3 where
  f : Int
  n : Int
  A : Option Addr
  m : Nat
  c : Nat
def Z3.cells (z : Z3) : List Value := [.int .i64 z.f, .int .i64 z.n, .slice z.A z.m z.c]
def Z3.val (z : Z3) : Value := .agg #[.int .i64 z.f, .int .i64 z.n, .slice z.A z.m z.c]
def cellsZ (us : List Z3) : List Value := us.flatMap Z3.cells
theorem cellsZ_snoc (us : List Z3) (z : Z3) : cellsZ (us ++ [z]) = cellsZ us ++ z.cells := by simp [cellsZ]
def ZsAt (P : Nat → Prop) (w : World) (ts : List Tz) (us : List Z3) : Prop := us.length = ts.length ∧ ∀ i (h : i < ts.length) (h' : i < us.length), ZAt P w ts[i] us[i].val
theorem ZsAt.keep {P : Nat → Prop} {w w' : World} {ts : List Tz} {us : List Z3} (h : ZsAt P w ts us) (hb : Keeps P w w') : ZsAt P w' ts us := ⟨h.1, fun i a b => (h.2 i a b).keep hb⟩
theorem ZsAt.mono {P Q : Nat → Prop} {w : World} {ts : List Tz} {us : List Z3} (h : ZsAt P w ts us) (hpq : ∀ b, P b → Q b) : ZsAt Q w ts us := ⟨h.1, fun i a b => (h.2 i a b).mono hpq⟩
theorem ZsAt.bound {P : Nat → Prop} {w : World} {ts : List Tz} {us : List Z3} (h : ZsAt P w ts us) : ZsAt (fun b => P b ∧ b < w.heap.size) w ts us := ⟨h.1, fun i a b => (h.2 i a b).bound⟩
theorem ZsAt.snoc {P : Nat → Prop} {w : World} {ts : List Tz} {us : List Z3} {t : Tz} {u : Z3} (h : ZsAt P w ts us) (hk : ZAt P w t u.val) : ZsAt P w (ts ++ [t]) (us ++ [u]) := by
  refine ⟨by simp [h.1], fun i a b => ?_⟩
  by_cases hi : i < ts.length
  · rw [List.getElem_append_left hi]
    have e : (us ++ [u])[i] = us[i]'(by rw [h.1]; exact hi) := List.getElem_append_left _
    rw [e]
    exact h.2 i hi _
  · have e : i = ts.length := by simp at a; omega
    subst e
    have e1 : (ts ++ [t])[ts.length] = t := by simp
    have e2 : (us ++ [u])[ts.length]'b = u := by simp [← h.1]
    rw [e1, e2]
    exact hk
/-- What of's loop knows. -/
structure OfL (w wr : World) (f n : Int) (ts : List Tz) (us : List Z3) (sv : Value) (tA : Option Addr) (tm tc : Nat) : Prop where
  o0 : wr.cell? ⟨w.heap.size + 2, 0, none⟩ = some (.int .i64 f)
  o1 : wr.cell? ⟨w.heap.size + 2, 1, none⟩ = some (.int .i64 n)
  o2 : wr.cell? ⟨w.heap.size + 2, 2, none⟩ = some sv
  of2 : wr.frozen? ⟨w.heap.size + 2, 2, none⟩ = false
  r0 : wr.cell? ⟨w.heap.size + 1, 0, none⟩ = some (.int .i64 0)
  r1 : wr.cell? ⟨w.heap.size + 1, 1, none⟩ = some (.int .i64 0)
  r2 : wr.cell? ⟨w.heap.size + 1, 2, none⟩ = some (.slice none 0 0)
  rf0 : wr.frozen? ⟨w.heap.size + 1, 0, none⟩ = false
  rf1 : wr.frozen? ⟨w.heap.size + 1, 1, none⟩ = false
  rf2 : wr.frozen? ⟨w.heap.size + 1, 2, none⟩ = false
  t2 : wr.cell? ⟨w.heap.size, 2, none⟩ = some (.slice tA tm tc)
  zs : ZsAt (fun b => w.heap.size + 3 ≤ b ∧ sv.ownBlock ≠ some b) wr ts us
  own : wr.ownsRow (w.heap.size + 3) 49 3 sv us.length (cellsZ us)
  bw : Below w.heap.size w wr
  sz : w.heap.size + 3 ≤ wr.heap.size
theorem OfL.step {w wr w1 w2 : World} {f n : Int} {ts : List Tz} {us : List Z3} {sv v' : Value} {tA : Option Addr} {tm tc : Nat} {t : Tz} {z : Z3} (o1 : Obj) (h : OfL w wr f n ts us sv tA tm tc) (hz : ZAt (fun b => wr.heap.size ≤ b) w1 t z.val) (hb1 : Below wr.heap.size wr w1)
    (ho2 : w2.ownsRow (w.heap.size + 3) 49 3 v' (us.length + 1) (cellsZ us ++ z.cells)) (hg2 : (w1.alloc o1).grownBy w2 sv.ownBlock) (hat : v'.ownBlock = sv.ownBlock ∨ v'.ownBlock = some (w1.alloc o1).heap.size) :
    OfL w (w2.setCell ⟨w.heap.size + 2, 2, none⟩ v') f n (ts ++ [t]) (us ++ [z]) v' tA tm tc := by
  have hsz := h.sz
  have hz1 := hb1.size
  have hrow : ∀ q, sv.ownBlock = some q → w.heap.size + 3 ≤ q ∧ q < wr.heap.size := fun q hq => h.own.lt q hq
  have ba : Below wr.heap.size wr (w1.alloc o1) := hb1.alloc hz1 _
  have bA : Below w1.heap.size w1 (w1.alloc o1) := (Below.refl _ _).alloc (Nat.le_refl _) _
  have zz' : (w1.alloc o1).heap.size = w1.heap.size + 1 := by simp
  have B2 : Below (w.heap.size + 3) wr w2 := (ba.mono (by omega)).grown hg2 (by omega) (fun q hq => (hrow q hq).1)
  have z2 : w1.heap.size + 1 ≤ w2.heap.size := by have := hg2.size; omega
  have BW : Below w.heap.size w w2 := h.bw.trans (B2.mono (by omega))
  have nR : ¬ (fun b => w.heap.size + 3 ≤ b ∧ v'.ownBlock ≠ some b) (w.heap.size + 2) := fun e => by have := e.1; omega
  have kold : ZsAt (fun b => w.heap.size + 3 ≤ b ∧ v'.ownBlock ≠ some b) w2 ts us := by
    refine ((h.zs.bound.keep (.of_below ba)).keep (keeps_grown hg2 (fun b hb => fun e => hb.1.2 e.symm))).mono (fun b hb => ⟨hb.1.1, ?_⟩)
    rcases hat with e | e
    · rw [e]; exact hb.1.2
    · rw [e, zz']; intro e2; injection e2 with e2; have := hb.2; omega
  have knew : ZAt (fun b => w.heap.size + 3 ≤ b ∧ v'.ownBlock ≠ some b) w2 t z.val := by
    refine ((hz.bound.keep (.of_below bA)).keep (keeps_grown hg2 (fun b hb => ?_))).mono (fun b hb => ⟨by have := hb.1; omega, ?_⟩)
    · intro e
      have := (hrow b e.symm).2
      have := hb.1
      omega
    · rcases hat with e | e
      · rw [e]; intro e2; have := (hrow b e2).2; have := hb.1; omega
      · rw [e, zz']; intro e2; injection e2 with e2; have := hb.2; omega
  have cc : ∀ b o, b < w.heap.size + 3 → w2.cell? ⟨b, o, none⟩ = wr.cell? ⟨b, o, none⟩ := fun b o hb => B2.cell (p := ⟨b, o, none⟩) hb
  have ff : ∀ b o, b < w.heap.size + 3 → w2.frozen? ⟨b, o, none⟩ = wr.frozen? ⟨b, o, none⟩ := fun b o hb => B2.frozen (p := ⟨b, o, none⟩) hb
  have q0 := (cc (w.heap.size + 2) 0 (by omega)).trans h.o0
  have q1 := (cc (w.heap.size + 2) 1 (by omega)).trans h.o1
  have q2 := (cc (w.heap.size + 2) 2 (by omega)).trans h.o2
  have qf := (ff (w.heap.size + 2) 2 (by omega)).trans h.of2
  have s0 := (cc (w.heap.size + 1) 0 (by omega)).trans h.r0
  have s1 := (cc (w.heap.size + 1) 1 (by omega)).trans h.r1
  have s2 := (cc (w.heap.size + 1) 2 (by omega)).trans h.r2
  have sf0 := (ff (w.heap.size + 1) 0 (by omega)).trans h.rf0
  have sf1 := (ff (w.heap.size + 1) 1 (by omega)).trans h.rf1
  have sf2 := (ff (w.heap.size + 1) 2 (by omega)).trans h.rf2
  have t2 := (cc w.heap.size 2 (by omega)).trans h.t2
  refine ⟨by simp [go_sem, q0], by simp [go_sem, q1], by simp [go_sem, q2], by simp [go_sem, qf], by simp [go_sem, s0], by simp [go_sem, s1], by simp [go_sem, s2], by simp [go_sem, sf0], by simp [go_sem, sf1], by simp [go_sem, sf2], by simp [go_sem, t2], (kold.snoc knew).keep (.setCell nR _), ?_, BW.setCell (by show w.heap.size ≤ w.heap.size + 2; omega) _, by simp; omega⟩
  rw [List.length_append, cellsZ_snoc]
  exact ownsRow_setCell_below ho2 (by show w.heap.size + 2 < _; omega) _
/-- An arrow out of its row. -/
theorem OfL.arr {w wr : World} {us : List Z3} {sv : Value} {tA : Option Addr} {tm tc : Nat} {a b : Tz} (h : OfL w wr 3 0 [a, b] us sv tA tm tc) : ∃ A c, sv = .slice A 2 c ∧ ZAt (fun x => w.heap.size ≤ x ∧ x ≠ w.heap.size + 1) wr (.arr a b) (.agg #[.int .i64 3, .int .i64 0, .slice A 2 c]) := by
  have hl := h.zs.1
  match us, hl with
  | [x, y], _ =>
    have ho := h.own
    rcases ho.2 with ⟨_, h0⟩ | ⟨g, cap, cur, rfl, hg, hh, _⟩
    · simp at h0
    · have hgl : g < wr.heap.size := by
        rcases Nat.lt_or_ge g wr.heap.size with h9 | h9
        · exact h9
        · rw [Array.getElem?_eq_none h9] at hh; cases hh
      have hc : ∀ j, j < 6 → wr.cell? ⟨g, j, none⟩ = (cellsZ [x, y])[j]? := fun j hj => ho.cellAt j (by simp; omega)
      have za := h.zs.2 0 (by simp) (by simp)
      have zb := h.zs.2 1 (by simp) (by simp)
      refine ⟨_, cap, rfl, .arr a b g 0 cap _ _ _ _ _ _ (by constructor <;> omega) hgl (hc 0 (by omega)) (hc 1 (by omega)) (hc 2 (by omega)) (hc 3 (by omega)) (hc 4 (by omega)) (hc 5 (by omega)) (za.mono (fun x hx => by have := hx.1; constructor <;> omega)) (zb.mono (fun x hx => by have := hx.1; constructor <;> omega))⟩
theorem TAt.args {P : Nat → Prop} {w : World} {a b : Tm} {A : Option Addr} {c : Nat} (h : TAt P w (.arr a b) (.agg #[.int .i64 3, .int .i64 0, .slice A 2 c])) : ∃ g off Aa ca Ab cb, A = some ⟨g, off, none⟩ ∧ g < w.heap.size ∧ w.cell? ⟨g, off, none⟩ = some (.int .i64 (formT a)) ∧ w.cell? ⟨g, off + 1, none⟩ = some (.int .i64 (numT a)) ∧ w.cell? ⟨g, off + 2, none⟩ = some (.slice Aa (argsT a) ca) ∧
    w.cell? ⟨g, off + 3, none⟩ = some (.int .i64 (formT b)) ∧ w.cell? ⟨g, off + 4, none⟩ = some (.int .i64 (numT b)) ∧ w.cell? ⟨g, off + 5, none⟩ = some (.slice Ab (argsT b) cb) ∧
    TAt P w a (.agg #[.int .i64 (formT a), .int .i64 (numT a), .slice Aa (argsT a) ca]) ∧ TAt P w b (.agg #[.int .i64 (formT b), .int .i64 (numT b), .slice Ab (argsT b) cb]) := by
  cases h with
  | arr _ _ g off _ a0 a1 a2 b0 b1 b2 hp hg c0 c1 c2 c3 c4 c5 ha hb =>
    obtain ⟨Aa, ca, ea⟩ := ha.form
    obtain ⟨Ab, cb, eb⟩ := hb.form
    simp only [Value.agg.injEq, Array.mk.injEq, List.cons.injEq, and_true] at ea eb
    obtain ⟨rfl, rfl, rfl⟩ := ea
    obtain ⟨rfl, rfl, rfl⟩ := eb
    exact ⟨g, off, Aa, ca, Ab, cb, rfl, hg, c0, c1, c2, c3, c4, c5, ha, hb⟩
def OfSt (w wr : World) (a b : Tz) (tA : Option Addr) (tc : Nat) (i : Value) : Prop := ∃ ts us sv, OfL w wr 3 0 ts us sv tA 2 tc ∧ ((i = .int .i64 0 ∧ ts = []) ∨ (i = .int .i64 1 ∧ ts = [a]) ∨ (i = .int .i64 2 ∧ ts = [a, b]))
theorem three_newZ (w : World) (a0 a1 a2 : Value) (t : TypeId) : ∀ j u, [a0, a1, a2][j]? = some u → (w.alloc (.cells #[a0, a1, a2] t)).cell? ((⟨w.heap.size, 0, none⟩ : Addr).add j) = some u := by
  intro j u h
  rw [Go.WideShapes.add_plain, Nat.zero_add, World.cell?_alloc_at _ _ _ _ rfl]
  simpa using h
theorem below_sz {a b : Nat} (h : a + 3 ≤ b) {w1 : World} (h1 : b ≤ w1.heap.size) : ∀ o : Obj, a + 3 ≤ (w1.alloc o).heap.size := fun o => by simp; omega
theorem three_one (a b : Int) (A : Option Addr) (m c : Nat) : ∀ u ∈ [Value.int .i64 a, .int .i64 b, .slice A m c], u.oneCell' = true := by
  intro u hu; simp at hu; rcases hu with rfl | rfl | rfl <;> rfl
theorem own_ne {w1 : World} {B x : Nat} {v : Value} {n : Nat} {xs : List Value} {e : TypeId} {sz : Nat} (h : w1.ownsRow B e sz v n xs) (hx : x + 1 ≤ B) : some x ≠ v.ownBlock := fun e => by have := (h.lt x e.symm).1; omega
theorem of_start (w : World) (f n : Int) (tA : Option Addr) (tm tc : Nat) : ∃ W, W = ((w.alloc (.cells #[.int .i64 f, .int .i64 n, .slice tA tm tc] 54)).alloc (.cells #[.int .i64 0, .int .i64 0, .slice none 0 0] 49)).alloc (.cells #[.int .i64 f, .int .i64 n, .slice none 0 0] 49) ∧ OfL w W f n [] [] (.slice none 0 0) tA tm tc ∧ W.cell? ⟨w.heap.size, 0, none⟩ = some (.int .i64 f) ∧ W.cell? ⟨w.heap.size, 1, none⟩ = some (.int .i64 n) := by
  refine ⟨_, rfl, ⟨?_, ?_, ?_, ?_, ?_, ?_, ?_, ?_, ?_, ?_, ?_, ⟨rfl, fun i a => absurd a (Nat.not_lt_zero _)⟩, World.ownsRow_nil _ _ _ _, ?_, by simp⟩, ?_, ?_⟩
  all_goals first
    | (simp [go_sem]; done)
    | exact ((below_new w _).trans ((below_new _ _).mono (by simp))).trans ((below_new _ _).mono (by simp; omega))
def OfRes (w : World) (t : Tm) (e : Ending) (w' : World) : Prop := ∃ u, e = .returned u ∧ ZAt (fun b => w.heap.size ≤ b) w' (emb t) u ∧ Below w.heap.size w w'
theorem of_end {w wr : World} {f n : Int} {ts : List Tz} {us : List Z3} {A : Option Addr} {m c : Nat} {tA : Option Addr} {tm tc : Nat} {t : Tm} (h : OfL w wr f n ts us (.slice A m c) tA tm tc) (hz : ZAt (fun x => w.heap.size ≤ x ∧ x ≠ w.heap.size + 1) wr (emb t) (.agg #[.int .i64 f, .int .i64 n, .slice A m c])) :
    OfRes w t (.returned (.agg #[.int .i64 f, .int .i64 n, .slice A m c])) (put3 wr (w.heap.size + 1) (.int .i64 f) (.int .i64 n) (.slice A m c)) :=
  ⟨_, rfl, (hz.keep (put3_keeps (fun e => e.2 rfl))).mono (fun _ h => h.1), put3_below h.bw (Nat.le_succ _)⟩
set_option maxRecDepth 100000 in
set_option maxHeartbeats 2000000 in
theorem of_any (P : Nat → Prop) (N : Nat) (hN : N ≤ 1000000) : ∀ (t : Tm) (v : Value) (w : World), TAt P w t v → VarsTo N t → (∀ b, P b → b < w.heap.size) → Calls Try.prog 28 #[v] w (OfRes w t)
  | .var n, v, w, h, hv, hP => by
    obtain ⟨A, c, rfl⟩ := h.form
    have hn : n ≤ N := hv n (by simp [occ])
    obtain ⟨W, eW, hO, b0, b1⟩ := of_start w 1 n A 0 c
    have b2 := hO.t2
    have x0 := hO.o0
    have x1 := hO.o1
    have x2 := hO.o2
    have y0 := hO.r0
    have y1 := hO.r1
    have y2 := hO.r2
    have yf0 := hO.rf0
    have yf1 := hO.rf1
    have yf2 := hO.rf2
    have HR := Lib.hid (of_end (t := .var n) hO (.var n none 0 (by omega) (by omega)))
    have HW := Lib.hid eW
    clear eW hO h hv hP
    change Calls Try.prog 28 #[.agg #[.int .i64 1, .int .i64 n, .slice A 0 c]] w _
    go_enter Try.func28, Try.ntmps28
    go_wp2_with fail
    rw [← HW.out]
    go_loopw [4] (fun i wr => i = .int .i64 0 ∧ wr = W) (fun _ _ => 0)
    case atStart => exact ⟨rfl, rfl⟩
    case round =>
      obtain ⟨rfl, hw9⟩ := hrel
      obtain rfl := hw9.symm
      go_wp2
      exact bodyPost_ret (v := .agg #[.int .i64 1, .int .i64 n, .slice none 0 0]) (by simp [results, Try.results28, go_sem, y0, y1, y2]) rfl HR.out
  | .star, v, w, h, hv, hP => by
    obtain ⟨A, c, rfl⟩ := h.form
    obtain ⟨W, eW, hO, b0, b1⟩ := of_start w 2 0 A 0 c
    have b2 := hO.t2
    have x0 := hO.o0
    have x1 := hO.o1
    have x2 := hO.o2
    have y0 := hO.r0
    have y1 := hO.r1
    have y2 := hO.r2
    have yf0 := hO.rf0
    have yf1 := hO.rf1
    have yf2 := hO.rf2
    have HR := Lib.hid (of_end (t := .star) hO (.star none 0))
    have HW := Lib.hid eW
    clear eW hO h hv hP
    change Calls Try.prog 28 #[.agg #[.int .i64 2, .int .i64 0, .slice A 0 c]] w _
    go_enter Try.func28, Try.ntmps28
    go_wp2_with fail
    rw [← HW.out]
    go_loopw [4] (fun i wr => i = .int .i64 0 ∧ wr = W) (fun _ _ => 0)
    case atStart => exact ⟨rfl, rfl⟩
    case round =>
      obtain ⟨rfl, hw9⟩ := hrel
      obtain rfl := hw9.symm
      go_wp2
      exact bodyPost_ret (v := .agg #[.int .i64 2, .int .i64 0, .slice none 0 0]) (by simp [results, Try.results28, go_sem, y0, y1, y2]) rfl HR.out
  | .arr ta tb, v, w, h, hv, hP => by
    obtain ⟨A, c, rfl⟩ := h.form
    obtain ⟨W, eW, hO, b0, b1⟩ := of_start w 3 0 A 2 c
    obtain ⟨i49, hi, hz0, hz1, hz2⟩ := info_parts' Try.info49
    have HV1 : Hid (VarsTo N ta) := fun m hm => hv m (by simp [occ, hm])
    have HV2 : Hid (VarsTo N tb) := fun m hm => hv m (by simp [occ, hm])
    have HT := Lib.hid h
    have HW := Lib.hid eW
    have HO := Lib.hid hO
    clear eW h hv hO b0 b1
    change Calls Try.prog 28 #[.agg #[.int .i64 3, .int .i64 0, .slice A 2 c]] w _
    have b0 := HO.out.t2
    go_enter Try.func28, Try.ntmps28
    go_wp2_with fail
    rw [← HW.out]
    go_loopw [4] (fun i wr => OfSt w wr (emb ta) (emb tb) A c i) (fun i _ => 2 - (intOf i).toNat)
    case atStart => exact ⟨[], [], _, HO.out, .inl ⟨rfl, rfl⟩⟩
    case round =>
      obtain ⟨ts, us, sv, hL, hcase⟩ := hrel
      obtain ⟨As, cs, esv⟩ := own_form hL.own
      subst esv
      have t2 := hL.t2
      have o0 := hL.o0
      have o1 := hL.o1
      have o2 := hL.o2
      have of2 := hL.of2
      have hown := hL.own
      have hlt2 : w.heap.size + 2 < wr.heap.size := by have := hL.sz; omega
      have HL := Lib.hid hL
      have hT := HT.out.on hL.bw
      change TAt P wr (.arr ta tb) (.agg #[.int .i64 3, .int .i64 0, .slice A 2 c]) at hT
      obtain ⟨g0, off, Aa, ca, Ab, cb, rfl, hg0, p0, p1, p2, p3, p4, p5, qa, qb⟩ := hT.args
      have QA := Lib.hid qa
      have QB := Lib.hid qb
      have hlen := hL.zs.1
      clear hL hT qa qb b0
      rcases hcase with ⟨rfl, rfl⟩ | ⟨rfl, rfl⟩ | ⟨rfl, rfl⟩
      · have hul : us.length ≤ 5 := by rw [hlen]; simp
        have HLEN := Lib.hid hlen
        clear hlen
        have hm63 : us.length + 1 ≤ maxLen := by unfold maxLen; omega
        have hm40 : (us.length + 1) * 40 ≤ 140737488355328 := by omega
        have HC := Lib.hid (of_any P N hN ta _ wr.drew ((QA.out).on (Below.refl _ wr).drew) HV1.out (fun b hb => Nat.lt_of_lt_of_le (hP b hb) HL.out.bw.size))
        go_upto_region 5 with (fail)
        go_region_law (first
          | (go_simp; go_at_call 28; (with_reducible refine HC.out.mono ?_); rintro e w1 ⟨u, rfl, hz, hb1⟩; obtain ⟨Az, cz, rfl⟩ := hz.form; have hb1' : Below wr.heap.size wr w1 := (Below.refl _ wr).drew.trans hb1; have hown1 := ownsRow_below' hown hb1'; have o2' := (hb1'.cell (p := ⟨w.heap.size + 2, 2, none⟩) hlt2).trans o2; have of2' := (hb1'.frozen (p := ⟨w.heap.size + 2, 2, none⟩) hlt2).trans of2; have hlt2' := Nat.lt_of_lt_of_le hlt2 hb1'.size; have hbs := below_sz HL.out.sz hb1'.size)
          | (refine step_append_lies _ rfl (.tmp 18) (.tmp 25) 47 rfl (w.heap.size + 3) 49 i49 (.agg #[.int .i64 0, .int .i64 0, .slice none 0 0]) 3 40 Try.underlying47 hi hz0 hz1 hz2 rfl (Nat.succ_pos 2) (.slice As us.length cs) us.length (cellsZ us) rfl (hown1.alloc _) ⟨w1.heap.size, 0, none⟩ 1 1 [.int .i64 _, .int .i64 _, .slice Az _ cz] rfl rfl (three_newZ w1 _ _ _ 49) (three_one _ _ _ _ _) Nat.one_pos hm63 hm40 (hbs _) _ rfl ?_; intro g cp w2 hown2 hg2 hat hlt; have tt2 := hg2.cell (keep_alloc _ o2') (own_ne hown1 (Nat.le_refl _)); have tf2 := free_grown hg2 (keep_alloc _ o2') (free_alloc _ o2' of2') (own_ne hown1 (Nat.le_refl _))))
        all_goals
          have hst := Lib.hid (HL.out.step (z := ⟨formZ (emb ta), numZ (emb ta), Az, argsZ (emb ta), cz⟩) (.cells #[.int .i64 (formZ (emb ta)), .int .i64 (numZ (emb ta)), .slice Az (argsZ (emb ta)) cz] 49) hz hb1' hown2 hg2 (by rcases hat with h9 | h9; (exact .inl h9.symm); exact .inr (congrArg some h9)))
          clear hown1 hown2 hg2 hat tt2 tf2 hz hb1 hb1' o2' of2' hbs hlt hlt2'
          go_wp2
          refine ⟨⟨_, _, _, hst.out, .inr (.inl ⟨rfl, rfl⟩)⟩, by simp only [intOf]; omega⟩
      · have hul : us.length ≤ 5 := by rw [hlen]; simp
        have HLEN := Lib.hid hlen
        clear hlen
        have hm63 : us.length + 1 ≤ maxLen := by unfold maxLen; omega
        have hm40 : (us.length + 1) * 40 ≤ 140737488355328 := by omega
        have HC := Lib.hid (of_any P N hN tb _ wr.drew ((QB.out).on (Below.refl _ wr).drew) HV2.out (fun b hb => Nat.lt_of_lt_of_le (hP b hb) HL.out.bw.size))
        go_upto_region 5 with (fail)
        go_region_law (first
          | (go_simp; go_at_call 28; (with_reducible refine HC.out.mono ?_); rintro e w1 ⟨u, rfl, hz, hb1⟩; obtain ⟨Az, cz, rfl⟩ := hz.form; have hb1' : Below wr.heap.size wr w1 := (Below.refl _ wr).drew.trans hb1; have hown1 := ownsRow_below' hown hb1'; have o2' := (hb1'.cell (p := ⟨w.heap.size + 2, 2, none⟩) hlt2).trans o2; have of2' := (hb1'.frozen (p := ⟨w.heap.size + 2, 2, none⟩) hlt2).trans of2; have hlt2' := Nat.lt_of_lt_of_le hlt2 hb1'.size; have hbs := below_sz HL.out.sz hb1'.size)
          | (refine step_append_lies _ rfl (.tmp 18) (.tmp 25) 47 rfl (w.heap.size + 3) 49 i49 (.agg #[.int .i64 0, .int .i64 0, .slice none 0 0]) 3 40 Try.underlying47 hi hz0 hz1 hz2 rfl (Nat.succ_pos 2) (.slice As us.length cs) us.length (cellsZ us) rfl (hown1.alloc _) ⟨w1.heap.size, 0, none⟩ 1 1 [.int .i64 _, .int .i64 _, .slice Az _ cz] rfl rfl (three_newZ w1 _ _ _ 49) (three_one _ _ _ _ _) Nat.one_pos hm63 hm40 (hbs _) _ rfl ?_; intro g cp w2 hown2 hg2 hat hlt; have tt2 := hg2.cell (keep_alloc _ o2') (own_ne hown1 (Nat.le_refl _)); have tf2 := free_grown hg2 (keep_alloc _ o2') (free_alloc _ o2' of2') (own_ne hown1 (Nat.le_refl _))))
        all_goals
          have hst := Lib.hid (HL.out.step (z := ⟨formZ (emb tb), numZ (emb tb), Az, argsZ (emb tb), cz⟩) (.cells #[.int .i64 (formZ (emb tb)), .int .i64 (numZ (emb tb)), .slice Az (argsZ (emb tb)) cz] 49) hz hb1' hown2 hg2 (by rcases hat with h9 | h9; (exact .inl h9.symm); exact .inr (congrArg some h9)))
          clear hown1 hown2 hg2 hat tt2 tf2 hz hb1 hb1' o2' of2' hbs hlt hlt2'
          go_wp2
          refine ⟨⟨_, _, _, hst.out, .inr (.inr ⟨rfl, rfl⟩)⟩, by simp only [intOf]; omega⟩
      · obtain ⟨A9, c9, e9, hzr⟩ := HL.out.arr
        injection e9 with e91 e92 e93
        have hzr2 : ZAt (fun x => w.heap.size ≤ x ∧ x ≠ w.heap.size + 1) wr (emb (.arr ta tb)) (.agg #[.int .i64 3, .int .i64 0, .slice As us.length cs]) := by
          rw [e92, e91, e93]; exact hzr
        have y0 := HL.out.r0
        have y1 := HL.out.r1
        have y2 := HL.out.r2
        have yf0 := HL.out.rf0
        have yf1 := HL.out.rf1
        have yf2 := HL.out.rf2
        have HR := Lib.hid (of_end HL.out hzr2)
        clear e91 e92 e93 hzr hzr2 hlen hown
        go_wp2
        exact bodyPost_ret (v := .agg #[.int .i64 3, .int .i64 0, .slice As us.length cs]) (by simp [results, Try.results28, go_sem, y0, y1, y2]) rfl HR.out
end Go.Proofs.Ytomhojpoaicioaa
