/- The contract of the document's Function (chapter 4): is a type a function's? No conditions but those that each theorem names. Two types of the small world (chapter 4) of one print are one: a print is read back by a reader. No conditions but those that each theorem names. The contracts of the document's bracket, Decimal (of one digit) and Print of types (chapter 4): the small cases. Conditions: the print has at most 2^40 bytes; numbers of what is not known are 0 to 9. The contract of the document's Print of types (chapter 4). Conditions: the print has at most 2^40 bytes; numbers of what is not known are 0 to 9. -/
import Derived.Test.YtbdfjboojokgdaaGreatDoorM05
import Derived.Test.YtbdfjboojokgdaaGreatDoorM32
import Derived.Test.YtbdfjboojokgdaaGreatDoorM06
import Derived.Deep.RegionHeld3
namespace Go.Proofs.YtbdfjboojokgdaaGreatDoor
open Go.RowKit

theorem isArrow_con {f : Ty} (h : f.isArrow = true) : f = .con ⟨#[45, 62]⟩ := by
  cases f with
  | con s => rw [(arrow_eq s).1 h]
  | _ => cases h
theorem sides_fn {t a b : Ty} (h : t.sides = some (a, b)) : t = Ty.fn a b := by
  unfold Ty.sides at h
  split at h
  · split at h
    · rename_i hf
      simp only [Option.some.injEq, Prod.mk.injEq] at h
      obtain ⟨rfl, rfl⟩ := h
      rw [isArrow_con hf]; rfl
    · cases h
  · cases h
set_option maxRecDepth 100000 in
set_option maxHeartbeats 1000000 in
theorem function_any (P : Nat → Prop) (t : Ty) (v : Value) (w : World) (h : TyAt P w t v) : Calls Tryz.prog 35 #[v] w fun e w' => e = .returned (.bool t.sides.isSome) ∧ Below w.heap.size w w' := by
  by_cases hap : t.isApp = true
  · obtain ⟨x, b, rfl⟩ : ∃ x b, t = .app x b := by cases t <;> first | exact ⟨_, _, rfl⟩ | cases hap
    obtain ⟨sv, rfl, hs⟩ := h.tys
    simp only [Ty.form, Ty.num, Ty.name, Ty.args] at hs ⊢
    obtain ⟨A, c, rfl, _, _⟩ := hs.form
    obtain ⟨g, off, A3, c3, rfl, hPg, hgl, k0, k1, k2, k3, hx⟩ := hs.at 0 (by simp)
    simp only [List.getElem_cons_zero, Nat.zero_mul, Nat.add_zero, List.length_cons, List.length_nil, Nat.zero_add, Nat.reduceAdd] at k0 k1 k2 k3 hx ⊢
    clear h hs hap
    by_cases hax : x.isApp = true
    · obtain ⟨f, a, rfl⟩ : ∃ f a, x = .app f a := by cases x <;> first | exact ⟨_, _, rfl⟩ | cases hax
      obtain ⟨sv, esv, hs⟩ := hx.tys
      simp only [Ty.form, Ty.num, Ty.name, Ty.args, Value.agg.injEq, Array.mk.injEq, List.cons.injEq, true_and, and_true, List.length_cons, List.length_nil, Nat.zero_add, Nat.reduceAdd] at esv hs k0 k1 k2 k3
      subst esv
      obtain ⟨g3, off3, A5, c5, e5, hP3, hg3, m0, m1, m2, m3, hf⟩ := hs.at 0 (by simp)
      subst e5
      simp only [List.getElem_cons_zero, Nat.zero_mul, Nat.add_zero] at m0 m1 m2 m3 hf
      clear hs hx hf hax
      have hcase : (f.form == 3) = false ∨ ∃ s, f = .con s := by cases f <;> first | exact .inl rfl | exact .inr ⟨_, rfl⟩
      rcases hcase with h3 | ⟨s, rfl⟩
      · have HE : Hid ((Ty.app (.app f a) b).sides.isSome = false) := by
          show (if f.isArrow then some (a, b) else none).isSome = false
          rw [if_neg (fun h => by rw [isArrow_con h] at h3; cases h3)]; rfl
        generalize f.form = ff, f.num = fn', f.name = fs, f.args.length = fl at *
        go_enter Tryz.func35, Tryz.ntmps35
        go_wp2
        go_ret
        exact ⟨ret_bool HE.out.symm, below2 w _ _⟩
      · have HE : Hid ((Ty.app (.app (.con s) a) b).sides.isSome = (s.toList == [45, 62])) := by
          show (if (Ty.con s).isArrow then some (a, b) else none).isSome = _
          rw [← list_arrow]
          cases hq : (s == (⟨#[45, 62]⟩ : ByteArray)) with
          | true => rw [if_pos (show (Ty.con s).isArrow = true from hq)]; rfl
          | false => rw [if_neg (show ¬ (Ty.con s).isArrow = true from fun h => by have h' : (s == (⟨#[45, 62]⟩ : ByteArray)) = true := h; rw [hq] at h'; cases h')]; rfl
        simp only [Ty.form, Ty.num, Ty.name, Ty.args, List.length_nil] at m0 m1 m2 m3
        go_enter Tryz.func35, Tryz.ntmps35
        go_wp2
        go_ret
        exact ⟨ret_bool HE.out.symm, below2 w _ _⟩
    · have HE : Hid ((Ty.app x b).sides.isSome = false) := by show _ = _; cases x <;> first | rfl | exact absurd rfl hax
      have h4 : (x.form != 4) = true := by cases x <;> first | rfl | exact absurd rfl hax
      clear hx hax
      generalize x.form = xf, x.num = xn, x.name = xs, x.args.length = xl at *
      go_enter Tryz.func35, Tryz.ntmps35
      go_wp2
      go_ret
      exact ⟨ret_bool HE.out.symm, below_new w _⟩
  · have hap' : t.isApp = false := by simpa using hap
    have HE : Hid (t.sides.isSome = false) := by show _ = _; rw [sides_leaf hap']; rfl
    obtain ⟨A, c, rfl, _, _⟩ := h.form
    have h4 : (t.form != 4) = true := by cases t <;> first | rfl | cases hap'
    clear h hap hap'
    generalize t.form = xf, t.num = xn, t.name = xs, t.args.length = xl at *
    go_enter Tryz.func35, Tryz.ntmps35
    go_wp2
    go_ret
    exact ⟨ret_bool HE.out.symm, below_new w _⟩
end Go.Proofs.YtbdfjboojokgdaaGreatDoor
namespace Go.Proofs.YtbdfjboojokgdaaGreatDoor
open Go.RowKit

/-- The small world. -/
def Ty.world : Ty → Prop
  | .hole n => n = 1 ∨ n = 2 ∨ n = 3 ∨ n = 4
  | .var s => s = ⟨#[97]⟩ ∨ s = ⟨#[98]⟩ ∨ s = ⟨#[99]⟩ ∨ s = ⟨#[120]⟩
  | .con s => s = ⟨#[73, 110, 116]⟩ ∨ s = ⟨#[66, 111, 111, 108]⟩ ∨ s = ⟨#[76]⟩ ∨ s = ⟨#[80]⟩ ∨ s = ⟨#[70]⟩ ∨ s = ⟨#[45, 62]⟩
  | .app a b => a.world ∧ b.world
  | .all s a => (s = ⟨#[97]⟩ ∨ s = ⟨#[98]⟩ ∨ s = ⟨#[99]⟩ ∨ s = ⟨#[120]⟩) ∧ a.world
theorem nameK_world (k : Int) : nameK k = ⟨#[97]⟩ ∨ nameK k = ⟨#[98]⟩ ∨ nameK k = ⟨#[99]⟩ ∨ nameK k = ⟨#[120]⟩ := by
  unfold nameK; repeat' split
  all_goals simp
theorem conK_world (k : Int) : (Ty.con (conK k)).world := by
  unfold conK; repeat' split
  all_goals simp [Ty.world]
theorem leafZ_world (n k : Int) (h0 : 0 ≤ n) (h1 : n < 40) : (leafZ n k).world := by
  unfold leafZ
  split
  · exact nameK_world _
  · split
    · simp only [Ty.world]; omega
    · exact conK_world _
theorem builtZ_world : ∀ (f : Nat) (l : List Int), (builtZ f l).1.world
  | 0, [] => by simp [builtZ, Ty.world]
  | f + 1, [] => by simp [builtZ, Ty.world]
  | 0, z :: l => by
    have h := aroundI_bd z 40 (by omega)
    exact leafZ_world _ _ (by omega) (by omega)
  | f + 1, z :: l => by
    have h := aroundI_bd z 40 (by omega)
    have i1 := builtZ_world f l
    have i2 := builtZ_world f (builtZ f l).2
    rw [builtZ]
    split
    · exact leafZ_world _ _ (by omega) (by omega)
    · split
      · exact ⟨nameK_world _, i1⟩
      · dsimp only
        split
        · exact ⟨⟨by simp [Ty.world], i1⟩, i2⟩
        · exact ⟨i1, i2⟩
theorem madeZ_world (zs : List Int) : (madeZ zs).world := builtZ_world _ _

def leafP : List UInt8 → Option (Ty × List UInt8)
  | 97 :: r => some (.var ⟨#[97]⟩, r)
  | 98 :: r => some (.var ⟨#[98]⟩, r)
  | 99 :: r => some (.var ⟨#[99]⟩, r)
  | 120 :: r => some (.var ⟨#[120]⟩, r)
  | 73 :: 110 :: 116 :: r => some (.con ⟨#[73, 110, 116]⟩, r)
  | 66 :: 111 :: 111 :: 108 :: r => some (.con ⟨#[66, 111, 111, 108]⟩, r)
  | 76 :: r => some (.con ⟨#[76]⟩, r)
  | 80 :: r => some (.con ⟨#[80]⟩, r)
  | 70 :: r => some (.con ⟨#[70]⟩, r)
  | 63 :: 49 :: r => some (.hole 1, r)
  | 63 :: 50 :: r => some (.hole 2, r)
  | 63 :: 51 :: r => some (.hole 3, r)
  | 63 :: 52 :: r => some (.hole 4, r)
  | _ => none
mutual
/-- A reader of prints: a type, -/
def rdT : Nat → List UInt8 → Option (Ty × List UInt8)
  | 0, _ => none
  | f + 1, s => match rdA f s with
    | some (t, r) => rdL f t r
    | none => match s with
      | 102 :: 111 :: 114 :: 97 :: 108 :: 108 :: 32 :: c :: 46 :: 32 :: r => match rdT f r with
        | some (a, r') => some (.all ⟨#[c]⟩ a, r')
        | none => none
      | _ => none
/-- what stands without brackets, -/
def rdA : Nat → List UInt8 → Option (Ty × List UInt8)
  | 0, _ => none
  | f + 1, s => match s with
    | 40 :: r => match rdT f r with
      | some (t, 41 :: r') => some (t, r')
      | _ => match r with
        | 45 :: 62 :: 41 :: r' => some (.con ⟨#[45, 62]⟩, r')
        | _ => none
    | _ => leafP s
/-- and what goes on behind a type. -/
def rdL : Nat → Ty → List UInt8 → Option (Ty × List UInt8)
  | 0, _, _ => none
  | f + 1, t, s => match s with
    | 32 :: r => match rdA f r with
      | some (b, r') => rdL f (.app t b) r'
      | none => match r with
        | 45 :: 62 :: 32 :: r' => match rdT f r' with
          | some (b, r'') => some (Ty.fn t b, r'')
          | none => none
        | _ => none
    | _ => some (t, s)
end
/-- With enough fuel. -/
def Ev {α : Type} (F : Nat → Option α) (x : α) : Prop := ∃ N, ∀ f, N ≤ f → F f = some x
def Stop (r : List UInt8) : Prop := r = [] ∨ ∃ r', r = 41 :: r'
theorem rdL_stop (t : Ty) {r : List UInt8} (h : Stop r) : Ev (fun f => rdL f t r) (t, r) := by
  refine ⟨1, fun f hf => ?_⟩
  obtain ⟨f, rfl⟩ : ∃ g, f = g + 1 := ⟨f - 1, by omega⟩
  rcases h with rfl | ⟨r', rfl⟩ <;> simp [rdL]
theorem rdT_of {s r : List UInt8} {t : Ty} {x : Ty × List UInt8} (h : Ev (fun f => rdA f s) (t, r)) (hx : Ev (fun f => rdL f t r) x) : Ev (fun f => rdT f s) x := by
  obtain ⟨N, hN⟩ := h
  obtain ⟨M, hM⟩ := hx
  refine ⟨N + M + 1, fun f hf => ?_⟩
  obtain ⟨f, rfl⟩ : ∃ g, f = g + 1 := ⟨f - 1, by omega⟩
  have h1 := hN f (by omega)
  have h2 := hM f (by omega)
  simp only at h1 h2
  simp only [rdT, h1, h2]
theorem rdL_of {r r' : List UInt8} {t b : Ty} {x : Ty × List UInt8} (h : Ev (fun f => rdA f r) (b, r')) (hx : Ev (fun f => rdL f (.app t b) r') x) : Ev (fun f => rdL f t (32 :: r)) x := by
  obtain ⟨N, hN⟩ := h
  obtain ⟨M, hM⟩ := hx
  refine ⟨N + M + 1, fun f hf => ?_⟩
  obtain ⟨f, rfl⟩ : ∃ g, f = g + 1 := ⟨f - 1, by omega⟩
  have h1 := hN f (by omega)
  have h2 := hM f (by omega)
  simp only at h1 h2
  simp only [rdL, h1, h2]
theorem rdA_no (f : Nat) (c : UInt8) (r : List UInt8) (h : c = 45 ∨ c = 102) : rdA f (c :: r) = none := by
  cases f with
  | zero => rfl
  | succ f => rcases h with rfl | rfl <;> simp [rdA, leafP]
theorem rdL_arrow {r r' : List UInt8} {t b : Ty} (h : Ev (fun f => rdT f r) (b, r')) : Ev (fun f => rdL f t (32 :: 45 :: 62 :: 32 :: r)) (Ty.fn t b, r') := by
  obtain ⟨N, hN⟩ := h
  refine ⟨N + 1, fun f hf => ?_⟩
  obtain ⟨f, rfl⟩ : ∃ g, f = g + 1 := ⟨f - 1, by omega⟩
  have h1 := hN f (by omega)
  simp only at h1
  simp only [rdL, rdA_no f 45 _ (.inl rfl), h1]
theorem rdT_all {r r' : List UInt8} {c : UInt8} {a : Ty} (h : Ev (fun f => rdT f r) (a, r')) : Ev (fun f => rdT f (102 :: 111 :: 114 :: 97 :: 108 :: 108 :: 32 :: c :: 46 :: 32 :: r)) (.all ⟨#[c]⟩ a, r') := by
  obtain ⟨N, hN⟩ := h
  refine ⟨N + 1, fun f hf => ?_⟩
  obtain ⟨f, rfl⟩ : ∃ g, f = g + 1 := ⟨f - 1, by omega⟩
  have h1 := hN f (by omega)
  simp only at h1
  simp only [rdT, rdA_no f 102 _ (.inr rfl), h1]
theorem rdA_brk {s r : List UInt8} {t : Ty} (h : Ev (fun f => rdT f s) (t, 41 :: r)) : Ev (fun f => rdA f (40 :: s)) (t, r) := by
  obtain ⟨N, hN⟩ := h
  refine ⟨N + 1, fun f hf => ?_⟩
  obtain ⟨f, rfl⟩ : ∃ g, f = g + 1 := ⟨f - 1, by omega⟩
  have h1 := hN f (by omega)
  simp only at h1
  simp only [rdA, h1]
theorem rdT_minus (f : Nat) (r : List UInt8) : rdT f (45 :: r) = none := by
  cases f with
  | zero => rfl
  | succ f => simp [rdT, rdA_no f 45 r (.inl rfl)]
theorem rdA_leaf {t : Ty} (h : t.world) (hb : t.bare = 3) (r : List UInt8) : Ev (fun f => rdA f (t.pr ++ r)) (t, r) := by
  refine ⟨1, fun f hf => ?_⟩
  obtain ⟨f, rfl⟩ : ∃ g, f = g + 1 := ⟨f - 1, by omega⟩
  cases t with
  | all s a => simp [Ty.bare] at hb
  | app x b => simp only [Ty.bare] at hb; split at hb <;> omega
  | hole n =>
    rcases h with rfl | rfl | rfl | rfl
    · have e : (Ty.hole 1).pr = [63, 49] := by rw [Ty.pr, show (1 : Int).toNat = 1 from rfl, Lib.decDigits]; rfl
      simp only [e]; rfl
    · have e : (Ty.hole 2).pr = [63, 50] := by rw [Ty.pr, show (2 : Int).toNat = 2 from rfl, Lib.decDigits]; rfl
      simp only [e]; rfl
    · have e : (Ty.hole 3).pr = [63, 51] := by rw [Ty.pr, show (3 : Int).toNat = 3 from rfl, Lib.decDigits]; rfl
      simp only [e]; rfl
    · have e : (Ty.hole 4).pr = [63, 52] := by rw [Ty.pr, show (4 : Int).toNat = 4 from rfl, Lib.decDigits]; rfl
      simp only [e]; rfl
  | var s => rcases h with rfl | rfl | rfl | rfl <;> rfl
  | con s =>
    rcases h with rfl | rfl | rfl | rfl | rfl | rfl
    all_goals first | rfl | skip
    have e : (Ty.con ⟨#[45, 62]⟩).pr ++ r = 40 :: 45 :: 62 :: 41 :: r := by
      have : (Ty.con ⟨#[45, 62]⟩).isArrow = true := by decide
      rw [Ty.pr, if_pos this]; rfl
    simp only [e, rdA, rdT_minus]
theorem prAt_pos {p : Nat} {t : Ty} (h : t.bare < p) : t.prAt p = 40 :: (t.pr ++ [41]) := by
  rw [Ty.prAt, brk, if_pos h]; rfl
theorem prAt_neg {p : Nat} {t : Ty} (h : ¬ t.bare < p) : t.prAt p = t.pr := by
  rw [Ty.prAt, brk, if_neg h]
structure Reads (t : Ty) : Prop where
  a : ∀ r, Ev (fun f => rdA f (t.prAt 3 ++ r)) (t, r)
  b : ∀ r x, Ev (fun f => rdL f t r) x → Ev (fun f => rdT f (t.prAt 2 ++ r)) x
  c : ∀ r, Stop r → Ev (fun f => rdT f (t.pr ++ r)) (t, r)
  d : ∀ r, Stop r → Ev (fun f => rdT f (t.prAt 1 ++ r)) (t, r)
theorem reads_of {t : Ty} (hc : ∀ r, Stop r → Ev (fun f => rdT f (t.pr ++ r)) (t, r)) (hl : t.bare = 3 → ∀ r, Ev (fun f => rdA f (t.pr ++ r)) (t, r)) (hb : t.bare = 2 → ∀ r x, Ev (fun f => rdL f t r) x → Ev (fun f => rdT f (t.pr ++ r)) x) (h3 : t.bare ≤ 3) : Reads t := by
  have hbr : ∀ r, Ev (fun f => rdA f (40 :: (t.pr ++ [41]) ++ r)) (t, r) := fun r => by
    have := rdA_brk (hc (41 :: r) (.inr ⟨r, rfl⟩))
    simpa using this
  refine ⟨fun r => ?_, fun r x hx => ?_, hc, fun r hr => ?_⟩
  · by_cases h : t.bare < 3
    · rw [prAt_pos h]; exact hbr r
    · rw [prAt_neg h]; exact hl (by omega) r
  · by_cases h : t.bare < 2
    · rw [prAt_pos h]; exact rdT_of (hbr r) hx
    · rw [prAt_neg h]
      by_cases h2 : t.bare = 2
      · exact hb h2 r x hx
      · exact rdT_of (hl (by omega) r) hx
  · by_cases h : t.bare < 1
    · rw [prAt_pos h]; exact rdT_of (hbr r) (rdL_stop t hr)
    · rw [prAt_neg h]; exact hc r hr
theorem reads_leaf {t : Ty} (h : t.world) (hb : t.bare = 3) : Reads t :=
  reads_of (fun r hr => rdT_of (rdA_leaf h hb r) (rdL_stop t hr)) (fun _ => rdA_leaf h hb) (fun h2 => by omega) (by omega)
theorem isArrow_world {f : Ty} (h : f.world) (ha : f.isArrow = true) : f = .con arrowS := by
  cases f with
  | con s => rcases h with rfl | rfl | rfl | rfl | rfl | rfl <;> first | rfl | (exfalso; revert ha; decide)
  | _ => exact absurd ha (by simp [Ty.isArrow])
theorem reads_any : ∀ (n : Nat) (t : Ty), t.sz ≤ n → t.world → Reads t
  | 0, t, h, _ => by cases t <;> simp [Ty.sz] at h
  | n + 1, t, h, hw => by
    cases t with
    | hole k => exact reads_leaf hw rfl
    | var s => exact reads_leaf hw rfl
    | con s => exact reads_leaf hw rfl
    | all s a =>
      have ia := reads_any n a (by simp [Ty.sz] at h; omega) hw.2
      refine reads_of (fun r hr => ?_) (fun h => by simp [Ty.bare] at h) (fun h => by simp [Ty.bare] at h) (by simp [Ty.bare])
      rcases hw.1 with rfl | rfl | rfl | rfl <;> exact rdT_all (ia.c r hr)
    | app x b =>
      have ix := reads_any n x (by simp [Ty.sz] at h; omega) hw.1
      have ib := reads_any n b (by simp [Ty.sz] at h; omega) hw.2
      cases hs : (Ty.app x b).sides with
      | none =>
        have hk : ∀ r y, Ev (fun f => rdL f (.app x b) r) y → Ev (fun f => rdT f ((Ty.app x b).pr ++ r)) y := fun r y hy => by
          rw [Ty.pr_app hs]
          have := ix.b (32 :: (b.prAt 3 ++ r)) y (rdL_of (ib.a r) hy)
          simpa using this
        have hb2 : (Ty.app x b).bare = 2 := by simp [Ty.bare, hs]
        exact reads_of (fun r hr => hk r _ (rdL_stop _ hr)) (fun h => by omega) (fun _ => hk) (by omega)
      | some p =>
        obtain ⟨a, b'⟩ := p
        obtain ⟨f, e, hf⟩ := sides_shape hs
        injection e with e1 e2
        subst e1; subst e2
        have hb1 : (Ty.app (.app f a) b).bare = 1 := by simp [Ty.bare, hs]
        have ia := reads_any n a (by simp [Ty.sz] at h; omega) hw.1.2
        refine reads_of (fun r hr => ?_) (fun h => by omega) (fun h => by omega) (by omega)
        rw [Ty.pr_fun hs]
        have hfe := isArrow_world hw.1.1 hf
        subst hfe
        have := ia.b (32 :: 45 :: 62 :: 32 :: (b.prAt 1 ++ r)) _ (rdL_arrow (ib.d r hr))
        simpa [Ty.fn, arrowS] using this
/-- Types of one print are one. -/
theorem pr_inj {a b : Ty} (ha : a.world) (hb : b.world) (h : a.pr = b.pr) : a = b := by
  obtain ⟨N, hN⟩ := (reads_any _ a (Nat.le_refl _) ha).c [] (.inl rfl)
  obtain ⟨M, hM⟩ := (reads_any _ b (Nat.le_refl _) hb).c [] (.inl rfl)
  have h1 := hN (N + M) (by omega)
  have h2 := hM (N + M) (by omega)
  simp only [h] at h1
  simp only [h1] at h2
  injection h2 with h2
  injection h2
end Go.Proofs.YtbdfjboojokgdaaGreatDoor
namespace Go.Proofs.YtbdfjboojokgdaaGreatDoor
open Go.RowKit

theorem mk_size (x : List UInt8) : (⟨x.toArray⟩ : ByteArray).size = x.length := by show x.toArray.size = _; simp
theorem append_mk2 (a b : List UInt8) : (⟨a.toArray⟩ : ByteArray) ++ ⟨b.toArray⟩ = ⟨(a ++ b).toArray⟩ := by
  apply ByteArray.ext
  simp [ByteArray.data_append]
theorem ofNat_toNat (n : Nat) (h : n < 256) : (UInt8.ofNat n).toNat = n := by simp [UInt8.toNat_ofNat']; omega
/-- string([]byte{x}). -/
theorem convert_one (w : World) (x : Int) (h0 : 0 ≤ x) (h1 : x < 256) :
    (convert 51 9 (.slice (some ⟨w.heap.size, 0, none⟩) 1 1)).run Tryz.prog (w.alloc (.cells #[.int .u8 x] 5)) = .ok (.string ⟨#[UInt8.ofNat x.toNat]⟩) (w.alloc (.cells #[.int .u8 x] 5)) := by
  have hx : (((UInt8.ofNat x.toNat).toNat : Nat) : Int) = x := by rw [ofNat_toNat _ (by omega)]; omega
  refine run_convert_bytes_back (w.alloc (.cells #[.int .u8 x] 5)) 51 9 5 ⟨w.heap.size, 0, none⟩ 1 [UInt8.ofNat x.toNat] Tryz.underlying51 Tryz.underlying5 Tryz.underlying9 fun j hj => ?_
  obtain rfl : j = 0 := by simpa using hj
  simp only [List.getElem_cons_zero]
  rw [hx]
  simp [Addr.add, go_sem]
set_option maxRecDepth 100000 in
set_option maxHeartbeats 1000000 in
theorem decimal_one (n : Int) (w : World) (h0 : 0 ≤ n) (h1 : n < 10) : Calls Tryz.prog 37 #[.int .i64 n] w fun e w' => e = .returned (.string ⟨(Lib.decDigits n.toNat).toArray⟩) ∧ Below w.heap.size w w' := by
  have hcv := convert_one w (48 + n % 10) (by omega) (by omega)
  have b1 : decide (n < 10) = true := by simp; omega
  have HD : Hid (UInt8.ofNat (48 + n % 10).toNat = 48 + UInt8.ofNat (n.toNat) ∧ Lib.decDigits n.toNat = [UInt8.ofNat (48 + n % 10).toNat]) := by
    have hn : n = 0 ∨ n = 1 ∨ n = 2 ∨ n = 3 ∨ n = 4 ∨ n = 5 ∨ n = 6 ∨ n = 7 ∨ n = 8 ∨ n = 9 := by omega
    rcases hn with rfl | rfl | rfl | rfl | rfl | rfl | rfl | rfl | rfl | rfl <;> exact ⟨by decide, by rw [Lib.decDigits]; rfl⟩
  have HD2 := Lib.hid HD.out.2
  clear HD
  generalize UInt8.ofNat (48 + n % 10).toNat = c at *
  go_enter Tryz.func37, Tryz.ntmps37
  go_wp2
  go_ret
  exact ⟨by rw [HD2.out]; rfl, below_new w _⟩
set_option maxRecDepth 100000 in
set_option maxHeartbeats 1000000 in
theorem bracket_any (s : List UInt8) (c : Bool) (w : World) (h : s.length ≤ 1099511627776) : Calls Tryz.prog 36 #[.string ⟨s.toArray⟩, .bool c] w fun e w' => e = .returned (.string ⟨(if c then [40] ++ s ++ [41] else s).toArray⟩) ∧ w' = w := by
  have hs := mk_size s
  cases c with
  | false =>
    go_enter Tryz.func36, Tryz.ntmps36
    go_wp2
    go_ret
    exact ⟨rfl, rfl⟩
  | true =>
    have HE : Hid ((⟨#[40]⟩ : ByteArray) ++ ⟨s.toArray⟩ ++ ⟨#[41]⟩ = ⟨([40] ++ s ++ [41]).toArray⟩) := by
      show _ = _
      rw [← append_mk2, ← append_mk2]
    go_enter Tryz.func36, Tryz.ntmps36
    go_wp2
    go_ret
    exact ⟨by rw [HE.out]; rfl, rfl⟩
end Go.Proofs.YtbdfjboojokgdaaGreatDoor
namespace Go.Proofs.YtbdfjboojokgdaaGreatDoor
open Go.RowKit

/-- What the document's Print tells of a type. -/
def RefPr (P : Nat → Prop) (t : Ty) : Prop := ∀ (v : Value) (w : World), TyAt P w t v → Calls Tryz.prog 17 #[v] w fun e w' => e = .returned (.string ⟨t.pr.toArray⟩) ∧ Below w.heap.size w w'
/-- Numbers of one digit. -/
def Ty.ten : Ty → Prop
  | .hole n => 0 ≤ n ∧ n < 10
  | .app a b => a.ten ∧ b.ten
  | .all _ a => a.ten
  | _ => True
theorem bare_first (t : Ty) : (t.sides.isSome || (t.form == 5)) = decide (t.bare < 2) := by
  cases t with
  | app x b => cases hs : (Ty.app x b).sides <;> simp [Ty.bare, hs, Ty.form]
  | _ => simp [Ty.bare, Ty.form, Ty.sides]
theorem bare_right (t : Ty) : (t.form == 5) = decide (t.bare < 1) := by
  cases t with
  | app x b => cases hs : (Ty.app x b).sides <;> simp [Ty.bare, hs, Ty.form]
  | _ => simp [Ty.bare, Ty.form]
theorem bare_second (t : Ty) : ((t.form == 4) || (t.form == 5)) = decide (t.bare < 3) := by
  cases t with
  | app x b => cases hs : (Ty.app x b).sides <;> simp [Ty.bare, hs, Ty.form]
  | _ => simp [Ty.bare, Ty.form]
theorem brk_if (p : Nat) (t : Ty) (s : List UInt8) : (if decide (t.bare < p) = true then [40] ++ s ++ [41] else s) = brk p t s := by
  unfold brk; by_cases h : t.bare < p <;> simp [h]
set_option maxRecDepth 100000 in
set_option maxHeartbeats 1000000 in
theorem refprint_hole (P : Nat → Prop) (n : Int) (h0 : 0 ≤ n) (h1 : n < 10) : RefPr P (.hole n) := by
  intro v w h
  obtain ⟨A, c, rfl, _, _⟩ := h.form
  simp only [Ty.form, Ty.num, Ty.name, Ty.args, List.length_nil] at h ⊢
  have HF := Lib.hid (fun (w' : World) (hb : Below w.heap.size w w') => function_any P _ _ w' (h.on hb))
  have HD := Lib.hid (fun (w' : World) => decimal_one n w' h0 h1)
  have hl : (Lib.decDigits n.toNat).length ≤ 1 := by
    have hn : n = 0 ∨ n = 1 ∨ n = 2 ∨ n = 3 ∨ n = 4 ∨ n = 5 ∨ n = 6 ∨ n = 7 ∨ n = 8 ∨ n = 9 := by omega
    rcases hn with rfl | rfl | rfl | rfl | rfl | rfl | rfl | rfl | rfl | rfl <;> (rw [Lib.decDigits]; decide)
  have hz := mk_size (Lib.decDigits n.toNat)
  have HE : Hid ((⟨#[63]⟩ : ByteArray) ++ ⟨(Lib.decDigits n.toNat).toArray⟩ = ⟨(Ty.hole n).pr.toArray⟩) := by
    show _ = _
    rw [Ty.pr, ← append_mk2]
  obtain ⟨W, eW, q1, b1, z1⟩ := one_box w (.int .i64 1) (.int .i64 n) (.string ⟨#[]⟩) (.slice A 0 c) 27
  have HEW := Lib.hid eW
  have HQ := Lib.hid q1
  have HB := Lib.hid b1
  obtain ⟨x0, x1, x2, x3, x4, _⟩ := q1
  clear eW b1 h
  generalize Lib.decDigits n.toNat = D at *
  go_enter Tryz.func17, Tryz.ntmps17
  go_wp2_with fail
  rw [HEW.out]
  go_wp2_with fail
  refine (HF.out W HB.out).mono ?_
  rintro e y ⟨rfl, hb1⟩
  obtain ⟨y0, y1, y2, y3, y4, _⟩ := HQ.out.on hb1
  have hsd : (Ty.hole n).sides.isSome = false := rfl
  rw [hsd]
  go_wp2_with fail
  refine (HD.out _).mono ?_
  rintro e y2 ⟨rfl, hb2⟩
  go_wp2
  go_ret
  exact ⟨by rw [HE.out]; rfl, (HB.out.trans (hb1.mono HB.out.size)).trans (hb2.mono (by have := hb1.size; have := HB.out.size; omega))⟩
set_option maxRecDepth 100000 in
set_option maxHeartbeats 1000000 in
theorem refprint_name (P : Nat → Prop) (t : Ty) (s : ByteArray) (ht : t = .var s ∨ t = .con s) (hlen : t.pr.length ≤ 1099511627776) : RefPr P t := by
  intro v w h
  obtain ⟨A, c, rfl, _, _⟩ := h.form
  have hs : t.name = s ∧ t.num = 0 ∧ t.args = [] ∧ (t.form = 2 ∨ t.form = 3) ∧ t.sides.isSome = false := by
    rcases ht with rfl | rfl <;> simp [Ty.name, Ty.num, Ty.args, Ty.form, Ty.sides]
  have hsl : s.data.toList.length ≤ 1099511627776 := by
    rcases ht with rfl | rfl
    · exact hlen
    · rw [Ty.pr] at hlen
      split at hlen
      · rename_i ha
        have := (arrow_eq s).1 ha
        subst this
        decide
      · exact hlen
  have HE : Hid (t.pr = if ((t.form == 3) && (s.toList == [45, 62])) = true then [40] ++ s.data.toList ++ [41] else s.data.toList) := by
    show _ = _
    rcases ht with rfl | rfl
    · rfl
    · rw [Ty.pr, ← list_arrow]
      simp only [Ty.form, Ty.isArrow, beq_self_eq_true, Bool.true_and]
      split
      · rename_i ha
        have := (arrow_eq s).1 ha
        subst this; rfl
      · rename_i ha
        exact if_neg ha
  have HF := Lib.hid (fun (w' : World) (hb : Below w.heap.size w w') => function_any P _ _ w' (h.on hb))
  have HBR := Lib.hid (fun (c : Bool) (w' : World) => bracket_any s.data.toList c w' hsl)
  obtain ⟨e1, e2, e3, hf, e5⟩ := hs
  rw [e3, e1, e2] at HF
  rw [e3, e1, e2]
  rw [e5] at HF
  obtain ⟨W, eW, q1, b1, z1⟩ := one_box w (.int .i64 t.form) (.int .i64 0) (.string s) (.slice A 0 c) 27
  have HEW := Lib.hid eW
  have HQ := Lib.hid q1
  have HB := Lib.hid b1
  clear eW b1 h hlen q1 e1 e2 e3 e5 ht
  generalize t.pr = D at *
  generalize t.form = ff at *
  rcases hf with rfl | rfl
  · go_enter Tryz.func17, Tryz.ntmps17
    go_wp2_with fail
    rw [HEW.out]
    go_wp2_with fail
    refine (HF.out W HB.out).mono ?_
    rintro e y ⟨rfl, hb1⟩
    obtain ⟨y0, y1, y2, y3, y4, _⟩ := HQ.out.on hb1
    go_wp2_with fail
    refine (HBR.out false _).mono ?_
    rintro e y2 ⟨rfl, rfl⟩
    go_wp2
    go_ret
    exact ⟨by rw [HE.out]; rfl, HB.out.trans (hb1.mono HB.out.size)⟩
  · cases ha : s.toList == [45, 62]
    all_goals
      go_enter Tryz.func17, Tryz.ntmps17
      go_wp2_with fail
      rw [HEW.out]
      go_wp2_with fail
      refine (HF.out W HB.out).mono ?_
      rintro e y ⟨rfl, hb1⟩
      obtain ⟨y0, y1, y2, y3, y4, _⟩ := HQ.out.on hb1
      go_wp2_with fail
      refine (HBR.out _ _).mono ?_
      rintro e y2 ⟨rfl, rfl⟩
      go_wp2
      go_ret
      exact ⟨by rw [HE.out, ha]; rfl, HB.out.trans (hb1.mono HB.out.size)⟩
set_option maxRecDepth 100000 in
set_option maxHeartbeats 1000000 in
theorem refprint_all (P : Nat → Prop) (s : ByteArray) (a : Ty) (ih : RefPr P a) (hlen : (Ty.all s a).pr.length ≤ 1099511627776) : RefPr P (.all s a) := by
  intro v w h
  obtain ⟨sv, rfl, hs⟩ := h.tys
  have HF := Lib.hid (fun (w' : World) (hb : Below w.heap.size w w') => function_any P _ _ w' (h.on hb))
  simp only [Ty.form, Ty.num, Ty.name, Ty.args] at hs HF ⊢
  obtain ⟨A, c, rfl, _, _⟩ := hs.form
  obtain ⟨g, off, A3, c3, rfl, hPg, hgl, k0, k1, k2, k3, hx⟩ := hs.at 0 (by simp)
  simp only [List.getElem_cons_zero, Nat.zero_mul, Nat.add_zero, List.length_cons, List.length_nil, Nat.zero_add] at k0 k1 k2 k3 hx HF ⊢
  have HX := Lib.hid hx
  have HA := Lib.hid (fun (w' : World) (hb : Below w.heap.size w w') => ih _ w' (hx.on hb))
  rw [Ty.pr] at hlen
  simp only [List.length_append, List.length_cons, List.length_nil] at hlen
  have hz1 := mk_size a.pr
  have hz2 : s.size = s.data.toList.length := by show s.data.size = _; simp
  have HE : Hid ((⟨#[102, 111, 114, 97, 108, 108, 32]⟩ : ByteArray) ++ s ++ ⟨#[46, 32]⟩ ++ ⟨a.pr.toArray⟩ = ⟨(Ty.all s a).pr.toArray⟩) := by
    show _ = _
    rw [Ty.pr, ← append_mk2, ← append_mk2, ← append_mk2]
  have hsd : (Ty.all s a).sides.isSome = false := rfl
  rw [hsd] at HF
  obtain ⟨W, eW, q1, b1, z1⟩ := one_box w (.int .i64 5) (.int .i64 0) (.string s) (.slice (some ⟨g, off, none⟩) 1 c) 27
  have HEW := Lib.hid eW
  have HQ := Lib.hid q1
  have HB := Lib.hid b1
  clear eW b1 h hs hx q1 ih hsd
  have HK : Hid (∀ q : World, Below w.heap.size w q → q.cell? ⟨g, off, none⟩ = some (.int .i64 a.form) ∧ q.cell? ⟨g, off + 1, none⟩ = some (.int .i64 a.num) ∧ q.cell? ⟨g, off + 2, none⟩ = some (.string a.name) ∧ q.cell? ⟨g, off + 3, none⟩ = some (.slice A3 a.args.length c3)) := fun q hb =>
    ⟨(hb.cell (p := ⟨g, _, none⟩) hgl).trans k0, (hb.cell (p := ⟨g, _, none⟩) hgl).trans k1, (hb.cell (p := ⟨g, _, none⟩) hgl).trans k2, (hb.cell (p := ⟨g, _, none⟩) hgl).trans k3⟩
  generalize (Ty.all s a).pr = D at *
  generalize a.pr = E at *
  have ha1 : (⟨#[102, 111, 114, 97, 108, 108, 32]⟩ : ByteArray).size = 7 := rfl
  have ha2 : (⟨#[46, 32]⟩ : ByteArray).size = 2 := rfl
  have hd1 : ∀ q : World, (Op.stringOp .add ⟨#[102, 111, 114, 97, 108, 108, 32]⟩ s).run Tryz.prog q = .ok (.string (⟨#[102, 111, 114, 97, 108, 108, 32]⟩ ++ s)) q := fun q => run_string_add_sum q _ _ (by omega)
  have hd2 : ∀ q : World, (Op.stringOp .add (⟨#[102, 111, 114, 97, 108, 108, 32]⟩ ++ s) ⟨#[46, 32]⟩).run Tryz.prog q = .ok (.string (⟨#[102, 111, 114, 97, 108, 108, 32]⟩ ++ s ++ ⟨#[46, 32]⟩)) q := fun q => run_string_add_sum q _ _ (by rw [ByteArray.size_append]; omega)
  have hd3 : ∀ q : World, (Op.stringOp .add (⟨#[102, 111, 114, 97, 108, 108, 32]⟩ ++ s ++ ⟨#[46, 32]⟩) ⟨E.toArray⟩).run Tryz.prog q = .ok (.string (⟨#[102, 111, 114, 97, 108, 108, 32]⟩ ++ s ++ ⟨#[46, 32]⟩ ++ ⟨E.toArray⟩)) q := fun q => run_string_add_sum q _ _ (by rw [ByteArray.size_append, ByteArray.size_append]; omega)
  clear ha1 ha2
  generalize a.form = f1, a.num = n1, a.name = s1, a.args.length = l1 at *
  generalize s.data.toList.length = L at *
  clear k0 k1 k2 k3
  go_enter Tryz.func17, Tryz.ntmps17
  go_wp2_with fail
  rw [HEW.out]
  refine (HF.out W HB.out).mono ?_
  rintro e y ⟨rfl, hb1⟩
  have HB1 : Hid (Below w.heap.size w y) := HB.out.trans (hb1.mono HB.out.size)
  have HQ1 := Lib.hid (HQ.out.on hb1)
  clear hb1
  obtain ⟨y0, y1, y2, y3, y4, _⟩ := HQ1.out
  obtain ⟨k0, k1, k2, k3⟩ := HK.out y HB1.out
  have hyd : Below w.heap.size w y.drew := HB1.out.drew
  have keep : Hid (∀ q : World, Below y.heap.size y q → (q.cell? ⟨w.heap.size, 2, none⟩ = some (.string s) ∧ q.cell? ⟨w.heap.size, 3, none⟩ = some (.slice (some ⟨g, off, none⟩) 1 c)) ∧ (q.cell? ⟨g, off, none⟩ = some (.int .i64 f1) ∧ q.cell? ⟨g, off + 1, none⟩ = some (.int .i64 n1) ∧ q.cell? ⟨g, off + 2, none⟩ = some (.string s1) ∧ q.cell? ⟨g, off + 3, none⟩ = some (.slice A3 l1 c3))) := fun q hb => by
    obtain ⟨_, _, _, z3, z4, _⟩ := HQ1.out.on hb
    exact ⟨⟨z3, z4⟩, HK.out q (HB1.out.trans (hb.mono HB1.out.size))⟩
  have hS0 := keep.out y.drew (Below.refl _ y).drew
  go_wp2_with fail
  go_region_held3 (fun q => (q.cell? ⟨w.heap.size, 2, none⟩ = some (.string s) ∧ q.cell? ⟨w.heap.size, 3, none⟩ = some (.slice (some ⟨g, off, none⟩) 1 c)) ∧ (q.cell? ⟨g, off, none⟩ = some (.int .i64 f1) ∧ q.cell? ⟨g, off + 1, none⟩ = some (.int .i64 n1) ∧ q.cell? ⟨g, off + 2, none⟩ = some (.string s1) ∧ q.cell? ⟨g, off + 3, none⟩ = some (.slice A3 l1 c3))) (first | with_reducible exact hS0 | with_reducible exact hS1)
    (first | (go_at_call 17; (with_reducible refine (HA.out _ hyd).mono ?_); rintro e q1 ⟨rfl, hb1⟩; have hb2 : Below y.heap.size y q1 := (Below.refl _ y).drew.trans (hb1.mono (by simp)); have hS1 := keep.out q1 hb2))
  go_wp2
  go_ret
  exact ⟨by rw [HE.out]; rfl, HB1.out.trans (hb2.mono HB1.out.size)⟩
end Go.Proofs.YtbdfjboojokgdaaGreatDoor
