/- Two types of the small world (chapter 4) of one print are one: a print is read back by a reader. No conditions but those that each theorem names. -/
import Derived.Test.YtbdfjboojokgdaaDoorJU05
import Derived.Test.YtbdfjboojokgdaaDoorJU27
namespace Go.Proofs.YtbdfjboojokgdaaDoor
open Go.RowKit

/-- The small world. -/
def Ty.world : Ty → Prop
  | .hole n => n = 1 ∨ n = 2 ∨ n = 3 ∨ n = 4
  | .var s => s = ⟨#[97]⟩ ∨ s = ⟨#[98]⟩ ∨ s = ⟨#[99]⟩ ∨ s = ⟨#[120]⟩
  | .con s => s = ⟨#[73, 110, 116]⟩ ∨ s = ⟨#[66, 111, 111, 108]⟩ ∨ s = ⟨#[76]⟩ ∨ s = ⟨#[80]⟩ ∨ s = ⟨#[70]⟩ ∨ s = ⟨#[45, 62]⟩
  | .app a b => a.world ∧ b.world
  | .all s a => (s = ⟨#[97]⟩ ∨ s = ⟨#[98]⟩ ∨ s = ⟨#[99]⟩ ∨ s = ⟨#[120]⟩) ∧ a.world
theorem nameK_world (k : Int) : nameK k = ⟨#[97]⟩ ∨ nameK k = ⟨#[98]⟩ ∨ nameK k = ⟨#[99]⟩ ∨ nameK k = ⟨#[120]⟩ := by
  unfold nameK; repeat' split
  all_goals simp
theorem conK_world (k : Int) : (Ty.con (conK k)).world := by
  unfold conK; repeat' split
  all_goals simp [Ty.world]
theorem leafZ_world (n k : Int) (h0 : 0 ≤ n) (h1 : n < 40) : (leafZ n k).world := by
  unfold leafZ
  split
  · exact nameK_world _
  · split
    · simp only [Ty.world]; omega
    · exact conK_world _
theorem builtZ_world : ∀ (f : Nat) (l : List Int), (builtZ f l).1.world
  | 0, [] => by simp [builtZ, Ty.world]
  | f + 1, [] => by simp [builtZ, Ty.world]
  | 0, z :: l => by
    have h := aroundI_bd z 40 (by omega)
    exact leafZ_world _ _ (by omega) (by omega)
  | f + 1, z :: l => by
    have h := aroundI_bd z 40 (by omega)
    have i1 := builtZ_world f l
    have i2 := builtZ_world f (builtZ f l).2
    rw [builtZ]
    split
    · exact leafZ_world _ _ (by omega) (by omega)
    · split
      · exact ⟨nameK_world _, i1⟩
      · dsimp only
        split
        · exact ⟨⟨by simp [Ty.world], i1⟩, i2⟩
        · exact ⟨i1, i2⟩
theorem madeZ_world (zs : List Int) : (madeZ zs).world := builtZ_world _ _

def leafP : List UInt8 → Option (Ty × List UInt8)
  | 97 :: r => some (.var ⟨#[97]⟩, r)
  | 98 :: r => some (.var ⟨#[98]⟩, r)
  | 99 :: r => some (.var ⟨#[99]⟩, r)
  | 120 :: r => some (.var ⟨#[120]⟩, r)
  | 73 :: 110 :: 116 :: r => some (.con ⟨#[73, 110, 116]⟩, r)
  | 66 :: 111 :: 111 :: 108 :: r => some (.con ⟨#[66, 111, 111, 108]⟩, r)
  | 76 :: r => some (.con ⟨#[76]⟩, r)
  | 80 :: r => some (.con ⟨#[80]⟩, r)
  | 70 :: r => some (.con ⟨#[70]⟩, r)
  | 63 :: 49 :: r => some (.hole 1, r)
  | 63 :: 50 :: r => some (.hole 2, r)
  | 63 :: 51 :: r => some (.hole 3, r)
  | 63 :: 52 :: r => some (.hole 4, r)
  | _ => none
mutual
/-- A reader of prints: a type, -/
def rdT : Nat → List UInt8 → Option (Ty × List UInt8)
  | 0, _ => none
  | f + 1, s => match rdA f s with
    | some (t, r) => rdL f t r
    | none => match s with
      | 102 :: 111 :: 114 :: 97 :: 108 :: 108 :: 32 :: c :: 46 :: 32 :: r => match rdT f r with
        | some (a, r') => some (.all ⟨#[c]⟩ a, r')
        | none => none
      | _ => none
/-- what stands without brackets, -/
def rdA : Nat → List UInt8 → Option (Ty × List UInt8)
  | 0, _ => none
  | f + 1, s => match s with
    | 40 :: r => match rdT f r with
      | some (t, 41 :: r') => some (t, r')
      | _ => match r with
        | 45 :: 62 :: 41 :: r' => some (.con ⟨#[45, 62]⟩, r')
        | _ => none
    | _ => leafP s
/-- and what goes on behind a type. -/
def rdL : Nat → Ty → List UInt8 → Option (Ty × List UInt8)
  | 0, _, _ => none
  | f + 1, t, s => match s with
    | 32 :: r => match rdA f r with
      | some (b, r') => rdL f (.app t b) r'
      | none => match r with
        | 45 :: 62 :: 32 :: r' => match rdT f r' with
          | some (b, r'') => some (Ty.fn t b, r'')
          | none => none
        | _ => none
    | _ => some (t, s)
end
/-- With enough fuel. -/
def Ev {α : Type} (F : Nat → Option α) (x : α) : Prop := ∃ N, ∀ f, N ≤ f → F f = some x
def Stop (r : List UInt8) : Prop := r = [] ∨ ∃ r', r = 41 :: r'
theorem rdL_stop (t : Ty) {r : List UInt8} (h : Stop r) : Ev (fun f => rdL f t r) (t, r) := by
  refine ⟨1, fun f hf => ?_⟩
  obtain ⟨f, rfl⟩ : ∃ g, f = g + 1 := ⟨f - 1, by omega⟩
  rcases h with rfl | ⟨r', rfl⟩ <;> simp [rdL]
theorem rdT_of {s r : List UInt8} {t : Ty} {x : Ty × List UInt8} (h : Ev (fun f => rdA f s) (t, r)) (hx : Ev (fun f => rdL f t r) x) : Ev (fun f => rdT f s) x := by
  obtain ⟨N, hN⟩ := h
  obtain ⟨M, hM⟩ := hx
  refine ⟨N + M + 1, fun f hf => ?_⟩
  obtain ⟨f, rfl⟩ : ∃ g, f = g + 1 := ⟨f - 1, by omega⟩
  have h1 := hN f (by omega)
  have h2 := hM f (by omega)
  simp only at h1 h2
  simp only [rdT, h1, h2]
theorem rdL_of {r r' : List UInt8} {t b : Ty} {x : Ty × List UInt8} (h : Ev (fun f => rdA f r) (b, r')) (hx : Ev (fun f => rdL f (.app t b) r') x) : Ev (fun f => rdL f t (32 :: r)) x := by
  obtain ⟨N, hN⟩ := h
  obtain ⟨M, hM⟩ := hx
  refine ⟨N + M + 1, fun f hf => ?_⟩
  obtain ⟨f, rfl⟩ : ∃ g, f = g + 1 := ⟨f - 1, by omega⟩
  have h1 := hN f (by omega)
  have h2 := hM f (by omega)
  simp only at h1 h2
  simp only [rdL, h1, h2]
theorem rdA_no (f : Nat) (c : UInt8) (r : List UInt8) (h : c = 45 ∨ c = 102) : rdA f (c :: r) = none := by
  cases f with
  | zero => rfl
  | succ f => rcases h with rfl | rfl <;> simp [rdA, leafP]
theorem rdL_arrow {r r' : List UInt8} {t b : Ty} (h : Ev (fun f => rdT f r) (b, r')) : Ev (fun f => rdL f t (32 :: 45 :: 62 :: 32 :: r)) (Ty.fn t b, r') := by
  obtain ⟨N, hN⟩ := h
  refine ⟨N + 1, fun f hf => ?_⟩
  obtain ⟨f, rfl⟩ : ∃ g, f = g + 1 := ⟨f - 1, by omega⟩
  have h1 := hN f (by omega)
  simp only at h1
  simp only [rdL, rdA_no f 45 _ (.inl rfl), h1]
theorem rdT_all {r r' : List UInt8} {c : UInt8} {a : Ty} (h : Ev (fun f => rdT f r) (a, r')) : Ev (fun f => rdT f (102 :: 111 :: 114 :: 97 :: 108 :: 108 :: 32 :: c :: 46 :: 32 :: r)) (.all ⟨#[c]⟩ a, r') := by
  obtain ⟨N, hN⟩ := h
  refine ⟨N + 1, fun f hf => ?_⟩
  obtain ⟨f, rfl⟩ : ∃ g, f = g + 1 := ⟨f - 1, by omega⟩
  have h1 := hN f (by omega)
  simp only at h1
  simp only [rdT, rdA_no f 102 _ (.inr rfl), h1]
theorem rdA_brk {s r : List UInt8} {t : Ty} (h : Ev (fun f => rdT f s) (t, 41 :: r)) : Ev (fun f => rdA f (40 :: s)) (t, r) := by
  obtain ⟨N, hN⟩ := h
  refine ⟨N + 1, fun f hf => ?_⟩
  obtain ⟨f, rfl⟩ : ∃ g, f = g + 1 := ⟨f - 1, by omega⟩
  have h1 := hN f (by omega)
  simp only at h1
  simp only [rdA, h1]
theorem rdT_minus (f : Nat) (r : List UInt8) : rdT f (45 :: r) = none := by
  cases f with
  | zero => rfl
  | succ f => simp [rdT, rdA_no f 45 r (.inl rfl)]
theorem rdA_leaf {t : Ty} (h : t.world) (hb : t.bare = 3) (r : List UInt8) : Ev (fun f => rdA f (t.pr ++ r)) (t, r) := by
  refine ⟨1, fun f hf => ?_⟩
  obtain ⟨f, rfl⟩ : ∃ g, f = g + 1 := ⟨f - 1, by omega⟩
  cases t with
  | all s a => simp [Ty.bare] at hb
  | app x b => simp only [Ty.bare] at hb; split at hb <;> omega
  | hole n =>
    rcases h with rfl | rfl | rfl | rfl
    · have e : (Ty.hole 1).pr = [63, 49] := by rw [Ty.pr, show (1 : Int).toNat = 1 from rfl, Lib.decDigits]; rfl
      simp only [e]; rfl
    · have e : (Ty.hole 2).pr = [63, 50] := by rw [Ty.pr, show (2 : Int).toNat = 2 from rfl, Lib.decDigits]; rfl
      simp only [e]; rfl
    · have e : (Ty.hole 3).pr = [63, 51] := by rw [Ty.pr, show (3 : Int).toNat = 3 from rfl, Lib.decDigits]; rfl
      simp only [e]; rfl
    · have e : (Ty.hole 4).pr = [63, 52] := by rw [Ty.pr, show (4 : Int).toNat = 4 from rfl, Lib.decDigits]; rfl
      simp only [e]; rfl
  | var s => rcases h with rfl | rfl | rfl | rfl <;> rfl
  | con s =>
    rcases h with rfl | rfl | rfl | rfl | rfl | rfl
    all_goals first | rfl | skip
    have e : (Ty.con ⟨#[45, 62]⟩).pr ++ r = 40 :: 45 :: 62 :: 41 :: r := by
      have : (Ty.con ⟨#[45, 62]⟩).isArrow = true := by decide
      rw [Ty.pr, if_pos this]; rfl
    simp only [e, rdA, rdT_minus]
theorem prAt_pos {p : Nat} {t : Ty} (h : t.bare < p) : t.prAt p = 40 :: (t.pr ++ [41]) := by
  rw [Ty.prAt, brk, if_pos h]; rfl
theorem prAt_neg {p : Nat} {t : Ty} (h : ¬ t.bare < p) : t.prAt p = t.pr := by
  rw [Ty.prAt, brk, if_neg h]
structure Reads (t : Ty) : Prop where
  a : ∀ r, Ev (fun f => rdA f (t.prAt 3 ++ r)) (t, r)
  b : ∀ r x, Ev (fun f => rdL f t r) x → Ev (fun f => rdT f (t.prAt 2 ++ r)) x
  c : ∀ r, Stop r → Ev (fun f => rdT f (t.pr ++ r)) (t, r)
  d : ∀ r, Stop r → Ev (fun f => rdT f (t.prAt 1 ++ r)) (t, r)
theorem reads_of {t : Ty} (hc : ∀ r, Stop r → Ev (fun f => rdT f (t.pr ++ r)) (t, r)) (hl : t.bare = 3 → ∀ r, Ev (fun f => rdA f (t.pr ++ r)) (t, r)) (hb : t.bare = 2 → ∀ r x, Ev (fun f => rdL f t r) x → Ev (fun f => rdT f (t.pr ++ r)) x) (h3 : t.bare ≤ 3) : Reads t := by
  have hbr : ∀ r, Ev (fun f => rdA f (40 :: (t.pr ++ [41]) ++ r)) (t, r) := fun r => by
    have := rdA_brk (hc (41 :: r) (.inr ⟨r, rfl⟩))
    simpa using this
  refine ⟨fun r => ?_, fun r x hx => ?_, hc, fun r hr => ?_⟩
  · by_cases h : t.bare < 3
    · rw [prAt_pos h]; exact hbr r
    · rw [prAt_neg h]; exact hl (by omega) r
  · by_cases h : t.bare < 2
    · rw [prAt_pos h]; exact rdT_of (hbr r) hx
    · rw [prAt_neg h]
      by_cases h2 : t.bare = 2
      · exact hb h2 r x hx
      · exact rdT_of (hl (by omega) r) hx
  · by_cases h : t.bare < 1
    · rw [prAt_pos h]; exact rdT_of (hbr r) (rdL_stop t hr)
    · rw [prAt_neg h]; exact hc r hr
theorem reads_leaf {t : Ty} (h : t.world) (hb : t.bare = 3) : Reads t :=
  reads_of (fun r hr => rdT_of (rdA_leaf h hb r) (rdL_stop t hr)) (fun _ => rdA_leaf h hb) (fun h2 => by omega) (by omega)
theorem isArrow_world {f : Ty} (h : f.world) (ha : f.isArrow = true) : f = .con arrowS := by
  cases f with
  | con s => rcases h with rfl | rfl | rfl | rfl | rfl | rfl <;> first | rfl | (exfalso; revert ha; decide)
  | _ => exact absurd ha (by simp [Ty.isArrow])
theorem reads_any : ∀ (n : Nat) (t : Ty), t.sz ≤ n → t.world → Reads t
  | 0, t, h, _ => by cases t <;> simp [Ty.sz] at h
  | n + 1, t, h, hw => by
    cases t with
    | hole k => exact reads_leaf hw rfl
    | var s => exact reads_leaf hw rfl
    | con s => exact reads_leaf hw rfl
    | all s a =>
      have ia := reads_any n a (by simp [Ty.sz] at h; omega) hw.2
      refine reads_of (fun r hr => ?_) (fun h => by simp [Ty.bare] at h) (fun h => by simp [Ty.bare] at h) (by simp [Ty.bare])
      rcases hw.1 with rfl | rfl | rfl | rfl <;> exact rdT_all (ia.c r hr)
    | app x b =>
      have ix := reads_any n x (by simp [Ty.sz] at h; omega) hw.1
      have ib := reads_any n b (by simp [Ty.sz] at h; omega) hw.2
      cases hs : (Ty.app x b).sides with
      | none =>
        have hk : ∀ r y, Ev (fun f => rdL f (.app x b) r) y → Ev (fun f => rdT f ((Ty.app x b).pr ++ r)) y := fun r y hy => by
          rw [Ty.pr_app hs]
          have := ix.b (32 :: (b.prAt 3 ++ r)) y (rdL_of (ib.a r) hy)
          simpa using this
        have hb2 : (Ty.app x b).bare = 2 := by simp [Ty.bare, hs]
        exact reads_of (fun r hr => hk r _ (rdL_stop _ hr)) (fun h => by omega) (fun _ => hk) (by omega)
      | some p =>
        obtain ⟨a, b'⟩ := p
        obtain ⟨f, e, hf⟩ := sides_shape hs
        injection e with e1 e2
        subst e1; subst e2
        have hb1 : (Ty.app (.app f a) b).bare = 1 := by simp [Ty.bare, hs]
        have ia := reads_any n a (by simp [Ty.sz] at h; omega) hw.1.2
        refine reads_of (fun r hr => ?_) (fun h => by omega) (fun h => by omega) (by omega)
        rw [Ty.pr_fun hs]
        have hfe := isArrow_world hw.1.1 hf
        subst hfe
        have := ia.b (32 :: 45 :: 62 :: 32 :: (b.prAt 1 ++ r)) _ (rdL_arrow (ib.d r hr))
        simpa [Ty.fn, arrowS] using this
/-- Types of one print are one. -/
theorem pr_inj {a b : Ty} (ha : a.world) (hb : b.world) (h : a.pr = b.pr) : a = b := by
  obtain ⟨N, hN⟩ := (reads_any _ a (Nat.le_refl _) ha).c [] (.inl rfl)
  obtain ⟨M, hM⟩ := (reads_any _ b (Nat.le_refl _) hb).c [] (.inl rfl)
  have h1 := hN (N + M) (by omega)
  have h2 := hM (N + M) (by omega)
  simp only [h] at h1
  simp only [h1] at h2
  injection h2 with h2
  injection h2
end Go.Proofs.YtbdfjboojokgdaaDoor
