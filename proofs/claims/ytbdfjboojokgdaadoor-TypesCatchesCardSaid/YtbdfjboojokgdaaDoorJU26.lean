/- The contracts of the two functions that types' inAll hands on (types.Subst, chapter 4): whether a put is idle in a body, whether it would be caught. Conditions: those that each theorem names. The contracts of the document's Name, Con, build and Made (chapter 4): a type made of numbers. Condition: the slice reads as numbers. -/
import Derived.Test.YtbdfjboojokgdaaDoorJU24
import Derived.Test.YtbdfjboojokgdaaDoorJU25
import Derived.Deep.RegionLaw
import Derived.Test.YtbdfjboojokgdaaDoorJU13
import Derived.Test.YtbdfjboojokgdaaDoorJU04
namespace Go.Proofs.YtbdfjboojokgdaaDoor
open Go.RowKit

set_option maxRecDepth 100000 in
set_option maxHeartbeats 1000000 in
theorem catch_any {B ub b nb : Nat} {w : World} {nm s : ByteArray} {u : Ty} (h : PutAt B ub w b nm u) (hn : w.cell? ⟨nb, 0, none⟩ = some (.string s)) (hs : s.size ≤ 1099511627776) :
    Calls Tryd.prog 140 #[ptrV b, .pointer (some ⟨nb, 0, none⟩)] w fun e w' => e = .returned (.bool (hasB u.free s)) ∧ Below w.heap.size w w' := by
  obtain ⟨_, f, n, m, A, l, c, mb, h1, _, h3, _⟩ := h
  have c5 : w.cell? ⟨b, 5, none⟩ = some (.map (some mb)) := by simp [World.cell?, h1]
  have hl := (h3.block (w' := w.drew) rfl).look hs
  generalize hasB u.free s = r at *
  unfold ptrV
  clear h1 h3
  go_enter Tryd.func140, Tryd.ntmps140
  go_upto_region 1 with (fail)
  go_region
  go_wp2
  go_ret
  exact ⟨rfl, (Below.refl _ _).drew⟩
theorem eq_lists (a b : ByteArray) : (a.toList == b.toList) = decide (a = b) := by
  rw [Lib.toList_data, Lib.toList_data]
  by_cases h : a = b
  · subst h; simp
  · rw [decide_eq_false h, beq_eq_false_iff_ne]
    intro e
    apply h
    cases a; cases b
    simp only at e
    rw [Array.toList_inj.1 e]
set_option maxRecDepth 100000 in
set_option maxHeartbeats 1000000 in
theorem idle_yes {B ub b nb xb eb : Nat} {w : World} {s : ByteArray} {u : Ty} (h : PutAt B ub w b s u) (hn : w.cell? ⟨nb, 0, none⟩ = some (.string s)) :
    Calls Tryd.prog 135 #[ptrV b, .pointer (some ⟨nb, 0, none⟩), .pointer (some ⟨xb, 0, none⟩), .pointer (some ⟨eb, 0, none⟩)] w fun e w' => e = .returned (.bool true) ∧ Below w.heap.size w w' := by
  obtain ⟨_, f, n, m, A, l, c, mb, h1, _, h3, _⟩ := h
  have c0 : w.cell? ⟨b, 0, none⟩ = some (.string s) := by simp [World.cell?, h1]
  have hq : (s.toList == s.toList) = true := by simp
  have hq2 : (s == s) = true := by rw [beq_iff_eq]
  unfold ptrV
  clear h1 h3
  go_enter Tryd.func135, Tryd.ntmps135
  go_upto_region 1 with (fail)
  go_region
  go_wp2
  go_ret
  exact ⟨rfl, (Below.refl _ _).drew⟩
set_option maxRecDepth 100000 in
set_option maxHeartbeats 1000000 in
theorem idle_no {B sb lb pb ub b nb xb eb : Nat} {vs : List (ByteArray × Int)} {es : List Int} {P : ByteArray → Option Ty} {N n m : Nat} {op dp : Int} {w : World} {nm s : ByteArray} {u : Ty} (h : PutAt B ub w b nm u) (hst : SbSt B sb lb pb ub vs es P N n op dp w) (hv : vs.length ≤ 1099511627776) (hn : w.cell? ⟨nb, 0, none⟩ = some (.string s)) (hx : w.cell? ⟨xb, 0, none⟩ = some (.pointer (some ⟨sb, 0, none⟩))) (he : w.cell? ⟨eb, 0, none⟩ = some (.int .i64 m)) (hne : nm ≠ s) :
    Calls Tryd.prog 135 #[ptrV b, .pointer (some ⟨nb, 0, none⟩), .pointer (some ⟨xb, 0, none⟩), .pointer (some ⟨eb, 0, none⟩)] w fun e w' => e = .returned (.bool (!freeQ vs n m dp nm)) ∧ Below w.heap.size w w' := by
  have HF := Lib.hid (fun (y : World) (hb : Below w.heap.size w y) => freeC_any (m := m) (hst.on hb) nm h.1 hv)
  obtain ⟨_, f, n', m', A, l, c, mb, h1, _, h3, _⟩ := h
  have hlt := lt_of_block h1
  have c0 : w.cell? ⟨b, 0, none⟩ = some (.string nm) := by simp [World.cell?, h1]
  have hq : (nm.toList == s.toList) = false := by rw [eq_lists]; exact decide_eq_false hne
  have hq2 : (nm == s) = false := by rw [beq_eq_false_iff_ne]; exact hne
  generalize freeQ vs n m dp nm = r at *
  have hd : Below w.heap.size w w.drew := (Below.refl _ _).drew
  have HFD := Lib.hid (HF.out w.drew hd)
  unfold ptrV
  clear h1 h3 hst hne
  go_enter Tryd.func135, Tryd.ntmps135
  go_upto_region 1 with (fail)
  go_region_law (go_simp; go_at_call 136; (with_reducible refine HFD.out.mono ?_); rintro e q ⟨rfl, hq9⟩)
  all_goals (go_wp2; go_ret; exact ⟨rfl, hd.trans (hq9.mono hd.size)⟩)
end Go.Proofs.YtbdfjboojokgdaaDoor
namespace Go.Proofs.YtbdfjboojokgdaaDoor
open Go.RowKit

/-- The small world's names and constructors. -/
def nameK (k : Int) : ByteArray := if k = 0 then ⟨#[97]⟩ else if k = 1 then ⟨#[98]⟩ else if k = 2 then ⟨#[99]⟩ else ⟨#[120]⟩
def conK (k : Int) : ByteArray := if k = 0 then ⟨#[73, 110, 116]⟩ else if k = 1 then ⟨#[66, 111, 111, 108]⟩ else if k = 2 then ⟨#[76]⟩ else if k = 3 then ⟨#[80]⟩ else if k = 4 then ⟨#[70]⟩ else ⟨#[45, 62]⟩
def nameS (n : Int) : ByteArray := nameK (aroundI n 4)
def conS (n : Int) : ByteArray := conK (aroundI n 6)
set_option maxRecDepth 100000 in
set_option maxHeartbeats 1000000 in
theorem name_any (n : Int) (w : World) (h1 : -9223372036854775808 ≤ n) (h2 : n ≤ 9223372036854775807) : Calls Tryd.prog 23 #[.int .i64 n] w fun e w' => e = .returned (.string (nameS n)) ∧ Below w.heap.size w w' := by
  have hA := Lib.hid (fun W => around_is n 4 W h1 h2 (by omega) (by omega))
  have hbd := aroundI_bd n 4 (by omega)
  have HE : Hid (nameS n = nameK (aroundI n 4)) := rfl
  generalize aroundI n 4 = k at *
  have hk : k = 0 ∨ k = 1 ∨ k = 2 ∨ k = 3 := by omega
  clear hbd
  rcases hk with rfl | rfl | rfl | rfl
  all_goals
    go_enter Tryd.func23, Tryd.ntmps23
    go_wp2_with (go_at_call 36; refine (hA.out _).mono ?_; rintro e w' ⟨rfl, rfl⟩)
    go_ret
    exact ⟨by rw [HE.out]; rfl, below_new w _⟩
set_option maxRecDepth 100000 in
set_option maxHeartbeats 1000000 in
theorem refcon_any (n : Int) (w : World) (h1 : -9223372036854775808 ≤ n) (h2 : n ≤ 9223372036854775807) : Calls Tryd.prog 100 #[.int .i64 n] w fun e w' => e = .returned (.string (conS n)) ∧ Below w.heap.size w w' := by
  have hA := Lib.hid (fun W => around_is n 6 W h1 h2 (by omega) (by omega))
  have hbd := aroundI_bd n 6 (by omega)
  have HE : Hid (conS n = conK (aroundI n 6)) := rfl
  generalize aroundI n 6 = k at *
  have hk : k = 0 ∨ k = 1 ∨ k = 2 ∨ k = 3 ∨ k = 4 ∨ k = 5 := by omega
  clear hbd
  rcases hk with rfl | rfl | rfl | rfl | rfl | rfl
  all_goals
    go_enter Tryd.func100, Tryd.ntmps100
    go_wp2_with (go_at_call 36; refine (hA.out _).mono ?_; rintro e w' ⟨rfl, rfl⟩)
    go_ret
    exact ⟨by rw [HE.out]; rfl, below_new w _⟩
/-- A type's leaf, by its number. -/
def leafZ (n k : Int) : Ty := if k < 2 then .var (nameS (n / 10)) else if k < 3 then .hole (1 + n / 10) else .con (conS (n / 5))
/-- A type made of numbers, nested at most so deep; and what is left of them. -/
def builtZ : Nat → List Int → Ty × List Int
  | _, [] => (.con ⟨#[73, 110, 116]⟩, [])
  | 0, z :: l => (leafZ (aroundI z 40) (aroundI z 40 % 5), l)
  | f + 1, z :: l => if aroundI z 40 % 10 < 5 then (leafZ (aroundI z 40) (aroundI z 40 % 10), l)
      else if aroundI z 40 % 10 = 9 then (.all (nameS (aroundI z 40 / 10)) (builtZ f l).1, (builtZ f l).2)
      else (if aroundI z 40 % 10 < 8 then Ty.fn (builtZ f l).1 (builtZ f (builtZ f l).2).1 else .app (builtZ f l).1 (builtZ f (builtZ f l).2).1, (builtZ f (builtZ f l).2).2)
def Built (w : World) (r : Ty × List Int) (Q : Nat → Prop) (e : Ending) (w' : World) : Prop :=
  ∃ tv v, e = .returned (.tuple #[tv, v]) ∧ TyAt (fun b => w.heap.size ≤ b) w' r.1 tv ∧ IntsAt Q w' v r.2 ∧ Below w.heap.size w w'
/-- What is left of a slice of numbers behind its first. -/
theorem ints_tail {Q : Nat → Prop} {w : World} {z : Int} {r : List Int} {v : Value} (h : IntsAt Q w v (z :: r)) : ∃ b off c, v = .slice (some ⟨b, off, none⟩) (r.length + 1) c ∧ r.length + 1 ≤ c ∧ c ≤ maxLen ∧ b < w.heap.size ∧ w.cell? ⟨b, off, none⟩ = some (.int .i64 z) ∧ (-9223372036854775808 ≤ z ∧ z ≤ 9223372036854775807) ∧
    ∃ A9, (if c = 1 then some (⟨b, off, none⟩ : Addr) else some ⟨b, off + 1, none⟩) = some A9 ∧ IntsAt Q w (.slice (some A9) r.length (c - 1)) r := by
  obtain ⟨A, c, rfl, hc, hcm, hbd, hr⟩ := h
  obtain ⟨b, off, rfl, hq, hlt, hcell⟩ : ∃ b off, A = some ⟨b, off, none⟩ ∧ Q b ∧ b < w.heap.size ∧ ∀ i (h : i < (z :: r).length), w.cell? ⟨b, off + i, none⟩ = some (.int .i64 (z :: r)[i]) := by
    rcases hr with h9 | h9
    · cases h9
    · exact h9
  have hrl : r.length + 1 ≤ c := by simpa using hc
  refine ⟨b, off, c, rfl, hrl, hcm, hlt, by have := hcell 0 (by simp); simpa using this, hbd z (List.mem_cons_self ..), ?_⟩
  by_cases hc1 : c = 1
  · have hr0 : r = [] := List.eq_nil_of_length_eq_zero (by omega)
    subst hr0 hc1
    exact ⟨_, if_pos rfl, ⟨_, 0, rfl, Nat.le_refl _, Nat.zero_le _, fun z hz => absurd hz (by simp), .inl rfl⟩⟩
  · refine ⟨_, if_neg hc1, ⟨_, c - 1, rfl, by omega, by omega, fun y hy => hbd y (List.mem_cons_of_mem _ hy), .inr ⟨b, off + 1, rfl, hq, hlt, fun i hi => ?_⟩⟩⟩
    have h9 := hcell (i + 1) (by simpa using hi)
    rw [show off + 1 + i = off + (i + 1) by omega, h9]
    rfl
theorem IntsAt.slice {Q : Nat → Prop} {w : World} {v : Value} {zs : List Int} (h : IntsAt Q w v zs) : ∃ A c, v = .slice A zs.length c := by
  obtain ⟨A, c, e, _⟩ := h; exact ⟨A, c, e⟩
theorem IntsAt.below' {Q : Nat → Prop} {w w' : World} {v : Value} {zs : List Int} (h : IntsAt Q w v zs) (hQ : ∀ b, Q b → b < w.heap.size) (hb : Below w.heap.size w w') : IntsAt Q w' v zs := h.keep (.of_belowB hQ hb)
theorem built_leaf {f d : Nat} (hd : d + f = 5) {z : Int} {r : List Int} {k : Int} (hk : k = if f = 0 then aroundI z 40 % 5 else aroundI z 40 % 10) (h5 : k < 5) : builtZ f (z :: r) = (leafZ (aroundI z 40) k, r) := by
  cases f with
  | zero => rw [hk]; rfl
  | succ f =>
    rw [if_neg (by omega)] at hk
    subst hk
    rw [builtZ, if_pos h5]
set_option maxRecDepth 100000 in
set_option maxHeartbeats 1000000 in
theorem build_leaf (f d : Nat) (z : Int) (r : List Int) (v : Value) (Q : Nat → Prop) (w : World) (hd : d + f = 5) (h : IntsAt Q w v (z :: r)) (hQ : ∀ b, Q b → b < w.heap.size) (k : Int) (hk : k = if f = 0 then aroundI z 40 % 5 else aroundI z 40 % 10) (h5 : k < 5) :
    Calls Tryd.prog 52 #[v, .int .i64 d, .bool true] w (Built w (builtZ f (z :: r)) Q) := by
  rw [built_leaf hd hk h5]
  obtain ⟨b, off, c, rfl, hrl, hcm, hlt, hz, ⟨hz1, hz2⟩, A9, hA9, hi⟩ := ints_tail h
  have HI := Lib.hid hi
  have hlen0 : (((r.length : Int) + 1) == 0) = false := by rw [beq_eq_false_iff_ne]; omega
  unfold maxLen at hcm
  have hbd := aroundI_bd z 40 (by omega)
  have HA := Lib.hid (fun W => around_is z 40 W hz1 hz2 (by omega) (by omega))
  generalize aroundI z 40 = n at *
  have hn10 : n / 10 ≤ 3 := by omega
  have hn10' : 0 ≤ n / 10 := by omega
  have hn5 : n / 5 ≤ 7 := by omega
  have hn5' : 0 ≤ n / 5 := by omega
  have HNM := Lib.hid (fun W => name_any (n / 10) W (by omega) (by omega))
  have HCN := Lib.hid (fun W => refcon_any (n / 5) W (by omega) (by omega))
  clear h hi
  obtain ⟨W, eW, q1, b1, zz1⟩ := one_box w (.int .i64 0) (.int .i64 0) (.string ⟨#[]⟩) (.slice none 0 0) 25
  have HEW := Lib.hid eW
  have HQ1 := Lib.hid q1
  have HB1 := Lib.hid b1
  have hzW := (b1.cell (p := ⟨b, off, none⟩) hlt).trans hz
  clear eW q1 b1
  by_cases hf0 : f = 0
  · rw [if_pos hf0] at hk
    have hd4 : (4 : Int) < (d : Int) := by omega
    have HK := Lib.hid hk
    by_cases h2 : k < 2
    · have h2' : n % 5 < 2 := by rw [← hk]; exact h2
      have HL : Hid (leafZ n k = .var (nameS (n / 10))) := by show _ = _; unfold leafZ; rw [if_pos h2]
      clear hk h5 h2 hf0
      go_enter Tryd.func52, Tryd.ntmps52
      go_wp2_with (first | (go_at_call 36; refine (HA.out _).mono ?_; rintro e w' ⟨rfl, rfl⟩) | (go_at_call 23; refine (HNM.out _).mono ?_))
      rintro e y ⟨rfl, hb⟩
      rw [HEW.out] at hb
      obtain ⟨z0, z1, z2, z3, z4, z5, z6, z7, z8⟩ := HQ1.out.on hb
      have HB := Lib.hid (HB1.out.trans (hb.mono HB1.out.size))
      clear hb
      go_wp2
      have hbb := below_box HB.out (Nat.le_refl _) (.int .i64 2) (.int .i64 0) (.string (nameS (n / 10))) (.slice none 0 0)
      exact bodyPost_ret (v := .tuple #[.agg #[.int .i64 2, .int .i64 0, .string (nameS (n / 10)), .slice none 0 0], .slice (some A9) r.length (c - 1)]) (by simp [results, Tryd.results52, go_sem, z1, z2, z3, z4]) rfl
        ⟨_, _, rfl, by rw [HL.out]; exact ty_leaf _ _ (.var (nameS (n / 10))) rfl none 0 (Nat.zero_le _), HI.out.below' hQ hbb, hbb⟩
    · have h2' : ¬ n % 5 < 2 := by rw [← hk]; exact h2
      by_cases h3 : k < 3
      · have h3' : n % 5 < 3 := by rw [← hk]; exact h3
        have HL : Hid (leafZ n k = .hole (1 + n / 10)) := by show _ = _; unfold leafZ; rw [if_neg h2, if_pos h3]
        clear hk h5 h2 h3 hf0
        go_enter Tryd.func52, Tryd.ntmps52
        go_wp2_with (go_at_call 36; refine (HA.out _).mono ?_; rintro e w' ⟨rfl, rfl⟩)
        have hbb := below_new w (.cells #[.int .i64 1, .int .i64 (1 + n / 10), .string ⟨#[]⟩, .slice none 0 0] 25)
        exact bodyPost_ret (v := .tuple #[.agg #[.int .i64 1, .int .i64 (1 + n / 10), .string ⟨#[]⟩, .slice none 0 0], .slice (some A9) r.length (c - 1)]) (by simp [results, Tryd.results52, go_sem]) rfl
          ⟨_, _, rfl, by rw [HL.out]; exact ty_leaf _ _ (.hole (1 + n / 10)) rfl none 0 (Nat.zero_le _), HI.out.below' hQ hbb, hbb⟩
      · have h3' : ¬ n % 5 < 3 := by rw [← hk]; exact h3
        have h5' : n % 5 < 5 := by rw [← hk]; exact h5
        have HL : Hid (leafZ n k = .con (conS (n / 5))) := by show _ = _; unfold leafZ; rw [if_neg h2, if_neg h3]
        clear hk h5 h2 h3 hf0
        go_enter Tryd.func52, Tryd.ntmps52
        go_wp2_with (first | (go_at_call 36; refine (HA.out _).mono ?_; rintro e w' ⟨rfl, rfl⟩) | (go_at_call 100; refine (HCN.out _).mono ?_))
        rintro e y ⟨rfl, hb⟩
        rw [HEW.out] at hb
        obtain ⟨z0, z1, z2, z3, z4, z5, z6, z7, z8⟩ := HQ1.out.on hb
        have HB := Lib.hid (HB1.out.trans (hb.mono HB1.out.size))
        clear hb
        go_wp2
        have hbb := below_box HB.out (Nat.le_refl _) (.int .i64 3) (.int .i64 0) (.string (conS (n / 5))) (.slice none 0 0)
        exact bodyPost_ret (v := .tuple #[.agg #[.int .i64 3, .int .i64 0, .string (conS (n / 5)), .slice none 0 0], .slice (some A9) r.length (c - 1)]) (by simp [results, Tryd.results52, go_sem, z1, z2, z3, z4]) rfl
          ⟨_, _, rfl, by rw [HL.out]; exact ty_leaf _ _ (.con (conS (n / 5))) rfl none 0 (Nat.zero_le _), HI.out.below' hQ hbb, hbb⟩
  · rw [if_neg hf0] at hk
    have hd4 : ¬ ((4 : Int) < (d : Int)) := by omega
    have HK := Lib.hid hk
    by_cases h2 : k < 2
    · have h2' : n % 10 < 2 := by rw [← hk]; exact h2
      have HL : Hid (leafZ n k = .var (nameS (n / 10))) := by show _ = _; unfold leafZ; rw [if_pos h2]
      clear hk h5 h2 hf0
      go_enter Tryd.func52, Tryd.ntmps52
      go_wp2_with (first | (go_at_call 36; refine (HA.out _).mono ?_; rintro e w' ⟨rfl, rfl⟩) | (go_at_call 23; refine (HNM.out _).mono ?_))
      rintro e y ⟨rfl, hb⟩
      rw [HEW.out] at hb
      obtain ⟨z0, z1, z2, z3, z4, z5, z6, z7, z8⟩ := HQ1.out.on hb
      have HB := Lib.hid (HB1.out.trans (hb.mono HB1.out.size))
      clear hb
      go_wp2
      have hbb := below_box HB.out (Nat.le_refl _) (.int .i64 2) (.int .i64 0) (.string (nameS (n / 10))) (.slice none 0 0)
      exact bodyPost_ret (v := .tuple #[.agg #[.int .i64 2, .int .i64 0, .string (nameS (n / 10)), .slice none 0 0], .slice (some A9) r.length (c - 1)]) (by simp [results, Tryd.results52, go_sem, z1, z2, z3, z4]) rfl
        ⟨_, _, rfl, by rw [HL.out]; exact ty_leaf _ _ (.var (nameS (n / 10))) rfl none 0 (Nat.zero_le _), HI.out.below' hQ hbb, hbb⟩
    · have h2' : ¬ n % 10 < 2 := by rw [← hk]; exact h2
      by_cases h3 : k < 3
      · have h3' : n % 10 < 3 := by rw [← hk]; exact h3
        have HL : Hid (leafZ n k = .hole (1 + n / 10)) := by show _ = _; unfold leafZ; rw [if_neg h2, if_pos h3]
        clear hk h5 h2 h3 hf0
        go_enter Tryd.func52, Tryd.ntmps52
        go_wp2_with (go_at_call 36; refine (HA.out _).mono ?_; rintro e w' ⟨rfl, rfl⟩)
        have hbb := below_new w (.cells #[.int .i64 1, .int .i64 (1 + n / 10), .string ⟨#[]⟩, .slice none 0 0] 25)
        exact bodyPost_ret (v := .tuple #[.agg #[.int .i64 1, .int .i64 (1 + n / 10), .string ⟨#[]⟩, .slice none 0 0], .slice (some A9) r.length (c - 1)]) (by simp [results, Tryd.results52, go_sem]) rfl
          ⟨_, _, rfl, by rw [HL.out]; exact ty_leaf _ _ (.hole (1 + n / 10)) rfl none 0 (Nat.zero_le _), HI.out.below' hQ hbb, hbb⟩
      · have h3' : ¬ n % 10 < 3 := by rw [← hk]; exact h3
        have h5' : n % 10 < 5 := by rw [← hk]; exact h5
        have HL : Hid (leafZ n k = .con (conS (n / 5))) := by show _ = _; unfold leafZ; rw [if_neg h2, if_neg h3]
        clear hk h5 h2 h3 hf0
        go_enter Tryd.func52, Tryd.ntmps52
        go_wp2_with (first | (go_at_call 36; refine (HA.out _).mono ?_; rintro e w' ⟨rfl, rfl⟩) | (go_at_call 100; refine (HCN.out _).mono ?_))
        rintro e y ⟨rfl, hb⟩
        rw [HEW.out] at hb
        obtain ⟨z0, z1, z2, z3, z4, z5, z6, z7, z8⟩ := HQ1.out.on hb
        have HB := Lib.hid (HB1.out.trans (hb.mono HB1.out.size))
        clear hb
        go_wp2
        have hbb := below_box HB.out (Nat.le_refl _) (.int .i64 3) (.int .i64 0) (.string (conS (n / 5))) (.slice none 0 0)
        exact bodyPost_ret (v := .tuple #[.agg #[.int .i64 3, .int .i64 0, .string (conS (n / 5)), .slice none 0 0], .slice (some A9) r.length (c - 1)]) (by simp [results, Tryd.results52, go_sem, z1, z2, z3, z4]) rfl
          ⟨_, _, rfl, by rw [HL.out]; exact ty_leaf _ _ (.con (conS (n / 5))) rfl none 0 (Nat.zero_le _), HI.out.below' hQ hbb, hbb⟩
end Go.Proofs.YtbdfjboojokgdaaDoor
