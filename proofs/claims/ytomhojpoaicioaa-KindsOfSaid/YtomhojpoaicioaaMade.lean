/- The contracts of the document's Made and Kind (chapter 3): a kind made of numbers. Condition: the slice reads as numbers. -/
import Derived.Test.YtomhojpoaicioaaCommon
import Derived.Maps.AppendAt
namespace Go.Proofs.Ytomhojpoaicioaa
open Go.RowKit

/-- How many a number says: none, one or two. -/
def howMany (z : Int) : Nat := if 2 < aroundI z 4 then 0 else (aroundI z 4).toNat
theorem howMany_le (z : Int) : howMany z ≤ 2 := by
  have := aroundI_bd z 4 (by omega)
  unfold howMany; split <;> omega
/-- So many kinds, one behind the other, by a maker. -/
def manyK (mk1 : List Int → K × List Int) : Nat → List Int → List K × List Int
  | 0, l => ([], l)
  | n + 1, l => ((manyK mk1 n l).1 ++ [(mk1 (manyK mk1 n l).2).1], (mk1 (manyK mk1 n l).2).2)
/-- A kind made of numbers, so deep at most; and what is left of them. -/
def madeK : Nat → List Int → K × List Int
  | 0, l => (.mk [], l)
  | _ + 1, [] => (.mk [], [])
  | f + 1, z :: l => (.mk (manyK (madeK f) (howMany z) l).1, (manyK (madeK f) (howMany z) l).2)
def kindZ (zs : List Int) : K := (madeK 4 (zs.take 12)).1

theorem manyK_len (m1 : List Int → K × List Int) : ∀ (n : Nat) (l : List Int), (manyK m1 n l).1.length = n
  | 0, _ => rfl
  | n + 1, l => by simp only [manyK, List.length_append, manyK_len m1 n l]; rfl
theorem KAt.bound {P : Nat → Prop} {w : World} {k : K} {v : Value} (h : KAt P w k v) : KAt (fun b => P b ∧ b < w.heap.size) w k v := by
  induction h with
  | intro l A c us hc hm hu hrow _ ih =>
    refine .intro l A c us hc hm hu ?_ ih
    rcases hrow with h | ⟨b, off, e, hp, hlt, r⟩
    · exact .inl h
    · exact .inr ⟨b, off, e, ⟨hp, hlt⟩, hlt, r⟩
/-- Values that read as these kinds, one by one. -/
def KsAt (P : Nat → Prop) (w : World) (ks : List K) (us : List Value) : Prop := us.length = ks.length ∧ ∀ i (h : i < ks.length) (h' : i < us.length), KAt P w ks[i] us[i]
theorem KsAt.keep {P : Nat → Prop} {w w' : World} {ks : List K} {us : List Value} (h : KsAt P w ks us) (hb : Keeps P w w') : KsAt P w' ks us := ⟨h.1, fun i a b => (h.2 i a b).keep hb⟩
theorem KsAt.mono {P Q : Nat → Prop} {w : World} {ks : List K} {us : List Value} (h : KsAt P w ks us) (hpq : ∀ b, P b → Q b) : KsAt Q w ks us := ⟨h.1, fun i a b => (h.2 i a b).mono hpq⟩
theorem KsAt.bound {P : Nat → Prop} {w : World} {ks : List K} {us : List Value} (h : KsAt P w ks us) : KsAt (fun b => P b ∧ b < w.heap.size) w ks us := ⟨h.1, fun i a b => (h.2 i a b).bound⟩
theorem KsAt.snoc {P : Nat → Prop} {w : World} {ks : List K} {us : List Value} {k : K} {u : Value} (h : KsAt P w ks us) (hk : KAt P w k u) : KsAt P w (ks ++ [k]) (us ++ [u]) := by
  refine ⟨by simp [h.1], fun i a b => ?_⟩
  by_cases hi : i < ks.length
  · rw [List.getElem_append_left hi, List.getElem_append_left (by rw [h.1]; exact hi)]
    exact h.2 i hi _
  · have e : i = ks.length := by simp at a; omega
    subst e
    rw [List.getElem_append_right (Nat.le_refl _), List.getElem_append_right (by rw [h.1]; exact Nat.le_refl _)]
    simp only [Nat.sub_self, h.1]
    exact hk
/-- A row of its own that holds these is the kind of them all. -/
theorem kat_of_row {P R : Nat → Prop} {w : World} {base : Nat} {e : TypeId} {v : Value} {ks : List K} {us : List Value} (ho : w.ownsRow base e 1 v us.length us) (hk : KsAt P w ks us) (hp : ∀ b, P b → R b) (hb : ∀ b, base ≤ b → R b) : KAt R w (.mk ks) v := by
  have hl := hk.1
  rcases ho.2 with ⟨hv, h0⟩ | ⟨g, cap, cur, hv, hg, hh, hcap, hcm, _, _⟩
  · have hks : ks = [] := List.eq_nil_of_length_eq_zero (by omega)
    subst hks hv
    exact kat_nil _ _ _ _ (Nat.zero_le _)
  · subst hv
    rw [hl]
    refine .intro ks _ cap us (by omega) hcm hl (.inr ⟨g, 0, rfl, hb g hg, ?_, fun i hi => ?_⟩) (fun i hi => ((hk.2 i hi (by omega)).mono hp))
    · rcases Nat.lt_or_ge g w.heap.size with h9 | h9
      · exact h9
      · rw [Array.getElem?_eq_none h9] at hh; cases hh
    · rw [Nat.zero_add, ho.cellAt i (by omega)]; simp [hi]
theorem keeps_grown {P : Nat → Prop} {w w' : World} {row : Option Nat} (hg : w.grownBy w' row) (hp : ∀ b, P b → some b ≠ row) : Keeps P w w' :=
  ⟨hg.size, fun b _ hb hlt => World.cell?_of_block (hg.block b hlt (hp b hb))⟩
theorem one_new (w : World) (a : Value) (t : TypeId) : ∀ j u, [a][j]? = some u → (w.alloc (.cells #[a] t)).cell? ((⟨w.heap.size, 0, none⟩ : Addr).add j) = some u := by
  intro j u h
  have hj : j = 0 := by have := (List.getElem?_eq_some_iff.1 h).1; simp at this; omega
  subst hj; simp at h; subst h; simp [Addr.add, go_sem]

theorem ownsRow_below' {w w' : World} {base : Nat} {e : TypeId} {size : Nat} {v : Value} {n : Nat} {xs : List Value} (h : w.ownsRow base e size v n xs) (hb : Below w.heap.size w w') : w'.ownsRow base e size v n xs := by
  refine ⟨h.1, ?_⟩
  rcases h.2 with h2 | ⟨g, cap, cur, hv, hg, hh, r⟩
  · exact .inl h2
  · have hlt : g < w.heap.size := by
      rcases Nat.lt_or_ge g w.heap.size with h9 | h9
      · exact h9
      · rw [Array.getElem?_eq_none h9] at hh; cases hh
    exact .inr ⟨g, cap, cur, hv, hg, (hb.block g hlt).trans hh, r⟩
theorem own_form {w : World} {base : Nat} {e : TypeId} {size : Nat} {v : Value} {n : Nat} {xs : List Value} (h : w.ownsRow base e size v n xs) : ∃ A c, v = .slice A n c := by
  rcases h.2 with ⟨hv, h0⟩ | ⟨g, cap, cur, hv, _⟩
  · exact ⟨none, 0, by rw [hv, h0]⟩
  · exact ⟨_, cap, hv⟩
/-- What Made answered. -/
def Maked (w : World) (k : K) (zs : List Int) (Q : Nat → Prop) (e : Ending) (w' : World) : Prop :=
  ∃ kv v, e = .returned (.tuple #[.agg #[kv], v]) ∧ KAt (fun b => w.heap.size ≤ b) w' k kv ∧ IntsAt Q w' v zs ∧ Below w.heap.size w w'
/-- What the loop in Made knows: so many are made, the row stands in its variable's cell. -/
def MLoop (w : World) (Q : Nat → Prop) (f : Nat) (r : List Int) (N j : Nat) (s0 : Value) (wr : World) : Prop :=
  ∃ (us : List Value) (sv : Value), j ≤ N ∧ IntsAt Q wr s0 (manyK (madeK f) j r).2 ∧ KsAt (fun b => w.heap.size + 2 ≤ b ∧ sv.ownBlock ≠ some b) wr (manyK (madeK f) j r).1 us ∧
    wr.cell? ⟨w.heap.size + 1, 0, none⟩ = some sv ∧ wr.ownsRow (w.heap.size + 2) 25 1 sv us.length us ∧ wr.frozen? ⟨w.heap.size + 1, 0, none⟩ = false ∧
    wr.cell? ⟨w.heap.size, 0, none⟩ = some (.slice none 0 0) ∧ wr.frozen? ⟨w.heap.size, 0, none⟩ = false ∧ Below w.heap.size w wr ∧ w.heap.size + 2 ≤ wr.heap.size
/-- One more: behind the recursive call (w1), the two new blocks, and the append (w2), the loop knows as much. -/
theorem MLoop.step {w wr w1 w2 : World} {Q : Nat → Prop} {f N j : Nat} {r : List Int} {us : List Value} {sv kv v1 v' : Value} (o1 o2 : Obj) (hj : j < N) (hQ : ∀ b, Q b → b < w.heap.size)
    (hks : KsAt (fun b => w.heap.size + 2 ≤ b ∧ sv.ownBlock ≠ some b) wr (manyK (madeK f) j r).1 us) (hown : wr.ownsRow (w.heap.size + 2) 25 1 sv us.length us) (hzw : w.heap.size + 2 ≤ wr.heap.size)
    (c1 : wr.cell? ⟨w.heap.size + 1, 0, none⟩ = some sv) (f1 : wr.frozen? ⟨w.heap.size + 1, 0, none⟩ = false) (c0 : wr.cell? ⟨w.heap.size, 0, none⟩ = some (.slice none 0 0)) (f0 : wr.frozen? ⟨w.heap.size, 0, none⟩ = false) (hbw : Below w.heap.size w wr)
    (hkv : KAt (fun b => wr.heap.size ≤ b) w1 (madeK f (manyK (madeK f) j r).2).1 kv) (hv1 : IntsAt Q w1 v1 (madeK f (manyK (madeK f) j r).2).2) (hb1 : Below wr.heap.size wr w1)
    (ho2 : w2.ownsRow (w.heap.size + 2) 25 1 v' (us.length + 1) (us ++ [kv])) (hg2 : ((w1.alloc o1).alloc o2).grownBy w2 sv.ownBlock) (hat : v'.ownBlock = sv.ownBlock ∨ v'.ownBlock = some ((w1.alloc o1).alloc o2).heap.size) :
    MLoop w Q f r N (j + 1) v1 (w2.setCell ⟨w.heap.size + 1, 0, none⟩ v') := by
  have hz1 := hb1.size
  have hrow : ∀ q, sv.ownBlock = some q → w.heap.size + 2 ≤ q ∧ q < wr.heap.size := fun q hq => hown.lt q hq
  have ba : Below wr.heap.size wr ((w1.alloc o1).alloc o2) := (hb1.alloc hz1 _).alloc (by simp; omega) _
  have bA : Below w1.heap.size w1 ((w1.alloc o1).alloc o2) := ((Below.refl _ _).alloc (Nat.le_refl _) _).alloc (by simp) _
  have B2 : Below (w.heap.size + 2) wr w2 := (ba.mono hzw).grown hg2 (by simp; omega) (fun q hq => (hrow q hq).1)
  have BW : Below w.heap.size w w2 := hbw.trans (B2.mono (by omega))
  have zz : ((w1.alloc o1).alloc o2).heap.size = w1.heap.size + 2 := by simp
  have hmany : manyK (madeK f) (j + 1) r = ((manyK (madeK f) j r).1 ++ [(madeK f (manyK (madeK f) j r).2).1], (madeK f (manyK (madeK f) j r).2).2) := rfl
  have kold : KsAt (fun b => w.heap.size + 2 ≤ b ∧ v'.ownBlock ≠ some b) w2 (manyK (madeK f) j r).1 us := by
    refine ((hks.bound.keep (.of_below ba)).keep (keeps_grown hg2 (fun b hb => fun e => hb.1.2 e.symm))).mono (fun b hb => ⟨hb.1.1, ?_⟩)
    rcases hat with h | h
    · rw [h]; exact hb.1.2
    · rw [h, zz]; intro e; injection e with e; have := hb.2; omega
  have knew : KAt (fun b => w.heap.size + 2 ≤ b ∧ v'.ownBlock ≠ some b) w2 (madeK f (manyK (madeK f) j r).2).1 kv := by
    refine ((hkv.bound.keep (.of_below bA)).keep (keeps_grown hg2 (fun b hb => ?_))).mono (fun b hb => ⟨by have := hb.1; omega, ?_⟩)
    · intro e
      have := (hrow b e.symm).2
      have := hb.1
      omega
    · rcases hat with h | h
      · rw [h]; intro e; have := (hrow b e).2; have := hb.1; omega
      · rw [h, zz]; intro e; injection e with e; have := hb.2; omega
  have nP : ¬ ((fun b => w.heap.size + 2 ≤ b ∧ v'.ownBlock ≠ some b) (w.heap.size + 1)) := fun h => by have := h.1; omega
  have nQ : ¬ Q (w.heap.size + 1) := fun h => by have := hQ _ h; omega
  have z2 : w1.heap.size + 2 ≤ w2.heap.size := by have := hg2.size; omega
  have d1 : w2.cell? ⟨w.heap.size + 1, 0, none⟩ = some sv := (B2.cell (p := ⟨w.heap.size + 1, 0, none⟩) (Nat.lt_succ_self _)).trans c1
  have d0 : w2.cell? ⟨w.heap.size, 0, none⟩ = some (.slice none 0 0) := (B2.cell (p := ⟨w.heap.size, 0, none⟩) (show w.heap.size < w.heap.size + 2 by omega)).trans c0
  have e1 : w2.frozen? ⟨w.heap.size + 1, 0, none⟩ = false := (B2.frozen (p := ⟨w.heap.size + 1, 0, none⟩) (Nat.lt_succ_self _)).trans f1
  have e0 : w2.frozen? ⟨w.heap.size, 0, none⟩ = false := (B2.frozen (p := ⟨w.heap.size, 0, none⟩) (show w.heap.size < w.heap.size + 2 by omega)).trans f0
  refine ⟨us ++ [kv], v', by omega, ?_, ?_, ?_, ?_, ?_, ?_, ?_, ?_, ?_⟩
  · rw [hmany]
    refine ((hv1.keep (.of_below bA)).keep (keeps_grown hg2 (fun b hb => ?_))).keep (.setCell nQ _)
    intro e
    have := (hrow b e.symm).1
    have := hQ b hb
    omega
  · rw [hmany]
    exact (kold.snoc knew).keep (.setCell nP _)
  · simp [go_sem, d1]
  · rw [List.length_append]
    exact ownsRow_setCell_below ho2 (Nat.lt_succ_self _) _
  · simp [go_sem, e1]
  · simp [go_sem, d0]
  · simp [go_sem, e0]
  · exact BW.setCell (Nat.le_succ _) _
  · simp; omega
theorem Try.info25 : (Try.prog.info? 25).map (fun i => (i.zero, i.size, i.bytes)) = some (some (.agg #[.slice none 0 0]), 1, 24) := by kernel_rfl

set_option maxRecDepth 100000 in
set_option maxHeartbeats 1000000 in
theorem made_any : ∀ (f d : Nat) (zs : List Int) (v : Value) (Q : Nat → Prop) (w : World), d + f = 4 → IntsAt Q w v zs → (∀ b, Q b → b < w.heap.size) →
    Calls Try.prog 34 #[v, .int .i64 d] w (Maked w (madeK f zs).1 (madeK f zs).2 Q)
  | 0, d, zs, v, Q, w, hd, h, hQ => by
    obtain rfl : d = 4 := by omega
    have H := Lib.hid h
    obtain ⟨A, c, rfl, hc, hcm, _, _⟩ := h
    unfold maxLen at hcm
    have h3 : decide ((3 : Int) < ((4 : Nat) : Int)) = true := by decide
    have hb0 : Below w.heap.size w ((w.alloc (.cells #[.slice none 0 0] 25)).alloc (.cells #[.slice none 0 0] 25)) := (below_new w _).trans ((below_new _ _).mono (by simp))
    have HB0 := Lib.hid hb0
    clear hb0
    by_cases h0 : zs.length = 0
    · have h0' : ((zs.length : Int) == 0) = true := by rw [beq_iff_eq]; omega
      clear h0
      go_enter Try.func34, Try.ntmps34
      go_wp2
      exact bodyPost_ret (v := .tuple #[.agg #[.slice none 0 0], .slice A zs.length c]) (by simp [results, Try.results34, go_sem]) rfl ⟨_, _, rfl, kat_nil _ _ _ _ (Nat.zero_le _), H.out.on HB0.out, HB0.out⟩
    · have h0' : ((zs.length : Int) == 0) = false := by rw [beq_eq_false_iff_ne]; omega
      clear h0
      go_enter Try.func34, Try.ntmps34
      go_wp2
      exact bodyPost_ret (v := .tuple #[.agg #[.slice none 0 0], .slice A zs.length c]) (by simp [results, Try.results34, go_sem]) rfl ⟨_, _, rfl, kat_nil _ _ _ _ (Nat.zero_le _), H.out.on HB0.out, HB0.out⟩
  | f + 1, d, [], v, Q, w, hd, h, hQ => by
    have H := Lib.hid h
    obtain ⟨A, c, rfl, hc, hcm, _, _⟩ := h
    have hb0 : Below w.heap.size w ((w.alloc (.cells #[.slice none 0 0] 25)).alloc (.cells #[.slice none 0 0] 25)) := (below_new w _).trans ((below_new _ _).mono (by simp))
    have HB0 := Lib.hid hb0
    clear hb0
    go_enter Try.func34, Try.ntmps34
    go_wp2
    exact bodyPost_ret (v := .tuple #[.agg #[.slice none 0 0], .slice A 0 c]) (by simp [results, Try.results34, go_sem]) rfl ⟨_, _, rfl, kat_nil _ _ _ _ (Nat.zero_le _), H.out.on HB0.out, HB0.out⟩
  | f + 1, d, z :: r, v, Q, w, hd, h, hQ => by
    obtain ⟨A, c, rfl, hc, hcm, hbd, hr⟩ := h
    obtain ⟨b, off, rfl, hq, hlt, hcell⟩ : ∃ b off, A = some ⟨b, off, none⟩ ∧ Q b ∧ b < w.heap.size ∧ ∀ i (h : i < (z :: r).length), w.cell? ⟨b, off + i, none⟩ = some (.int .i64 (z :: r)[i]) := by
      rcases hr with h9 | h9
      · cases h9
      · exact h9
    have hz := hcell 0 (by simp)
    simp only [Nat.add_zero, List.getElem_cons_zero] at hz
    have hzb := hbd z (List.mem_cons_self ..)
    have hz1 := hzb.1
    have hz2 := hzb.2
    -- what is left of the slice
    have hv2 : ∃ v2, (c = 1 → v2 = .slice (some ⟨b, off, none⟩) r.length 0) ∧ (c ≠ 1 → v2 = .slice (some ⟨b, off + 1, none⟩) r.length (c - 1)) ∧ IntsAt Q w v2 r := by
      have hrl : r.length + 1 ≤ c := by simpa using hc
      by_cases hc1 : c = 1
      · have hr0 : r = [] := List.eq_nil_of_length_eq_zero (by omega)
        subst hr0
        exact ⟨_, fun _ => rfl, fun h9 => absurd hc1 h9, ⟨_, 0, rfl, Nat.le_refl _, Nat.zero_le _, fun z hz => absurd hz (by simp), .inl rfl⟩⟩
      · refine ⟨_, fun h9 => absurd h9 hc1, fun _ => rfl, ⟨_, c - 1, rfl, by omega, by omega, fun y hy => hbd y (List.mem_cons_of_mem _ hy), .inr ⟨b, off + 1, rfl, hq, hlt, fun i hi => ?_⟩⟩⟩
        have h9 := hcell (i + 1) (by simpa using hi)
        rw [show off + 1 + i = off + (i + 1) by omega, h9]
        rfl
    obtain ⟨v2, e1, e2, hi2⟩ := hv2
    have HI2 := Lib.hid hi2
    have hd3 : ¬ (3 : Int) < (d : Int) := by omega
    have hlen0 : (((r.length : Int) + 1) == 0) = false := by rw [beq_eq_false_iff_ne]; omega
    unfold maxLen at hcm
    clear hcell hr hbd hc hi2 hzb
    have hbd4 := aroundI_bd z 4 (by omega)
    have hcast : ((d + 1 : Nat) : Int) = (d : Int) + 1 := by omega
    have IH : Hid (∀ (zs : List Int) (v : Value) (Q : Nat → Prop) (w : World), IntsAt Q w v zs → (∀ b, Q b → b < w.heap.size) → Calls Try.prog 34 #[v, .int .i64 ((d : Int) + 1)] w (Maked w (madeK f zs).1 (madeK f zs).2 Q)) := fun zs v Q w h1 h2 => by
      have h9 := made_any f (d + 1) zs v Q w (by omega) h1 h2
      rw [hcast] at h9; exact h9
    clear hcast
    obtain ⟨j0, hj, hy0, hy1, hy2⟩ := info_parts' Try.info25
    by_cases hn2 : 2 < aroundI z 4
    · have HHM : Hid (howMany z = 0) := by show _ = _; unfold howMany; rw [if_pos hn2]
      by_cases hc1 : c = 1
      · have e9 := e1 hc1
        clear e1 e2
        subst hc1
        go_enter Try.func34, Try.ntmps34
        go_wp2_with fail
        refine (around_is z 4 _ hz1 hz2 (by omega) (by omega)).mono ?_
        rintro e w' ⟨rfl, rfl⟩
        go_wp2_with fail
        rw [← e9]
        clear e9
        have hb0 : Below w.heap.size w ((w.alloc (.cells #[.slice none 0 0] 25)).alloc (.cells #[.slice none 0 0] 25)) := (below_new w _).trans ((below_new _ _).mono (by simp))
        have hz0 : ((w.alloc (.cells #[.slice none 0 0] 25)).alloc (.cells #[.slice none 0 0] 25)).heap.size = w.heap.size + 2 := by simp
        have hx0 : ((w.alloc (.cells #[.slice none 0 0] 25)).alloc (.cells #[.slice none 0 0] 25)).cell? ⟨w.heap.size, 0, none⟩ = some (.slice none 0 0) := by simp [go_sem]
        have hx1 : ((w.alloc (.cells #[.slice none 0 0] 25)).alloc (.cells #[.slice none 0 0] 25)).cell? ⟨w.heap.size + 1, 0, none⟩ = some (.slice none 0 0) := by simp [go_sem]
        have hf0 : ((w.alloc (.cells #[.slice none 0 0] 25)).alloc (.cells #[.slice none 0 0] 25)).frozen? ⟨w.heap.size, 0, none⟩ = false := by simp [go_sem]
        have hf1 : ((w.alloc (.cells #[.slice none 0 0] 25)).alloc (.cells #[.slice none 0 0] 25)).frozen? ⟨w.heap.size + 1, 0, none⟩ = false := by simp [go_sem]
        have hst : MLoop w Q f r 0 0 v2 ((w.alloc (.cells #[.slice none 0 0] 25)).alloc (.cells #[.slice none 0 0] 25)) :=
          ⟨[], _, by omega, HI2.out.on hb0, ⟨rfl, fun i a => absurd a (Nat.not_lt_zero _)⟩, hx1, World.ownsRow_nil _ _ _ _, hf1, hx0, hf0, hb0, by omega⟩
        generalize (w.alloc (.cells #[.slice none 0 0] 25)).alloc (.cells #[.slice none 0 0] 25) = w0 at *
        have HST := Lib.hid hst
        clear hb0 hz0 hx0 hx1 hf0 hf1 hst
        go_loopw [0, 8, 9, 10] (fun s0 i _ _ wr => ∃ j : Nat, i = .int .i64 j ∧ MLoop w Q f r 0 j s0 wr) (fun _ i _ _ _ => 0 - (intOf i).toNat)
        case atStart => exact ⟨0, rfl, HST.out⟩
        case round =>
          obtain ⟨j, rfl, us, sv, hjN, hints, hks, c1, hown, f1, c0, f0, hbw, hzw⟩ := hrel
          obtain ⟨Asv, csv, esv⟩ := own_form hown
          subst esv
          have HBW := Lib.hid hbw
          have HKS := Lib.hid hks
          clear hbw hks
          by_cases hlt : j < 0
          · exact absurd hlt (Nat.not_lt_zero _)
          · obtain rfl : j = 0 := by omega
            have hfin : KAt (fun b => w.heap.size + 2 ≤ b) wr (.mk (manyK (madeK f) 0 r).1) (.slice Asv us.length csv) := kat_of_row hown HKS.out (fun b hb => hb.1) (fun b hb => hb)
            have HF := Lib.hid ((hfin.keep (Keeps.setCell (b := w.heap.size) (o := 0) (fun h9 => by omega) (.slice Asv us.length csv))).mono (fun b (hb : w.heap.size + 2 ≤ b) => (by omega : w.heap.size ≤ b)))
            have HINT := Lib.hid (hints.keep (Keeps.setCell (b := w.heap.size) (o := 0) (fun h9 => by have := hQ _ h9; omega) (.slice Asv us.length csv)))
            obtain ⟨A0, cc0, e0, _⟩ := hints
            subst e0
            clear hfin hown
            go_wp2
            exact bodyPost_ret (v := .tuple #[.agg #[.slice Asv us.length csv], .slice A0 (manyK (madeK f) 0 r).2.length cc0]) (by simp [results, Try.results34, go_sem, c0]) rfl ⟨_, _, rfl, by show KAt _ _ (.mk (manyK (madeK f) (howMany z) r).1) _; rw [HHM.out]; exact HF.out, by show IntsAt _ _ _ (manyK (madeK f) (howMany z) r).2; rw [HHM.out]; exact HINT.out, HBW.out.setCell (Nat.le_refl _) _⟩
      · have e9 := e2 hc1
        clear e1 e2
        go_enter Try.func34, Try.ntmps34
        go_wp2_with fail
        refine (around_is z 4 _ hz1 hz2 (by omega) (by omega)).mono ?_
        rintro e w' ⟨rfl, rfl⟩
        go_wp2_with fail
        rw [← e9]
        clear e9
        have hb0 : Below w.heap.size w ((w.alloc (.cells #[.slice none 0 0] 25)).alloc (.cells #[.slice none 0 0] 25)) := (below_new w _).trans ((below_new _ _).mono (by simp))
        have hz0 : ((w.alloc (.cells #[.slice none 0 0] 25)).alloc (.cells #[.slice none 0 0] 25)).heap.size = w.heap.size + 2 := by simp
        have hx0 : ((w.alloc (.cells #[.slice none 0 0] 25)).alloc (.cells #[.slice none 0 0] 25)).cell? ⟨w.heap.size, 0, none⟩ = some (.slice none 0 0) := by simp [go_sem]
        have hx1 : ((w.alloc (.cells #[.slice none 0 0] 25)).alloc (.cells #[.slice none 0 0] 25)).cell? ⟨w.heap.size + 1, 0, none⟩ = some (.slice none 0 0) := by simp [go_sem]
        have hf0 : ((w.alloc (.cells #[.slice none 0 0] 25)).alloc (.cells #[.slice none 0 0] 25)).frozen? ⟨w.heap.size, 0, none⟩ = false := by simp [go_sem]
        have hf1 : ((w.alloc (.cells #[.slice none 0 0] 25)).alloc (.cells #[.slice none 0 0] 25)).frozen? ⟨w.heap.size + 1, 0, none⟩ = false := by simp [go_sem]
        have hst : MLoop w Q f r 0 0 v2 ((w.alloc (.cells #[.slice none 0 0] 25)).alloc (.cells #[.slice none 0 0] 25)) :=
          ⟨[], _, by omega, HI2.out.on hb0, ⟨rfl, fun i a => absurd a (Nat.not_lt_zero _)⟩, hx1, World.ownsRow_nil _ _ _ _, hf1, hx0, hf0, hb0, by omega⟩
        generalize (w.alloc (.cells #[.slice none 0 0] 25)).alloc (.cells #[.slice none 0 0] 25) = w0 at *
        have HST := Lib.hid hst
        clear hb0 hz0 hx0 hx1 hf0 hf1 hst
        go_loopw [0, 8, 9, 10] (fun s0 i _ _ wr => ∃ j : Nat, i = .int .i64 j ∧ MLoop w Q f r 0 j s0 wr) (fun _ i _ _ _ => 0 - (intOf i).toNat)
        case atStart => exact ⟨0, rfl, HST.out⟩
        case round =>
          obtain ⟨j, rfl, us, sv, hjN, hints, hks, c1, hown, f1, c0, f0, hbw, hzw⟩ := hrel
          obtain ⟨Asv, csv, esv⟩ := own_form hown
          subst esv
          have HBW := Lib.hid hbw
          have HKS := Lib.hid hks
          clear hbw hks
          by_cases hlt : j < 0
          · exact absurd hlt (Nat.not_lt_zero _)
          · obtain rfl : j = 0 := by omega
            have hfin : KAt (fun b => w.heap.size + 2 ≤ b) wr (.mk (manyK (madeK f) 0 r).1) (.slice Asv us.length csv) := kat_of_row hown HKS.out (fun b hb => hb.1) (fun b hb => hb)
            have HF := Lib.hid ((hfin.keep (Keeps.setCell (b := w.heap.size) (o := 0) (fun h9 => by omega) (.slice Asv us.length csv))).mono (fun b (hb : w.heap.size + 2 ≤ b) => (by omega : w.heap.size ≤ b)))
            have HINT := Lib.hid (hints.keep (Keeps.setCell (b := w.heap.size) (o := 0) (fun h9 => by have := hQ _ h9; omega) (.slice Asv us.length csv)))
            obtain ⟨A0, cc0, e0, _⟩ := hints
            subst e0
            clear hfin hown
            go_wp2
            exact bodyPost_ret (v := .tuple #[.agg #[.slice Asv us.length csv], .slice A0 (manyK (madeK f) 0 r).2.length cc0]) (by simp [results, Try.results34, go_sem, c0]) rfl ⟨_, _, rfl, by show KAt _ _ (.mk (manyK (madeK f) (howMany z) r).1) _; rw [HHM.out]; exact HF.out, by show IntsAt _ _ _ (manyK (madeK f) (howMany z) r).2; rw [HHM.out]; exact HINT.out, HBW.out.setCell (Nat.le_refl _) _⟩
    · obtain ⟨N, hN⟩ := Int.eq_ofNat_of_zero_le hbd4.1
      have hN2 : N ≤ 2 := by omega
      have HHM : Hid (howMany z = N) := by show _ = _; unfold howMany; rw [if_neg hn2, hN]; rfl
      have hn2' : decide ((2 : Int) < (N : Int)) = false := by simp; omega
      clear hn2
      by_cases hc1 : c = 1
      · have e9 := e1 hc1
        clear e1 e2
        subst hc1
        go_enter Try.func34, Try.ntmps34
        go_wp2_with fail
        refine (around_is z 4 _ hz1 hz2 (by omega) (by omega)).mono ?_
        rintro e w' ⟨rfl, rfl⟩
        rw [hN]
        clear hN hbd4
        go_wp2_with fail
        rw [← e9]
        clear e9
        have hb0 : Below w.heap.size w ((w.alloc (.cells #[.slice none 0 0] 25)).alloc (.cells #[.slice none 0 0] 25)) := (below_new w _).trans ((below_new _ _).mono (by simp))
        have hz0 : ((w.alloc (.cells #[.slice none 0 0] 25)).alloc (.cells #[.slice none 0 0] 25)).heap.size = w.heap.size + 2 := by simp
        have hx0 : ((w.alloc (.cells #[.slice none 0 0] 25)).alloc (.cells #[.slice none 0 0] 25)).cell? ⟨w.heap.size, 0, none⟩ = some (.slice none 0 0) := by simp [go_sem]
        have hx1 : ((w.alloc (.cells #[.slice none 0 0] 25)).alloc (.cells #[.slice none 0 0] 25)).cell? ⟨w.heap.size + 1, 0, none⟩ = some (.slice none 0 0) := by simp [go_sem]
        have hf0 : ((w.alloc (.cells #[.slice none 0 0] 25)).alloc (.cells #[.slice none 0 0] 25)).frozen? ⟨w.heap.size, 0, none⟩ = false := by simp [go_sem]
        have hf1 : ((w.alloc (.cells #[.slice none 0 0] 25)).alloc (.cells #[.slice none 0 0] 25)).frozen? ⟨w.heap.size + 1, 0, none⟩ = false := by simp [go_sem]
        have hst : MLoop w Q f r N 0 v2 ((w.alloc (.cells #[.slice none 0 0] 25)).alloc (.cells #[.slice none 0 0] 25)) :=
          ⟨[], _, by omega, HI2.out.on hb0, ⟨rfl, fun i a => absurd a (Nat.not_lt_zero _)⟩, hx1, World.ownsRow_nil _ _ _ _, hf1, hx0, hf0, hb0, by omega⟩
        generalize (w.alloc (.cells #[.slice none 0 0] 25)).alloc (.cells #[.slice none 0 0] 25) = w0 at *
        have HST := Lib.hid hst
        clear hb0 hz0 hx0 hx1 hf0 hf1 hst
        go_loopw [0, 8, 9, 10] (fun s0 i _ _ wr => ∃ j : Nat, i = .int .i64 j ∧ MLoop w Q f r N j s0 wr) (fun _ i _ _ _ => N - (intOf i).toNat)
        case atStart => exact ⟨0, rfl, HST.out⟩
        case round =>
          obtain ⟨j, rfl, us, sv, hjN, hints, hks, c1, hown, f1, c0, f0, hbw, hzw⟩ := hrel
          obtain ⟨Asv, csv, esv⟩ := own_form hown
          subst esv
          have HBW := Lib.hid hbw
          have HKS := Lib.hid hks
          clear hbw hks
          by_cases hlt : j < N
          · have hji : (j : Int) < (N : Int) := by omega
            have hqr : ∀ b, Q b → b < wr.heap.size := fun b hb => by have := hQ b hb; omega
            have hc1 := IH.out _ _ Q wr hints hqr
            obtain ⟨A0, cc0, e0, _⟩ := hints
            subst e0
            go_wp2_with fail
            refine hc1.mono ?_
            rintro e w1 ⟨kv, v1, rfl, hkv, hv1, hb1⟩
            have hz1 := hb1.size
            have d1 := (hb1.cell (p := ⟨w.heap.size + 1, 0, none⟩) (show w.heap.size + 1 < wr.heap.size by omega)).trans c1
            have g1 := (hb1.frozen (p := ⟨w.heap.size + 1, 0, none⟩) (show w.heap.size + 1 < wr.heap.size by omega)).trans f1
            have hown1 := ownsRow_below' hown hb1
            obtain ⟨Ak, nk, ck, rfl⟩ : ∃ Ak nk ck, kv = .slice Ak nk ck := by
              generalize (madeK f (manyK (madeK f) j r).2).1 = kk at hkv
              cases kk with
              | mk lk => obtain ⟨Ak, ck, e, _⟩ := hkv.form; exact ⟨Ak, _, ck, e⟩
            have hul : us.length ≤ 2 := by have h9 := HKS.out.1; rw [manyK_len] at h9; omega
            have HK := Lib.hid hkv
            have HV := Lib.hid hv1
            have HB1 := Lib.hid hb1
            have HOWN := Lib.hid hown
            clear hc1 hkv hv1 hb1 hown
            have hsz1 : w.heap.size + 2 ≤ w1.heap.size := by omega
            have hsz2 : w.heap.size + 1 < w1.heap.size := by omega
            go_wp2_with (at_builtin; refine wpList_append_own_at _ rfl (.tmp 42) (.tmp 44) 23 rfl (w.heap.size + 2) 25 j0 (.agg #[.slice none 0 0]) 1 24 Try.underlying23 hj hy0 hy1 hy2 rfl (by decide) _ _ _ rfl ((hown1.alloc _).alloc _) ⟨w1.heap.size + 1, 0, none⟩ 1 1 [.slice Ak nk ck] rfl rfl (by have h9 := one_new (w1.alloc (.cells #[.slice Ak nk ck] 25)) (.slice Ak nk ck) 25; simpa using h9) (by intro u hu; simp at hu; subst hu; rfl) (by unfold maxLen; omega) (by omega) (by simp; omega) ?_; intro v' w2 hown2 hg2 _ hat; obtain ⟨Av, cv, ev⟩ := own_form hown2; subst ev; have HST2 := Lib.hid (MLoop.step (N := N) (.cells #[.slice Ak nk ck] 25) (.cells #[.slice Ak nk ck] 25) hlt hQ HKS.out HOWN.out hzw c1 f1 c0 f0 HBW.out HK.out HV.out HB1.out hown2 hg2 hat); have BB2 : Below (w.heap.size + 2) wr w2 := (((HB1.out.mono hzw).alloc hsz1 _).alloc (by simp; omega) _).grown hg2 (by simp; omega) (fun q hq => (hown1.lt q hq).1); have m1 : w2.cell? ⟨w.heap.size + 1, 0, none⟩ = some (.slice Asv us.length csv) := (BB2.cell (p := ⟨w.heap.size + 1, 0, none⟩) (Nat.lt_succ_self _)).trans c1; have m2 : w2.frozen? ⟨w.heap.size + 1, 0, none⟩ = false := (BB2.frozen (p := ⟨w.heap.size + 1, 0, none⟩) (Nat.lt_succ_self _)).trans f1; clear hown2 hg2 hat)
            go_roundw
            case rel => exact ⟨j + 1, by go_num, HST2.out⟩
            case measure => simp [intOf]; omega
          · obtain rfl : N = j := by omega
            have hfin : KAt (fun b => w.heap.size + 2 ≤ b) wr (.mk (manyK (madeK f) N r).1) (.slice Asv us.length csv) := kat_of_row hown HKS.out (fun b hb => hb.1) (fun b hb => hb)
            have HF := Lib.hid ((hfin.keep (Keeps.setCell (b := w.heap.size) (o := 0) (fun h9 => by omega) (.slice Asv us.length csv))).mono (fun b (hb : w.heap.size + 2 ≤ b) => (by omega : w.heap.size ≤ b)))
            have HINT := Lib.hid (hints.keep (Keeps.setCell (b := w.heap.size) (o := 0) (fun h9 => by have := hQ _ h9; omega) (.slice Asv us.length csv)))
            obtain ⟨A0, cc0, e0, _⟩ := hints
            subst e0
            clear hfin hown
            go_wp2
            exact bodyPost_ret (v := .tuple #[.agg #[.slice Asv us.length csv], .slice A0 (manyK (madeK f) N r).2.length cc0]) (by simp [results, Try.results34, go_sem, c0]) rfl ⟨_, _, rfl, by show KAt _ _ (.mk (manyK (madeK f) (howMany z) r).1) _; rw [HHM.out]; exact HF.out, by show IntsAt _ _ _ (manyK (madeK f) (howMany z) r).2; rw [HHM.out]; exact HINT.out, HBW.out.setCell (Nat.le_refl _) _⟩
      · have e9 := e2 hc1
        clear e1 e2
        go_enter Try.func34, Try.ntmps34
        go_wp2_with fail
        refine (around_is z 4 _ hz1 hz2 (by omega) (by omega)).mono ?_
        rintro e w' ⟨rfl, rfl⟩
        rw [hN]
        clear hN hbd4
        go_wp2_with fail
        rw [← e9]
        clear e9
        have hb0 : Below w.heap.size w ((w.alloc (.cells #[.slice none 0 0] 25)).alloc (.cells #[.slice none 0 0] 25)) := (below_new w _).trans ((below_new _ _).mono (by simp))
        have hz0 : ((w.alloc (.cells #[.slice none 0 0] 25)).alloc (.cells #[.slice none 0 0] 25)).heap.size = w.heap.size + 2 := by simp
        have hx0 : ((w.alloc (.cells #[.slice none 0 0] 25)).alloc (.cells #[.slice none 0 0] 25)).cell? ⟨w.heap.size, 0, none⟩ = some (.slice none 0 0) := by simp [go_sem]
        have hx1 : ((w.alloc (.cells #[.slice none 0 0] 25)).alloc (.cells #[.slice none 0 0] 25)).cell? ⟨w.heap.size + 1, 0, none⟩ = some (.slice none 0 0) := by simp [go_sem]
        have hf0 : ((w.alloc (.cells #[.slice none 0 0] 25)).alloc (.cells #[.slice none 0 0] 25)).frozen? ⟨w.heap.size, 0, none⟩ = false := by simp [go_sem]
        have hf1 : ((w.alloc (.cells #[.slice none 0 0] 25)).alloc (.cells #[.slice none 0 0] 25)).frozen? ⟨w.heap.size + 1, 0, none⟩ = false := by simp [go_sem]
        have hst : MLoop w Q f r N 0 v2 ((w.alloc (.cells #[.slice none 0 0] 25)).alloc (.cells #[.slice none 0 0] 25)) :=
          ⟨[], _, by omega, HI2.out.on hb0, ⟨rfl, fun i a => absurd a (Nat.not_lt_zero _)⟩, hx1, World.ownsRow_nil _ _ _ _, hf1, hx0, hf0, hb0, by omega⟩
        generalize (w.alloc (.cells #[.slice none 0 0] 25)).alloc (.cells #[.slice none 0 0] 25) = w0 at *
        have HST := Lib.hid hst
        clear hb0 hz0 hx0 hx1 hf0 hf1 hst
        go_loopw [0, 8, 9, 10] (fun s0 i _ _ wr => ∃ j : Nat, i = .int .i64 j ∧ MLoop w Q f r N j s0 wr) (fun _ i _ _ _ => N - (intOf i).toNat)
        case atStart => exact ⟨0, rfl, HST.out⟩
        case round =>
          obtain ⟨j, rfl, us, sv, hjN, hints, hks, c1, hown, f1, c0, f0, hbw, hzw⟩ := hrel
          obtain ⟨Asv, csv, esv⟩ := own_form hown
          subst esv
          have HBW := Lib.hid hbw
          have HKS := Lib.hid hks
          clear hbw hks
          by_cases hlt : j < N
          · have hji : (j : Int) < (N : Int) := by omega
            have hqr : ∀ b, Q b → b < wr.heap.size := fun b hb => by have := hQ b hb; omega
            have hc1 := IH.out _ _ Q wr hints hqr
            obtain ⟨A0, cc0, e0, _⟩ := hints
            subst e0
            go_wp2_with fail
            refine hc1.mono ?_
            rintro e w1 ⟨kv, v1, rfl, hkv, hv1, hb1⟩
            have hz1 := hb1.size
            have d1 := (hb1.cell (p := ⟨w.heap.size + 1, 0, none⟩) (show w.heap.size + 1 < wr.heap.size by omega)).trans c1
            have g1 := (hb1.frozen (p := ⟨w.heap.size + 1, 0, none⟩) (show w.heap.size + 1 < wr.heap.size by omega)).trans f1
            have hown1 := ownsRow_below' hown hb1
            obtain ⟨Ak, nk, ck, rfl⟩ : ∃ Ak nk ck, kv = .slice Ak nk ck := by
              generalize (madeK f (manyK (madeK f) j r).2).1 = kk at hkv
              cases kk with
              | mk lk => obtain ⟨Ak, ck, e, _⟩ := hkv.form; exact ⟨Ak, _, ck, e⟩
            have hul : us.length ≤ 2 := by have h9 := HKS.out.1; rw [manyK_len] at h9; omega
            have HK := Lib.hid hkv
            have HV := Lib.hid hv1
            have HB1 := Lib.hid hb1
            have HOWN := Lib.hid hown
            clear hc1 hkv hv1 hb1 hown
            have hsz1 : w.heap.size + 2 ≤ w1.heap.size := by omega
            have hsz2 : w.heap.size + 1 < w1.heap.size := by omega
            go_wp2_with (at_builtin; refine wpList_append_own_at _ rfl (.tmp 42) (.tmp 44) 23 rfl (w.heap.size + 2) 25 j0 (.agg #[.slice none 0 0]) 1 24 Try.underlying23 hj hy0 hy1 hy2 rfl (by decide) _ _ _ rfl ((hown1.alloc _).alloc _) ⟨w1.heap.size + 1, 0, none⟩ 1 1 [.slice Ak nk ck] rfl rfl (by have h9 := one_new (w1.alloc (.cells #[.slice Ak nk ck] 25)) (.slice Ak nk ck) 25; simpa using h9) (by intro u hu; simp at hu; subst hu; rfl) (by unfold maxLen; omega) (by omega) (by simp; omega) ?_; intro v' w2 hown2 hg2 _ hat; obtain ⟨Av, cv, ev⟩ := own_form hown2; subst ev; have HST2 := Lib.hid (MLoop.step (N := N) (.cells #[.slice Ak nk ck] 25) (.cells #[.slice Ak nk ck] 25) hlt hQ HKS.out HOWN.out hzw c1 f1 c0 f0 HBW.out HK.out HV.out HB1.out hown2 hg2 hat); have BB2 : Below (w.heap.size + 2) wr w2 := (((HB1.out.mono hzw).alloc hsz1 _).alloc (by simp; omega) _).grown hg2 (by simp; omega) (fun q hq => (hown1.lt q hq).1); have m1 : w2.cell? ⟨w.heap.size + 1, 0, none⟩ = some (.slice Asv us.length csv) := (BB2.cell (p := ⟨w.heap.size + 1, 0, none⟩) (Nat.lt_succ_self _)).trans c1; have m2 : w2.frozen? ⟨w.heap.size + 1, 0, none⟩ = false := (BB2.frozen (p := ⟨w.heap.size + 1, 0, none⟩) (Nat.lt_succ_self _)).trans f1; clear hown2 hg2 hat)
            go_roundw
            case rel => exact ⟨j + 1, by go_num, HST2.out⟩
            case measure => simp [intOf]; omega
          · obtain rfl : N = j := by omega
            have hfin : KAt (fun b => w.heap.size + 2 ≤ b) wr (.mk (manyK (madeK f) N r).1) (.slice Asv us.length csv) := kat_of_row hown HKS.out (fun b hb => hb.1) (fun b hb => hb)
            have HF := Lib.hid ((hfin.keep (Keeps.setCell (b := w.heap.size) (o := 0) (fun h9 => by omega) (.slice Asv us.length csv))).mono (fun b (hb : w.heap.size + 2 ≤ b) => (by omega : w.heap.size ≤ b)))
            have HINT := Lib.hid (hints.keep (Keeps.setCell (b := w.heap.size) (o := 0) (fun h9 => by have := hQ _ h9; omega) (.slice Asv us.length csv)))
            obtain ⟨A0, cc0, e0, _⟩ := hints
            subst e0
            clear hfin hown
            go_wp2
            exact bodyPost_ret (v := .tuple #[.agg #[.slice Asv us.length csv], .slice A0 (manyK (madeK f) N r).2.length cc0]) (by simp [results, Try.results34, go_sem, c0]) rfl ⟨_, _, rfl, by show KAt _ _ (.mk (manyK (madeK f) (howMany z) r).1) _; rw [HHM.out]; exact HF.out, by show IntsAt _ _ _ (manyK (madeK f) (howMany z) r).2; rw [HHM.out]; exact HINT.out, HBW.out.setCell (Nat.le_refl _) _⟩

def restZ (zs : List Int) : List Int := (madeK 4 (zs.take 12)).2
theorem made_kind (zs : List Int) (v : Value) (Q : Nat → Prop) (w : World) (h : IntsAt Q w v (zs.take 12)) (hQ : ∀ b, Q b → b < w.heap.size) : Calls Try.prog 34 #[v, .int .i64 0] w (Maked w (kindZ zs) (restZ zs) Q) := made_any 4 0 (zs.take 12) v Q w rfl h hQ
end Go.Proofs.Ytomhojpoaicioaa
