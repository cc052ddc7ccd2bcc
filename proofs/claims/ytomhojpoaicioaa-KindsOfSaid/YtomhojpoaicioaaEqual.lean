/- The contract of the solver's Equal. Conditions: those that each theorem names. -/
import Derived.Test.YtomhojpoaicioaaUnify
import Derived.Test.YtomhojpoaicioaaFits
namespace Go.Proofs.Ytomhojpoaicioaa
open Go.RowKit Tm

/-- Blocks in which a solver's terms may lie: neither its own, nor those that X names. -/
def PT (X : Nat → Prop) (sb mb b : Nat) : Prop := b ≠ sb ∧ b ≠ mb ∧ ¬ X b
/-- A solver between two questions. -/
structure Top (X : Nat → Prop) (N : Nat) (w : World) (sb mb : Nat) (made : Int) (s : KS) (σ : Sb) : Prop where
  sol : SolAt (PT X sb mb) w sb mb s.sz made s.kn
  inv : Inv N s σ
  ne : sb ≠ mb
  log : s.log = []
theorem SolAt.mono {P Q : Nat → Prop} {w : World} {sb mb sz : Nat} {made : Int} {kn : Kn} (h : SolAt P w sb mb sz made kn) (hp : ∀ b, P b → Q b) : SolAt Q w sb mb sz made kn := by
  refine ⟨h.c0, h.c1, h.f0, h.lt, ?_⟩
  obtain ⟨f, hm, hf⟩ := h.known
  refine ⟨f, hm, fun x => ?_⟩
  have h9 := hf x
  cases e : kn x with
  | none => rw [e] at h9; exact h9
  | some t => rw [e] at h9; obtain ⟨v, e1, e2⟩ := h9; exact ⟨v, e1, e2.mono hp⟩
theorem KnAt.size_eq {P Q : Nat → Prop} {w w' : World} {mb mb' sz sz' : Nat} {kn : Kn} (h : KnAt P w mb sz kn) (h' : KnAt Q w' mb' sz' kn) : sz = sz' := by
  obtain ⟨f, hm, hf⟩ := h
  obtain ⟨g, hm', hg⟩ := h'
  have e : ∀ x, f x ≠ none ↔ g x ≠ none := fun x => by
    have h1 := hf x
    have h2 := hg x
    cases hk : kn x with
    | none => rw [hk] at h1 h2; have h1' : f x = none := h1; have h2' : g x = none := h2; rw [h1', h2']
    | some t => rw [hk] at h1 h2; obtain ⟨v, e1, _⟩ := h1; obtain ⟨u, e2, _⟩ := h2; rw [e1, e2]; simp
  exact Nat.le_antisymm (hm.keys.le hm'.keys (fun x hx => (e x).1 hx)) (hm'.keys.le hm.keys (fun x hx => (e x).2 hx))
/-- All blocks but the solver's own stand. -/
structure Kept (sb mb : Nat) (w w' : World) : Prop where
  size : w.heap.size ≤ w'.heap.size
  block : ∀ b, b < w.heap.size → b ≠ sb ∧ b ≠ mb → w'.heap[b]? = w.heap[b]?
  quiet : Quiet w w'
theorem Kept.keeps {X : Nat → Prop} {sb mb : Nat} {w w' : World} (h : Kept sb mb w w') : Keeps (PT X sb mb) w w' := ⟨h.size, fun b _ hp hlt => World.cell?_of_block (h.block b hlt ⟨hp.1, hp.2.1⟩)⟩
theorem Kept.of_below {sb mb : Nat} {w w' : World} (h : Below w.heap.size w w') : Kept sb mb w w' := ⟨h.size, fun b hlt _ => h.block b hlt, .of_below h⟩
theorem Kept.trans {sb mb : Nat} {w w' w2 : World} (h : Kept sb mb w w') (h' : Kept sb mb w' w2) : Kept sb mb w w2 := ⟨Nat.le_trans h.size h'.size, fun b hlt hp => (h'.block b (Nat.lt_of_lt_of_le hlt h.size) hp).trans (h.block b hlt hp), h.quiet.trans h'.quiet⟩
theorem Kept.below {sb mb B : Nat} {w w' : World} (h : Kept sb mb w w') (h1 : B ≤ sb) (h2 : B ≤ mb) (hB : B ≤ w.heap.size) : Below B w w' := ⟨h.quiet.os, h.quiet.tape, h.quiet.output, h.size, fun k hk => h.block k (by omega) ⟨by omega, by omega⟩⟩
theorem Top.on {X : Nat → Prop} {N : Nat} {w w' : World} {sb mb : Nat} {made : Int} {s : KS} {σ : Sb} (h : Top X N w sb mb made s σ) (hb : Below w.heap.size w w') : Top X N w' sb mb made s σ := ⟨h.sol.on hb, h.inv, h.ne, h.log⟩
/-- How many arrows stand in a term. -/
def arrN : Tm → Nat
  | .var _ => 0
  | .star => 0
  | .arr a b => arrN a + arrN b + 1
theorem arrows_emb : ∀ t : Tm, arrows (emb t) = arrN t
  | .var _ => rfl
  | .star => rfl
  | .arr a b => by show arrows (emb a) + arrows (emb b) + 1 = _; rw [arrows_emb a, arrows_emb b]; rfl
/-- What Equal answered. -/
def EqRes (X : Nat → Prop) (N g : Nat) (w : World) (sb mb : Nat) (made : Int) (s : KS) (σ : Sb) (r : Except Nat Sb) (e : Ending) (w' : World) : Prop :=
  Kept sb mb w w' ∧ match r with
    | .ok σ' => e = .returned (.int .i64 0) ∧ ∃ s', Top X N w' sb mb made s' σ' ∧ s'.sz + leftN N σ' ≤ s.sz + leftN N σ + g
    | .error c => e = .returned (.int .i64 c) ∧ Top X N w' sb mb made s σ
theorem FB.top {tb sb mb : Nat} {bv : Value} {X : Nat → Prop} : ∀ b, FL X tb sb mb bv b → PT X sb mb b := fun _ h => ⟨h.1.2.1, h.1.2.2.1, h.2⟩
theorem phi_bound (N M : Nat) (kn : Kn) : phi N M kn ≤ N + M + 1 := by
  unfold phi
  refine Nat.le_trans (List.length_filter_le _ _) ?_
  simp
theorem undoL_ne : ∀ (l : List (Int × Option Tz)) (kn : Kn) (x : Int), kn x ≠ none → undoL l kn x ≠ none ∨ x ∈ l.map (·.1)
  | [], _, _, h => .inl h
  | (n, o) :: r, kn, x, h => by
    by_cases e : x = n
    · exact .inr (by rw [e]; simp)
    · rcases undoL_ne r kn x h with h | h
      · left; show setK (undoL r kn) n o x ≠ none; rw [setK_ne _ _ e]; exact h
      · right; simp at h ⊢; exact .inr h
theorem undo_size {P Q : Nat → Prop} {w w' : World} {mb sz sz' : Nat} {kn kn' : Kn} {l : List (Int × Option Tz)} (h : KnAt P w mb sz kn) (h' : KnAt Q w' mb sz' kn') (hu : undoL l kn' = kn) : sz' ≤ sz + l.length := by
  obtain ⟨f, hm, hf⟩ := h
  obtain ⟨g, hm', hg⟩ := h'
  obtain ⟨ks, _, hl, hk⟩ := hm.keys
  obtain ⟨ks', hn', hl', hk'⟩ := hm'.keys
  have := nodup_le (b := ks ++ l.map (·.1)) hn' (fun x hx => by
    have hx2 : kn' x ≠ none := fun e => by
      have := hg x
      rw [e] at this
      exact (hk' x).1 hx this
    rw [List.mem_append]
    rcases undoL_ne l kn' x hx2 with h | h
    · left
      refine (hk x).2 (fun e => ?_)
      rw [hu] at h
      have h9 := hf x
      cases e2 : kn x with
      | none => exact h e2
      | some t => rw [e2] at h9; obtain ⟨v, e3, _⟩ := h9; rw [e] at e3; cases e3
    · exact .inr h)
  rw [List.length_append, List.length_map] at this
  omega
/-- A trial's first state. -/
theorem trial_new {X : Nat → Prop} {N : Nat} {w W : World} {sb mb : Nat} {made : Int} {s : KS} {σ : Sb} (h : Top X N w sb mb made s σ) (hb : Below w.heap.size w W) : TrAt X (W.alloc (.cells #[.pointer (some ⟨sb, 0, none⟩), .slice none 0 0] 93)) W.heap.size sb mb s.sz made s.kn (.slice none 0 0) [] s.log := by
  have hw : Below w.heap.size w (W.alloc (.cells #[.pointer (some ⟨sb, 0, none⟩), .slice none 0 0] 93)) := hb.trans ((below_new W _).mono hb.size)
  have hlt := h.sol.lt
  have hml := h.sol.known.lt
  have hz := hb.size
  refine ⟨by simp [go_sem], by simp [go_sem], by simp [go_sem], by omega, by omega, ?_, World.ownsRow_nil _ _ _ _, by omega, by omega, ?_⟩
  · refine (h.sol.bound.on hw).mono (fun b hp => ⟨⟨?_, hp.1.1, hp.1.2.1, fun e => by cases e⟩, hp.1.2.2⟩)
    have := hp.2
    omega
  · rw [h.log]; exact ⟨rfl, fun i a _ => absurd a (by simp)⟩
theorem kept_of {w w3 w4 : World} {tb sb mb : Nat} {bv' : Value} (hb : Below w.heap.size w w3) (ht : w.heap.size ≤ tb) (hF : Fr tb sb mb (.slice none 0 0) bv' w3 w4) : Kept sb mb w w4 :=
  ⟨Nat.le_trans hb.size hF.size, fun b hlt hp => (hF.block b (Nat.lt_of_lt_of_le hlt hb.size) ⟨by omega, hp.1, hp.2, fun e => by cases e⟩).trans (hb.block b hlt), (Quiet.of_below hb).trans hF.quiet⟩
set_option maxRecDepth 100000 in
set_option maxHeartbeats 2000000 in
theorem equal_any (X : Nat → Prop) (N M : Nat) (w : World) (sb mb : Nat) (made : Int) (s : KS) (σ : Sb) (a b : Tm) (r : Except Nat Sb) (va vb : Value) (h : Top X N w sb mb made s σ) (ha : ZAt (PT X sb mb) w (emb a) va) (hb : ZAt (PT X sb mb) w (emb b) vb) (hr : Ans σ a b r)
    (ha0 : a.occ 0 = false) (hb0 : b.occ 0 = false) (hva : VarsTo N a) (hvb : VarsTo N b) (hM : s.sz + leftN N σ + arrN a + arrN b ≤ M) (hN : N ≤ 1000) (hM2 : M ≤ 1000000) (hX : ∀ b, X b → b < w.heap.size) :
    Calls Try.prog 27 #[.pointer (some ⟨sb, 0, none⟩), va, vb] w (EqRes X N (arrN a + arrN b) w sb mb made s σ r) := by
  obtain ⟨f, hf, hne⟩ := hr
  obtain ⟨Aa, ca, rfl⟩ := ha.form
  obtain ⟨Ab, cb, rfl⟩ := hb.form
  obtain ⟨W, eW, bW, zW, k4, k5⟩ := two_boxes w (.int .i64 (formZ (emb a))) (.int .i64 (numZ (emb a))) (.slice Aa (argsZ (emb a)) ca) (.int .i64 (formZ (emb b))) (.int .i64 (numZ (emb b))) (.slice Ab (argsZ (emb b)) cb) 49
  have TA : TB (PT X sb mb) W w.heap.size (emb a) Aa ca := TB.of k4 (ha.on bW)
  have TBb : TB (PT X sb mb) W (w.heap.size + 1) (emb b) Ab cb := TB.of k5 (hb.on bW)
  have HT := Lib.hid h
  have HW := Lib.hid eW
  have HBW := Lib.hid bW
  have HTA := Lib.hid TA
  have HTB := Lib.hid TBb
  have HZW := Lib.hid zW
  have HAZ := Lib.hid ha.bound
  have HBZ := Lib.hid hb.bound
  clear h ha hb eW bW k4 k5 zW
  go_enter Try.func27, Try.ntmps27
  go_upto_region 1 with (fail)
  rw [← HW.out]
  have a0 := TA.c0
  have a1 := TA.c1
  have a2 := TA.c2
  clear TA TBb
  have HC1 := Lib.hid (fits_any (PT X sb mb) a _ W ha0 HTA.out.zt)
  go_wp2_with fail
  refine HC1.out.mono ?_
  rintro e w1 ⟨rfl, hb1⟩
  have HB1 := Lib.hid hb1
  have b0 := (HTB.out.on hb1).c0
  have b1 := (HTB.out.on hb1).c1
  have b2 := (HTB.out.on hb1).c2
  have HC2 := Lib.hid (fits_any (PT X sb mb) b _ w1 hb0 (HTB.out.on hb1).zt)
  clear a0 a1 a2 hb1 HC1
  go_wp2_with fail
  refine HC2.out.mono ?_
  rintro e w2 ⟨rfl, hb2⟩
  have HB2 := Lib.hid (HB1.out.trans (hb2.mono HB1.out.size))
  clear b0 b1 b2 hb2 HC2
  have HB3 := Lib.hid (HBW.out.trans (HB2.out.mono HBW.out.size))
  have hT3 := trial_new HT.out HB3.out
  have hwl := phi_bound N M s.kn
  have hlog := HT.out.log
  have h3 := (below_new w2 (.cells #[.pointer (some ⟨sb, 0, none⟩), .slice none 0 0] 93))
  have hzA := ((HTA.out.on HB2.out).on h3)
  have hzB := ((HTB.out.on HB2.out).on h3)
  have hfl : ∀ b, PT X sb mb b ∧ b < w.heap.size → FL X w2.heap.size sb mb (.slice none 0 0) b := fun b hp => ⟨⟨by have := hp.2; have := HB3.out.size; omega, hp.1.1, hp.1.2.1, fun e => by cases e⟩, hp.1.2.2⟩
  have hwt : wt N M s σ = 2 * phi N M s.kn + leftN N σ := by unfold wt; rw [hlog]; simp
  have HU := Lib.hid (unify_any N M w2.heap.size sb mb made f σ a b r hf hne X (emb a) (emb b) (.agg #[.int .i64 (formZ (emb a)), .int .i64 (numZ (emb a)), .slice Aa (argsZ (emb a)) ca]) (.agg #[.int .i64 (formZ (emb b)), .int .i64 (numZ (emb b)), .slice Ab (argsZ (emb b)) cb]) _ s (.slice none 0 0) [] HT.out.inv (HT.out.inv.st.emb a ha0) (HT.out.inv.st.emb b hb0) hva hvb hT3 (fun b h => Nat.lt_of_lt_of_le (hX b h) (HB3.out.trans (h3.mono HB3.out.size)).size) (((HAZ.out.on HB3.out).on h3).mono hfl) (((HBZ.out.on HB3.out).on h3).mono hfl) (by rw [arrows_emb, arrows_emb]; exact hM) (by omega) (by rw [arrows_emb, arrows_emb, hwt]; omega))
  have a0 := hzA.c0
  have a1 := hzA.c1
  have a2 := hzA.c2
  have b0 := hzB.c0
  have b1 := hzB.c1
  have b2 := hzB.c2
  have H3 := Lib.hid h3
  have HT3 := Lib.hid hT3
  have HFL := Lib.hid hfl
  have HXX := Lib.hid hX
  have HHF := Lib.hid hf
  have HHN := Lib.hid hne
  clear hX hT3 h3 hzA hzB hfl hf hne hwt hlog hwl
  go_upto_region 4 with (fail)
  generalize hw3 : w2.alloc (.cells #[.pointer (some ⟨sb, 0, none⟩), .slice none 0 0] 93) = w3 at *
  have HW3 := Lib.hid hw3
  clear hw3
  go_wp2_with fail
  (with_reducible refine HU.out.mono ?_)
  cases r with
  | ok σ' =>
    rintro e w4 ⟨bv', fs', s', hT4, hF4, rfl, hm4, _, _⟩
    have HT4 := Lib.hid hT4
    have HF4 := Lib.hid hF4
    have HM4 := Lib.hid hm4
    clear hT4 hF4 hm4 a0 a1 a2 b0 b1 b2
    go_wp2
    go_ret
    have hz := HB3.out.size
    refine ⟨kept_of (HB3.out.trans (H3.out.mono hz)) hz HF4.out, rfl, ⟨s'.kn, s'.sz, []⟩, ⟨HT4.out.sol.mono FB.top, ⟨HM4.out.inv.st, HM4.out.inv.inn, HM4.out.inv.inv, HM4.out.inv.flat⟩, HT.out.ne, rfl⟩, ?_⟩
    have := HM4.out.room
    rw [arrows_emb, arrows_emb] at this
    exact this
  | error c =>
    rintro e w4 ⟨bv', fs', s', hT4, hF4, rfl, hb4⟩
    have hc99 : c ≠ 99 := fun e => HHN.out (by rw [e])
    have hcc := unif_code HT.out.inv.st.idem HHF.out hc99
    have hcn : ((c : Int) != 0) = true := by rw [bne_iff_ne]; omega
    obtain ⟨l, hl1, hl2⟩ := hb4.log
    have hlog := HT.out.log
    rw [hlog, List.nil_append] at hl1
    have hlen := hb4.len
    have hph := phi_bound N M s.kn
    have hwt : wt N M s σ = 2 * phi N M s.kn + leftN N σ := by unfold wt; rw [hlog]; simp
    rw [hwt, arrows_emb, arrows_emb] at hlen
    have hus := undo_size HT.out.sol.known hT4.sol.known hl2
    have hsl : s'.log.length = l.length := by rw [hl1]
    have HUN := Lib.hid (undo_any X w4 w2.heap.size sb mb s'.sz made s'.kn bv' fs' s'.log hT4 (by omega) (by omega))
    have HF4 := Lib.hid hF4
    have HL1 := Lib.hid hl1
    have HL2 := Lib.hid hl2
    clear hT4 hF4 hb4 hc99 hcc hl1 hl2 hlog hlen hph hwt hus hsl a0 a1 a2 b0 b1 b2
    go_wp2_with fail
    (with_reducible refine HUN.out.mono ?_)
    rintro e w5 ⟨rfl, sz5, hT5, hF5⟩
    have HT5 := Lib.hid hT5
    have HF5 := Lib.hid (HF4.out.trans hF5)
    clear hT5 hF5
    go_wp2
    go_ret
    have hz := HB3.out.size
    have hk := HT5.out.sol.known
    have h5 := HT5.out.sol
    rw [HL1.out, HL2.out] at hk h5
    have hsz5 := hk.size_eq HT.out.sol.known
    subst hsz5
    exact ⟨kept_of (HB3.out.trans (H3.out.mono hz)) hz HF5.out, rfl, h5.mono FB.top, HT.out.inv, HT.out.ne, HT.out.log⟩
end Go.Proofs.Ytomhojpoaicioaa
