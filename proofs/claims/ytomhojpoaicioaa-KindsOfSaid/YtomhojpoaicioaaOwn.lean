/- The contracts of kinds.own and kinds.Split. Condition: a kind has at most 2^40 parts. -/
import Derived.Test.YtomhojpoaicioaaReadW
import Derived.Test.YtomhojpoaicioaaKind
import Derived.Laws.CopyOwn
import Derived.Deep.RegionHeld3
import Derived.Deep.CutBlock
namespace Go.Proofs.Ytomhojpoaicioaa
open Go.RowKit

theorem star_new (w : World) : Calls Try.prog 20 #[] w fun e w' => e = .returned (.agg #[.slice none 0 0]) ∧ Below w.heap.size w w' := by
  go_enter Try.func20, Try.ntmps20
  go_wp2
  exact bodyPost_ret (v := .agg #[.slice none 0 0]) (by simp [results, Try.results20, go_sem]) rfl ⟨rfl, below_new w _⟩
theorem len_le_sz (l : List K) : l.length + 1 ≤ K.sz (.mk l) := by
  rw [K.sz_mk]
  have : l.length ≤ (l.map K.sz).sum := by
    induction l with
    | nil => simp
    | cons x r ih =>
      have : 1 ≤ K.sz x := by cases x with | mk q => rw [K.sz_mk]; omega
      simp; omega
  omega
theorem size25 : (Try.prog.info? 25).map (·.size) = some 1 := by kernel_rfl
/-- The values of a kind's row. -/
theorem KAt.vals {P : Nat → Prop} {w : World} {l : List K} {A : Option Addr} {n c : Nat} (h : KAt P w (.mk l) (.slice A n c)) : ∃ us : List Value, us.length = l.length ∧ (0 < us.length → ∃ b off, A = some ⟨b, off, none⟩ ∧ b < w.heap.size ∧ ∀ j u, us[j]? = some u → w.cell? ((⟨b, off, none⟩ : Addr).add j) = some u) ∧ KsAt P w l us ∧ ∀ u ∈ us, u.oneCell' = true := by
  cases h with
  | intro _ _ _ us hc hm hu hrow hk =>
    refine ⟨us, hu, fun hp => ?_, ⟨hu, fun i a b => hk i a⟩, fun u hmem => ?_⟩
    · rcases hrow with h0 | ⟨b, off, e, _, hlt, hcell⟩
      · rw [h0] at hu; simp at hu; rw [hu] at hp; simp at hp
      · refine ⟨b, off, e, hlt, fun j u hj => ?_⟩
        obtain ⟨hjl, e2⟩ := List.getElem?_eq_some_iff.1 hj
        rw [Go.WideShapes.add_plain, hcell j hjl, e2]
    · obtain ⟨i, hi, rfl⟩ := List.getElem_of_mem hmem
      have h9 := hk i (by omega)
      generalize l[i] = q at h9
      cases q with
      | mk q => obtain ⟨A2, c2, e2, _⟩ := h9.form; rw [e2]; rfl
/-- What own's loop knows: so many are made anew. -/
def OLoop (w0 : World) (P : Nat → Prop) (g : Nat) (l : List K) (i : Nat) (wr : World) : Prop :=
  ∃ vs : List Value, vs.length = l.length ∧ wr.ownsRow g 25 1 (.slice (some ⟨g, 0, none⟩) l.length l.length) l.length vs ∧
    (∀ j (h : j < l.length) (h' : j < vs.length), (j < i → KAt (fun b => g < b) wr l[j] vs[j]) ∧ (i ≤ j → KAt P wr l[j] vs[j])) ∧ Below g w0 wr
theorem OLoop.step {w0 wr y1 : World} {P : Nat → Prop} {g i : Nat} {l : List K} {vs : List Value} {kv : Value} (hi : i < l.length) (hvl : vs.length = l.length) (hown : wr.ownsRow g 25 1 (.slice (some ⟨g, 0, none⟩) l.length l.length) l.length vs)
    (hv : ∀ j (h : j < l.length) (h' : j < vs.length), (j < i → KAt (fun b => g < b) wr l[j] vs[j]) ∧ (i ≤ j → KAt P wr l[j] vs[j])) (hb : Below g w0 wr) (hP : ¬ P g) (b1 : Below wr.heap.size wr y1) (hk : KAt (fun b => wr.heap.size ≤ b) y1 l[i] kv) :
    OLoop w0 P g l (i + 1) (y1.setCell ⟨g, i, none⟩ kv) := by
  have hg := (hown.lt g rfl).2
  refine ⟨vs.set i kv, by simp [hvl], own_set (ownsRow_below' hown b1) i hi kv, fun j h h' => ?_, (hb.trans (b1.mono (Nat.le_of_lt hg))).setCell (Nat.le_refl _) _⟩
  have hj : j < vs.length := by simpa using h'
  by_cases hij : j = i
  · subst hij
    rw [List.getElem_set_self]
    refine ⟨fun _ => (hk.mono (fun b (hb : wr.heap.size ≤ b) => (by omega : g < b))).keep (.setCell (fun e => by omega) _), fun e => by omega⟩
  · rw [List.getElem_set_ne (fun e => hij e.symm)]
    refine ⟨fun e => (((hv j h hj).1 (by omega)).on b1).keep (.setCell (fun e => by omega) _), fun e => (((hv j h hj).2 (by omega)).on b1).keep (.setCell hP _)⟩
set_option maxRecDepth 100000 in
set_option maxHeartbeats 1000000 in
theorem own_any : ∀ (n : Nat) (P : Nat → Prop) (k : K) (v : Value) (w : World), K.sz k ≤ n → KAt P w k v → K.sz k ≤ 1099511627776 →
    Calls Try.prog 39 #[.agg #[v]] w (KindMade w k)
  | 0, _, .mk l, _, _, hn, _, _ => by rw [K.sz_mk] at hn; omega
  | n + 1, P, .mk l, v, w, hn, h, hsz => by
    obtain ⟨A, c, rfl, hm⟩ := h.form
    have hll := len_le_sz l
    have hl40 : l.length ≤ 1099511627776 := by omega
    obtain ⟨j0, hj, hy0, hy1, hy2⟩ := info_parts' Try.info25
    obtain ⟨us, hul, hcell, hks, hone⟩ := h.bound'.vals
    have hb0 : Below w.heap.size w ((w.alloc (.cells #[.slice A l.length c] 25)).alloc (.cells #[.slice none 0 0] 25)) := (below_new w _).trans ((below_new _ _).mono (by simp))
    have HB0 := Lib.hid hb0
    unfold maxLen at hm
    by_cases h0 : l.length = 0
    · obtain rfl : l = [] := List.eq_nil_of_length_eq_zero h0
      clear hb0 hks hcell hul h0 hn
      go_enter Try.func39, Try.ntmps39
      go_wp2_with fail
      have hx1 : ((w.alloc (.cells #[.slice A 0 c] 25)).alloc (.cells #[.slice none 0 0] 25)).cell? ⟨w.heap.size + 1, 0, none⟩ = some (.slice none 0 0) := by simp [go_sem]
      have hf1 : ((w.alloc (.cells #[.slice A 0 c] 25)).alloc (.cells #[.slice none 0 0] 25)).frozen? ⟨w.heap.size + 1, 0, none⟩ = false := by simp [go_sem]
      have hz1 : w.heap.size + 1 < ((w.alloc (.cells #[.slice A 0 c] 25)).alloc (.cells #[.slice none 0 0] 25)).heap.size := by simp
      generalize (w.alloc (.cells #[.slice A 0 c] 25)).alloc (.cells #[.slice none 0 0] 25) = w0 at *
      refine (star_new _).mono ?_
      rintro e y1 ⟨rfl, b1⟩
      have d1 := (b1.cell (p := ⟨w.heap.size + 1, 0, none⟩) hz1).trans hx1
      have f1 := (b1.frozen (p := ⟨w.heap.size + 1, 0, none⟩) hz1).trans hf1
      have HB1 := Lib.hid (HB0.out.trans (b1.mono (by omega)))
      clear b1
      go_wp2
      exact bodyPost_ret (v := .agg #[.slice none 0 0]) (by simp [results, Try.results39, go_sem, d1]) rfl ⟨_, rfl, kat_nil _ _ _ _ (Nat.zero_le _), HB1.out.setCell (Nat.le_succ _) _⟩
    · have h0' : ((l.length : Int) == 0) = false := by rw [beq_eq_false_iff_ne]; omega
      have hlpos : 0 < l.length := by omega
      obtain ⟨b, off, rfl, hlt, hcell⟩ := hcell (by omega)
      have IH := Lib.hid (own_any n)
      have HN := Lib.hid (fun i (h : i < l.length) => sz_get hn h)
      have HZ := Lib.hid (fun i (h : i < l.length) => sz_get (n := 1099511627776) (Nat.le_succ_of_le hsz) h)
      have HKS := Lib.hid hks
      have HC := Lib.hid hcell
      have HONE := Lib.hid hone
      have HUL := Lib.hid hul
      clear hks hcell hn hsz h h0 hb0 hone hul
      have hz0 : ((w.alloc (.cells #[.slice (some ⟨b, off, none⟩) l.length c] 25)).alloc (.cells #[.slice none 0 0] 25)).heap.size = w.heap.size + 2 := by simp
      have hx0 : ((w.alloc (.cells #[.slice (some ⟨b, off, none⟩) l.length c] 25)).alloc (.cells #[.slice none 0 0] 25)).cell? ⟨w.heap.size, 0, none⟩ = some (.slice (some ⟨b, off, none⟩) l.length c) := by simp [go_sem]
      have hx1 : ((w.alloc (.cells #[.slice (some ⟨b, off, none⟩) l.length c] 25)).alloc (.cells #[.slice none 0 0] 25)).cell? ⟨w.heap.size + 1, 0, none⟩ = some (.slice none 0 0) := by simp [go_sem]
      have hf1 : ((w.alloc (.cells #[.slice (some ⟨b, off, none⟩) l.length c] 25)).alloc (.cells #[.slice none 0 0] 25)).frozen? ⟨w.heap.size + 1, 0, none⟩ = false := by simp [go_sem]
      have HX0 := Lib.hid hx0
      have HX1 := Lib.hid hx1
      have HF1 := Lib.hid hf1
      have HZ0 := Lib.hid hz0
      clear hx0 hx1 hf1 hz0
      go_enter Try.func39, Try.ntmps39
      go_upto_region 4 with (at_make; refine wpList_make_full _ rfl _ _ 23 rfl (w.heap.size + 2) 25 j0 (.agg #[.slice none 0 0]) 1 Try.underlying23 hj hy0 hy1 _ _ _ _ l.length rfl rfl rfl rfl (by rw [hy2]; omega) (by unfold maxLen; omega) (by simp) ?_; intro w2 hown2 hg2; have y0 := hg2.cell HX0.out (by simp))
      rw [HZ0.out] at hown2
      generalize (w.alloc (.cells #[.slice (some ⟨b, off, none⟩) l.length c] 25)).alloc (.cells #[.slice none 0 0] 25) = w0 at *
      generalize hG : w.heap.size + 2 = g at *
      have hz0 := HZ0.out
      have hb2 : Below g w0 w2 := (Below.refl _ _).grown hg2 (by omega) (fun q hq => by cases hq)
      obtain ⟨cur, hh, hcl⟩ : ∃ cur : List Value, w2.heap[g]? = some (.cells cur.toArray 25 (0, 0)) ∧ cur.length = l.length := by
        rcases hown2.2 with ⟨e, _⟩ | ⟨g', cap', cur, hv, _, hh, _, _, hcs, _⟩
        · cases e
        · injection hv with e1 _ e2
          injection e1 with e1
          injection e1 with e1
          subst e1 e2
          exact ⟨cur.toList, by simpa using hh, by simpa using hcs⟩
      have hB2 := HB0.out.trans (hb2.mono (by omega))
      have hC2 : ∀ j u, us[j]? = some u → w2.cell? ((⟨b, off, none⟩ : Addr).add j) = some u := fun j u hj => by
        rw [Go.WideShapes.add_plain]
        exact (hB2.cell (p := ⟨b, off + j, none⟩) hlt).trans (by have := HC.out j u hj; rwa [Go.WideShapes.add_plain] at this)
      have HC2 := Lib.hid hC2
      have HHH := Lib.hid hh
      have HB2 := Lib.hid hb2
      have hun : us.length = Nat.min l.length l.length := by rw [HUL.out]; exact (Nat.min_self _).symm
      have hfit : 0 + us.length ≤ cur.length := by rw [HUL.out, hcl]; omega
      have HUN := Lib.hid hun
      have HG := Lib.hid hG
      have HCL := Lib.hid hcl
      clear hC2 hh hb2 hB2 hown2 hg2 hun hG hcl
      go_wp2_with (with_reducible refine wpList_copy_splice rfl (.tmp 14) (.tmp 16) 23 23 rfl 25 Try.underlying23 size25 (some ⟨g, 0, none⟩) (some ⟨b, off, none⟩) l.length l.length l.length c rfl rfl g 0 cur 25 HHH.out us HUN.out (fun _ => ⟨rfl, _, rfl, HC2.out⟩) hfit HONE.out g w0 HB2.out (Nat.le_refl _) ?_; intro w3 hh3 hb3)
      have hst : OLoop w0 (fun b => b < w.heap.size) g l 0 w3 := by
        have e3 : splice cur 0 us = us := by
          unfold splice
          rw [List.take_zero, List.nil_append, List.drop_of_length_le (by rw [HCL.out, HUL.out]; omega), List.append_nil]
        have hh := hh3.out
        rw [e3] at hh
        have hB3 := HB0.out.trans (hb3.mono (by have := HG.out; omega))
        refine ⟨us, HUL.out, ⟨by rw [HUL.out]; omega, .inr ⟨g, l.length, us.toArray, rfl, Nat.le_refl _, hh, Nat.le_refl _, by unfold maxLen; omega, by simp [HUL.out], by rw [← HUL.out]; simp⟩⟩, fun j h h' => ⟨fun e => absurd e (Nat.not_lt_zero _), fun _ => ((HKS.out.2 j h h').on hB3)⟩, hb3⟩
      have HST := Lib.hid hst
      clear hst hh3 hb3 y0 hfit hz0 hcell
      go_loopw [20, 21] (fun i _ wr => ∃ k : Nat, k ≤ l.length ∧ i = .int .i64 k ∧ OLoop w0 (fun b => b < w.heap.size) g l k wr) (fun i _ _ => l.length - (intOf i).toNat)
      case atStart => exact ⟨0, Nat.zero_le _, rfl, HST.out⟩
      case round =>
        obtain ⟨k, hk, rfl, vs, hvl, hown, hv, hb⟩ := hrel
        have hgl := (hown.lt g rfl).2
        have HV := Lib.hid hv
        have HB := Lib.hid hb
        have HVL := Lib.hid hvl
        have hgw : w.heap.size + 2 = g := HG.out
        clear hv hb hvl
        by_cases hlt : k < l.length
        · have hkv : k < vs.length := by rw [HVL.out]; exact hlt
          have hck : wr.cell? ⟨g, k, none⟩ = some vs[k] := by rw [hown.cellAt k (by omega), List.getElem?_eq_getElem hkv]
          have hfk : wr.frozen? ⟨g, k, none⟩ = false := by
            rcases hown.2 with ⟨e, _⟩ | ⟨g', cap', cur', hv, _, hh, _⟩
            · cases e
            · injection hv with e1
              injection e1 with e1
              injection e1 with e1
              subst e1
              simp [World.frozen?, hh]
          have hko := (HV.out k hlt hkv).2 (Nat.le_refl _)
          have hki : (k : Int) < (l.length : Int) := by omega
          have hk0 : (0 : Int) ≤ (k : Int) := by omega
          have hsk := HN.out k hlt
          have hzk := HZ.out k hlt
          have hstep : ∀ (y1 : World) (kv : Value), Below wr.heap.size wr y1 → KAt (fun b => wr.heap.size ≤ b) y1 l[k] kv → OLoop w0 (fun b => b < w.heap.size) g l (k + 1) (y1.setCell ⟨g, k, none⟩ kv) := fun y1 kv b1 hk1 => OLoop.step hlt HVL.out hown HV.out HB.out (fun e => by have e' : g < w.heap.size := e; omega) b1 hk1
          have HSTEP := Lib.hid hstep
          generalize hq : vs[k] = u at *
          obtain ⟨Au, nu, cu, rfl⟩ : ∃ Au nu cu, u = .slice Au nu cu := by
            generalize l[k] = q at hko
            cases q with
            | mk q => obtain ⟨A2, c2, e2, _⟩ := hko.form; exact ⟨A2, _, c2, e2⟩
          have HKO := Lib.hid hko
          clear hq hko hstep hown hgw
          go_wp2_with fail
          refine (IH.out _ _ _ _ hsk HKO.out hzk).mono ?_
          rintro e y1 ⟨kv, rfl, hk1, b1⟩
          have d1 := (b1.cell (p := ⟨g, k, none⟩) hgl).trans hck
          have f1 := (b1.frozen (p := ⟨g, k, none⟩) hgl).trans hfk
          have HS2 := Lib.hid (HSTEP.out y1 kv b1 hk1)
          obtain ⟨Ak, nk, ck, rfl⟩ : ∃ Ak nk ck, kv = .slice Ak nk ck := by
            generalize l[k] = q at hk1
            cases q with
            | mk q => obtain ⟨A2, c2, e2, _⟩ := hk1.form; exact ⟨A2, _, c2, e2⟩
          clear b1 hk1
          go_wp2
          go_roundw
          case rel => exact ⟨k + 1, by omega, by go_num, HS2.out⟩
          case measure => simp [intOf]; omega
        · obtain rfl : l.length = k := by omega
          have y1 := (HB.out.cell (p := ⟨w.heap.size + 1, 0, none⟩) (show w.heap.size + 1 < g by omega)).trans HX1.out
          have f1 := (HB.out.frozen (p := ⟨w.heap.size + 1, 0, none⟩) (show w.heap.size + 1 < g by omega)).trans HF1.out
          have hzz : w.heap.size + 1 < wr.heap.size := by omega
          have hfin : KAt (fun b => w.heap.size ≤ b) (wr.setCell ⟨w.heap.size + 1, 0, none⟩ (.slice (some ⟨g, 0, none⟩) l.length l.length)) (.mk l) (.slice (some ⟨g, 0, none⟩) l.length l.length) := by
            have h9 : KAt (fun b => g ≤ b) wr (.mk l) (.slice (some ⟨g, 0, none⟩) l.length l.length) :=
              .intro l _ l.length vs (Nat.le_refl _) (by unfold maxLen; omega) HVL.out (.inr ⟨g, 0, rfl, Nat.le_refl _, hgl, fun i hi => by rw [Nat.zero_add, hown.cellAt i (by have := HVL.out; omega), List.getElem?_eq_getElem hi]⟩) (fun i hi => ((HV.out i hi (by rw [HVL.out]; exact hi)).1 hi).mono (fun b (hb : g < b) => Nat.le_of_lt hb))
            exact (h9.keep (.setCell (fun e => by omega) _)).mono (fun b (hb : g ≤ b) => (by omega : w.heap.size ≤ b))
          have HFIN := Lib.hid hfin
          have HBB := Lib.hid (HB0.out.trans (HB.out.mono (by omega)))
          have hd : decide (l.length < l.length) = false := by simp
          clear hfin hown hgw
          go_wp2
          exact bodyPost_ret (v := .agg #[.slice (some ⟨g, 0, none⟩) l.length l.length]) (by simp [results, Try.results39, go_sem, y1]) rfl ⟨_, rfl, HFIN.out, HBB.out.setCell (Nat.le_succ _) _⟩
end Go.Proofs.Ytomhojpoaicioaa
