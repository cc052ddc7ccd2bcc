/- The contracts of the document's SameInts and SameTexts at rows that are the same. Conditions: those that each theorem names. The contracts of types.App, All and Split. Condition: at most 2^40 arguments. -/
import Derived.Test.YtbdfjboojokgdaaDoorJU12
import Derived.Test.YtbdfjboojokgdaaDoorJU13
import Derived.Test.YtbdfjboojokgdaaDoorJU04
namespace Go.Proofs.YtbdfjboojokgdaaDoor
open Go.RowKit

theorem IntsAt.at {P : Nat → Prop} {w : World} {A : Option Addr} {n c : Nat} {zs : List Int} (h : IntsAt P w (.slice A n c) zs) (k : Nat) (hk : k < zs.length) :
    ∃ b off, A = some ⟨b, off, none⟩ ∧ b < w.heap.size ∧ w.cell? ⟨b, off + k, none⟩ = some (.int .i64 zs[k]) := by
  obtain ⟨A', c', e, _, _, _, hr⟩ := h
  injection e with e1 e2 e3
  subst e1
  rcases hr with h9 | ⟨b, off, e, _, hlt, hc⟩
  · rw [h9] at hk; simp at hk
  · exact ⟨b, off, e, hlt, hc k hk⟩
theorem IntsAt.shape {P : Nat → Prop} {w : World} {v : Value} {zs : List Int} (h : IntsAt P w v zs) : ∃ A c, v = .slice A zs.length c ∧ zs.length ≤ c ∧ c ≤ maxLen := by
  obtain ⟨A, c, e, h1, h2, _⟩ := h; exact ⟨A, c, e, h1, h2⟩
set_option maxRecDepth 100000 in
set_option maxHeartbeats 1000000 in
theorem sameInts_any (P Q : Nat → Prop) (zs : List Int) (v1 v2 : Value) (w : World) (h1 : IntsAt P w v1 zs) (h2 : IntsAt Q w v2 zs) :
    Calls Tryd.prog 16 #[v1, v2] w fun e w' => e = .returned (.bool true) ∧ Below w.heap.size w w' := by
  obtain ⟨A1, c1, rfl, hc1, hm1⟩ := h1.shape
  obtain ⟨A2, c2, rfl, hc2, hm2⟩ := h2.shape
  unfold maxLen at hm1 hm2
  have H1 := Lib.hid h1
  have H2 := Lib.hid h2
  have hlen : zs.length ≤ 9223372036854775807 := by omega
  clear h1 h2
  go_enter Tryd.func16, Tryd.ntmps16
  go_wp2_with fail
  go_loopw [5] (fun i wr => ∃ k : Nat, k ≤ zs.length ∧ i = .int .i64 k ∧ Below w.heap.size w wr) (fun i _ => zs.length - (intOf i).toNat)
  case atStart => exact ⟨0, Nat.zero_le _, rfl, Below.refl _ _⟩
  case round =>
    obtain ⟨k, hk, rfl, hb⟩ := hrel
    have HB := Lib.hid hb
    by_cases hlt : k < zs.length
    · obtain ⟨b1, o1, e1, l1, k1⟩ := (H1.out.on hb).at k hlt
      obtain ⟨b2, o2, e2, l2, k2⟩ := (H2.out.on hb).at k hlt
      subst e1; subst e2
      have hki : (k : Int) < (zs.length : Int) := by omega
      have hk0 : (0 : Int) ≤ (k : Int) := by omega
      have HD := Lib.hid hb.drew
      clear hb
      generalize zs[k] = z at *
      go_wp2_with fail
      go_region
      go_wp2
      go_roundw
      case rel => exact ⟨k + 1, by omega, by go_num, HD.out⟩
      case measure => simp [intOf]; omega
    · have hd : decide (k < zs.length) = false := by simpa using hlt
      clear hb
      go_wp2
      go_ret
      exact ⟨rfl, HB.out⟩
/-- A slice that reads as texts. -/
def StrsAt (P : Nat → Prop) (w : World) (v : Value) (ss : List ByteArray) : Prop :=
  ∃ A c, v = .slice A ss.length c ∧ ss.length ≤ c ∧ c ≤ maxLen ∧ (ss = [] ∨ ∃ b off, A = some ⟨b, off, none⟩ ∧ P b ∧ b < w.heap.size ∧ ∀ i (h : i < ss.length), w.cell? ⟨b, off + i, none⟩ = some (.string ss[i]))
theorem StrsAt.keep {P : Nat → Prop} {w w' : World} {v : Value} {ss : List ByteArray} (h : StrsAt P w v ss) (hb : Keeps P w w') : StrsAt P w' v ss := by
  obtain ⟨A, c, e, h1, h2, hr⟩ := h
  refine ⟨A, c, e, h1, h2, ?_⟩
  rcases hr with h9 | ⟨b, off, e, hp, hlt, hc⟩
  · exact .inl h9
  · exact .inr ⟨b, off, e, hp, Nat.lt_of_lt_of_le hlt hb.size, fun i h => (hb.cell b _ hp hlt).trans (hc i h)⟩
theorem StrsAt.on {P : Nat → Prop} {w w' : World} {v : Value} {ss : List ByteArray} (h : StrsAt P w v ss) (hb : Below w.heap.size w w') : StrsAt P w' v ss := h.keep (.of_below hb)
theorem StrsAt.at {P : Nat → Prop} {w : World} {A : Option Addr} {n c : Nat} {zs : List ByteArray} (h : StrsAt P w (.slice A n c) zs) (k : Nat) (hk : k < zs.length) :
    ∃ b off, A = some ⟨b, off, none⟩ ∧ b < w.heap.size ∧ w.cell? ⟨b, off + k, none⟩ = some (.string zs[k]) := by
  obtain ⟨A', c', e, _, _, hr⟩ := h
  injection e with e1 e2 e3
  subst e1
  rcases hr with h9 | ⟨b, off, e, _, hlt, hc⟩
  · rw [h9] at hk; simp at hk
  · exact ⟨b, off, e, hlt, hc k hk⟩
theorem StrsAt.shape {P : Nat → Prop} {w : World} {v : Value} {zs : List ByteArray} (h : StrsAt P w v zs) : ∃ A c, v = .slice A zs.length c ∧ zs.length ≤ c ∧ c ≤ maxLen := by
  obtain ⟨A, c, e, h1, h2, _⟩ := h; exact ⟨A, c, e, h1, h2⟩
set_option maxRecDepth 100000 in
set_option maxHeartbeats 1000000 in
theorem sameTexts_any (P Q : Nat → Prop) (zs : List ByteArray) (v1 v2 : Value) (w : World) (h1 : StrsAt P w v1 zs) (h2 : StrsAt Q w v2 zs) :
    Calls Tryd.prog 13 #[v1, v2] w fun e w' => e = .returned (.bool true) ∧ Below w.heap.size w w' := by
  obtain ⟨A1, c1, rfl, hc1, hm1⟩ := h1.shape
  obtain ⟨A2, c2, rfl, hc2, hm2⟩ := h2.shape
  unfold maxLen at hm1 hm2
  have H1 := Lib.hid h1
  have H2 := Lib.hid h2
  have hlen : zs.length ≤ 9223372036854775807 := by omega
  clear h1 h2
  go_enter Tryd.func13, Tryd.ntmps13
  go_wp2_with fail
  go_loopw [5] (fun i wr => ∃ k : Nat, k ≤ zs.length ∧ i = .int .i64 k ∧ Below w.heap.size w wr) (fun i _ => zs.length - (intOf i).toNat)
  case atStart => exact ⟨0, Nat.zero_le _, rfl, Below.refl _ _⟩
  case round =>
    obtain ⟨k, hk, rfl, hb⟩ := hrel
    have HB := Lib.hid hb
    by_cases hlt : k < zs.length
    · obtain ⟨b1, o1, e1, l1, k1⟩ := (H1.out.on hb).at k hlt
      obtain ⟨b2, o2, e2, l2, k2⟩ := (H2.out.on hb).at k hlt
      subst e1; subst e2
      have hki : (k : Int) < (zs.length : Int) := by omega
      have hk0 : (0 : Int) ≤ (k : Int) := by omega
      have HD := Lib.hid hb.drew
      clear hb
      generalize zs[k] = z at *
      go_wp2_with fail
      go_region
      go_wp2
      go_roundw
      case rel => exact ⟨k + 1, by omega, by go_num, HD.out⟩
      case measure => simp [intOf]; omega
    · have hd : decide (k < zs.length) = false := by simpa using hlt
      clear hb
      go_wp2
      go_ret
      exact ⟨rfl, HB.out⟩
end Go.Proofs.YtbdfjboojokgdaaDoor
namespace Go.Proofs.YtbdfjboojokgdaaDoor
open Go.RowKit

theorem ownAll_any (ts : List Ty) (hts : ts.length ≤ 1099511627776) (P : Nat → Prop) (v : Value) (w : World) (h : TysAt P w ts v) : Calls Tryd.prog 104 #[v] w (TysMade w ts) :=
  ownAll_of ts hts (fun t _ => own_any t) P v w h
set_option maxRecDepth 100000 in
set_option maxHeartbeats 1000000 in
theorem app_any (P : Nat → Prop) (f : Ty) (ts : List Ty) (vf vl : Value) (w : World) (hf : TyAt P w f vf) (hl : TysAt P w ts vl) (hlen : ts.length ≤ 1099511627776) : Calls Tryd.prog 62 #[vf, vl] w (TyMade w (f.give ts)) := by
  obtain ⟨f1, n1, s1, A1, l1, c1, rfl⟩ := hf.flat
  obtain ⟨A, c, rfl, hc, hm⟩ := hl.form
  obtain ⟨W, eW, q1, q2, b2, z2⟩ := two_boxes w (.int .i64 f1) (.int .i64 n1) (.string s1) (.slice A1 l1 c1) (.int .i64 0) (.int .i64 0) (.string ⟨#[]⟩) (.slice none 0 0) 25 25
  have HF := Lib.hid hf
  have HL := Lib.hid hl
  have HEW := Lib.hid eW
  have HQ2 := Lib.hid q2
  have HB2 := Lib.hid b2
  clear hf hl eW q1 q2 b2
  go_enter Tryd.func62, Tryd.ntmps62
  go_wp2_with fail
  rw [HEW.out]
  refine (own_any f P _ _ (HF.out.on HB2.out)).mono ?_
  rintro e y1 ⟨v1, rfl, hv1, hb1⟩
  obtain ⟨f2, n2, s2, A2, l2, c2, rfl⟩ := hv1.flat
  have HB1 := Lib.hid (HB2.out.trans (hb1.mono HB2.out.size))
  have HV1 := Lib.hid hv1
  have HW1 := Lib.hid hb1
  clear hv1 hb1
  go_wp2_with fail
  refine (ownAll_any ts hlen P _ _ (HL.out.on HB1.out)).mono ?_
  rintro e y2 ⟨v2, rfl, hv2, hb2⟩
  obtain ⟨A3, c3, rfl, _, _⟩ := hv2.form
  have HB2' := Lib.hid (HB1.out.trans (hb2.mono HB1.out.size))
  have HV2 := Lib.hid (hv2.mono (Q := fun x => w.heap.size + 2 ≤ x) (fun x (hx : y1.heap.size ≤ x) => (by have := HW1.out.size; omega : w.heap.size + 2 ≤ x)))
  have HV1' := Lib.hid ((HV1.out.on hb2).mono (Q := fun x => w.heap.size + 2 ≤ x) (fun x (hx : W.heap.size ≤ x) => (by omega : w.heap.size + 2 ≤ x)))
  have HW2 := Lib.hid (HW1.out.trans (hb2.mono HW1.out.size))
  clear hv2 hb2
  go_wp2_with fail
  refine (give_any _ f ts _ _ _ HV1'.out HV2.out).mono ?_
  rintro e y3 ⟨v3, rfl, hv3, hb3⟩
  obtain ⟨f4, n4, s4, A4, l4, c4, rfl⟩ := hv3.flat
  obtain ⟨z0, z1, z2', z3, z4, z5, z6, z7, z8⟩ := HQ2.out.on (HW2.out.trans (hb3.mono HW2.out.size))
  have HB3 := Lib.hid (HB2'.out.trans (hb3.mono HB2'.out.size))
  have HV3 := Lib.hid (hv3.mono (Q := fun x => w.heap.size + 2 ≤ x) (fun x hx => by
    rcases hx with hx | hx
    · exact hx
    · have := HW2.out.size; exact (by omega : w.heap.size + 2 ≤ x)))
  clear hv3 hb3
  go_wp2
  exact bodyPost_ret (v := .agg #[.int .i64 f4, .int .i64 n4, .string s4, .slice A4 l4 c4]) (by simp [results, Tryd.results62, go_sem, z1, z2', z3, z4]) rfl
    ⟨_, rfl, (HV3.out.keep (.box (fun hx => by omega) _ _ _ _)).mono (fun x (hx : w.heap.size + 2 ≤ x) => (by omega : w.heap.size ≤ x)), below_box HB3.out (by omega) _ _ _ _⟩
set_option maxRecDepth 100000 in
set_option maxHeartbeats 1000000 in
theorem all_any (P : Nat → Prop) (s : ByteArray) (t : Ty) (v : Value) (w : World) (h : TyAt P w t v) : Calls Tryd.prog 22 #[.string s, v] w (TyMade w (.all s t)) := by
  obtain ⟨f1, n1, s1, A1, l1, c1, rfl⟩ := h.flat
  obtain ⟨W, eW, q1, q2, b2, z2⟩ := two_boxes w (.int .i64 f1) (.int .i64 n1) (.string s1) (.slice A1 l1 c1) (.int .i64 0) (.int .i64 0) (.string ⟨#[]⟩) (.slice none 0 0) 25 25
  have HF := Lib.hid h
  have HEW := Lib.hid eW
  have HQ2 := Lib.hid q2
  have HB2 := Lib.hid b2
  clear h eW q1 q2 b2
  go_enter Tryd.func22, Tryd.ntmps22
  go_wp2_with fail
  rw [HEW.out]
  refine (own_any t P _ _ (HF.out.on HB2.out)).mono ?_
  rintro e y1 ⟨v1, rfl, hv1, hb1⟩
  obtain ⟨f2, n2, s2, A2, l2, c2, rfl⟩ := hv1.flat
  have HB1 := Lib.hid (HB2.out.trans (hb1.mono HB2.out.size))
  have HV1 := Lib.hid (hv1.mono (Q := fun x => w.heap.size + 2 ≤ x) (fun x (hx : W.heap.size ≤ x) => (by omega : w.heap.size + 2 ≤ x)))
  have hq := HQ2.out.on hb1
  have HQ := Lib.hid hq
  have hz1 := hb1.size
  obtain ⟨z0, z1, z2', z3, z4, z5, z6, z7, z8⟩ := hq
  clear hv1 hb1
  go_wp2
  have hv2 := HV1.out.keep (.box (b := w.heap.size + 1) (fun hx => by omega) (.int .i64 5) (.int .i64 0) (.string s) (.slice (some ⟨y1.heap.size, 0, none⟩) 1 1))
  have hq2 := HQ.out.put (.int .i64 5) (.int .i64 0) (.string s) (.slice (some ⟨y1.heap.size, 0, none⟩) 1 1)
  have hb2 := below_box HB1.out (b := w.heap.size + 1) (by omega) (.int .i64 5) (.int .i64 0) (.string s) (.slice (some ⟨y1.heap.size, 0, none⟩) 1 1)
  have hzz : ((((y1.setCell ⟨w.heap.size + 1, 0, none⟩ (.int .i64 5)).setCell ⟨w.heap.size + 1, 1, none⟩ (.int .i64 0)).setCell ⟨w.heap.size + 1, 2, none⟩ (.string s)).setCell ⟨w.heap.size + 1, 3, none⟩ (.slice (some ⟨y1.heap.size, 0, none⟩) 1 1)).heap.size = y1.heap.size := by simp
  generalize (((y1.setCell ⟨w.heap.size + 1, 0, none⟩ (.int .i64 5)).setCell ⟨w.heap.size + 1, 1, none⟩ (.int .i64 0)).setCell ⟨w.heap.size + 1, 2, none⟩ (.string s)).setCell ⟨w.heap.size + 1, 3, none⟩ (.slice (some ⟨y1.heap.size, 0, none⟩) 1 1) = V at *
  have hq3 := hq2.on (below_new V (.cells #[.int .i64 f2, .int .i64 n2, .string s2, .slice A2 l2 c2] 25))
  have hv3 := all_new hv2 s 25
  have hb3 := hb2.alloc hb2.size (.cells #[.int .i64 f2, .int .i64 n2, .string s2, .slice A2 l2 c2] 25)
  rw [hzz] at hv3
  generalize V.alloc (.cells #[.int .i64 f2, .int .i64 n2, .string s2, .slice A2 l2 c2] 25) = V2 at *
  obtain ⟨_, u1, u2, u3, u4, _⟩ := hq3
  refine bodyPost_ret (v := .agg #[.int .i64 5, .int .i64 0, .string s, .slice (some ⟨y1.heap.size, 0, none⟩) 1 1]) (by simp [results, Tryd.results22, go_sem, u1, u2, u3, u4]) rfl ⟨_, rfl, hv3.mono (fun x hx => ?_), hb3⟩
  rcases hx with hx | hx
  · exact (by omega : w.heap.size ≤ x)
  · exact (by omega : w.heap.size ≤ x)
/-- A struct whose Form is 0. -/
def ZeroAt (v : Value) : Prop := ∃ (A : Option Addr) (c : Nat), v = .agg #[.int .i64 0, .int .i64 0, .string ⟨#[]⟩, .slice A 0 c]
set_option maxRecDepth 100000 in
set_option maxHeartbeats 1000000 in
theorem own_zero (w : World) : Calls Tryd.prog 64 #[.agg #[.int .i64 0, .int .i64 0, .string ⟨#[]⟩, .slice none 0 0]] w fun e w' => (∃ A c, e = .returned (.agg #[.int .i64 0, .int .i64 0, .string ⟨#[]⟩, .slice A 0 c])) ∧ Below w.heap.size w w' := by
  obtain ⟨W, eW, q1, q2, b2, z2⟩ := two_boxes w (.int .i64 0) (.int .i64 0) (.string ⟨#[]⟩) (.slice none 0 0) (.int .i64 0) (.int .i64 0) (.string ⟨#[]⟩) (.slice none 0 0) 25 25
  have HEW := Lib.hid eW
  have HQ1 := Lib.hid q1
  have HQ2 := Lib.hid q2
  have HB2 := Lib.hid b2
  clear eW q1 q2 b2
  go_enter Tryd.func64, Tryd.ntmps64
  go_wp2_with fail
  rw [HEW.out]
  refine (ownAll_any [] (by simp) (fun _ => True) _ _ (tys_nil _ _ none 0 (Nat.zero_le _))).mono ?_
  rintro e y1 ⟨v1, rfl, hv1, hb1⟩
  obtain ⟨A1, c1, rfl, _, _⟩ := hv1.form
  obtain ⟨x0, x1, x2, x3, x4, x5, x6, x7, x8⟩ := HQ1.out.on hb1
  obtain ⟨z0, z1, z2', z3, z4, z5, z6, z7, z8⟩ := HQ2.out.on hb1
  have HB := Lib.hid (HB2.out.trans (hb1.mono HB2.out.size))
  clear hv1 hb1
  go_wp2
  exact bodyPost_ret (v := .agg #[.int .i64 0, .int .i64 0, .string ⟨#[]⟩, .slice A1 0 c1]) (by simp [results, Tryd.results64, go_sem, z1, z2', z3, z4]) rfl ⟨⟨A1, c1, rfl⟩, below_box (HB.out.setCell (Nat.le_refl _) _) (by omega) _ _ _ _⟩
/-- What Split told. -/
def SplitRes (w : World) (t : Ty) (e : Ending) (w' : World) : Prop := Below w.heap.size w w' ∧
  ((t.sides = none ∧ ∃ A1 c1 A2 c2, e = .returned (.tuple #[.agg #[.int .i64 0, .int .i64 0, .string ⟨#[]⟩, .slice A1 0 c1], .agg #[.int .i64 0, .int .i64 0, .string ⟨#[]⟩, .slice A2 0 c2], .bool false])) ∨
   ∃ (a b : Ty) (f1 n1 : Int) (s1 : ByteArray) (A1 : Option Addr) (l1 c1 : Nat) (f2 n2 : Int) (s2 : ByteArray) (A2 : Option Addr) (l2 c2 : Nat), t.sides = some (a, b) ∧ e = .returned (.tuple #[.agg #[.int .i64 f1, .int .i64 n1, .string s1, .slice A1 l1 c1], .agg #[.int .i64 f2, .int .i64 n2, .string s2, .slice A2 l2 c2], .bool true]) ∧
     TyAt (fun _ => True) w' a (.agg #[.int .i64 f1, .int .i64 n1, .string s1, .slice A1 l1 c1]) ∧ TyAt (fun _ => True) w' b (.agg #[.int .i64 f2, .int .i64 n2, .string s2, .slice A2 l2 c2]))
end Go.Proofs.YtbdfjboojokgdaaDoor
