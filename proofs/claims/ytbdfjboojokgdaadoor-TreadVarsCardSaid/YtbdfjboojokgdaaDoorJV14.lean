/- The contracts of types.App, All and Split. Condition: at most 2^40 arguments. The contracts of tread's atom and inBrackets (chapter 5). Conditions: at most 2^40 tokens, the last one an end; symbols bear no number. The contract of tread's inBrackets (chapter 5). Conditions: at most 2^40 tokens; symbols bear no number. -/
import Derived.Test.YtbdfjboojokgdaaDoorJV04
import Derived.Test.YtbdfjboojokgdaaDoorJV13
namespace Go.Proofs.YtbdfjboojokgdaaDoor
open Go.RowKit

theorem ownAll_any (ts : List Ty) (hts : ts.length ≤ 1099511627776) (P : Nat → Prop) (v : Value) (w : World) (h : TysAt P w ts v) : Calls Tryd.prog 104 #[v] w (TysMade w ts) :=
  ownAll_of ts hts (fun t _ => own_any t) P v w h
set_option maxRecDepth 100000 in
set_option maxHeartbeats 1000000 in
theorem app_any (P : Nat → Prop) (f : Ty) (ts : List Ty) (vf vl : Value) (w : World) (hf : TyAt P w f vf) (hl : TysAt P w ts vl) (hlen : ts.length ≤ 1099511627776) : Calls Tryd.prog 62 #[vf, vl] w (TyMade w (f.give ts)) := by
  obtain ⟨f1, n1, s1, A1, l1, c1, rfl⟩ := hf.flat
  obtain ⟨A, c, rfl, hc, hm⟩ := hl.form
  obtain ⟨W, eW, q1, q2, b2, z2⟩ := two_boxes w (.int .i64 f1) (.int .i64 n1) (.string s1) (.slice A1 l1 c1) (.int .i64 0) (.int .i64 0) (.string ⟨#[]⟩) (.slice none 0 0) 25 25
  have HF := Lib.hid hf
  have HL := Lib.hid hl
  have HEW := Lib.hid eW
  have HQ2 := Lib.hid q2
  have HB2 := Lib.hid b2
  clear hf hl eW q1 q2 b2
  go_enter Tryd.func62, Tryd.ntmps62
  go_wp2_with fail
  rw [HEW.out]
  refine (own_any f P _ _ (HF.out.on HB2.out)).mono ?_
  rintro e y1 ⟨v1, rfl, hv1, hb1⟩
  obtain ⟨f2, n2, s2, A2, l2, c2, rfl⟩ := hv1.flat
  have HB1 := Lib.hid (HB2.out.trans (hb1.mono HB2.out.size))
  have HV1 := Lib.hid hv1
  have HW1 := Lib.hid hb1
  clear hv1 hb1
  go_wp2_with fail
  refine (ownAll_any ts hlen P _ _ (HL.out.on HB1.out)).mono ?_
  rintro e y2 ⟨v2, rfl, hv2, hb2⟩
  obtain ⟨A3, c3, rfl, _, _⟩ := hv2.form
  have HB2' := Lib.hid (HB1.out.trans (hb2.mono HB1.out.size))
  have HV2 := Lib.hid (hv2.mono (Q := fun x => w.heap.size + 2 ≤ x) (fun x (hx : y1.heap.size ≤ x) => (by have := HW1.out.size; omega : w.heap.size + 2 ≤ x)))
  have HV1' := Lib.hid ((HV1.out.on hb2).mono (Q := fun x => w.heap.size + 2 ≤ x) (fun x (hx : W.heap.size ≤ x) => (by omega : w.heap.size + 2 ≤ x)))
  have HW2 := Lib.hid (HW1.out.trans (hb2.mono HW1.out.size))
  clear hv2 hb2
  go_wp2_with fail
  refine (give_any _ f ts _ _ _ HV1'.out HV2.out).mono ?_
  rintro e y3 ⟨v3, rfl, hv3, hb3⟩
  obtain ⟨f4, n4, s4, A4, l4, c4, rfl⟩ := hv3.flat
  obtain ⟨z0, z1, z2', z3, z4, z5, z6, z7, z8⟩ := HQ2.out.on (HW2.out.trans (hb3.mono HW2.out.size))
  have HB3 := Lib.hid (HB2'.out.trans (hb3.mono HB2'.out.size))
  have HV3 := Lib.hid (hv3.mono (Q := fun x => w.heap.size + 2 ≤ x) (fun x hx => by
    rcases hx with hx | hx
    · exact hx
    · have := HW2.out.size; exact (by omega : w.heap.size + 2 ≤ x)))
  clear hv3 hb3
  go_wp2
  exact bodyPost_ret (v := .agg #[.int .i64 f4, .int .i64 n4, .string s4, .slice A4 l4 c4]) (by simp [results, Tryd.results62, go_sem, z1, z2', z3, z4]) rfl
    ⟨_, rfl, (HV3.out.keep (.box (fun hx => by omega) _ _ _ _)).mono (fun x (hx : w.heap.size + 2 ≤ x) => (by omega : w.heap.size ≤ x)), below_box HB3.out (by omega) _ _ _ _⟩
set_option maxRecDepth 100000 in
set_option maxHeartbeats 1000000 in
theorem all_any (P : Nat → Prop) (s : ByteArray) (t : Ty) (v : Value) (w : World) (h : TyAt P w t v) : Calls Tryd.prog 22 #[.string s, v] w (TyMade w (.all s t)) := by
  obtain ⟨f1, n1, s1, A1, l1, c1, rfl⟩ := h.flat
  obtain ⟨W, eW, q1, q2, b2, z2⟩ := two_boxes w (.int .i64 f1) (.int .i64 n1) (.string s1) (.slice A1 l1 c1) (.int .i64 0) (.int .i64 0) (.string ⟨#[]⟩) (.slice none 0 0) 25 25
  have HF := Lib.hid h
  have HEW := Lib.hid eW
  have HQ2 := Lib.hid q2
  have HB2 := Lib.hid b2
  clear h eW q1 q2 b2
  go_enter Tryd.func22, Tryd.ntmps22
  go_wp2_with fail
  rw [HEW.out]
  refine (own_any t P _ _ (HF.out.on HB2.out)).mono ?_
  rintro e y1 ⟨v1, rfl, hv1, hb1⟩
  obtain ⟨f2, n2, s2, A2, l2, c2, rfl⟩ := hv1.flat
  have HB1 := Lib.hid (HB2.out.trans (hb1.mono HB2.out.size))
  have HV1 := Lib.hid (hv1.mono (Q := fun x => w.heap.size + 2 ≤ x) (fun x (hx : W.heap.size ≤ x) => (by omega : w.heap.size + 2 ≤ x)))
  have hq := HQ2.out.on hb1
  have HQ := Lib.hid hq
  have hz1 := hb1.size
  obtain ⟨z0, z1, z2', z3, z4, z5, z6, z7, z8⟩ := hq
  clear hv1 hb1
  go_wp2
  have hv2 := HV1.out.keep (.box (b := w.heap.size + 1) (fun hx => by omega) (.int .i64 5) (.int .i64 0) (.string s) (.slice (some ⟨y1.heap.size, 0, none⟩) 1 1))
  have hq2 := HQ.out.put (.int .i64 5) (.int .i64 0) (.string s) (.slice (some ⟨y1.heap.size, 0, none⟩) 1 1)
  have hb2 := below_box HB1.out (b := w.heap.size + 1) (by omega) (.int .i64 5) (.int .i64 0) (.string s) (.slice (some ⟨y1.heap.size, 0, none⟩) 1 1)
  have hzz : ((((y1.setCell ⟨w.heap.size + 1, 0, none⟩ (.int .i64 5)).setCell ⟨w.heap.size + 1, 1, none⟩ (.int .i64 0)).setCell ⟨w.heap.size + 1, 2, none⟩ (.string s)).setCell ⟨w.heap.size + 1, 3, none⟩ (.slice (some ⟨y1.heap.size, 0, none⟩) 1 1)).heap.size = y1.heap.size := by simp
  generalize (((y1.setCell ⟨w.heap.size + 1, 0, none⟩ (.int .i64 5)).setCell ⟨w.heap.size + 1, 1, none⟩ (.int .i64 0)).setCell ⟨w.heap.size + 1, 2, none⟩ (.string s)).setCell ⟨w.heap.size + 1, 3, none⟩ (.slice (some ⟨y1.heap.size, 0, none⟩) 1 1) = V at *
  have hq3 := hq2.on (below_new V (.cells #[.int .i64 f2, .int .i64 n2, .string s2, .slice A2 l2 c2] 25))
  have hv3 := all_new hv2 s 25
  have hb3 := hb2.alloc hb2.size (.cells #[.int .i64 f2, .int .i64 n2, .string s2, .slice A2 l2 c2] 25)
  rw [hzz] at hv3
  generalize V.alloc (.cells #[.int .i64 f2, .int .i64 n2, .string s2, .slice A2 l2 c2] 25) = V2 at *
  obtain ⟨_, u1, u2, u3, u4, _⟩ := hq3
  refine bodyPost_ret (v := .agg #[.int .i64 5, .int .i64 0, .string s, .slice (some ⟨y1.heap.size, 0, none⟩) 1 1]) (by simp [results, Tryd.results22, go_sem, u1, u2, u3, u4]) rfl ⟨_, rfl, hv3.mono (fun x hx => ?_), hb3⟩
  rcases hx with hx | hx
  · exact (by omega : w.heap.size ≤ x)
  · exact (by omega : w.heap.size ≤ x)
/-- A struct whose Form is 0. -/
def ZeroAt (v : Value) : Prop := ∃ (A : Option Addr) (c : Nat), v = .agg #[.int .i64 0, .int .i64 0, .string ⟨#[]⟩, .slice A 0 c]
set_option maxRecDepth 100000 in
set_option maxHeartbeats 1000000 in
theorem own_zero (w : World) : Calls Tryd.prog 64 #[.agg #[.int .i64 0, .int .i64 0, .string ⟨#[]⟩, .slice none 0 0]] w fun e w' => (∃ A c, e = .returned (.agg #[.int .i64 0, .int .i64 0, .string ⟨#[]⟩, .slice A 0 c])) ∧ Below w.heap.size w w' := by
  obtain ⟨W, eW, q1, q2, b2, z2⟩ := two_boxes w (.int .i64 0) (.int .i64 0) (.string ⟨#[]⟩) (.slice none 0 0) (.int .i64 0) (.int .i64 0) (.string ⟨#[]⟩) (.slice none 0 0) 25 25
  have HEW := Lib.hid eW
  have HQ1 := Lib.hid q1
  have HQ2 := Lib.hid q2
  have HB2 := Lib.hid b2
  clear eW q1 q2 b2
  go_enter Tryd.func64, Tryd.ntmps64
  go_wp2_with fail
  rw [HEW.out]
  refine (ownAll_any [] (by simp) (fun _ => True) _ _ (tys_nil _ _ none 0 (Nat.zero_le _))).mono ?_
  rintro e y1 ⟨v1, rfl, hv1, hb1⟩
  obtain ⟨A1, c1, rfl, _, _⟩ := hv1.form
  obtain ⟨x0, x1, x2, x3, x4, x5, x6, x7, x8⟩ := HQ1.out.on hb1
  obtain ⟨z0, z1, z2', z3, z4, z5, z6, z7, z8⟩ := HQ2.out.on hb1
  have HB := Lib.hid (HB2.out.trans (hb1.mono HB2.out.size))
  clear hv1 hb1
  go_wp2
  exact bodyPost_ret (v := .agg #[.int .i64 0, .int .i64 0, .string ⟨#[]⟩, .slice A1 0 c1]) (by simp [results, Tryd.results64, go_sem, z1, z2', z3, z4]) rfl ⟨⟨A1, c1, rfl⟩, below_box (HB.out.setCell (Nat.le_refl _) _) (by omega) _ _ _ _⟩
/-- What Split told. -/
def SplitRes (w : World) (t : Ty) (e : Ending) (w' : World) : Prop := Below w.heap.size w w' ∧
  ((t.sides = none ∧ ∃ A1 c1 A2 c2, e = .returned (.tuple #[.agg #[.int .i64 0, .int .i64 0, .string ⟨#[]⟩, .slice A1 0 c1], .agg #[.int .i64 0, .int .i64 0, .string ⟨#[]⟩, .slice A2 0 c2], .bool false])) ∨
   ∃ (a b : Ty) (f1 n1 : Int) (s1 : ByteArray) (A1 : Option Addr) (l1 c1 : Nat) (f2 n2 : Int) (s2 : ByteArray) (A2 : Option Addr) (l2 c2 : Nat), t.sides = some (a, b) ∧ e = .returned (.tuple #[.agg #[.int .i64 f1, .int .i64 n1, .string s1, .slice A1 l1 c1], .agg #[.int .i64 f2, .int .i64 n2, .string s2, .slice A2 l2 c2], .bool true]) ∧
     TyAt (fun _ => True) w' a (.agg #[.int .i64 f1, .int .i64 n1, .string s1, .slice A1 l1 c1]) ∧ TyAt (fun _ => True) w' b (.agg #[.int .i64 f2, .int .i64 n2, .string s2, .slice A2 l2 c2]))
end Go.Proofs.YtbdfjboojokgdaaDoor
namespace Go.Proofs.YtbdfjboojokgdaaDoor
open Go.RowKit Lx

/-- What a method of the reader told. -/
def ReadRes (toks : List Tok) (rb g cap o : Nat) (res : Got) (w : World) (e : Ending) (w' : World) : Prop :=
  match res with
  | .ok t q => ∃ tv, e = .returned (.tuple #[tv, .agg #[.int .i64 0, .int .i64 0]]) ∧ TyAt (fun b => w.heap.size ≤ b) w' t tv ∧ Rd toks rb g cap (toks.length - q.length) o w' ∧ Fr (fun b => b = rb) w w'
  | .no ec p => e = .returned (.tuple #[.agg #[.int .i64 0, .int .i64 0, .string ⟨#[]⟩, .slice none 0 0], .agg #[.int .i64 ec, .int .i64 p]]) ∧ (∃ i' o', Rd toks rb g cap i' o' w') ∧ Fr (fun b => b = rb) w w'
def AtomIs (toks : List Tok) (rb g cap n : Nat) : Prop := ∀ (i o : Nat) (w : World) (res : Got), Rd toks rb g cap i o w → o ≤ 40 → atomN n (toks.drop i) o = some res → Calls Tryd.prog 89 #[.pointer (some ⟨rb, 0, none⟩)] w (ReadRes toks rb g cap o res w)
def TypeIs (toks : List Tok) (rb g cap n : Nat) : Prop := ∀ (i o : Nat) (w : World) (res : Got), Rd toks rb g cap i o w → o ≤ 40 → typeN n (toks.drop i) o = some res → Calls Tryd.prog 84 #[.pointer (some ⟨rb, 0, none⟩)] w (ReadRes toks rb g cap o res w)
theorem suff_all : ∀ n : Nat, (∀ l o t q, atomN n l o = some (.ok t q) → q <:+ l ∧ q.length < l.length) ∧ (∀ x l o t q, appsN n x l o = some (.ok t q) → q <:+ l ∧ q ≠ []) ∧ (∀ l o t q, typeN n l o = some (.ok t q) → q <:+ l ∧ q.length < l.length ∧ q ≠ [])
  | 0 => ⟨fun _ _ _ _ h => by simp [atomN] at h, fun _ _ _ _ _ h => by simp [appsN] at h, fun _ _ _ _ h => by simp [typeN] at h⟩
  | n + 1 => by
    obtain ⟨iha, ihp, iht⟩ := suff_all n
    refine ⟨fun l o t q h => ?_, fun x l o t q h => ?_, fun l o t q h => ?_⟩
    · match l, h with
      | [], h => simp [atomN] at h
      | c :: r, h =>
        simp only [atomN] at h
        split at h
        · injection h with h; injection h with h1 h2; subst h2; exact ⟨List.suffix_cons _ _, by simp⟩
        · split at h
          · injection h with h; injection h with h1 h2; subst h2; exact ⟨List.suffix_cons _ _, by simp⟩
          · split at h
            · injection h with h; cases h
            · split at h
              · injection h with h; cases h
              · split at h
                · rename_i x d s he
                  split at h
                  · injection h with h; injection h with h1 h2; subst h2
                    have h9 := (iht _ _ _ _ he).1
                    have := h9.length_le
                    exact ⟨((List.suffix_cons _ _).trans h9).trans (List.suffix_cons _ _), by simp at this ⊢; omega⟩
                  · injection h with h; cases h
                · cases h
                · injection h with h; cases h
                · cases h
    · match l, h with
      | [], h => simp [appsN] at h
      | c :: r, h =>
        simp only [appsN] at h
        split at h
        · split at h
          · rename_i a s he
            have h1 := ihp _ _ _ _ _ h
            exact ⟨h1.1.trans (iha _ _ _ _ he).1, h1.2⟩
          · injection h with h; cases h
          · cases h
        · injection h with h; injection h with h1 h2; subst h2; exact ⟨List.suffix_refl _, by simp⟩
    · simp only [typeN] at h
      split at h
      · rename_i x s he
        have h1 := iha _ _ _ _ he
        split at h
        · rename_i y d u hp
          have h2 := ihp _ _ _ _ _ hp
          have h2l := h2.1.length_le
          split at h
          · split at h
            · rename_i z u' ht
              injection h with h; injection h with h3 h4; subst h4
              have h5 := iht _ _ _ _ ht
              have h5l := h5.1.length_le
              exact ⟨((h5.1.trans (List.suffix_cons _ _)).trans h2.1).trans h1.1, by simp at h2l; omega, h5.2.2⟩
            · injection h with h; cases h
            · cases h
          · injection h with h; injection h with h3 h4; subst h4
            exact ⟨h2.1.trans h1.1, by omega, by simp⟩
        · cases h
        · injection h with h; cases h
        · cases h
      · injection h with h; cases h
      · cases h
theorem drop_suf {l q : List Tok} {i : Nat} (h : q <:+ l.drop i) : l.drop (l.length - q.length) = q := (List.suffix_iff_eq_drop.1 (h.trans (List.drop_suffix _ _))).symm
/-- What is behind, by its place. -/
theorem drop_at {l q : List Tok} {i : Nat} {t : Tok} (h : l.drop i = t :: q) : ∃ hi : i < l.length, l[i] = t ∧ l.drop (i + 1) = q ∧ l.length - q.length = i + 1 := by
  have hi : i < l.length := by
    rcases Nat.lt_or_ge i l.length with h9 | h9
    · exact h9
    · rw [List.drop_eq_nil_of_le h9] at h; cases h
  have h1 := List.drop_eq_getElem_cons hi
  rw [h1] at h
  injection h with h2 h3
  refine ⟨hi, h2, h3, ?_⟩
  rw [← h3, List.length_drop]; omega
theorem nil2 (w : World) : ∃ W, (w.alloc (.cells #[.int .i64 0, .int .i64 0, .string ⟨#[]⟩, .slice none 0 0] 25)).alloc (.cells #[.int .i64 0, .int .i64 0] 50) = W ∧ W.heap[w.heap.size]? = some (.cells #[.int .i64 0, .int .i64 0, .string ⟨#[]⟩, .slice none 0 0] 25) ∧ W.heap[w.heap.size + 1]? = some (.cells #[.int .i64 0, .int .i64 0] 50) ∧ Below w.heap.size w W ∧ W.heap.size = w.heap.size + 2 := by
  refine ⟨_, rfl, ?_, ?_, below2 w _ _, by simp⟩
  · have h := (MapKept.heap_alloc w (.cells #[.int .i64 0, .int .i64 0, .string ⟨#[]⟩, .slice none 0 0] 25)).1
    exact ((below_new _ _).block _ (by simp)).trans h
  · have h := (MapKept.heap_alloc (w.alloc (.cells #[.int .i64 0, .int .i64 0, .string ⟨#[]⟩, .slice none 0 0] 25)) (.cells #[.int .i64 0, .int .i64 0] 50)).1
    simpa using h
theorem four_cells {w : World} {b : Nat} {v1 v2 v3 v4 : Value} {t : TypeId} (h : w.heap[b]? = some (.cells #[v1, v2, v3, v4] t)) : w.cell? ⟨b, 0, none⟩ = some v1 ∧ w.cell? ⟨b, 1, none⟩ = some v2 ∧ w.cell? ⟨b, 2, none⟩ = some v3 ∧ w.cell? ⟨b, 3, none⟩ = some v4 ∧ w.frozen? ⟨b, 0, none⟩ = false ∧ w.frozen? ⟨b, 1, none⟩ = false ∧ w.frozen? ⟨b, 2, none⟩ = false ∧ w.frozen? ⟨b, 3, none⟩ = false ∧ b < w.heap.size :=
  ⟨by simp [World.cell?, h], by simp [World.cell?, h], by simp [World.cell?, h], by simp [World.cell?, h], by simp [World.frozen?, h], by simp [World.frozen?, h], by simp [World.frozen?, h], by simp [World.frozen?, h], lt_of_block h⟩
theorem ty_fr {w w' : World} {t : Ty} {v : Value} {rb k : Nat} (h : TyAt (fun b => k ≤ b) w t v) (hf : Fr (fun b => b = rb) w w') (hk : rb < k) : TyAt (fun b => k ≤ b) w' t v :=
  h.keep ⟨hf.size, fun b off hb hlt => World.cell?_of_block (a := ⟨b, off, none⟩) (hf.block b hlt (fun e => by omega))⟩
/-- Six stores: a type and a place into their boxes. -/
def put6 (w : World) (b c : Nat) (x0 x1 x2 x3 y0 y1 : Value) : World := (((((w.setCell ⟨b, 0, none⟩ x0).setCell ⟨b, 1, none⟩ x1).setCell ⟨b, 2, none⟩ x2).setCell ⟨b, 3, none⟩ x3).setCell ⟨c, 0, none⟩ y0).setCell ⟨c, 1, none⟩ y1
theorem put6_block (w : World) (b c : Nat) (x0 x1 x2 x3 y0 y1 : Value) (k : Nat) (hb : k ≠ b) (hc : k ≠ c) : (put6 w b c x0 x1 x2 x3 y0 y1).heap[k]? = w.heap[k]? := by
  unfold put6
  rw [Below.heap_setCell _ _ _ _ hc, Below.heap_setCell _ _ _ _ hc, Below.heap_setCell _ _ _ _ hb, Below.heap_setCell _ _ _ _ hb, Below.heap_setCell _ _ _ _ hb, Below.heap_setCell _ _ _ _ hb]
theorem put6_size (w : World) (b c : Nat) (x0 x1 x2 x3 y0 y1 : Value) : (put6 w b c x0 x1 x2 x3 y0 y1).heap.size = w.heap.size := by simp [put6]
theorem Rd.fr {toks : List Tok} {rb g cap i o : Nat} {w w' : World} (h : Rd toks rb g cap i o w) (hs : w.heap.size ≤ w'.heap.size) (h1 : w'.heap[rb]? = w.heap[rb]?) (h2 : w'.heap[g]? = w.heap[g]?) : Rd toks rb g cap i o w' :=
  ⟨h1.trans h.blk, h.ne, Nat.lt_of_lt_of_le h.lt hs, h.toks.block h2⟩
theorem put6_zero (w : World) (b c : Nat) (x0 x1 x2 x3 y0 y1 : Value) : Below 0 w (put6 w b c x0 x1 x2 x3 y0 y1) := by
  unfold put6
  exact ((((((Below.refl 0 w).setCell (Nat.zero_le _) _).setCell (Nat.zero_le _) _).setCell (Nat.zero_le _) _).setCell (Nat.zero_le _) _).setCell (Nat.zero_le _) _).setCell (Nat.zero_le _) _
theorem end_of {toks : List Tok} {rb g cap i o k : Nat} {w0 w V : World} (hr : Rd toks rb g cap i o w) (hf : Fr (fun b => b = rb) w0 w) (hk : w0.heap.size ≤ k) (hg : g < w0.heap.size) (hrb : rb < w0.heap.size) (hb : ∀ j, j ≠ k → j ≠ k + 1 → V.heap[j]? = w.heap[j]?) (hz : V.heap.size = w.heap.size) (e1 : V.os = w.os) (e2 : V.tape = w.tape) (e3 : V.output = w.output) :
    Rd toks rb g cap i o V ∧ Fr (fun b => b = rb) w0 V := by
  have hs := hf.size
  exact ⟨hr.fr (by omega) (hb rb (by omega) (by omega)) (hb g (by omega) (by omega)), e1.trans hf.os, e2.trans hf.tape, e3.trans hf.output, by omega, fun j hj hn => (hb j (by omega) (by omega)).trans (hf.block j hj hn)⟩
/-- What the end of such a method leaves. -/
theorem put6_end {toks : List Tok} {rb g cap i o k : Nat} {w0 w : World} (hr : Rd toks rb g cap i o w) (hf : Fr (fun b => b = rb) w0 w) (hk : w0.heap.size ≤ k) (hg : g < w0.heap.size) (hrb : rb < w0.heap.size) (x0 x1 x2 x3 y0 y1 : Value) :
    Rd toks rb g cap i o (put6 w k (k + 1) x0 x1 x2 x3 y0 y1) ∧ Fr (fun b => b = rb) w0 (put6 w k (k + 1) x0 x1 x2 x3 y0 y1) :=
  end_of hr hf hk hg hrb (fun j h1 h2 => put6_block w k (k + 1) x0 x1 x2 x3 y0 y1 j h1 h2) (put6_size w k (k + 1) x0 x1 x2 x3 y0 y1) (put6_zero w k (k + 1) x0 x1 x2 x3 y0 y1).os (put6_zero w k (k + 1) x0 x1 x2 x3 y0 y1).tape (put6_zero w k (k + 1) x0 x1 x2 x3 y0 y1).output
theorem put6_ty {w : World} {t : Ty} {v : Value} {k c : Nat} (h : TyAt (fun b => c ≤ b) w t v) (hk : k + 1 < c) (x0 x1 x2 x3 y0 y1 : Value) : TyAt (fun b => c ≤ b) (put6 w k (k + 1) x0 x1 x2 x3 y0 y1) t v :=
  h.keep ⟨by rw [put6_size]; exact Nat.le_refl _, fun b off (hb : c ≤ b) _ => World.cell?_of_block (a := ⟨b, off, none⟩) (put6_block w k (k + 1) x0 x1 x2 x3 y0 y1 b (by omega) (by omega))⟩
end Go.Proofs.YtbdfjboojokgdaaDoor
namespace Go.Proofs.YtbdfjboojokgdaaDoor
open Go.RowKit Lx

theorem err_all : ∀ n : Nat, (∀ l o e p, atomN n l o = some (.no e p) → e = 12 ∨ e = 13) ∧ (∀ x l o e p, appsN n x l o = some (.no e p) → e = 12 ∨ e = 13) ∧ (∀ l o e p, typeN n l o = some (.no e p) → e = 12 ∨ e = 13)
  | 0 => ⟨fun _ _ _ _ h => by simp [atomN] at h, fun _ _ _ _ _ h => by simp [appsN] at h, fun _ _ _ _ h => by simp [typeN] at h⟩
  | n + 1 => by
    obtain ⟨iha, ihp, iht⟩ := err_all n
    refine ⟨fun l o e p h => ?_, fun x l o e p h => ?_, fun l o e p h => ?_⟩
    · match l, h with
      | [], h => simp [atomN] at h
      | c :: r, h =>
        simp only [atomN] at h
        split at h
        · injection h with h; cases h
        · split at h
          · injection h with h; cases h
          · split at h
            · injection h with h; injection h with h1 h2; exact .inl h1.symm
            · split at h
              · injection h with h; injection h with h1 h2; exact .inr h1.symm
              · split at h
                · split at h
                  · injection h with h; cases h
                  · injection h with h; injection h with h1 h2; exact .inl h1.symm
                · cases h
                · rename_i e' p' he
                  injection h with h; injection h with h1 h2; subst h1; exact iht _ _ _ _ he
                · cases h
    · match l, h with
      | [], h => simp [appsN] at h
      | c :: r, h =>
        simp only [appsN] at h
        split at h
        · split at h
          · exact ihp _ _ _ _ _ h
          · rename_i e' p' he
            injection h with h; injection h with h1 h2; subst h1; exact iha _ _ _ _ he
          · cases h
        · injection h with h; cases h
    · simp only [typeN] at h
      split at h
      · split at h
        · split at h
          · split at h
            · injection h with h; cases h
            · rename_i e' p' he
              injection h with h; injection h with h1 h2; subst h1; exact iht _ _ _ _ he
            · cases h
          · injection h with h; cases h
        · cases h
        · rename_i e' p' he
          injection h with h; injection h with h1 h2; subst h1; exact ihp _ _ _ _ _ he
        · cases h
      · rename_i e' p' he
        injection h with h; injection h with h1 h2; subst h1; exact iha _ _ _ _ he
      · cases h
theorem pair_cells {w : World} {b : Nat} {v1 v2 : Value} {t : TypeId} (h : w.heap[b]? = some (.cells #[v1, v2] t)) : w.cell? ⟨b, 0, none⟩ = some v1 ∧ w.cell? ⟨b, 1, none⟩ = some v2 ∧ w.frozen? ⟨b, 0, none⟩ = false ∧ w.frozen? ⟨b, 1, none⟩ = false ∧ b < w.heap.size :=
  ⟨by simp [World.cell?, h], by simp [World.cell?, h], by simp [World.frozen?, h], by simp [World.frozen?, h], lt_of_block h⟩
/-- What inBrackets tells of what stands behind the bracket. -/
def inB (n : Nat) (p : Nat) (q : List Tok) (o : Nat) : Option Got :=
  if 40 ≤ o then some (.no 13 p)
  else match typeN n q (o + 1) with
    | some (.ok x (c :: r)) => if isSym c [41] = true then some (.ok x r) else some (.no 12 c.place)
    | some (.ok _ []) => none
    | some (.no e p) => some (.no e p)
    | none => none
theorem atomN_bracket {n : Nat} {t : Tok} {q : List Tok} {o : Nat} (h2 : t.kind ≠ 2) (h1 : t.kind ≠ 1) (hs : isSym t [40] = true) : atomN (n + 1) (t :: q) o = inB n t.place q o := by
  unfold inB
  simp only [atomN]
  rw [if_neg h2, if_neg h1, if_neg (by rw [hs]; simp)]
  cases typeN n q (o + 1) with
  | none => rfl
  | some g =>
    cases g with
    | no e p => rfl
    | ok x r => cases r <;> rfl
set_option maxRecDepth 100000 in
set_option maxHeartbeats 1000000 in
theorem inb_deep (toks : List Tok) (rb g cap i : Nat) (w : World) (t : Tok) (q : List Tok) (h : Rd toks rb g cap i 40 w) (hd : toks.drop i = t :: q) :
    Calls Tryd.prog 131 #[.pointer (some ⟨rb, 0, none⟩)] w (ReadRes toks rb g cap 40 (.no 13 t.place) w) := by
  obtain ⟨hi, ht, _, _⟩ := drop_at hd
  obtain ⟨W, eW, k0, k1, b1, z1⟩ := nil2 w
  have hW := h.on b1
  obtain ⟨p0, p1, p2, p3, p4, p5, p6⟩ := three_cells hW.blk
  have HT := Lib.hid (token_any toks rb g cap i 40 W hW hi)
  rw [ht] at HT
  have HE := Lib.hid eW
  have HB := Lib.hid b1
  have HR := Lib.hid hW
  have hg := h.lt
  have hrb := h.rb_lt
  have HK0 := Lib.hid k0
  have HK1 := Lib.hid k1
  have HRF := Lib.hid (fun w => refusal_any 13 t w)
  have HZ1 := Lib.hid z1
  clear eW b1 hW h k0 k1 hd ht z1
  go_enter Tryd.func131, Tryd.ntmps131
  go_upto_region 1 with (fail)
  rw [HE.out]
  go_wp2_with fail
  (with_reducible refine HT.out.mono ?_)
  rintro e w1 ⟨rfl, hb1⟩
  have HB1 := Lib.hid hb1
  clear hb1
  go_wp2_with fail
  (with_reducible refine (HRF.out _).mono ?_)
  rintro e w2 ⟨rfl, hb2⟩
  have hb := HB1.out.trans (hb2.mono HB1.out.size)
  obtain ⟨u0, u1, u2, u3, u4, u5, u6, u7, u8⟩ := four_cells ((hb.block w.heap.size (by rw [HZ1.out]; omega)).trans HK0.out)
  obtain ⟨v0, v1, v2, v3, v4⟩ := pair_cells ((hb.block (w.heap.size + 1) (by rw [HZ1.out]; omega)).trans HK1.out)
  have HF := Lib.hid ((Fr.of_below (M := fun b => b = rb) HB.out).trans (Fr.of_below hb))
  have HR2 := Lib.hid (HR.out.on hb)
  clear hb2 hb
  go_wp2_with fail
  refine bodyPost_ret (v := .tuple #[.agg #[.int .i64 0, .int .i64 0, .string ⟨#[]⟩, .slice none 0 0], .agg #[.int .i64 13, .int .i64 t.place]]) (by simp [results, Tryd.results131, go_sem, u0, u1, u2, u3, v0, v1]) rfl ?_
  have hend := put6_end HR2.out HF.out (Nat.le_refl _) hg hrb (.int .i64 0) (.int .i64 0) (.string ⟨#[]⟩) (.slice none 0 0) (.int .i64 13) (.int .i64 t.place)
  exact ⟨rfl, ⟨_, _, hend.1⟩, hend.2⟩
/-- The two boxes that a method lays behind a call: what was read, and where it was refused. -/
theorem new2 (w : World) (x0 x1 x2 x3 y0 y1 : Value) : ∃ W, (w.alloc (.cells #[x0, x1, x2, x3] 25)).alloc (.cells #[y0, y1] 50) = W ∧ W.heap[w.heap.size]? = some (.cells #[x0, x1, x2, x3] 25) ∧ W.heap[w.heap.size + 1]? = some (.cells #[y0, y1] 50) ∧ Below w.heap.size w W ∧ W.heap.size = w.heap.size + 2 := by
  refine ⟨_, rfl, ?_, ?_, below2 w _ _, by simp⟩
  · exact ((below_new _ _).block _ (by simp)).trans (MapKept.heap_alloc w (.cells #[x0, x1, x2, x3] 25)).1
  · simpa using (MapKept.heap_alloc (w.alloc (.cells #[x0, x1, x2, x3] 25)) (.cells #[y0, y1] 50)).1
set_option maxRecDepth 100000 in
set_option maxHeartbeats 1000000 in
theorem inb_of (toks : List Tok) (rb g cap n : Nat) (ih : TypeIs toks rb g cap n) (hl : toks.length ≤ 1099511627776) (hz : ∀ t ∈ toks, SymZ t) (i o : Nat) (w : World) (res : Got) (t : Tok) (q : List Tok) (h : Rd toks rb g cap i o w) (ho : o < 40) (hd : toks.drop i = t :: q) (hres : inB n t.place q o = some res) :
    Calls Tryd.prog 131 #[.pointer (some ⟨rb, 0, none⟩)] w (ReadRes toks rb g cap o res w) := by
  obtain ⟨hi, ht, hdq, _⟩ := drop_at hd
  obtain ⟨W, eW, k0, k1, b1, z1⟩ := nil2 w
  have hW := h.on b1
  obtain ⟨p0, p1, p2, p3, p4, p5, p6⟩ := three_cells hW.blk
  have hg := h.lt
  have hrb := h.rb_lt
  unfold inB at hres
  rw [if_neg (by omega)] at hres
  obtain ⟨V, eV⟩ : ∃ V, (W.setCell ⟨rb, 1, none⟩ (.int .i64 ((i : Int) + 1))).setCell ⟨rb, 2, none⟩ (.int .i64 ((o : Int) + 1)) = V := ⟨_, rfl⟩
  have hV : Rd toks rb g cap (i + 1) (o + 1) V := by
    have h2 := (hW.place (i + 1)).opened (o + 1)
    rw [show (((i + 1 : Nat)) : Int) = (i : Int) + 1 by push_cast; rfl, show (((o + 1 : Nat)) : Int) = (o : Int) + 1 by push_cast; rfl, eV] at h2
    exact h2
  have hfV : Fr (fun b => b = rb) w V := by rw [← eV]; exact ((Fr.of_below b1).trans (rd_fr _ _ _ _)).trans (rd_fr _ _ _ _)
  have hkV : ∀ j, j ≠ rb → V.heap[j]? = W.heap[j]? := fun j hj => by rw [← eV, Below.heap_setCell _ _ _ _ hj, Below.heap_setCell _ _ _ _ hj]
  have hzV : V.heap.size = W.heap.size := by rw [← eV]; simp
  have K0 := Lib.hid ((hkV w.heap.size (by omega)).trans k0)
  have K1 := Lib.hid ((hkV (w.heap.size + 1) (by omega)).trans k1)
  have ho0 : ((o : Int) == 40) = false := by rw [beq_eq_false_iff_ne]; omega
  have hoI : (o : Int) < 40 := by omega
  have hiI : (i : Int) ≤ 1099511627776 := by omega
  have HEW := Lib.hid eW
  have HEV := Lib.hid eV
  have HFV := Lib.hid hfV
  have HRV := Lib.hid hV
  have HZV := Lib.hid hzV
  have HZ1 := Lib.hid z1
  have HSZ := Lib.hid hz
  have heq := eq_at
  have hgd := guard_at
  have hbig : w.heap.size + 2 ≤ V.heap.size := by omega
  cases ht9 : typeN n q (o + 1) with
  | none => rw [ht9] at hres; cases hres
  | some g9 =>
    have HC := Lib.hid (ih (i + 1) (o + 1) V g9 hV (by omega) (by rw [hdq]; exact ht9))
    rw [ht9] at hres
    have hsuf := (suff_all n).2.2 q (o + 1)
    have herr := (err_all n).2.2 q (o + 1)
    rw [ht9] at hsuf herr
    clear eW b1 hW h k0 k1 hd ht z1 eV hV hfV hkV hzV hz ih ht9
    cases g9 with
    | no e p =>
      simp only [Option.some.injEq] at hres
      subst hres
      have he := herr e p rfl
      have he0 : ((e : Int) == 0) = false := by rw [beq_eq_false_iff_ne]; omega
      have heI : (0 : Int) < (e : Int) := by omega
      clear hsuf herr
      go_enter Tryd.func131, Tryd.ntmps131
      go_upto_region 1 with (fail)
      rw [HEW.out]
      go_upto_region 5 with (fail)
      rw [HEV.out]
      go_wp2_with fail
      (with_reducible refine HC.out.mono ?_)
      intro e1 y hy
      obtain ⟨rfl, ⟨i', o', hr⟩, hf⟩ := hy
      obtain ⟨Y, eY, l0, l1, b2, z2⟩ := new2 y (.int .i64 0) (.int .i64 0) (.string ⟨#[]⟩) (.slice none 0 0) (.int .i64 e) (.int .i64 p)
      have hzy := hf.size
      obtain ⟨a0, a1, a2, a3, a4, a5, a6, a7, a8⟩ := four_cells l0
      obtain ⟨c0, c1, c2, c3, c4⟩ := pair_cells l1
      have hK0 := (b2.block w.heap.size (by omega)).trans ((hf.block w.heap.size (by omega) (by omega)).trans K0.out)
      have hK1 := (b2.block (w.heap.size + 1) (by omega)).trans ((hf.block (w.heap.size + 1) (by omega) (by omega)).trans K1.out)
      obtain ⟨u0, u1, u2, u3, u4, u5, u6, u7, u8⟩ := four_cells hK0
      obtain ⟨v0, v1, v2, v3, v4⟩ := pair_cells hK1
      have HRY := Lib.hid (hr.on b2)
      have HFY := Lib.hid ((HFV.out.trans hf).trans (Fr.of_below b2))
      have HEY := Lib.hid eY
      clear hr hf eY l0 l1 b2 hK0 hK1 K0 K1
      have HZ2 := Lib.hid z2
      clear z2
      go_upto_region 6 with (fail)
      rw [HEY.out]
      go_wp2_with fail
      go_region
      all_goals
        go_wp2_with fail
        refine bodyPost_ret (v := .tuple #[.agg #[.int .i64 0, .int .i64 0, .string ⟨#[]⟩, .slice none 0 0], .agg #[.int .i64 e, .int .i64 p]]) (by simp [results, Tryd.results131, go_sem, u0, u1, u2, u3, v0, v1]) rfl ?_
        have hend := put6_end HRY.out HFY.out (Nat.le_refl _) hg hrb (.int .i64 0) (.int .i64 0) (.string ⟨#[]⟩) (.slice none 0 0) (.int .i64 e) (.int .i64 p)
        exact ⟨rfl, ⟨_, _, hend.1.on (Below.refl _ _).drew⟩, hend.2.drew⟩
    | ok x r =>
      have hsf := hsuf x r rfl
      match r, hsf, hres, HC with
      | [], hsf, _, _ => exact absurd rfl hsf.2.2
      | c :: r, hsf, hres, HC =>
      simp only at hres
      have hdc : toks.drop (toks.length - (c :: r).length) = c :: r := drop_suf (i := i + 1) (by rw [hdq]; exact hsf.1)
      obtain ⟨hci, hct, hcd, hcl⟩ := drop_at hdc
      have hplace : toks.length - (c :: r).length + 1 = toks.length - r.length := hcl.symm
      generalize hP : toks.length - (c :: r).length = P at *
      have hSc := HSZ.out c (by rw [← hct]; exact List.getElem_mem hci)
      clear hsuf herr
      cases hq : isSym c [41] with
      | true =>
        rw [hq] at hres
        simp only [if_true, Option.some.injEq] at hres
        subst hres
        go_enter Tryd.func131, Tryd.ntmps131
        go_upto_region 1 with (fail)
        rw [HEW.out]
        go_upto_region 5 with (fail)
        rw [HEV.out]
        go_wp2_with fail
        (with_reducible refine HC.out.mono ?_)
        intro e1 y hy
        obtain ⟨tv, rfl, hty, hr, hf⟩ := hy
        obtain ⟨f1, n1, s1, A1, l1, c1, rfl⟩ := hty.flat
        obtain ⟨Y, eY, l0, l2, b2, z2⟩ := new2 y (.int .i64 f1) (.int .i64 n1) (.string s1) (.slice A1 l1 c1) (.int .i64 0) (.int .i64 0)
        have hzy := hf.size
        rw [hP] at hr
        have htk := takes_any toks rb g cap P (o + 1) [41] Y (hr.on b2) hci hl (by rw [hct]; exact hSc)
        rw [hct, hq] at htk
        have HTK : Hid (Calls Tryd.prog 129 #[.pointer (some ⟨rb, 0, none⟩), .string ⟨#[41]⟩] Y (TakeRes toks rb g cap P (o + 1) true Y)) := htk
        obtain ⟨a0, a1, a2, a3, a4, a5, a6, a7, a8⟩ := four_cells l0
        obtain ⟨c0, c1', c2, c3, c4⟩ := pair_cells l2
        have HK0 := Lib.hid ((b2.block w.heap.size (by omega)).trans ((hf.block w.heap.size (by omega) (by omega)).trans K0.out))
        have HK1 := Lib.hid ((b2.block (w.heap.size + 1) (by omega)).trans ((hf.block (w.heap.size + 1) (by omega) (by omega)).trans K1.out))
        have HL0 := Lib.hid l0
        have HFY := Lib.hid ((HFV.out.trans hf).trans (Fr.of_below b2))
        have HTY := Lib.hid (hty.on b2)
        have HEY := Lib.hid eY
        have hyY : w.heap.size + 2 ≤ Y.heap.size := by omega
        have hyl : y.heap.size < Y.heap.size := by omega
        clear hr hf eY l0 l2 b2 K0 K1 htk hty
        have HZ2 := Lib.hid z2
        have hwy : w.heap.size + 2 ≤ y.heap.size := by omega
        clear z2
        go_upto_region 6 with (fail)
        rw [HEY.out]
        go_wp2_with fail
        (with_reducible refine HTK.out.mono ?_)
        intro e2 z hz9
        obtain ⟨rfl, hrz, hfz⟩ := hz9
        rw [if_pos rfl, hplace] at hrz
        have hzz := hfz.size
        obtain ⟨d0, d1, d2, d3, d4, d5, d6⟩ := three_cells hrz.blk
        have hKy := (hfz.block y.heap.size hyl (by omega)).trans HL0.out
        have hKz0 := (hfz.block w.heap.size (by omega) (by omega)).trans HK0.out
        have hKz1 := (hfz.block (w.heap.size + 1) (by omega) (by omega)).trans HK1.out
        obtain ⟨Z, eZ⟩ : ∃ Z, z.setCell ⟨rb, 2, none⟩ (.int .i64 o) = Z := ⟨_, rfl⟩
        have hkz : ∀ k, k ≠ rb → Z.heap[k]? = z.heap[k]? := fun k hk => by rw [← eZ]; exact Below.heap_setCell _ _ _ _ hk
        have HRZ : Hid (Rd toks rb g cap (toks.length - r.length) o Z) := by rw [← eZ]; exact hrz.opened o
        have hfZ : Fr (fun b => b = rb) Y Z := by rw [← eZ]; exact hfz.trans (rd_fr z rb 2 (.int .i64 o))
        have HFZ := Lib.hid (HFY.out.trans hfZ)
        have hoo : (o : Int) + 1 - 1 = (o : Int) := by omega
        have HTZ := Lib.hid (ty_fr (HTY.out.mono (Q := fun b => w.heap.size + 2 ≤ b) (fun b (hb : V.heap.size ≤ b) => (by omega : w.heap.size + 2 ≤ b))) hfZ (by omega))
        obtain ⟨j0, j1, j2, j3, j4, j5, j6, j7, j8⟩ := four_cells ((hkz y.heap.size (by omega)).trans hKy)
        obtain ⟨u0, u1, u2, u3, u4, u5, u6, u7, u8⟩ := four_cells ((hkz w.heap.size (by omega)).trans hKz0)
        obtain ⟨v0, v1, v2, v3, v4⟩ := pair_cells ((hkz (w.heap.size + 1) (by omega)).trans hKz1)
        have HEZ := Lib.hid eZ
        clear hrz hfz a0 a1 a2 a3 a4 a5 a6 a7 a8 c0 c1' c2 c3 c4 hKz0 hKz1 hKy HTK hkz eZ hfZ
        go_upto_region 11 with (fail)
        rw [HEZ.out]
        go_wp2_with fail
        refine bodyPost_ret (v := .tuple #[.agg #[.int .i64 f1, .int .i64 n1, .string s1, .slice A1 l1 c1], .agg #[.int .i64 0, .int .i64 0]]) (by simp [results, Tryd.results131, go_sem, u0, u1, u2, u3, v0, v1]) rfl ?_
        have hend := put6_end HRZ.out HFZ.out (Nat.le_refl _) hg hrb (.int .i64 f1) (.int .i64 n1) (.string s1) (.slice A1 l1 c1) (.int .i64 0) (.int .i64 0)
        have hte := (put6_ty HTZ.out (k := w.heap.size) (by omega) (.int .i64 f1) (.int .i64 n1) (.string s1) (.slice A1 l1 c1) (.int .i64 0) (.int .i64 0)).mono (Q := fun b => w.heap.size ≤ b) (fun b (hb : w.heap.size + 2 ≤ b) => (by omega : w.heap.size ≤ b))
        exact ⟨_, rfl, hte, hend.1, hend.2⟩
      | false =>
        rw [hq] at hres
        simp only [Bool.false_eq_true, if_false, Option.some.injEq] at hres
        subst hres
        go_enter Tryd.func131, Tryd.ntmps131
        go_upto_region 1 with (fail)
        rw [HEW.out]
        go_upto_region 5 with (fail)
        rw [HEV.out]
        go_wp2_with fail
        (with_reducible refine HC.out.mono ?_)
        intro e1 y hy
        obtain ⟨tv, rfl, hty, hr, hf⟩ := hy
        obtain ⟨f1, n1, s1, A1, l1, c1, rfl⟩ := hty.flat
        obtain ⟨Y, eY, l0, l2, b2, z2⟩ := new2 y (.int .i64 f1) (.int .i64 n1) (.string s1) (.slice A1 l1 c1) (.int .i64 0) (.int .i64 0)
        have hzy := hf.size
        rw [hP] at hr
        have htk := takes_any toks rb g cap P (o + 1) [41] Y (hr.on b2) hci hl (by rw [hct]; exact hSc)
        rw [hct, hq] at htk
        have HTK : Hid (Calls Tryd.prog 129 #[.pointer (some ⟨rb, 0, none⟩), .string ⟨#[41]⟩] Y (TakeRes toks rb g cap P (o + 1) false Y)) := htk
        obtain ⟨a0, a1, a2, a3, a4, a5, a6, a7, a8⟩ := four_cells l0
        obtain ⟨c0, c1', c2, c3, c4⟩ := pair_cells l2
        have HK0 := Lib.hid ((b2.block w.heap.size (by omega)).trans ((hf.block w.heap.size (by omega) (by omega)).trans K0.out))
        have HK1 := Lib.hid ((b2.block (w.heap.size + 1) (by omega)).trans ((hf.block (w.heap.size + 1) (by omega) (by omega)).trans K1.out))
        have HL0 := Lib.hid l0
        have HFY := Lib.hid ((HFV.out.trans hf).trans (Fr.of_below b2))
        have HTY := Lib.hid (hty.on b2)
        have HEY := Lib.hid eY
        have hyY : w.heap.size + 2 ≤ Y.heap.size := by omega
        have hyl : y.heap.size < Y.heap.size := by omega
        clear hr hf eY l0 l2 b2 K0 K1 htk hty
        have HZ2 := Lib.hid z2
        have hwy : w.heap.size + 2 ≤ y.heap.size := by omega
        clear z2
        go_upto_region 6 with (fail)
        rw [HEY.out]
        go_wp2_with fail
        (with_reducible refine HTK.out.mono ?_)
        intro e2 z hz9
        obtain ⟨rfl, hrz, hfz⟩ := hz9
        rw [if_neg (by simp)] at hrz
        have hzz := hfz.size
        obtain ⟨d0, d1, d2, d3, d4, d5, d6⟩ := three_cells hrz.blk
        have hKz0 := (hfz.block w.heap.size (by omega) (by omega)).trans HK0.out
        have hKz1 := (hfz.block (w.heap.size + 1) (by omega) (by omega)).trans HK1.out
        have HTOK0 := token_any toks rb g cap P (o + 1) z hrz hci
        rw [hct] at HTOK0
        have HTOK := Lib.hid HTOK0
        have HRF := Lib.hid (fun w => refusal_any 12 c w)
        have HRZ := Lib.hid hrz
        have HFZ := Lib.hid (HFY.out.trans hfz)
        have HKZ0 := Lib.hid hKz0
        have HKZ1 := Lib.hid hKz1
        have hz0 := lt_of_block hKz0
        have hz1 := lt_of_block hKz1
        clear hrz hfz a0 a1 a2 a3 a4 a5 a6 a7 a8 c0 c1' c2 c3 c4 hKz0 hKz1 HTK HTOK0
        go_wp2_with fail
        (with_reducible refine HTOK.out.mono ?_)
        rintro e3 z1 ⟨rfl, hb1⟩
        have HB1 := Lib.hid hb1
        clear hb1
        go_wp2_with fail
        (with_reducible refine (HRF.out _).mono ?_)
        rintro e4 z2 ⟨rfl, hb2⟩
        have hb := HB1.out.trans (hb2.mono HB1.out.size)
        obtain ⟨u0, u1, u2, u3, u4, u5, u6, u7, u8⟩ := four_cells ((hb.block w.heap.size hz0).trans HKZ0.out)
        obtain ⟨v0, v1, v2, v3, v4⟩ := pair_cells ((hb.block (w.heap.size + 1) hz1).trans HKZ1.out)
        have HRL := Lib.hid (HRZ.out.on hb)
        have HFL := Lib.hid (HFZ.out.trans (Fr.of_below hb))
        clear hb2 hb
        go_wp2_with fail
        refine bodyPost_ret (v := .tuple #[.agg #[.int .i64 0, .int .i64 0, .string ⟨#[]⟩, .slice none 0 0], .agg #[.int .i64 12, .int .i64 c.place]]) (by simp [results, Tryd.results131, go_sem, u0, u1, u2, u3, v0, v1]) rfl ?_
        have hend := put6_end HRL.out HFL.out (Nat.le_refl _) hg hrb (.int .i64 0) (.int .i64 0) (.string ⟨#[]⟩) (.slice none 0 0) (.int .i64 12) (.int .i64 c.place)
        exact ⟨rfl, ⟨_, _, hend.1⟩, hend.2⟩
end Go.Proofs.YtbdfjboojokgdaaDoor
