/- The contract of the document's Kind (chapter 3): a kind made of numbers, in new memory. Condition: the slice reads as numbers. -/
import Derived.Test.YtomhojpoaicioaaMade
namespace Go.Proofs.Ytomhojpoaicioaa
open Go.RowKit

/-- What Kind answered: a kind in new memory. -/
def KindMade (w : World) (k : K) (e : Ending) (w' : World) : Prop := ∃ kv, e = .returned (.agg #[kv]) ∧ KAt (fun b => w.heap.size ≤ b) w' k kv ∧ Below w.heap.size w w'
set_option maxRecDepth 100000 in
set_option maxHeartbeats 1000000 in
theorem kind_any (P : Nat → Prop) (v : Value) (zs : List Int) (w : World) (h : IntsAt P w v zs) : Calls Try.prog 10 #[v] w (KindMade w (kindZ zs)) := by
  have H := Lib.hid h
  obtain ⟨A, c, rfl, _⟩ := h
  go_enter Try.func10, Try.ntmps10
  go_wp2_with fail
  have hb0 := below_new w (.cells #[.slice none 0 0] 25)
  have hz0 : (w.alloc (.cells #[.slice none 0 0] 25)).heap.size = w.heap.size + 1 := by simp
  have hx0 : (w.alloc (.cells #[.slice none 0 0] 25)).cell? ⟨w.heap.size, 0, none⟩ = some (.slice none 0 0) := by simp [go_sem]
  have hf0 : (w.alloc (.cells #[.slice none 0 0] 25)).frozen? ⟨w.heap.size, 0, none⟩ = false := by simp [go_sem]
  generalize w.alloc (.cells #[.slice none 0 0] 25) = w0 at *
  have hI0 := ints_any P _ zs 12 w0 (H.out.on hb0) (by omega) (by omega)
  have hM0 : ∀ (v : Value) (Q : Nat → Prop) (w : World), IntsAt Q w v (zs.take 12) → (∀ b, Q b → b < w.heap.size) → Calls Try.prog 34 #[v, .int .i64 0] w (Maked w (kindZ zs) (restZ zs) Q) := fun v Q w => made_kind zs v Q w
  generalize zs.take 12 = ys at hI0 hM0
  generalize restZ zs = rs at hM0
  generalize kindZ zs = kk at *
  have HM := Lib.hid hM0
  clear hM0
  refine hI0.mono ?_
  rintro e w1 ⟨v1, rfl, hi1, b1⟩
  have hi1c := hi1
  obtain ⟨A1, c1, e1, _⟩ := hi1c
  have hi1' : IntsAt (fun b => w0.heap.size ≤ b ∧ b < w1.heap.size) w1 v1 ys := by
    obtain ⟨A, c, e, a1, a2, a3, hr⟩ := hi1
    refine ⟨A, c, e, a1, a2, a3, ?_⟩
    rcases hr with hr | ⟨b, off, e, hp, hlt, r⟩
    · exact .inl hr
    · exact .inr ⟨b, off, e, ⟨hp, hlt⟩, hlt, r⟩
  subst e1
  have hz1 := b1.size
  have HB1 := Lib.hid (hb0.trans (b1.mono (by omega)))
  have y0 := (b1.cell (p := ⟨w.heap.size, 0, none⟩) (show w.heap.size < w0.heap.size by omega)).trans hx0
  have g0 := (b1.frozen (p := ⟨w.heap.size, 0, none⟩) (show w.heap.size < w0.heap.size by omega)).trans hf0
  have HI := Lib.hid hi1'
  clear hi1' b1 hb0 hx0 hf0 hI0
  go_wp2_with fail
  refine (HM.out _ _ w1 HI.out (fun b hb => hb.2)).mono ?_
  rintro e w2 ⟨kv, v2, rfl, hkv, _, b2⟩
  have hz2 := b2.size
  have z2 : w.heap.size < w2.heap.size := by omega
  have y2 := (b2.cell (p := ⟨w.heap.size, 0, none⟩) (show w.heap.size < w1.heap.size by omega)).trans y0
  have g2 := (b2.frozen (p := ⟨w.heap.size, 0, none⟩) (show w.heap.size < w1.heap.size by omega)).trans g0
  have HB2 := Lib.hid (HB1.out.trans (b2.mono (by omega)))
  have hk2 : KAt (fun b => w.heap.size + 1 ≤ b) w2 kk kv := hkv.mono (fun b (hb : w1.heap.size ≤ b) => by omega)
  obtain ⟨Ak, nk, ck, rfl⟩ : ∃ Ak nk ck, kv = .slice Ak nk ck := by
    cases kk with
    | mk lk => obtain ⟨Ak, ck, e, _⟩ := hk2.form; exact ⟨Ak, _, ck, e⟩
  have HK := Lib.hid (((hk2.keep (Keeps.setCell (b := w.heap.size) (o := 0) (fun h9 => by omega) (.slice Ak nk ck))).on (below_new _ (.cells #[.slice Ak nk ck] 25))).mono (fun b (hb : w.heap.size + 1 ≤ b) => (by omega : w.heap.size ≤ b)))
  have hB3 : Below w.heap.size w (w2.setCell ⟨w.heap.size, 0, none⟩ (.slice Ak nk ck)) := HB2.out.setCell (Nat.le_refl _) _
  have HB3 := Lib.hid (hB3.alloc hB3.size (.cells #[.slice Ak nk ck] 25))
  clear hB3
  clear hkv hk2 b2 y0 g0
  go_wp2
  exact bodyPost_ret (v := .agg #[.slice Ak nk ck]) (by simp [results, Try.results10, go_sem, y2, z2]) rfl ⟨_, rfl, HK.out, HB3.out⟩
end Go.Proofs.Ytomhojpoaicioaa
