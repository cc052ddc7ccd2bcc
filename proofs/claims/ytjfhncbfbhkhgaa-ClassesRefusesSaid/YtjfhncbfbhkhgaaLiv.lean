/- lives: the document's example. No conditions. -/
import Derived.Test.YtjfhncbfbhkhgaaLoc
namespace Go.Proofs.Ytjfhncbfbhkhgaa
open Go.RowKit
theorem okC0 : OkC cls0 := by
  refine ⟨fun u hu => ?_, ?_⟩
  · simp [univ, cls0] at hu
    rcases hu with rfl | rfl | rfl | rfl | rfl <;> decide
  · simp [univ, cls0]
theorem new0 {w : World} {e : Ending} {w' : World} (h : NewRes cls0 [] w e w') : Below w.heap.size w w' ∧ ∃ Q eb cb mb pb iv, e = .returned (.tuple #[.pointer (some ⟨eb, 0, none⟩), .agg #[.int .i64 0, .int .i64 0]]) ∧ (∀ b, Q b → b < w'.heap.size) ∧ EnvAt Q cls0 (lookF (mths cls0)) [] (headH []) eb cb mb pb iv w' := by
  obtain ⟨hb, G, d, S, hw, hd, hr⟩ := h
  have hT : newT cls0 [] G = (0, 0) := by
    unfold newT
    rw [(loop_nil hw hd).2 self0]; rfl
  rcases hr with ⟨h1, _⟩ | ⟨_, r⟩
  · rw [hT] at h1; exact absurd rfl h1
  · exact ⟨hb, r⟩
theorem path0 {w : World} {e : Ending} {w' : World} (h : PathRes cls0 ⟨#[65]⟩ ⟨#[67]⟩ w e w') : Below w.heap.size w w' ∧ ∃ g c, e = .returned (.tuple #[.slice (some ⟨g, 0, none⟩) 2 c, .bool true]) ∧ 2 ≤ c ∧ g < w'.heap.size ∧ w'.cell? ⟨g, 0, none⟩ = some (.int .i64 0) ∧ w'.cell? ⟨g, 1, none⟩ = some (.int .i64 0) := by
  obtain ⟨hb, ⟨h1, _⟩ | ⟨_, u, rv, hl, rfl, ho⟩⟩ := h
  · rcases h1 with h1 | h1
    · exact absurd h1 (by decide)
    · exact absurd least0.1 (h1 [0, 0])
  · have hu : u = [0, 0] := Least.unique hl least0
    subst hu
    obtain ⟨g, c, rfl, _, h2, h3, _⟩ := own_some ho (by decide)
    exact ⟨hb, g, c, rfl, h3, h2, World.ownsRow.cellAt ho 0 (by decide), World.ownsRow.cellAt ho 1 (by decide)⟩
theorem above0_res {w : World} {e : Ending} {w' : World} (h : AboveRes cls0 ⟨#[65]⟩ w e w') : ∃ rv, e = .returned rv ∧ StrsAt (fun b => b < w'.heap.size) w' rv [⟨#[65]⟩, ⟨#[66]⟩, ⟨#[67]⟩] ∧ Below w.heap.size w w' := by
  obtain ⟨rv, L, rfl, ho, hL, _, hb⟩ := h
  have h4 := hL 4 (by decide)
  have h5 : L = [⟨#[65]⟩, ⟨#[66]⟩, ⟨#[67]⟩] := h4.trans above0
  subst h5
  exact ⟨rv, rfl, (OwnS.strs ho).mono (fun b h => (World.ownsRow.lt ho b h.2).2), hb⟩
set_option maxRecDepth 100000 in
set_option maxHeartbeats 4000000 in
theorem lives_any (w : World) : Calls Try.prog 12 #[] w (TrueB w) := by
  obtain ⟨V, eV⟩ : ∃ V, V = (((w.alloc (.cells #[.string nB] 9)).alloc (.cells #[.string nC] 9)).alloc (.cells #[.string nA, .int .i64 1, .string ⟨#[]⟩, .slice none 0 0, .slice (some ⟨w.heap.size, 0, none⟩) 1 1, .slice none 0 0, .string nB, .int .i64 2, .string ⟨#[]⟩, .slice none 0 0, .slice (some ⟨w.heap.size + 1, 0, none⟩) 1 1, .slice none 0 0, .string nC, .int .i64 3, .string ⟨#[]⟩, .slice none 0 0, .slice none 0 0, .slice none 0 0] 59)).alloc (.cells #[.slice none 0 0, .slice (some ⟨w.heap.size + 1 + 1, 0, none⟩) 3 3, .slice none 0 0, .slice none 0 0] 28) := ⟨_, rfl⟩
  have hBV : Below w.heap.size w V := by rw [eV]; exact (((below_new _ _).alloc (by simp) _).alloc (by simp; omega) _).alloc (by simp; omega) _
  have v0 : V.heap[w.heap.size]? = some (.cells #[.string nB] 9) := by rw [eV, alloc_get, if_neg (by first | (simp; done) | (simp; omega)), alloc_get, if_neg (by first | (simp; done) | (simp; omega)), alloc_get, if_neg (by first | (simp; done) | (simp; omega)), alloc_get, if_pos rfl]
  have v1 : V.heap[w.heap.size + 1]? = some (.cells #[.string nC] 9) := by rw [eV, alloc_get, if_neg (by first | (simp; done) | (simp; omega)), alloc_get, if_neg (by first | (simp; done) | (simp; omega)), alloc_get, if_pos (by simp)]
  have v2 : V.heap[w.heap.size + 1 + 1]? = some (.cells #[.string nA, .int .i64 1, .string ⟨#[]⟩, .slice none 0 0, .slice (some ⟨w.heap.size, 0, none⟩) 1 1, .slice none 0 0, .string nB, .int .i64 2, .string ⟨#[]⟩, .slice none 0 0, .slice (some ⟨w.heap.size + 1, 0, none⟩) 1 1, .slice none 0 0, .string nC, .int .i64 3, .string ⟨#[]⟩, .slice none 0 0, .slice none 0 0, .slice none 0 0] 59) := by rw [eV, alloc_get, if_neg (by simp), alloc_get, if_pos (by simp)]
  have v3 : V.heap[w.heap.size + 1 + 1 + 1]? = some (.cells #[.slice none 0 0, .slice (some ⟨w.heap.size + 1 + 1, 0, none⟩) 3 3, .slice none 0 0, .slice none 0 0] 28) := by rw [eV, alloc_get, if_pos (by simp)]
  have c3 : V.cell? ⟨w.heap.size + 1 + 1 + 1, 0, none⟩ = some (.slice none 0 0) ∧ V.cell? ⟨w.heap.size + 1 + 1 + 1, 1, none⟩ = some (.slice (some ⟨w.heap.size + 1 + 1, 0, none⟩) 3 3) ∧ V.cell? ⟨w.heap.size + 1 + 1 + 1, 2, none⟩ = some (.slice none 0 0) ∧ V.cell? ⟨w.heap.size + 1 + 1 + 1, 3, none⟩ = some (.slice none 0 0) := by simp [World.cell?, v3]
  obtain ⟨d0, d1, d2, d3⟩ := c3
  have hl0 := lt_of_block v0
  have hl1 := lt_of_block v1
  have hl2 := lt_of_block v2
  have sB : StrsAt (fun b => b < V.heap.size) V (.slice (some ⟨w.heap.size, 0, none⟩) 1 1) [nB] := ⟨_, 1, rfl, Nat.le_refl _, by decide, .inr ⟨_, 0, rfl, hl0, hl0, fun i hi => by
    have : i = 0 := by simp at hi; exact hi
    subst this; simp [World.cell?, v0]⟩⟩
  have sC : StrsAt (fun b => b < V.heap.size) V (.slice (some ⟨w.heap.size + 1, 0, none⟩) 1 1) [nC] := ⟨_, 1, rfl, Nat.le_refl _, by decide, .inr ⟨_, 0, rfl, hl1, hl1, fun i hi => by
    have : i = 0 := by simp at hi; exact hi
    subst this; simp [World.cell?, v1]⟩⟩
  have sN : ∀ P, SigsAt P V (.slice none 0 0) [] := fun P => ⟨none, 0, rfl, Nat.le_refl _, Nat.zero_le _, .inl rfl⟩
  have hC : ClassesAt (fun b => b < V.heap.size) V (.slice (some ⟨w.heap.size + 1 + 1, 0, none⟩) 3 3) cls0 := ⟨_, 3, rfl, Nat.le_refl _, by decide, .inr ⟨_, rfl, hl2, hl2, fun i hi => by
    have hi3 : i < 3 := hi
    rcases (by omega : i = 0 ∨ i = 1 ∨ i = 2) with rfl | rfl | rfl
    · exact ⟨_, _, by simp [World.cell?, v2, cls0], by simp [World.cell?, v2, cls0], by simp [World.cell?, v2, cls0], by simp [World.cell?, v2], by simp [World.cell?, v2], by simp [World.cell?, v2], sB, sN _⟩
    · exact ⟨_, _, by simp [World.cell?, v2, cls0], by simp [World.cell?, v2, cls0], by simp [World.cell?, v2, cls0], by simp [World.cell?, v2], by simp [World.cell?, v2], by simp [World.cell?, v2], sC, sN _⟩
    · exact ⟨_, _, by simp [World.cell?, v2, cls0], by simp [World.cell?, v2, cls0], by simp [World.cell?, v2, cls0], by simp [World.cell?, v2], by simp [World.cell?, v2], by simp [World.cell?, v2], strs_nil _ _, sN _⟩⟩⟩
  have HNEW := Lib.hid (new_any (C := cls0) (I := []) (iv := .slice none 0 0) hC ⟨none, 0, rfl, Nat.le_refl _, Nat.zero_le _, .inl rfl⟩ (.inl rfl) (fun b h => h) okC0 ⟨fun x h => (by cases h), by simp⟩ (by simp [mths, cls0, mthsK]) (fun c hc => by
    simp [cls0] at hc
    rcases hc with rfl | rfl | rfl <;> simp))
  have HBV := Lib.hid hBV
  have HEV := Lib.hid eV
  unfold nA nB nC at HEV
  clear eV hBV v0 v1 v2 v3 hl0 hl1 hl2 sB sC sN hC
  go_enter Try.func12, Try.ntmps12
  go_upto_region 2 with (fail)
  rw [← HEV.out]
  go_wp2_with fail
  with_reducible refine HNEW.out.mono ?_
  rintro e w2 hnew
  obtain ⟨hb2, Q, eb, cb, mb, pb, iv, rfl, hQ, hE⟩ := new0 hnew
  have hBA : Below w2.heap.size w2 (w2.alloc (.cells #[.int .i64 0, .int .i64 0] 34)) := below_new _ _
  obtain ⟨W, eW⟩ : ∃ W, W = w2.alloc (.cells #[.int .i64 0, .int .i64 0] 34) := ⟨_, rfl⟩
  rw [← eW] at hBA
  have w0 : W.heap[w2.heap.size]? = some (.cells #[.int .i64 0, .int .i64 0] 34) := by rw [eW, alloc_get, if_pos rfl]
  have f0 : W.cell? ⟨w2.heap.size, 0, none⟩ = some (.int .i64 0) := by simp [World.cell?, w0]
  have hEW := hE.on hBA
  have hQW : ∀ b, Q b → b < W.heap.size := fun b hb => Nat.lt_of_lt_of_le (hQ b hb) hBA.size
  have HPA := Lib.hid (path_any hEW hQW okC0 (a := nA) (x := nC) (by decide) (by decide))
  have HEW := Lib.hid eW
  have HE := Lib.hid hEW
  have HQW := Lib.hid hQW
  have HBW : Hid (Below w.heap.size w W) := Lib.hid (HBV.out.trans ((hb2.trans (hBA.mono hb2.size)).mono HBV.out.size))
  clear hnew hb2 hQ hE hBA eW w0 hEW hQW HNEW
  unfold nA nC at HPA
  go_wp2_with fail
  rw [← HEW.out]
  with_reducible refine HPA.out.mono ?_
  rintro e w3 hp
  obtain ⟨hb3, g, c, rfl, hc2, hg, q0, q1⟩ := path0 hp
  have HE3 := Lib.hid (HE.out.on hb3)
  have hQ3 : ∀ b, Q b → b < w3.heap.size := fun b hb => Nat.lt_of_lt_of_le (HQW.out b hb) hb3.size
  have HAB := Lib.hid (above_any HE3.out hQ3 okC0 ⟨#[65]⟩ (by decide))
  have HB3 := Lib.hid (HBW.out.trans (hb3.mono HBW.out.size))
  clear hp hb3 hQ3 HPA HBW HQW HE
  go_wp2_with fail
  with_reducible refine HAB.out.mono ?_
  rintro e w4 ha
  obtain ⟨rv, rfl, hs, hb4⟩ := above0_res ha
  have r0 : w4.cell? ⟨g, 0, none⟩ = some (.int .i64 0) := (hb4.cell (p := ⟨g, 0, none⟩) hg).trans q0
  have r1 : w4.cell? ⟨g, 1, none⟩ = some (.int .i64 0) := (hb4.cell (p := ⟨g, 1, none⟩) hg).trans q1
  obtain ⟨Y, eY⟩ : ∃ Y, Y = w4.alloc (.cells #[.string ⟨#[65]⟩, .string ⟨#[66]⟩, .string ⟨#[67]⟩] 9) := ⟨_, rfl⟩
  have hBY : Below w4.heap.size w4 Y := by rw [eY]; exact below_new _ _
  have y0 : Y.heap[w4.heap.size]? = some (.cells #[.string ⟨#[65]⟩, .string ⟨#[66]⟩, .string ⟨#[67]⟩] 9) := by rw [eY, alloc_get, if_pos rfl]
  have hly := lt_of_block y0
  have hsY : StrsAt (fun b => b < Y.heap.size) Y (.slice (some ⟨w4.heap.size, 0, none⟩) 3 3) [⟨#[65]⟩, ⟨#[66]⟩, ⟨#[67]⟩] := ⟨_, 3, rfl, Nat.le_refl _, by decide, .inr ⟨_, 0, rfl, hly, hly, fun i hi => by
    have hi3 : i < 3 := hi
    rcases (by omega : i = 0 ∨ i = 1 ∨ i = 2) with rfl | rfl | rfl <;> simp [World.cell?, y0]⟩⟩
  have HTX := Lib.hid (texts_any (hs.on hBY) hsY)
  rw [decide_eq_true rfl] at HTX
  have HEY := Lib.hid eY
  have HE5 := Lib.hid ((HE3.out.on hb4).on hBY)
  have HB5 := Lib.hid (HB3.out.trans ((hb4.trans (hBY.mono hb4.size)).mono HB3.out.size))
  obtain ⟨Ar, cr, rfl, _⟩ := hs.form
  simp only [List.length_cons, List.length_nil, Nat.zero_add, Nat.reduceAdd] at HTX ⊢
  clear ha hs hb4 hBY eY y0 hly hsY HE3 HB3 HAB q0 q1
  go_wp2_with fail
  rw [← HEY.out]
  with_reducible refine HTX.out.mono ?_
  rintro e w5 ⟨rfl, hb5⟩
  have HLN := Lib.hid (len_any (HE5.out.on hb5))
  have HB6 := Lib.hid (HB5.out.trans (hb5.mono HB5.out.size))
  clear hb5 HE5 HB5
  go_wp2_with fail
  with_reducible refine HLN.out.mono ?_
  rintro e w6 ⟨rfl, hb6⟩
  have HB7 := Lib.hid (HB6.out.trans (hb6.mono HB6.out.size))
  clear hb6
  go_wp2_with fail
  show bodyPost _ _ _ _ _ _
  go_ret
  exact ⟨rfl, HB7.out⟩
end Go.Proofs.Ytjfhncbfbhkhgaa
