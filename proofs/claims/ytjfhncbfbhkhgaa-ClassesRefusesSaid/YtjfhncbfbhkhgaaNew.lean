/- New: the classes and instances of a program are kept, or refused. Conditions: those that each theorem names. -/
import Derived.Test.YtjfhncbfbhkhgaaLoopsA
import Derived.Test.YtjfhncbfbhkhgaaCln
namespace Go.Proofs.Ytjfhncbfbhkhgaa
open Go.RowKit
theorem results_tmp_cell {fn : Func} {p u : Tmp} {ty : TypeId} (h : fn.results = #[.tmp u, .cell p ty]) (tmps : Array Value) (P : Program) (w : World) :
    (results fn tmps).run P w =
      ((asAddr (tmps.getD p undef)).run P w).andThen fun a w₁ => ((loadVar ty a).run P w₁).andThen fun v w₂ => .ok (.tuple #[tmps.getD u undef, v]) w₂ := by
  simp only [results, h]
  simp [Sem.run_bind, Result.andThen]
theorem results_tmp_row {fn : Func} {p u : Tmp} {ty : TypeId} (h : fn.results = #[.tmp u, .cell p ty]) (tmps : Array Value) (w : World) (g : Nat) (t : TypeId) (cs : Array Value) (fr : Nat × Nat) (fs : Array Field)
    (hp : tmps.getD p undef = .pointer (some ⟨g, 0, none⟩)) (hg : w.heap[g]? = some (.cells cs t fr))
    (hu : Try.prog.underlying ty = some (.struct fs)) (hi : (Try.prog.info? ty).map (·.size) = some cs.size) :
    (results fn tmps).run Try.prog w = .ok (.tuple #[tmps.getD u undef, .agg cs]) w := by
  rw [results_tmp_cell h, hp]
  simp [asAddr, run_loadVar_row w g t ty cs fr (.struct fs) hg hu rfl hi, Result.andThen]
theorem Try.size34 : (Try.prog.info? 34).map (·.size) = some 2 := by kernel_rfl
/-- All that is told of classes and instances. -/
def newT (C : List Cls) (I : List Ins) (G : List (List ByteArray)) : Int × Int := tellsF (0, 0) (loopL C G ++ overL [] I ++ lackL C I I)
def NewRes (C : List Cls) (I : List Ins) (w : World) (e : Ending) (w' : World) : Prop :=
  Below w.heap.size w w' ∧ ∃ G d S, Walks (leaveK (supF C)) ⟨[], [], []⟩ (namesF C []) d ∧ Downs (belF (supF C) (namesF C [])) [] [] d.st.reverse S G ∧
    (((newT C I G).1 ≠ 0 ∧ e = .returned (.tuple #[.pointer none, .agg #[.int .i64 (newT C I G).1, .int .i64 (newT C I G).2]])) ∨
     ((newT C I G).1 = 0 ∧ ∃ Q eb cb mb pb iv, e = .returned (.tuple #[.pointer (some ⟨eb, 0, none⟩), .agg #[.int .i64 0, .int .i64 0]]) ∧ (∀ b, Q b → b < w'.heap.size) ∧ EnvAt Q C (lookF (mths C)) I (headH I) eb cb mb pb iv w'))
theorem ClassesAt.mono {P Q : Nat → Prop} {w : World} {v : Value} {C : List Cls} (h : ClassesAt P w v C) (hpq : ∀ b, P b → Q b) : ClassesAt Q w v C := by
  obtain ⟨A, c, e, h1, h2, hr⟩ := h
  refine ⟨A, c, e, h1, h2, hr.imp id (fun ⟨b, e, hp, hlt, hc⟩ => ⟨b, e, hpq b hp, hlt, fun i hi => ?_⟩)⟩
  obtain ⟨sv, mv, c0, c1, c2, c3, c4, c5, c6, A', c', e', h1', h2', hr'⟩ := hc i hi
  exact ⟨sv, mv, c0, c1, c2, c3, c4, c5, c6.mono hpq, A', c', e', h1', h2', hr'.imp id (fun ⟨b, e, hp, hlt, hc⟩ => ⟨b, e, hpq b hp, hlt, hc⟩)⟩
set_option maxRecDepth 100000 in
set_option maxHeartbeats 4000000 in
theorem new_any {Q : Nat → Prop} {C : List Cls} {I : List Ins} {cv iv : Value} {w : World} (hc : ClassesAt Q w cv C) (hi : InstsAt Q w iv I) (hv : iv = .slice none 0 0 ∨ ∃ ad n c, iv = .slice (some ad) n c) (hQ : ∀ b, Q b → b < w.heap.size)
    (hC : OkC C) (hI : OkI I) (hM : (mths C).length ≤ 536870912) (hMs : ∀ c ∈ C, c.meths.length ≤ 536870912 ∧ ∀ m ∈ c.meths, m.1.size ≤ maxLen) :
    Calls Try.prog 10 #[.agg #[.slice none 0 0, cv, iv, .slice none 0 0]] w (NewRes C I w) := by
  obtain ⟨Ac, cc, rfl⟩ : ∃ A c, cv = .slice A C.length c := by
    obtain ⟨A, c, e, _⟩ := hc; exact ⟨A, c, e⟩
  obtain ⟨Ai, ci, rfl⟩ : ∃ A c, iv = .slice A I.length c := by
    obtain ⟨A, c, e, _⟩ := hi; exact ⟨A, c, e⟩
  have HCV := Lib.hid hc
  have HIV := Lib.hid hi
  have HVV := Lib.hid hv
  have HQ := Lib.hid hQ
  have HC := Lib.hid hC
  have HI := Lib.hid hI
  have HM := Lib.hid hM
  have HMS := Lib.hid hMs
  clear hc hi hv hQ hC hI hM hMs
  generalize C.length = nc at *
  generalize I.length = ni at *
  have m1 : ∀ y : World, (Instr.makeMap 82 none).run Try.prog y = .ok (.map (some y.heap.size)) (y.alloc (.map #[] 0)) := fun y => rfl
  have m2 : ∀ y : World, (Instr.makeMap 83 none).run Try.prog y = .ok (.map (some y.heap.size)) (y.alloc (.map #[] 0)) := fun y => rfl
  have m3 : ∀ y : World, (Instr.makeMap 85 none).run Try.prog y = .ok (.map (some y.heap.size)) (y.alloc (.map #[] 0)) := fun y => rfl
  obtain ⟨V2, eV2⟩ : ∃ V2, V2 = (w.alloc (.cells #[.slice none 0 0, .slice Ac nc cc, .slice Ai ni ci, .slice none 0 0] 28)).alloc (.cells #[.int .i64 0, .int .i64 0] 34) := ⟨_, rfl⟩
  have z2 : V2.heap.size = w.heap.size + 1 + 1 := by rw [eV2]; simp
  obtain ⟨V, eV⟩ : ∃ V, V = (V2.alloc (.map #[] 0)).alloc (.map #[] 0) := ⟨_, rfl⟩
  have zV : V.heap.size = w.heap.size + 1 + 1 + 1 + 1 := by rw [eV]; simp [z2]
  have bV2 : Below w.heap.size w V2 := by rw [eV2]; exact (below_new w _).alloc (by simp) _
  have bV2V : Below V2.heap.size V2 V := by rw [eV]; exact (below_new V2 _).alloc (by simp) _
  have bV : Below w.heap.size w V := bV2.trans (bV2V.mono bV2.size)
  have x0 : V2.heap[w.heap.size]? = some (.cells #[.slice none 0 0, .slice Ac nc cc, .slice Ai ni ci, .slice none 0 0] 28) := by rw [eV2, alloc_get, if_neg (by simp), alloc_get, if_pos rfl]
  have x1 : V2.heap[w.heap.size + 1]? = some (.cells #[.int .i64 0, .int .i64 0] 34) := by rw [eV2, alloc_get, if_pos (by simp)]
  have y0 := (bV2V.block _ (lt_of_block x0)).trans x0
  have y1 := (bV2V.block _ (lt_of_block x1)).trans x1
  have mC : MapS Try.prog 9 V (w.heap.size + 1 + 1) 0 (fun _ => none) := by
    have h1 := MapS.made Try.prog 9 V2
    rw [z2] at h1
    rw [eV]
    exact h1.block ((below_new _ _).block _ (by simp [z2]))
  have mM : MapS Try.prog 9 V (w.heap.size + 1 + 1 + 1) 0 (fun _ => none) := by
    have h1 := MapS.made Try.prog 9 (V2.alloc (.map #[] 0))
    rw [show (V2.alloc (.map #[] 0)).heap.size = w.heap.size + 1 + 1 + 1 by simp [z2]] at h1
    rw [eV]; exact h1
  have HCLN := Lib.hid (clone_any (HIV.out.keep bV.size (fun b _ hl => bV.block b hl)) HVV.out (by have := HIV.out; obtain ⟨_, _, _, _, _, _⟩ := this; exact HI.out.len))
  have HEV : Hid ((((w.alloc (.cells #[.slice none 0 0, .slice Ac nc cc, .slice Ai ni ci, .slice none 0 0] 28)).alloc (.cells #[.int .i64 0, .int .i64 0] 34)).alloc (.map #[] 0)).alloc (.map #[] 0) = V) := Lib.hid (by rw [eV, eV2])
  have HBV := Lib.hid bV
  have HZV := Lib.hid zV
  have HY0 := Lib.hid y0
  have HY1 := Lib.hid y1
  have HMC := Lib.hid mC
  have HMM := Lib.hid mM
  clear eV2 z2 eV zV bV2 bV2V bV x0 x1 y0 y1 mC mM
  go_enter Try.func10, Try.ntmps10
  go_wp2_with fail
  rw [HEV.out]
  with_reducible refine HCLN.out.mono ?_
  rintro e w1 ⟨⟨jv, rfl, hjv⟩, hb1⟩
  obtain ⟨Aj, cj, rfl⟩ : ∃ A c, jv = .slice A I.length c := by
    obtain ⟨A, c, e, _⟩ := hjv; exact ⟨A, c, e⟩
  have HJV := Lib.hid hjv
  have HB1 := Lib.hid hb1
  clear hjv hb1 HEV HCLN
  obtain ⟨W, eW⟩ : ∃ W, W = ((w1.alloc (.map #[] 0)).alloc (.cells #[.map (some (w.heap.size + 1 + 1)), .map (some (w.heap.size + 1 + 1 + 1)), .slice Aj I.length cj, .map (some w1.heap.size)] 87)).alloc (.cells #[.int .i64 0, .int .i64 0] 89) := ⟨_, rfl⟩
  have HEW := Lib.hid eW
  clear eW
  go_upto_region 3 with (fail)
  rw [← HEW.out]
  obtain ⟨Q', hQ'⟩ : ∃ Q' : Nat → Prop, ∀ b, Q' b ↔ (Q b ∨ (w.heap.size + 1 + 1 + 1 + 1 ≤ b ∧ b < w1.heap.size)) := ⟨fun b => Q b ∨ (w.heap.size + 1 + 1 + 1 + 1 ≤ b ∧ b < w1.heap.size), fun b => Iff.rfl⟩
  have hs1 : w.heap.size + 1 + 1 + 1 + 1 ≤ w1.heap.size := by have := HB1.out.size; have := HZV.out; omega
  have zW : W.heap.size = w1.heap.size + 1 + 1 + 1 := by rw [HEW.out]; simp
  have b1W : Below w1.heap.size w1 W := by rw [HEW.out]; exact ((below_new w1 _).alloc (by simp) _).alloc (by simp; omega) _
  have bVW : Below V.heap.size V W := HB1.out.trans (b1W.mono HB1.out.size)
  have bW : Below w.heap.size w W := HBV.out.trans (bVW.mono HBV.out.size)
  have HQW : Hid (∀ b, Q' b → b < w.heap.size ∨ (w.heap.size + 1 + 1 + 1 + 1 ≤ b ∧ b < w1.heap.size)) := Lib.hid fun b hb => ((hQ' b).1 hb).imp (HQ.out b) id
  have hV : ∀ b, b < w.heap.size + 1 + 1 + 1 + 1 → W.heap[b]? = V.heap[b]? := fun b hb => bVW.block b (by rw [HZV.out]; exact hb)
  have e1 : W.heap[w1.heap.size + 1]? = some (.cells #[.map (some (w.heap.size + 1 + 1)), .map (some (w.heap.size + 1 + 1 + 1)), .slice Aj I.length cj, .map (some w1.heap.size)] 87) := by
    rw [HEW.out, alloc_get, if_neg (by simp), alloc_get, if_pos (by simp)]
  have e2 : W.heap[w1.heap.size + 1 + 1]? = some (.cells #[.int .i64 0, .int .i64 0] 89) := by rw [HEW.out, alloc_get, if_pos (by simp)]
  have e3 : MapK hlit Try.prog 116 W w1.heap.size 0 (fun _ => none) := by
    have h1 := MapK.made hlit Try.prog 116 w1
    rw [HEW.out]
    exact (h1.on (below_new _ _)).on (below_new _ _)
  have HENV : Hid (EnvAt Q' [] (lookF []) I (headH []) (w1.heap.size + 1) (w.heap.size + 1 + 1) (w.heap.size + 1 + 1 + 1) w1.heap.size (.slice Aj I.length cj) W) := Lib.hid
    ⟨e1, ⟨0, fun _ => none, HMC.out.block (hV _ (by omega)), fun _ _ => rfl, fun x c h => (by cases h)⟩, ⟨0, fun _ => none, HMM.out.block (hV _ (by omega)), fun _ => rfl⟩,
      (HJV.out.mono (fun b h hl => (hQ' b).2 (.inr ⟨by have := HZV.out; omega, hl⟩))).keep b1W.size (fun b _ hl => b1W.block b hl), ⟨0, fun _ => none, e3, fun _ => rfl⟩⟩
  have HTK := Lib.hid (take_any (Q := Q') (C := C) (I := I) (H := headH []) (eb := w1.heap.size + 1) (cb := w.heap.size + 1 + 1) (mb := w.heap.size + 1 + 1 + 1) (pb := w1.heap.size) (iv := .slice Aj I.length cj) (csv := .slice Ac nc cc) (w := W)
    ⟨HENV.out, (HCV.out.mono (fun b h => (hQ' b).2 (.inl h))).keep bW.size (fun b hb _ => bW.block b (by have := HQW.out b hb; have := HQ.out; rcases HQW.out b hb with h | h; exact h; omega)), OwnS.nil _ _, Fr.refl _ _,
      ⟨fun h => by have := HQW.out _ h; omega, fun h => by have := HQW.out _ h; omega, by omega, by omega, by omega⟩, ⟨by omega, by omega, Nat.le_refl _⟩, by omega, by omega, fun b hb => by have := HQW.out b hb; omega⟩ HC.out HM.out HMS.out)
  have c1 : W.cell? ⟨w.heap.size, 1, none⟩ = some (.slice Ac nc cc) := by
    have h9 := (hV w.heap.size (by omega)).trans HY0.out
    simp [World.cell?, h9]
  have HZ1 := Lib.hid ((hV (w.heap.size + 1) (by omega)).trans HY1.out)
  have HE2 := Lib.hid e2
  have HBW := Lib.hid bW
  have HNUM : Hid (w.heap.size + 1 + 1 + 1 + 1 ≤ w1.heap.size ∧ W.heap.size = w1.heap.size + 1 + 1 + 1) := Lib.hid ⟨hs1, zW⟩
  clear hQ' hs1 zW b1W bVW bW hV e1 e2 e3 HEW HENV HCV HIV HVV HQ HBV HZV HY0 HY1 HMC HMM HJV HB1 HM HMS
  generalize hN1 : w1.heap.size = N1 at *
  clear hN1
  go_wp2_with fail
  with_reducible refine HTK.out.mono ?_
  rintro e w2 ⟨nv, rfl, hT⟩
  have hn2 := HNUM.out
  have hT2 := hT.lt.2.2
  have hrb2 : RefAt (N1 + 1 + 1) (0, 0) w2 := (hT.fr.block (N1 + 1 + 1) (by omega) (by rintro (e | e) <;> omega)).trans HE2.out
  have hz2 := (hT.fr.block (w.heap.size + 1) (by omega) (by rintro (e | e) <;> omega)).trans HZ1.out
  have hb2 : Below w.heap.size w w2 := HBW.out.trans (hT.fr.below HBW.out.size (by rintro k (e | e) <;> omega))
  have HQ2 : Hid (∀ b, Q' b → b < N1 ∧ b ≠ w.heap.size + 1 + 1 ∧ b ≠ w.heap.size + 1 + 1 + 1) := Lib.hid fun b hb => by have := HQW.out b hb; omega
  have hI2 : TellI Q' C (lookF (mths C)) I (headH []) (N1 + 1) (w.heap.size + 1 + 1) (w.heap.size + 1 + 1 + 1) N1 (.slice Aj I.length cj) (N1 + 1 + 1) (0, 0) w2 w2 :=
    ⟨hT.env, hrb2, Fr.refl _ _, fun h => by have := HQ2.out _ h; omega, by omega, by omega, by omega, by omega, by omega⟩
  obtain ⟨An, cn, rfl, _⟩ := own_form hT.names
  have HLP := Lib.hid (loops_any hI2 (fun b hb => by have := HQ2.out b hb; omega) HC.out (nv := .slice An (namesF C []).length cn) (names := namesF C [])
    ((OwnS.strs hT.names).mono (fun b h => (World.ownsRow.lt hT.names b h.2).2))
    (by have h1 := namesF_len C []; have h2 := HC.out.len; unfold univ at h2; simp at h1 h2; omega)
    (fun x hx => by rcases (namesF_mem x C []).1 hx with h | h; cases h; exact List.mem_append_left _ h))
  have HZ2 := Lib.hid hz2
  have HB2 := Lib.hid hb2
  have HS2 : Hid (N1 + 1 + 1 < w2.heap.size) := Lib.hid (by omega)
  clear hT hn2 hT2 hrb2 hz2 hb2 hI2 HTK HZ1 HE2 HBW
  generalize (namesF C []).length = nn at *
  go_wp2_with fail
  with_reducible refine HLP.out.mono ?_
  rintro e w3 ⟨rfl, G, d, S, hw, hd, hI3⟩
  have HW := Lib.hid hw
  have HD := Lib.hid hd
  have hn2 := HNUM.out
  have HZ3 := Lib.hid ((hI3.fr.block (w.heap.size + 1) (by have := HS2.out; omega) (by intro e; omega)).trans HZ2.out)
  have HB3 := Lib.hid (HB2.out.trans (hI3.fr.below HB2.out.size (by rintro k e; omega)))
  have HS3 : Hid (N1 + 1 + 1 < w3.heap.size) := Lib.hid (Nat.lt_of_lt_of_le HS2.out hI3.fr.size)
  have HOV := Lib.hid (overlaps_any (I := I) (w := w3) ⟨hI3.env, hI3.ref, Fr.refl _ _, ⟨hI3.ne.1, fun h => by have := HQ2.out _ h; omega⟩, by omega, by have := HS3.out; omega⟩ HI.out)
  clear hw hd hI3 hn2 HLP HZ2 HB2
  go_wp2_with fail
  with_reducible refine HOV.out.mono ?_
  rintro e w4 ⟨rfl, hI4⟩
  have hn2 := HNUM.out
  have HZ4 := Lib.hid ((hI4.fr.block (w.heap.size + 1) (by have := HS3.out; omega) (by rintro (e | e) <;> omega)).trans HZ3.out)
  have HB4 := Lib.hid (HB3.out.trans (hI4.fr.below HB3.out.size (by rintro k (e | e) <;> omega)))
  have HS4 : Hid (N1 + 1 + 1 < w4.heap.size) := Lib.hid (Nat.lt_of_lt_of_le HS3.out hI4.fr.size)
  have HLK := Lib.hid (lacks_any (I := I) (w := w4) ⟨hI4.env, hI4.ref, Fr.refl _ _, hI4.nq.1, by omega, by omega, by omega, by omega, HS4.out⟩ HC.out HI.out)
  clear hI4 hn2 HOV HZ3 HB3 HS3
  go_wp2_with fail
  with_reducible refine HLK.out.mono ?_
  rintro e w5 ⟨rfl, hI5⟩
  have hn2 := HNUM.out
  have hz5 := (hI5.fr.block (w.heap.size + 1) (by have := HS4.out; omega) (by intro e; omega)).trans HZ4.out
  have HB5 := Lib.hid (HB4.out.trans (hI5.fr.below HB4.out.size (by rintro k e; omega)))
  have HS5 : Hid (N1 + 1 + 1 < w5.heap.size) := Lib.hid (Nat.lt_of_lt_of_le HS4.out hI5.fr.size)
  have ht : tellsF (tellsF (tellsF (0, 0) (loopL C G)) (overL [] I)) (lackL C I I) = newT C I G := by unfold newT; rw [tellsF_append, tellsF_append]
  rw [ht] at hI5
  obtain ⟨⟨t1, t2⟩, hT⟩ : ∃ t, newT C I G = t := ⟨_, rfl⟩
  rw [hT] at hI5
  have hr5 := hI5.ref
  have HENV5 := Lib.hid hI5.env
  have HT := Lib.hid hT
  have HZ5 := Lib.hid hz5
  have HR5 := Lib.hid hr5
  have y1 : w5.cell? ⟨N1 + 1 + 1, 0, none⟩ = some (.int .i64 t1) ∧ w5.cell? ⟨N1 + 1 + 1, 1, none⟩ = some (.int .i64 t2) := by
    unfold RefAt at hr5; simp [World.cell?, hr5]
  have y2 : w5.cell? ⟨w.heap.size + 1, 0, none⟩ = some (.int .i64 0) ∧ w5.cell? ⟨w.heap.size + 1, 1, none⟩ = some (.int .i64 0) ∧ w5.frozen? ⟨w.heap.size + 1, 0, none⟩ = false ∧ w5.frozen? ⟨w.heap.size + 1, 1, none⟩ = false := by
    simp [World.cell?, World.frozen?, hz5]
  obtain ⟨g1, g2⟩ := y1
  obtain ⟨g3, g4, g5, g6⟩ := y2
  clear hI5 hn2 HLK HZ4 HB4 HS4 hz5 ht hT hr5
  have HSET : Hid (∀ u1 u2 : Value, ((w5.setCell ⟨w.heap.size + 1, 0, none⟩ u1).setCell ⟨w.heap.size + 1, 1, none⟩ u2).heap[w.heap.size + 1]? = some (.cells #[u1, u2] 34) ∧ Fr (fun k => w.heap.size ≤ k) w ((w5.setCell ⟨w.heap.size + 1, 0, none⟩ u1).setCell ⟨w.heap.size + 1, 1, none⟩ u2)) := Lib.hid fun u1 u2 => by
    have h1 := heap_setCell_same w5 (w.heap.size + 1) 0 _ 34 u1 HZ5.out
    have h2 := heap_setCell_same _ (w.heap.size + 1) 1 _ 34 u2 h1
    exact ⟨by rw [h2]; rfl, ((Fr.of_below HB5.out).setCell (b := w.heap.size + 1) (by omega) u1).setCell (b := w.heap.size + 1) (by omega) u2⟩
  by_cases h0 : t1 = 0
  · subst h0
    obtain ⟨k1, k2⟩ := HSET.out (.int .i64 0) (.int .i64 0)
    have K1 := Lib.hid k1
    have K2 := Lib.hid (k2.below (Nat.le_refl _) (fun k h => h))
    have K3 : Hid (Fr (fun k => k = w.heap.size + 1) w5 ((w5.setCell ⟨w.heap.size + 1, 0, none⟩ (.int .i64 0)).setCell ⟨w.heap.size + 1, 1, none⟩ (.int .i64 0))) := Lib.hid (((Fr.refl (fun k => k = w.heap.size + 1) w5).setCell (b := w.heap.size + 1) rfl _).setCell (b := w.heap.size + 1) rfl _)
    clear k1 k2
    go_wp2_with fail
    refine ⟨rfl, _, results_tmp_row rfl _ _ (w.heap.size + 1) 34 #[.int .i64 0, .int .i64 0] (0, 0) _ rfl K1.out Try.underlying34 Try.size34, ?_⟩
    have hn := HNUM.out
    refine ⟨K2.out, G, d, S, HW.out, HD.out, .inr ⟨by rw [HT.out], Q', N1 + 1, _, _, N1, _, rfl, fun b hb => Nat.lt_of_lt_of_le (by have := HQ2.out b hb; have := HS5.out; omega) K3.out.size, HENV5.out.keep K3.out.size (fun b hl hq => K3.out.block b hl ?_)⟩⟩
    rcases hq with rfl | rfl | rfl | rfl | hq
    · omega
    · omega
    · omega
    · omega
    · have := HQW.out b hq; omega
  · have hne : (t1 == 0) = false := by rw [beq_eq_false_iff_ne]; exact h0
    obtain ⟨k1, k2⟩ := HSET.out (.int .i64 t1) (.int .i64 t2)
    have K1 := Lib.hid k1
    have K2 := Lib.hid (k2.drew.below (Nat.le_refl _) (fun k h => h))
    have HT0 := Lib.hid h0
    clear k1 k2 h0
    go_wp2_with fail
    go_region
    go_wp2_with fail
    refine ⟨rfl, _, results_tmp_row rfl _ _ (w.heap.size + 1) 34 #[.int .i64 t1, .int .i64 t2] (0, 0) _ rfl K1.out Try.underlying34 Try.size34, ?_⟩
    refine ⟨K2.out, G, d, S, HW.out, HD.out, .inl ⟨by rw [HT.out]; exact HT0.out, by rw [HT.out]; rfl⟩⟩
end Go.Proofs.Ytjfhncbfbhkhgaa
