/- take: classes and their methods are kept. Conditions: those that each theorem names. -/
import Derived.Test.YtjfhncbfbhkhgaaTakeM
namespace Go.Proofs.Ytjfhncbfbhkhgaa
open Go.RowKit
/-- What holds while classes are taken. -/
structure TakeI (Q : Nat → Prop) (L : List Cls) (K : List (ByteArray × (ByteArray × Nat))) (I : List Ins) (H : HKey → Option Nat) (eb cb mb pb : Nat) (iv csv : Value) (C : List Cls) (w : World) (names : List ByteArray) (nv : Value) (wr : World) : Prop where
  env : EnvAt Q L (lookF K) I H eb cb mb pb iv wr
  cs : ClassesAt Q wr csv C
  names : OwnS w.heap.size wr nv names
  fr : Fr (fun b => b = cb ∨ b = mb) w wr
  cq : ¬ Q cb ∧ ¬ Q mb ∧ cb ≠ mb ∧ cb ≠ pb ∧ mb ≠ pb
  lt : cb < w.heap.size ∧ mb < w.heap.size ∧ w.heap.size ≤ wr.heap.size
  lt2 : eb < w.heap.size ∧ pb < w.heap.size ∧ ∀ b, Q b → b < w.heap.size
section
variable {Q : Nat → Prop} {L : List Cls} {K : List (ByteArray × (ByteArray × Nat))} {I : List Ins} {H : HKey → Option Nat} {eb cb mb pb : Nat} {iv csv : Value} {C : List Cls} {w : World} {names : List ByteArray} {nv : Value} {wr : World}
theorem TakeI.on (h : TakeI Q L K I H eb cb mb pb iv csv C w names nv wr) {w' : World} (hb : Below wr.heap.size wr w') : TakeI Q L K I H eb cb mb pb iv csv C w names nv w' :=
  ⟨h.env.on hb, h.cs.keep hb.size (fun b _ hl => hb.block b hl), own_on h.names hb, h.fr.trans (.of_below hb), h.cq, ⟨h.lt.1, h.lt.2.1, Nat.le_trans h.lt.2.2 hb.size⟩, h.lt2⟩
theorem EnvAt.ebne (h : EnvAt Q L (lookF K) I H eb cb mb pb iv wr) : eb ≠ cb ∧ eb ≠ mb := by
  refine ⟨fun e => ?_, fun e => ?_⟩
  · obtain ⟨sz, f, ⟨D, ⟨es, clock, hb, _⟩, _⟩, _⟩ := h.cls
    have := h.obj
    rw [e, hb] at this; injection this with this; cases this
  · obtain ⟨sz, f, ⟨D, ⟨es, clock, hb, _⟩, _⟩, _⟩ := h.mth
    have := h.obj
    rw [e, hb] at this; injection this with this; cases this
theorem TakeI.cls (h : TakeI Q L K I H eb cb mb pb iv csv C w names nv wr) {w' : World} {L' : List Cls} (hg : wr.grownBy w' (some cb)) (hc : ClsMap Q L' cb w') : TakeI Q L' K I H eb cb mb pb iv csv C w names nv w' := by
  obtain ⟨l1, l2, l3, l4⟩ := h.env.lts
  have ho : ∀ b, b < wr.heap.size → b ≠ cb → w'.heap[b]? = wr.heap[b]? := fun b hb hn => hg.block b hb (fun e => by injection e with e; exact hn e)
  have hq : ∀ b, Q b → b < wr.heap.size → w'.heap[b]? = wr.heap[b]? := fun b hb hl => ho b hl (fun e => h.cq.1 (e ▸ hb))
  refine ⟨⟨(ho eb l1 h.env.ebne.1).trans h.env.obj, hc, h.env.mth.block (ho mb l3 (fun e => h.cq.2.2.1 e.symm)), h.env.ins.keep hg.size hq, h.env.hd.block (ho pb l4 (fun e => h.cq.2.2.2.1 e.symm))⟩, h.cs.keep hg.size hq, own_keep h.names (fun g hgo => ho g (World.ownsRow.lt h.names g hgo).2 (fun e => by have := (World.ownsRow.lt h.names g hgo).1; have := h.lt.1; omega)), h.fr.grown hg (fun k e => by injection e with e; exact .inl e.symm), h.cq, ⟨h.lt.1, h.lt.2.1, Nat.le_trans h.lt.2.2 hg.size⟩, h.lt2⟩
theorem TakeI.mth (h : TakeI Q L K I H eb cb mb pb iv csv C w names nv wr) {w' : World} {K' : List (ByteArray × (ByteArray × Nat))} (hg : wr.grownBy w' (some mb)) (hc : MthMap (lookF K') mb w') : TakeI Q L K' I H eb cb mb pb iv csv C w names nv w' := by
  obtain ⟨l1, l2, l3, l4⟩ := h.env.lts
  have ho : ∀ b, b < wr.heap.size → b ≠ mb → w'.heap[b]? = wr.heap[b]? := fun b hb hn => hg.block b hb (fun e => by injection e with e; exact hn e)
  have hq : ∀ b, Q b → b < wr.heap.size → w'.heap[b]? = wr.heap[b]? := fun b hb hl => ho b hl (fun e => h.cq.2.1 (e ▸ hb))
  refine ⟨⟨(ho eb l1 h.env.ebne.2).trans h.env.obj, h.env.cls.keep hg.size (ho cb l2 h.cq.2.2.1) hq, hc, h.env.ins.keep hg.size hq, h.env.hd.block (ho pb l4 (fun e => h.cq.2.2.2.2 e.symm))⟩, h.cs.keep hg.size hq, own_keep h.names (fun g hgo => ho g (World.ownsRow.lt h.names g hgo).2 (fun e => by have := (World.ownsRow.lt h.names g hgo).1; have := h.lt.2.1; omega)), h.fr.grown hg (fun k e => by injection e with e; exact .inr e.symm), h.cq, ⟨h.lt.1, h.lt.2.1, Nat.le_trans h.lt.2.2 hg.size⟩, h.lt2⟩
theorem TakeI.again (h : TakeI Q L K I H eb cb mb pb iv csv C w names nv wr) {c d : Cls} (hn : clsOf L c.name = some d) : TakeI Q (L ++ [c]) K I H eb cb mb pb iv csv C w names nv wr :=
  ⟨⟨h.env.obj, h.env.cls.again hn, h.env.mth, h.env.ins, h.env.hd⟩, h.cs, h.names, h.fr, h.cq, h.lt, h.lt2⟩
theorem TakeI.mthAgain (h : TakeI Q L K I H eb cb mb pb iv csv C w names nv wr) {x nm : ByteArray} {k : Nat} {d : ByteArray × Nat} (hn : lookF K x = some d) : TakeI Q L (K ++ [(x, (nm, k))]) I H eb cb mb pb iv csv C w names nv wr :=
  ⟨⟨h.env.obj, h.env.cls, h.env.mth.again hn, h.env.ins, h.env.hd⟩, h.cs, h.names, h.fr, h.cq, h.lt, h.lt2⟩
theorem TakeI.name (h : TakeI Q L K I H eb cb mb pb iv csv C w names nv wr) {w' : World} {nv' : Value} {x : ByteArray} (ho : w'.ownsRow w.heap.size 9 1 nv' (names.length + 1) (names.map Value.string ++ [.string x])) (hg : (wr.alloc (.cells #[.string x] 9)).grownBy w' nv.ownBlock) : TakeI Q L K I H eb cb mb pb iv csv C w (names ++ [x]) nv' w' := by
  have hba := below_new wr (.cells #[.string x] 9)
  have h2 := h.on hba
  have hs := hg.size
  have hlo : ∀ b, b < w.heap.size → w'.heap[b]? = (wr.alloc (.cells #[.string x] 9)).heap[b]? := fun b hb => hg.block b (by have := h.lt.2.2; simp; omega) (fun e => by have := (World.ownsRow.lt h.names b e.symm).1; omega)
  refine ⟨h2.env.keep hs (fun b _ hq => hlo b ?_), h2.cs.keep hs (fun b hq _ => hlo b (h.lt2.2.2 b hq)), ?_, ⟨hg.os.trans h.fr.os, hg.tape.trans h.fr.tape, hg.output.trans h.fr.output, Nat.le_trans h2.lt.2.2 hs, fun k hk hn => (hlo k hk).trans ((hba.block k (by have := h.lt.2.2; omega)).trans (h.fr.block k hk hn))⟩, h.cq, ⟨h.lt.1, h.lt.2.1, Nat.le_trans h2.lt.2.2 hs⟩, h.lt2⟩
  · rcases hq with rfl | rfl | rfl | rfl | hq
    · exact h.lt2.1
    · exact h.lt.1
    · exact h.lt.2.1
    · exact h.lt2.2.1
    · exact h.lt2.2.2 b hq
  · show World.ownsRow _ _ 9 1 nv' (names ++ [x]).length ((names ++ [x]).map Value.string)
    rw [List.length_append, List.length_singleton, List.map_append]; exact ho
end
theorem ClassesAt.at {Q : Nat → Prop} {w : World} {A : Option Addr} {n c : Nat} {C : List Cls} (h : ClassesAt Q w (.slice A n c) C) {i : Nat} {d : Cls} (hd : C[i]? = some d) : ∃ b sv mv, A = some ⟨b, 0, none⟩ ∧ b < w.heap.size ∧ w.cell? ⟨b, i * 6, none⟩ = some (.string d.name) ∧ w.cell? ⟨b, i * 6 + 1, none⟩ = some (.int .i64 d.atp) ∧ w.cell? ⟨b, i * 6 + 2, none⟩ = some (.string d.var) ∧
    w.cell? ⟨b, i * 6 + 3, none⟩ = some (.slice none 0 0) ∧ w.cell? ⟨b, i * 6 + 4, none⟩ = some sv ∧ w.cell? ⟨b, i * 6 + 5, none⟩ = some mv ∧ StrsAt Q w sv d.supers ∧ SigsAt Q w mv d.meths := by
  obtain ⟨hi, rfl⟩ := List.getElem?_eq_some_iff.1 hd
  obtain ⟨A', c', e, _, _, hr⟩ := h
  injection e with e1 e2 e3
  subst e1
  rcases hr with h9 | ⟨b, e, _, hlt, hc⟩
  · rw [h9] at hi; simp at hi
  · obtain ⟨sv, mv, r⟩ := hc i hi
    exact ⟨b, sv, mv, e, hlt, r⟩
theorem SigsAt.at {Q : Nat → Prop} {w : World} {A : Option Addr} {n c : Nat} {ms : List (ByteArray × Int)} (h : SigsAt Q w (.slice A n c) ms) {i : Nat} {m : ByteArray × Int} (hd : ms[i]? = some m) : ∃ b, A = some ⟨b, 0, none⟩ ∧ b < w.heap.size ∧ w.cell? ⟨b, i * 9, none⟩ = some (.string m.1) ∧ w.cell? ⟨b, i * 9 + 1, none⟩ = some (.int .i64 m.2) ∧ w.cell? ⟨b, i * 9 + 2, none⟩ = some (.slice none 0 0) ∧
    w.cell? ⟨b, i * 9 + 3, none⟩ = some (.slice none 0 0) ∧ w.cell? ⟨b, i * 9 + 4, none⟩ = some (.slice none 0 0) ∧ w.cell? ⟨b, i * 9 + 5, none⟩ = some (.int .i64 0) ∧ w.cell? ⟨b, i * 9 + 6, none⟩ = some (.int .i64 0) ∧ w.cell? ⟨b, i * 9 + 7, none⟩ = some (.string ⟨#[]⟩) ∧ w.cell? ⟨b, i * 9 + 8, none⟩ = some (.slice none 0 0) := by
  obtain ⟨hi, rfl⟩ := List.getElem?_eq_some_iff.1 hd
  obtain ⟨A', c', e, _, _, hr⟩ := h
  injection e with e1 e2 e3
  subst e1
  rcases hr with h9 | ⟨b, e, _, hlt, hc⟩
  · rw [h9] at hi; simp at hi
  · exact ⟨b, e, hlt, hc i hi⟩
def TakeRes (Q : Nat → Prop) (C : List Cls) (I : List Ins) (H : HKey → Option Nat) (eb cb mb pb : Nat) (iv csv : Value) (w : World) (e : Ending) (w' : World) : Prop :=
  ∃ nv, e = .returned nv ∧ TakeI Q C (mths C) I H eb cb mb pb iv csv C w (namesF C []) nv w'
set_option maxRecDepth 100000 in
set_option maxHeartbeats 4000000 in
theorem take_any {Q : Nat → Prop} {C : List Cls} {I : List Ins} {H : HKey → Option Nat} {eb cb mb pb : Nat} {iv csv : Value} {w : World} (h : TakeI Q [] [] I H eb cb mb pb iv csv C w [] (.slice none 0 0) w) (hC : OkC C) (hM : (mths C).length ≤ 536870912) (hMs : ∀ c ∈ C, c.meths.length ≤ 536870912 ∧ ∀ m ∈ c.meths, m.1.size ≤ maxLen) :
    Calls Try.prog 34 #[.pointer (some ⟨eb, 0, none⟩), csv] w (TakeRes Q C I H eb cb mb pb iv csv w) := by
  obtain ⟨Ac, cc, rfl, hcc, hcm⟩ : ∃ A c, csv = .slice A C.length c ∧ C.length ≤ c ∧ c ≤ maxLen := by
    obtain ⟨A, c, e, h1, h2, _⟩ := h.cs
    exact ⟨A, c, e, h1, h2⟩
  have hCl : C.length ≤ 536870912 := by have := hC.len; unfold univ at this; simp at this; omega
  have HT := Lib.hid h
  have HCC := Lib.hid hC
  have HMM := Lib.hid hM
  have HMS := Lib.hid hMs
  unfold maxLen at hcm
  obtain ⟨i9, hi9, hz9, hs9, hb9⟩ := info_parts Try.info9
  clear h hC hM hMs
  go_enter Try.func34, Try.ntmps34
  go_wp2
  go_loopw [5, 14] (fun nv i wr => ∃ k : Nat, k ≤ C.length ∧ i = .int .i64 k ∧ TakeI Q (C.take k) (mths (C.take k)) I H eb cb mb pb iv (.slice Ac C.length cc) C w (namesF (C.take k) []) nv wr) (fun _ i _ => C.length - (intOf i).toNat)
  case atStart => exact ⟨0, Nat.zero_le _, rfl, HT.out⟩
  case round =>
    obtain ⟨k, hk, rfl, hI⟩ := hrel
    by_cases hlt : k < C.length
    · obtain ⟨c, hc⟩ : ∃ c, C[k]? = some c := ⟨_, List.getElem?_eq_getElem hlt⟩
      obtain ⟨b, sv, mv, e0, hb, q0, q1, q2, q3, q4, q5, hsv, hmv⟩ := hI.cs.at hc
      subst e0
      obtain ⟨As, cs, rfl, _⟩ := hsv.form
      obtain ⟨Am, cm, rfl, hcm1, hcm2⟩ : ∃ A e, mv = .slice A c.meths.length e ∧ c.meths.length ≤ e ∧ e ≤ maxLen := by
        obtain ⟨A, e, h1, h2, h3, _⟩ := hmv; exact ⟨A, e, h1, h2, h3⟩
      have hki : (k : Int) < (C.length : Int) := by omega
      have hk0 : (0 : Int) ≤ (k : Int) := by omega
      have HI := Lib.hid hI
      have HSV := Lib.hid hsv
      have HMV := Lib.hid hmv
      have HLT := Lib.hid hlt
      generalize hsl : c.supers.length = sl at *
      generalize hml : c.meths.length = ml at *
      have HC9 := Lib.hid hc
      have HSL := Lib.hid hsl
      have HML := Lib.hid hml
      obtain ⟨V, eV⟩ : ∃ V, V = wr.alloc (.cells #[.string c.name, .int .i64 c.atp, .string c.var, .slice none 0 0, .slice As sl cs, .slice Am ml cm] 59) := ⟨_, rfl⟩
      have HEV := Lib.hid eV
      clear hI hsv hmv hc hsl hml hlt eV
      have hIV : TakeI Q (C.take k) (mths (C.take k)) I H eb cb mb pb iv (.slice (some ⟨b, 0, none⟩) C.length cc) C w (namesF (C.take k) []) u5 V := HI.out.on (by rw [HEV.out]; exact below_new wr _)
      have hnm : c.name.size ≤ maxLen := HCC.out.size c.name (List.mem_append_left _ (List.mem_map.2 ⟨c, List.mem_of_getElem? HC9.out, rfl⟩))
      have HHAS := Lib.hid (has_any hIV.env c.name hnm)
      have hbx : V.heap[wr.heap.size]? = some (.cells #[.string c.name, .int .i64 c.atp, .string c.var, .slice none 0 0, .slice As sl cs, .slice Am ml cm] 59) := by rw [HEV.out, alloc_get, if_pos rfl]
      have HIV := Lib.hid hIV
      have HBX := Lib.hid hbx
      have hbw : w.heap.size ≤ wr.heap.size := HI.out.lt.2.2
      have hBV : Below wr.heap.size wr V := by rw [HEV.out]; exact below_new wr _
      have HSV2 := Lib.hid (HSV.out.on hBV)
      have HMV2 := Lib.hid (HMV.out.keep hBV.size (fun b _ hl => hBV.block b hl))
      clear hIV hbx hBV
      generalize hub : wr.heap.size = ub at *
      have HUB := Lib.hid hub
      have hubV : ub < V.heap.size := lt_of_block HBX.out
      clear hub
      go_wp2_with fail
      rw [← HEV.out]
      with_reducible refine HHAS.out.mono ?_
      rintro e w2 ⟨rfl, hb2⟩
      rw [HUB.out]
      have HI2 := Lib.hid (HIV.out.on hb2)
      have HBX2 := Lib.hid ((hb2.block ub hubV).trans HBX.out)
      have HSV3 := Lib.hid (HSV2.out.on hb2)
      have HMV3 := Lib.hid (HMV2.out.keep hb2.size (fun b _ hl => hb2.block b hl))
      have hub2 : ub < w2.heap.size := Nat.lt_of_lt_of_le hubV hb2.size
      clear hb2 HIV HBX HSV2 HMV2 HHAS hubV HI HEV HSV HMV hb q0 q1 q2 q3 q4 q5
      obtain ⟨An, cn, rfl, hcn1, hcn2⟩ := own_form HI2.out.names
      have hnl := namesF_len (C.take k) []
      rw [List.length_take] at hnl
      simp only [List.length_nil, Nat.zero_add] at hnl
      generalize hnn : (namesF (C.take k) []).length = nn at *
      have HNN := Lib.hid hnn
      clear hnn
      have d0 : w2.cell? ⟨ub, 0, none⟩ = some (.string c.name) ∧ w2.cell? ⟨ub, 1, none⟩ = some (.int .i64 c.atp) ∧ w2.cell? ⟨ub, 2, none⟩ = some (.string c.var) ∧ w2.cell? ⟨ub, 3, none⟩ = some (.slice none 0 0) ∧ w2.cell? ⟨ub, 4, none⟩ = some (.slice As sl cs) ∧ w2.cell? ⟨ub, 5, none⟩ = some (.slice Am ml cm) := by
        have := HBX2.out
        simp [World.cell?, this]
      have TAKE : Hid (C.take (k + 1) = C.take k ++ [c]) := Lib.hid (by rw [List.take_add_one, HC9.out]; rfl)
      cases hcl : clsOf (C.take k) c.name with
      | some d =>
        have hh : hasF (C.take k) c.name = true := by unfold hasF; rw [hcl]; rfl
        rw [hh]
        clear d0
        have HI4 : Hid (TakeI Q (C.take (k + 1)) (mths (C.take k)) I H eb cb mb pb iv (.slice (some ⟨b, 0, none⟩) C.length cc) C w (namesF (C.take (k + 1)) []) (.slice An nn cn) w2) := Lib.hid (by
          have h9 := HI2.out.again hcl
          rw [TAKE.out, namesF_snoc, if_pos ((namesF_mem _ _ _).2 (.inr (hasF_mem hh)))]
          exact h9)
        have HBX4 := HBX2
        have HMV4 := HMV3
        have hub4 := hub2
        generalize hA4 : An = A4 at *
        generalize hn4 : nn = n4 at *
        generalize hc4 : cn = c4 at *
        generalize hw4 : w2 = w4 at *
        have e5 : w4.cell? ⟨ub, 5, none⟩ = some (.slice Am ml cm) := by
          have := HBX4.out
          simp [World.cell?, this]
        clear hcl hh hA4 hn4 hc4 hw4
        clear HI2 HBX2 HSV3 HMV3 HNN
        go_wp2_with fail
        go_loopw [38] (fun j wr => ∃ m : Nat, m ≤ ml ∧ j = .int .i64 m ∧ TakeI Q (C.take (k + 1)) (mths (C.take k) ++ mthsK c.name 0 (c.meths.take m)) I H eb cb mb pb iv (.slice (some ⟨b, 0, none⟩) C.length cc) C w (namesF (C.take (k + 1)) []) (.slice A4 n4 c4) wr ∧ SigsAt Q wr (.slice Am ml cm) c.meths ∧ wr.heap[ub]? = some (.cells #[.string c.name, .int .i64 c.atp, .string c.var, .slice none 0 0, .slice As sl cs, .slice Am ml cm] 59)) (fun j _ => ml - (intOf j).toNat)
        case atStart => exact ⟨0, Nat.zero_le _, rfl, by simpa [mthsK] using HI4.out, HMV4.out, HBX4.out⟩
        case round =>
          obtain ⟨m, hm, rfl, hJ, hS, hbx⟩ := hrel
          by_cases hml2 : m < ml
          · obtain ⟨mm, hmm⟩ : ∃ mm, c.meths[m]? = some mm := ⟨_, List.getElem?_eq_getElem (by rw [HML.out]; exact hml2)⟩
            obtain ⟨sb, e9, hsb, q0, q1, q2, q3, q4, q5, q6, q7, q8⟩ := hS.at hmm
            subst e9
            have hmi : (m : Int) < (ml : Int) := by omega
            have hm0 : (0 : Int) ≤ (m : Int) := by omega
            have hmc : (m : Int) < (cm : Int) := by omega
            have HJ := Lib.hid hJ
            have HS := Lib.hid hS
            have HBY := Lib.hid hbx
            have hmx : mm.1.size ≤ maxLen := (HMS.out c (List.mem_of_getElem? HC9.out)).2 mm (List.mem_of_getElem? hmm)
            obtain ⟨V2, eV2⟩ : ∃ V2, V2 = wr.alloc (.cells #[.string mm.1, .int .i64 mm.2, .slice none 0 0, .slice none 0 0, .slice none 0 0, .int .i64 0, .int .i64 0, .string ⟨#[]⟩, .slice none 0 0] 81) := ⟨_, rfl⟩
            have hbV2 : Below wr.heap.size wr V2 := by rw [eV2]; exact below_new wr _
            have HJ2 := Lib.hid (hJ.on hbV2)
            have HV2 := Lib.hid eV2
            have hvb : V2.heap[wr.heap.size]? = some (.cells #[.string mm.1, .int .i64 mm.2, .slice none 0 0, .slice none 0 0, .slice none 0 0, .int .i64 0, .int .i64 0, .string ⟨#[]⟩, .slice none 0 0] 81) := by rw [eV2, alloc_get, if_pos rfl]
            have HVB := Lib.hid hvb
            have HBV2 := Lib.hid hbV2
            clear hJ hS hbx eV2 hbV2 hvb
            go_wp2_with fail
            rw [← HV2.out]
            generalize hvbn : wr.heap.size = vb at *
            have HVBN := Lib.hid hvbn
            have hmlb : ml ≤ 536870912 := by have := (HMS.out c (List.mem_of_getElem? HC9.out)).1; rw [HML.out] at this; exact this
            clear hvbn
            clear q0 q1 q2 q3 q4 q5 q6 q7 q8 hsb
            obtain ⟨_, y1, _, _⟩ := HJ2.out.env.cells
            have y2 : V2.cell? ⟨vb, 0, none⟩ = some (.string mm.1) := by
              have := HVB.out
              simp [World.cell?, this]
            have hlk := HJ2.out.env.mth.look_ok hmx
            have hlt2 := HJ2.out.env.lts
            have k1 := hlk V2.drew rfl
            have k2 := fun o => hlk (V2.drew.alloc o) ((below_new V2.drew o).block mb hlt2.2.2.1)
            have k3 := fun o => hlk (V2.alloc o) ((below_new V2 o).block mb hlt2.2.2.1)
            have hebl := hlt2.1
            have hvbl : vb < V2.heap.size := lt_of_block HVB.out
            have k4 := fun o => hlk (V2.alloc o).drew ((below_new V2 o).block mb hlt2.2.2.1)
            have MTAKE : Hid (mthsK c.name 0 (c.meths.take (m + 1)) = mthsK c.name 0 (c.meths.take m) ++ [(mm.1, (c.name, m))]) := Lib.hid (by
              rw [List.take_add_one, hmm]
              have h9 := mthsK_snoc c.name mm (c.meths.take m) 0
              rw [List.length_take, HML.out, Nat.min_eq_left (Nat.le_of_lt hml2), Nat.zero_add] at h9
              exact h9)
            clear hlk hlt2
            cases hlo : lookF (mths (C.take k) ++ mthsK c.name 0 (c.meths.take m)) mm.1 with
            | some dd =>
              rw [hlo] at k1 k2 k3 k4
              simp only [Option.getD_some, Option.isSome_some] at k1 k2 k3 k4
              have HREL : Hid (∀ D, Below V2.heap.size V2 D → TakeI Q (C.take (k + 1)) (mths (C.take k) ++ mthsK c.name 0 (c.meths.take (m + 1))) I H eb cb mb pb iv (.slice (some ⟨b, 0, none⟩) C.length cc) C w (namesF (C.take (k + 1)) []) (.slice A4 n4 c4) D ∧ SigsAt Q D (.slice (some ⟨sb, 0, none⟩) ml cm) c.meths ∧ D.heap[ub]? = some (.cells #[.string c.name, .int .i64 c.atp, .string c.var, .slice none 0 0, .slice As sl cs, .slice (some ⟨sb, 0, none⟩) ml cm] 59)) := Lib.hid fun D hD => by
                have hub9 := lt_of_block HBY.out
                have hz9 := HBV2.out.size
                have hz8 := hD.size
                refine ⟨?_, HS.out.keep (Nat.le_trans hz9 hz8) (fun q _ hl => (hD.block q (by have := HVBN.out; omega)).trans (HBV2.out.block q (by have := HVBN.out; omega))), ((hD.block ub (by omega)).trans (HBV2.out.block ub (by have := HVBN.out; omega))).trans HBY.out⟩
                rw [MTAKE.out, ← List.append_assoc]
                exact (HJ2.out.on hD).mthAgain hlo
              clear hlo
              go_region
              all_goals
                go_wp2
                go_roundw
                case rel => exact ⟨m + 1, by omega, by go_num, HREL.out _ (by first | exact (below_new V2 _).drew | exact (((Below.refl _ _).drew).alloc (Nat.le_refl _) _))⟩
                case measure => simp [intOf]; omega
            | none =>
              rw [hlo] at k1 k2 k3 k4
              simp only [Option.getD_none, Option.isSome_none] at k1 k2 k3 k4
              have hKl : (mths (C.take k) ++ mthsK c.name 0 (c.meths.take m)).length < maxLen := by
                have h9 := mths_part HC9.out m
                have h8 := HMM.out
                unfold maxLen; omega
              have HREL : Hid (∀ D, Below V2.heap.size V2 D → ∃ w9, (Instr.mapUpdate 83 (.map (some mb)) (.string mm.1) (.agg #[.string c.name, .int .i64 m])).run Try.prog D = .ok () w9 ∧ TakeI Q (C.take (k + 1)) (mths (C.take k) ++ mthsK c.name 0 (c.meths.take (m + 1))) I H eb cb mb pb iv (.slice (some ⟨b, 0, none⟩) C.length cc) C w (namesF (C.take (k + 1)) []) (.slice A4 n4 c4) w9 ∧ SigsAt Q w9 (.slice (some ⟨sb, 0, none⟩) ml cm) c.meths ∧ w9.heap[ub]? = some (.cells #[.string c.name, .int .i64 c.atp, .string c.var, .slice none 0 0, .slice As sl cs, .slice (some ⟨sb, 0, none⟩) ml cm] 59)) := Lib.hid fun D hD => by
                have hub9 := lt_of_block HBY.out
                have hz9 := HBV2.out.size
                have hz8 := hD.size
                have hJD := HJ2.out.on hD
                obtain ⟨w9, r1, r2, r3⟩ := hJD.env.mth.store (nm := c.name) (k := m) hlo hKl hmx
                have hmbB := HJ2.out.lt.2.1
                have hBu : w.heap.size ≤ ub := hbw
                have hoth : ∀ q, q < D.heap.size → q ≠ mb → w9.heap[q]? = D.heap[q]? := fun q hq hn => r3.block q hq (fun e => by injection e with e; exact hn e)
                refine ⟨w9, r1, ?_, HS.out.keep (Nat.le_trans hz9 (Nat.le_trans hz8 r3.size)) (fun q hq hl => (hoth q (by have := HVBN.out; omega) (fun e => HJ2.out.cq.2.1 (e ▸ hq))).trans ((hD.block q (by have := HVBN.out; omega)).trans (HBV2.out.block q (by have := HVBN.out; omega)))), ((hoth ub (by omega) (by omega)).trans ((hD.block ub (by omega)).trans (HBV2.out.block ub (by have := HVBN.out; omega)))).trans HBY.out⟩
                rw [MTAKE.out, ← List.append_assoc]
                exact hJD.mth r3 r2
              clear hlo
              have ya : ∀ o, (V2.alloc o).cell? ⟨vb, 0, none⟩ = some (.string mm.1) := fun o => ((below_new V2 o).cell (p := ⟨vb, 0, none⟩) hvbl).trans y2
              have yb : ∀ o, (V2.alloc o).cell? ⟨eb, 1, none⟩ = some (.map (some mb)) := fun o => ((below_new V2 o).cell (p := ⟨eb, 1, none⟩) hebl).trans y1
              have hbD : ∀ o, Below V2.heap.size V2 (V2.alloc o).drew.drew := fun o => ((below_new V2 o).drew).drew
              have u0 : ∀ o, (V2.alloc o).cell? ⟨ub, 0, none⟩ = some (.string c.name) := fun o => by
                have h9 := lt_of_block HBY.out
                have h8 := HBV2.out.size
                have h7 := HVBN.out
                have h6 : (V2.alloc o).heap[ub]? = _ := ((below_new V2 o).block ub (by omega)).trans ((HBV2.out.block ub (by have := HVBN.out; omega)).trans HBY.out)
                simp [World.cell?, h6]
              go_region
              all_goals
                obtain ⟨w9, r1, g1, g2, g3⟩ := HREL.out _ (hbD (.cells #[.string ⟨#[]⟩, .int .i64 0] 118))
                have G1 := Lib.hid g1
                have G2 := Lib.hid g2
                have G3 := Lib.hid g3
                clear g1 g2 g3
                go_wp2_with fail
                go_region
                all_goals
                  go_wp2
                  go_roundw
                  case rel => exact ⟨m + 1, by omega, by go_num, G1.out, G2.out, G3.out⟩
                  case measure => simp [intOf]; omega
          · have hme : m = ml := by omega
            subst hme
            have G1 : Hid (TakeI Q (C.take (k + 1)) (mths (C.take (k + 1))) I H eb cb mb pb iv (.slice (some ⟨b, 0, none⟩) C.length cc) C w (namesF (C.take (k + 1)) []) (.slice A4 n4 c4) wr) := Lib.hid (by
              rw [TAKE.out] at hJ ⊢
              rw [mths_snoc, ← List.take_of_length_le (l := c.meths) (i := m) (by rw [HML.out]; exact Nat.le_refl _)]
              rw [List.take_of_length_le (l := c.meths) (i := m) (by rw [HML.out]; exact Nat.le_refl _)] at hJ ⊢
              exact hJ)
            have hd : decide (m < m) = false := by simp
            clear hJ hS hbx
            go_wp2
            go_roundw
            case rel => exact ⟨k + 1, by omega, by go_num, G1.out⟩
            case measure => simp [intOf]; omega
      | none =>
        have hh : hasF (C.take k) c.name = false := by unfold hasF; rw [hcl]; rfl
        rw [hh]
        obtain ⟨e0, e1, e2, e3, e4, e5⟩ := d0
        have c0 := HI2.out.env.cells.1
        have hI2d := HI2.out.on (Below.refl _ _).drew
        obtain ⟨w3, r1, r2, r3⟩ := hI2d.env.cls.store (c := c) hcl (by rw [List.length_take]; unfold maxLen; omega) hnm HI2.out.cq.1 (A := Am) (n := ml) (m := cm) (HSV3.out.on (Below.refl _ _).drew)
        have HI3 := Lib.hid (hI2d.cls r3 r2)
        have HBX3 : Hid (w3.heap[ub]? = _) := Lib.hid ((r3.block ub hub2 (fun e => by injection e with e; have := HI2.out.lt.1; omega)).trans HBX2.out)
        have HG3 := Lib.hid r3
        unfold clsV at r1
        have HNM : Hid (c.name ∉ (C.take k).map (·.name)) := Lib.hid (fun h9 => by obtain ⟨d, h8, h7⟩ := List.mem_map.1 h9; exact clsOf_none hcl d h8 h7)
        clear r2 r3 hI2d hcl hh
        go_wp2_with fail
        go_region
        have f0 : w3.cell? ⟨ub, 0, none⟩ = some (.string c.name) := by
          have := HBX3.out
          simp [World.cell?, this]
        have HP : Hid (∀ v' w5, w5.ownsRow w.heap.size 9 1 v' (nn + 1) ((namesF (C.take k) []).map Value.string ++ [.string c.name]) → (w3.alloc (.cells #[.string c.name] 9)).grownBy w5 (Value.slice An nn cn).ownBlock → TakeI Q (C.take (k + 1)) (mths (C.take k)) I H eb cb mb pb iv (.slice (some ⟨b, 0, none⟩) C.length cc) C w (namesF (C.take (k + 1)) []) v' w5 ∧ w5.heap[ub]? = some (.cells #[.string c.name, .int .i64 c.atp, .string c.var, .slice none 0 0, .slice As sl cs, .slice Am ml cm] 59) ∧ SigsAt Q w5 (.slice Am ml cm) c.meths ∧ ub < w5.heap.size ∧ w5.cell? ⟨ub, 5, none⟩ = some (.slice Am ml cm)) := Lib.hid fun v' w5 a1 a2 => by
          have hne : (Value.slice An nn cn).ownBlock ≠ some ub := own_not HI3.out.names HBX3.out (by decide)
          have hba := below_new w3 (.cells #[.string c.name] 9)
          have hub3 : ub < w3.heap.size := lt_of_block HBX3.out
          have h9 := HI3.out.name (x := c.name) (nv' := v') (w' := w5) (by rw [HNN.out]; exact a1) a2
          have hubw : w5.heap[ub]? = some (.cells #[.string c.name, .int .i64 c.atp, .string c.var, .slice none 0 0, .slice As sl cs, .slice Am ml cm] 59) := ((a2.block ub (by simp; omega) (fun e => hne e.symm)).trans (hba.block ub hub3)).trans HBX3.out
          refine ⟨?_, hubw, HMV3.out.keep (Nat.le_trans HG3.out.size (Nat.le_trans hba.size a2.size)) (fun q hq hl => ?_), lt_of_block hubw, by simp [World.cell?, hubw]⟩
          · rw [TAKE.out, namesF_snoc, if_neg (fun h8 => HNM.out (((namesF_mem _ _ _).1 h8).elim (fun h => by cases h) id))]
            exact h9
          · have hqB := HI2.out.lt2.2.2 q hq
            have hB3 := HI3.out.lt.2.2
            exact (a2.block q (by simp; omega) (fun e => by have := (World.ownsRow.lt HI3.out.names q e.symm).1; omega)).trans ((hba.block q (by omega)).trans (HG3.out.block q hl (fun e => by injection e with e; exact HI2.out.cq.1 (e ▸ hq))))
        have HOW : Hid ((w3.alloc (.cells #[.string c.name] 9)).ownsRow w.heap.size 9 1 (.slice An nn cn) nn ((namesF (C.take k) []).map Value.string)) := Lib.hid (by
          have := World.ownsRow.alloc HI3.out.names (.cells #[.string c.name] 9)
          rw [HNN.out] at this; exact this)
        have HNW := Lib.hid (one_new w3 (.string c.name) 9)
        have H63 : Hid (nn + 1 ≤ maxLen) := Lib.hid (by unfold maxLen; omega)
        have HNL : Hid (nn ≤ 536870912) := Lib.hid (by omega)
        have HBB : Hid (w.heap.size ≤ w3.heap.size) := Lib.hid HI3.out.lt.2.2
        clear e0 e1 e2 e3 e4 e5 c0 r1
        go_wp2_with (at_builtin; refine wpList_append_own_at _ rfl (.tmp 30) (.tmp 33) 40 rfl w.heap.size 9 i9 (.string ⟨#[]⟩) 1 16 Try.underlying40 hi9 hz9 hs9 hb9 rfl (by decide) _ nn ((namesF (C.take k) []).map Value.string) rfl HOW.out ⟨w3.heap.size, 0, none⟩ 1 1 [.string c.name] rfl rfl HNW.out (one_str _) H63.out (by have := HNL.out; omega) (by have := HBB.out; simp; omega) ?_; intro v' w4 hown2 hg2 _ hat2; obtain ⟨p1, p2, p3, hub4, e5⟩ := HP.out v' w4 hown2 hg2; obtain ⟨A4, c4, rfl, _⟩ := own_form hown2; have HI4 := Lib.hid p1; have HBX4 := Lib.hid p2; have HMV4 := Lib.hid p3; clear p1 p2 p3 hown2 hat2 hg2)
        generalize hn4 : nn + 1 = n4 at *
        clear hn4 HP HOW HNW HI3 HBX3 HG3 HBB
        clear HI2 HBX2 HSV3 HMV3 HNN
        go_wp2_with fail
        go_loopw [38] (fun j wr => ∃ m : Nat, m ≤ ml ∧ j = .int .i64 m ∧ TakeI Q (C.take (k + 1)) (mths (C.take k) ++ mthsK c.name 0 (c.meths.take m)) I H eb cb mb pb iv (.slice (some ⟨b, 0, none⟩) C.length cc) C w (namesF (C.take (k + 1)) []) (.slice A4 n4 c4) wr ∧ SigsAt Q wr (.slice Am ml cm) c.meths ∧ wr.heap[ub]? = some (.cells #[.string c.name, .int .i64 c.atp, .string c.var, .slice none 0 0, .slice As sl cs, .slice Am ml cm] 59)) (fun j _ => ml - (intOf j).toNat)
        case atStart => exact ⟨0, Nat.zero_le _, rfl, by simpa [mthsK] using HI4.out, HMV4.out, HBX4.out⟩
        case round =>
          obtain ⟨m, hm, rfl, hJ, hS, hbx⟩ := hrel
          by_cases hml2 : m < ml
          · obtain ⟨mm, hmm⟩ : ∃ mm, c.meths[m]? = some mm := ⟨_, List.getElem?_eq_getElem (by rw [HML.out]; exact hml2)⟩
            obtain ⟨sb, e9, hsb, q0, q1, q2, q3, q4, q5, q6, q7, q8⟩ := hS.at hmm
            subst e9
            have hmi : (m : Int) < (ml : Int) := by omega
            have hm0 : (0 : Int) ≤ (m : Int) := by omega
            have hmc : (m : Int) < (cm : Int) := by omega
            have HJ := Lib.hid hJ
            have HS := Lib.hid hS
            have HBY := Lib.hid hbx
            have hmx : mm.1.size ≤ maxLen := (HMS.out c (List.mem_of_getElem? HC9.out)).2 mm (List.mem_of_getElem? hmm)
            obtain ⟨V2, eV2⟩ : ∃ V2, V2 = wr.alloc (.cells #[.string mm.1, .int .i64 mm.2, .slice none 0 0, .slice none 0 0, .slice none 0 0, .int .i64 0, .int .i64 0, .string ⟨#[]⟩, .slice none 0 0] 81) := ⟨_, rfl⟩
            have hbV2 : Below wr.heap.size wr V2 := by rw [eV2]; exact below_new wr _
            have HJ2 := Lib.hid (hJ.on hbV2)
            have HV2 := Lib.hid eV2
            have hvb : V2.heap[wr.heap.size]? = some (.cells #[.string mm.1, .int .i64 mm.2, .slice none 0 0, .slice none 0 0, .slice none 0 0, .int .i64 0, .int .i64 0, .string ⟨#[]⟩, .slice none 0 0] 81) := by rw [eV2, alloc_get, if_pos rfl]
            have HVB := Lib.hid hvb
            have HBV2 := Lib.hid hbV2
            clear hJ hS hbx eV2 hbV2 hvb
            go_wp2_with fail
            rw [← HV2.out]
            generalize hvbn : wr.heap.size = vb at *
            have HVBN := Lib.hid hvbn
            have hmlb : ml ≤ 536870912 := by have := (HMS.out c (List.mem_of_getElem? HC9.out)).1; rw [HML.out] at this; exact this
            clear hvbn
            clear q0 q1 q2 q3 q4 q5 q6 q7 q8 hsb
            obtain ⟨_, y1, _, _⟩ := HJ2.out.env.cells
            have y2 : V2.cell? ⟨vb, 0, none⟩ = some (.string mm.1) := by
              have := HVB.out
              simp [World.cell?, this]
            have hlk := HJ2.out.env.mth.look_ok hmx
            have hlt2 := HJ2.out.env.lts
            have k1 := hlk V2.drew rfl
            have k2 := fun o => hlk (V2.drew.alloc o) ((below_new V2.drew o).block mb hlt2.2.2.1)
            have k3 := fun o => hlk (V2.alloc o) ((below_new V2 o).block mb hlt2.2.2.1)
            have hebl := hlt2.1
            have hvbl : vb < V2.heap.size := lt_of_block HVB.out
            have k4 := fun o => hlk (V2.alloc o).drew ((below_new V2 o).block mb hlt2.2.2.1)
            have MTAKE : Hid (mthsK c.name 0 (c.meths.take (m + 1)) = mthsK c.name 0 (c.meths.take m) ++ [(mm.1, (c.name, m))]) := Lib.hid (by
              rw [List.take_add_one, hmm]
              have h9 := mthsK_snoc c.name mm (c.meths.take m) 0
              rw [List.length_take, HML.out, Nat.min_eq_left (Nat.le_of_lt hml2), Nat.zero_add] at h9
              exact h9)
            clear hlk hlt2
            cases hlo : lookF (mths (C.take k) ++ mthsK c.name 0 (c.meths.take m)) mm.1 with
            | some dd =>
              rw [hlo] at k1 k2 k3 k4
              simp only [Option.getD_some, Option.isSome_some] at k1 k2 k3 k4
              have HREL : Hid (∀ D, Below V2.heap.size V2 D → TakeI Q (C.take (k + 1)) (mths (C.take k) ++ mthsK c.name 0 (c.meths.take (m + 1))) I H eb cb mb pb iv (.slice (some ⟨b, 0, none⟩) C.length cc) C w (namesF (C.take (k + 1)) []) (.slice A4 n4 c4) D ∧ SigsAt Q D (.slice (some ⟨sb, 0, none⟩) ml cm) c.meths ∧ D.heap[ub]? = some (.cells #[.string c.name, .int .i64 c.atp, .string c.var, .slice none 0 0, .slice As sl cs, .slice (some ⟨sb, 0, none⟩) ml cm] 59)) := Lib.hid fun D hD => by
                have hub9 := lt_of_block HBY.out
                have hz9 := HBV2.out.size
                have hz8 := hD.size
                refine ⟨?_, HS.out.keep (Nat.le_trans hz9 hz8) (fun q _ hl => (hD.block q (by have := HVBN.out; omega)).trans (HBV2.out.block q (by have := HVBN.out; omega))), ((hD.block ub (by omega)).trans (HBV2.out.block ub (by have := HVBN.out; omega))).trans HBY.out⟩
                rw [MTAKE.out, ← List.append_assoc]
                exact (HJ2.out.on hD).mthAgain hlo
              clear hlo
              go_region
              all_goals
                go_wp2
                go_roundw
                case rel => exact ⟨m + 1, by omega, by go_num, HREL.out _ (by first | exact (below_new V2 _).drew | exact (((Below.refl _ _).drew).alloc (Nat.le_refl _) _))⟩
                case measure => simp [intOf]; omega
            | none =>
              rw [hlo] at k1 k2 k3 k4
              simp only [Option.getD_none, Option.isSome_none] at k1 k2 k3 k4
              have hKl : (mths (C.take k) ++ mthsK c.name 0 (c.meths.take m)).length < maxLen := by
                have h9 := mths_part HC9.out m
                have h8 := HMM.out
                unfold maxLen; omega
              have HREL : Hid (∀ D, Below V2.heap.size V2 D → ∃ w9, (Instr.mapUpdate 83 (.map (some mb)) (.string mm.1) (.agg #[.string c.name, .int .i64 m])).run Try.prog D = .ok () w9 ∧ TakeI Q (C.take (k + 1)) (mths (C.take k) ++ mthsK c.name 0 (c.meths.take (m + 1))) I H eb cb mb pb iv (.slice (some ⟨b, 0, none⟩) C.length cc) C w (namesF (C.take (k + 1)) []) (.slice A4 n4 c4) w9 ∧ SigsAt Q w9 (.slice (some ⟨sb, 0, none⟩) ml cm) c.meths ∧ w9.heap[ub]? = some (.cells #[.string c.name, .int .i64 c.atp, .string c.var, .slice none 0 0, .slice As sl cs, .slice (some ⟨sb, 0, none⟩) ml cm] 59)) := Lib.hid fun D hD => by
                have hub9 := lt_of_block HBY.out
                have hz9 := HBV2.out.size
                have hz8 := hD.size
                have hJD := HJ2.out.on hD
                obtain ⟨w9, r1, r2, r3⟩ := hJD.env.mth.store (nm := c.name) (k := m) hlo hKl hmx
                have hmbB := HJ2.out.lt.2.1
                have hBu : w.heap.size ≤ ub := hbw
                have hoth : ∀ q, q < D.heap.size → q ≠ mb → w9.heap[q]? = D.heap[q]? := fun q hq hn => r3.block q hq (fun e => by injection e with e; exact hn e)
                refine ⟨w9, r1, ?_, HS.out.keep (Nat.le_trans hz9 (Nat.le_trans hz8 r3.size)) (fun q hq hl => (hoth q (by have := HVBN.out; omega) (fun e => HJ2.out.cq.2.1 (e ▸ hq))).trans ((hD.block q (by have := HVBN.out; omega)).trans (HBV2.out.block q (by have := HVBN.out; omega)))), ((hoth ub (by omega) (by omega)).trans ((hD.block ub (by omega)).trans (HBV2.out.block ub (by have := HVBN.out; omega)))).trans HBY.out⟩
                rw [MTAKE.out, ← List.append_assoc]
                exact hJD.mth r3 r2
              clear hlo
              have ya : ∀ o, (V2.alloc o).cell? ⟨vb, 0, none⟩ = some (.string mm.1) := fun o => ((below_new V2 o).cell (p := ⟨vb, 0, none⟩) hvbl).trans y2
              have yb : ∀ o, (V2.alloc o).cell? ⟨eb, 1, none⟩ = some (.map (some mb)) := fun o => ((below_new V2 o).cell (p := ⟨eb, 1, none⟩) hebl).trans y1
              have hbD : ∀ o, Below V2.heap.size V2 (V2.alloc o).drew.drew := fun o => ((below_new V2 o).drew).drew
              have u0 : ∀ o, (V2.alloc o).cell? ⟨ub, 0, none⟩ = some (.string c.name) := fun o => by
                have h9 := lt_of_block HBY.out
                have h8 := HBV2.out.size
                have h7 := HVBN.out
                have h6 : (V2.alloc o).heap[ub]? = _ := ((below_new V2 o).block ub (by omega)).trans ((HBV2.out.block ub (by have := HVBN.out; omega)).trans HBY.out)
                simp [World.cell?, h6]
              go_region
              all_goals
                obtain ⟨w9, r1, g1, g2, g3⟩ := HREL.out _ (hbD (.cells #[.string ⟨#[]⟩, .int .i64 0] 118))
                have G1 := Lib.hid g1
                have G2 := Lib.hid g2
                have G3 := Lib.hid g3
                clear g1 g2 g3
                go_wp2_with fail
                go_region
                all_goals
                  go_wp2
                  go_roundw
                  case rel => exact ⟨m + 1, by omega, by go_num, G1.out, G2.out, G3.out⟩
                  case measure => simp [intOf]; omega
          · have hme : m = ml := by omega
            subst hme
            have G1 : Hid (TakeI Q (C.take (k + 1)) (mths (C.take (k + 1))) I H eb cb mb pb iv (.slice (some ⟨b, 0, none⟩) C.length cc) C w (namesF (C.take (k + 1)) []) (.slice A4 n4 c4) wr) := Lib.hid (by
              rw [TAKE.out] at hJ ⊢
              rw [mths_snoc, ← List.take_of_length_le (l := c.meths) (i := m) (by rw [HML.out]; exact Nat.le_refl _)]
              rw [List.take_of_length_le (l := c.meths) (i := m) (by rw [HML.out]; exact Nat.le_refl _)] at hJ ⊢
              exact hJ)
            have hd : decide (m < m) = false := by simp
            clear hJ hS hbx
            go_wp2
            go_roundw
            case rel => exact ⟨k + 1, by omega, by go_num, G1.out⟩
            case measure => simp [intOf]; omega
    · have hke : k = C.length := by omega
      subst hke
      have HRES : Hid (TakeRes Q C I H eb cb mb pb iv (.slice Ac C.length cc) w (.returned u5) wr) := Lib.hid ⟨u5, rfl, by rw [List.take_of_length_le (Nat.le_refl _)] at hI; exact hI⟩
      obtain ⟨An, cn, rfl, _⟩ := own_form hI.names
      generalize (namesF (C.take C.length) []).length = nn at *
      have hd : decide (C.length < C.length) = false := by simp
      clear hI
      go_wp2
      go_ret
      exact HRES.out
end Go.Proofs.Ytjfhncbfbhkhgaa
