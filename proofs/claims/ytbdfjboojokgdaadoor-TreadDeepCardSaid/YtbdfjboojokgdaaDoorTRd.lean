/- Tokens in memory and a reader of them (tread of chapter 5): the token that is next, symbols, refusals. No conditions but those that each theorem names. -/
import Derived.Test.YtbdfjboojokgdaaDoorJ14
import Derived.Test.YtbdfjboojokgdaaDoorJ17
namespace Go.Proofs.YtbdfjboojokgdaaDoor
open Go.RowKit Lx

def tokV (t : Tok) : Value := .agg #[.int .i64 t.kind, .string (mkB t.text), .int .i64 t.num, .int .i64 t.place]
/-- Tokens lie in this block. -/
def TokC (w : World) (g : Nat) (l : List Tok) : Prop := ∀ j (h : j < l.length), w.cell? ⟨g, j * 4, none⟩ = some (.int .i64 l[j].kind) ∧ w.cell? ⟨g, j * 4 + 1, none⟩ = some (.string (mkB l[j].text)) ∧ w.cell? ⟨g, j * 4 + 2, none⟩ = some (.int .i64 l[j].num) ∧ w.cell? ⟨g, j * 4 + 3, none⟩ = some (.int .i64 l[j].place)
structure Rd (toks : List Tok) (rb g cap : Nat) (i o : Nat) (w : World) : Prop where
  blk : w.heap[rb]? = some (.cells #[.slice (some ⟨g, 0, none⟩) toks.length cap, .int .i64 i, .int .i64 o] 142)
  ne : g ≠ rb
  lt : g < w.heap.size
  toks : TokC w g toks
theorem Rd.rb_lt {toks : List Tok} {rb g cap i o : Nat} {w : World} (h : Rd toks rb g cap i o w) : rb < w.heap.size := lt_of_block h.blk
theorem TokC.block {w w' : World} {g : Nat} {l : List Tok} (h : TokC w g l) (hb : w'.heap[g]? = w.heap[g]?) : TokC w' g l := fun j hj => by
  have hc : ∀ o, w'.cell? ⟨g, o, none⟩ = w.cell? ⟨g, o, none⟩ := fun o => World.cell?_of_block (a := ⟨g, o, none⟩) hb
  rw [hc, hc, hc, hc]; exact h j hj
theorem Rd.on {toks : List Tok} {rb g cap i o : Nat} {w w' : World} (h : Rd toks rb g cap i o w) (hb : Below w.heap.size w w') : Rd toks rb g cap i o w' :=
  ⟨(hb.block rb h.rb_lt).trans h.blk, h.ne, Nat.lt_of_lt_of_le h.lt hb.size, h.toks.block (hb.block g h.lt)⟩
theorem three_cells {w : World} {b : Nat} {v1 v2 v3 : Value} {t : TypeId} (h : w.heap[b]? = some (.cells #[v1, v2, v3] t)) : w.cell? ⟨b, 0, none⟩ = some v1 ∧ w.cell? ⟨b, 1, none⟩ = some v2 ∧ w.cell? ⟨b, 2, none⟩ = some v3 ∧ w.frozen? ⟨b, 0, none⟩ = false ∧ w.frozen? ⟨b, 1, none⟩ = false ∧ w.frozen? ⟨b, 2, none⟩ = false ∧ b < w.heap.size :=
  ⟨by simp [World.cell?, h], by simp [World.cell?, h], by simp [World.cell?, h], by simp [World.frozen?, h], by simp [World.frozen?, h], by simp [World.frozen?, h], lt_of_block h⟩
theorem three_put1 {w : World} {b : Nat} {v1 v2 v3 u : Value} {t : TypeId} (h : w.heap[b]? = some (.cells #[v1, v2, v3] t)) : (w.setCell ⟨b, 1, none⟩ u).heap[b]? = some (.cells #[v1, u, v3] t) := by
  have hlt := lt_of_block h
  have h' : w.heap[b] = .cells #[v1, v2, v3] t := by simpa [Array.getElem?_eq_getElem hlt] using h
  show (w.heap.modify b _)[b]? = _
  rw [Array.getElem?_eq_getElem (by simpa using hlt), Array.getElem_modify_self, h']
  rfl
theorem three_put2 {w : World} {b : Nat} {v1 v2 v3 u : Value} {t : TypeId} (h : w.heap[b]? = some (.cells #[v1, v2, v3] t)) : (w.setCell ⟨b, 2, none⟩ u).heap[b]? = some (.cells #[v1, v2, u] t) := by
  have hlt := lt_of_block h
  have h' : w.heap[b] = .cells #[v1, v2, v3] t := by simpa [Array.getElem?_eq_getElem hlt] using h
  show (w.heap.modify b _)[b]? = _
  rw [Array.getElem?_eq_getElem (by simpa using hlt), Array.getElem_modify_self, h']
  rfl
theorem Rd.place {toks : List Tok} {rb g cap i o : Nat} {w : World} (h : Rd toks rb g cap i o w) (i' : Nat) : Rd toks rb g cap i' o (w.setCell ⟨rb, 1, none⟩ (.int .i64 i')) :=
  ⟨three_put1 h.blk, h.ne, by simpa using h.lt, h.toks.block (Below.heap_setCell _ _ _ _ h.ne)⟩
theorem Rd.opened {toks : List Tok} {rb g cap i o : Nat} {w : World} (h : Rd toks rb g cap i o w) (o' : Nat) : Rd toks rb g cap i o' (w.setCell ⟨rb, 2, none⟩ (.int .i64 o')) :=
  ⟨three_put2 h.blk, h.ne, by simpa using h.lt, h.toks.block (Below.heap_setCell _ _ _ _ h.ne)⟩
/-- A store into the reader's block. -/
theorem rd_fr (w : World) (rb k : Nat) (u : Value) : Fr (fun b => b = rb) w (w.setCell ⟨rb, k, none⟩ u) := ⟨rfl, rfl, rfl, by simp, fun b _ hb => Below.heap_setCell _ _ _ _ hb⟩
set_option maxRecDepth 100000 in
set_option maxHeartbeats 1000000 in
theorem token_any (toks : List Tok) (rb g cap i o : Nat) (w : World) (h : Rd toks rb g cap i o w) (hi : i < toks.length) :
    Calls Tryd.prog 91 #[.pointer (some ⟨rb, 0, none⟩)] w fun e w' => e = .returned (tokV toks[i]) ∧ Below w.heap.size w w' := by
  have HT : Hid (tokV toks[i] = .agg #[.int .i64 toks[i].kind, .string (mkB toks[i].text), .int .i64 toks[i].num, .int .i64 toks[i].place]) := rfl
  obtain ⟨W, eW, q1, b1, z1⟩ := one_box w (.int .i64 0) (.string ⟨#[]⟩) (.int .i64 0) (.int .i64 0) 133
  have hW := h.on b1
  obtain ⟨p0, p1, p2, p3, p4, p5, p6⟩ := three_cells hW.blk
  obtain ⟨c0, c1, c2, c3⟩ := hW.toks i hi
  have hg := hW.lt
  have hii : (i : Int) < (toks.length : Int) := by omega
  have hi0 : (0 : Int) ≤ (i : Int) := by omega
  have HEW := Lib.hid eW
  have HB := Lib.hid b1
  have hd1 : decide ((0 : Int) ≤ (i : Int)) = true := by simp
  have hd2 : decide ((i : Int) < (toks.length : Int)) = true := by simp; omega
  rw [HT.out]
  have HR := Lib.hid hW
  have HQ := Lib.hid q1
  generalize he0 : (toks[i]).kind = tk at *
  generalize he1 : mkB (toks[i]).text = tx at *
  generalize he2 : (toks[i]).num = tn at *
  generalize he3 : (toks[i]).place = tp at *
  have HE0 := Lib.hid he0
  have HE1 := Lib.hid he1
  have HE2 := Lib.hid he2
  have HE3 := Lib.hid he3
  have hgw := h.lt
  clear he0 he1 he2 he3 q1
  clear eW hW h b1
  go_enter Tryd.func91, Tryd.ntmps91
  go_upto_region 1 with (fail)
  rw [HEW.out]
  go_quiet (fail)
  obtain ⟨V, eV⟩ : ∃ V, W.drewN nq = V := ⟨_, rfl⟩
  have bV : Below W.heap.size W V := by rw [← eV]; exact ⟨rfl, rfl, rfl, Nat.le_refl _, fun _ _ => rfl⟩
  rw [eV]
  obtain ⟨x0, x1, x2, x3, x4, x5, x6, x7, x8⟩ := HQ.out.on bV
  obtain ⟨r0, r1, r2, _, _, _, r6⟩ := three_cells (HR.out.on bV).blk
  obtain ⟨k0, k1, k2, k3⟩ := (HR.out.on bV).toks i hi
  have hgV := (HR.out.on bV).lt
  have HBV := Lib.hid (HB.out.trans (bV.mono HB.out.size))
  rw [HE0.out] at k0
  rw [HE1.out] at k1
  rw [HE2.out] at k2
  rw [HE3.out] at k3
  have hne : w.heap.size ≠ g := by omega
  clear eV bV c0 c1 c2 c3 p0 p1 p2 p3 p4 p5 p6
  go_wp2_with fail
  go_region
  go_wp2_with fail
  exact bodyPost_ret (v := .agg #[.int .i64 tk, .string tx, .int .i64 tn, .int .i64 tp]) (by simp [results, Tryd.results91, go_sem, x1, x2, x3, x4]) rfl ⟨rfl, below_box HBV.out.drew (Nat.le_refl _) _ _ _ _⟩
theorem eq_tokc (a a' c c' d d' : Int) (b b' : ByteArray) (w : World) : (Op.equalIn 10000 133 (.agg #[.int .i64 a, .string b, .int .i64 c, .int .i64 d]) (.agg #[.int .i64 a', .string b', .int .i64 c', .int .i64 d'])).run Tryd.prog w = .ok (a == a' && b.toList == b'.toList && c == c' && d == d') w := by
  have u3 := Tryd.underlying3
  have a3 := Tryd.isAgg3
  have z3 := Tryd.sizeOf3
  have u9 := Tryd.underlying9
  have a9 := Tryd.isAgg9
  have z9 := Tryd.sizeOf9
  have hS : Tryd.prog.underlying 133 = some (.struct (Tryd.prog.fieldsOf 133)) := by kernel_rfl
  have hp : Tryd.prog.stoodInHeld 133 = false := by kernel_rfl
  rw [show (10000 : Nat) = 9999 + 1 from rfl, run_equalIn_agg w 9999 133 _ _ hS hp]
  simp only [Program.fieldsOf, Tryd.underlying133]
  go_simp
  by_cases h1 : a = a' <;> by_cases h2 : b.toList = b'.toList <;> by_cases h3 : c = c' <;> by_cases h4 : d = d' <;> simp [h1, h2, h3, h4]
theorem guard_tokc : Tryd.prog.eqGuardType Tryd.prog.depth 133 = false := by kernel_rfl
theorem mkB_list (l : List UInt8) : (mkB l).toList = l := by unfold mkB; rw [Lib.toList_data]
/-- Symbols bear no number. -/
def SymZ (t : Tok) : Prop := t.kind = 4 → t.num = 0
theorem sym_eq {t : Tok} (h : SymZ t) (x : List UInt8) : (((t.kind : Int) == 4) && ((mkB t.text).toList == (mkB x).toList) && ((t.num : Int) == 0)) = isSym t x := by
  rw [mkB_list, mkB_list]
  unfold isSym
  by_cases hk : t.kind = 4
  · have := h hk; simp [hk, this]
  · have h1 : ((t.kind : Int) == 4) = false := by rw [beq_eq_false_iff_ne]; omega
    have h2 : (t.kind == 4) = false := by simpa using hk
    rw [h1, h2]; simp
set_option maxRecDepth 100000 in
set_option maxHeartbeats 1000000 in
theorem symbol_any (t : Tok) (x : List UInt8) (w : World) (h : SymZ t) : Calls Tryd.prog 130 #[tokV t, .string (mkB x)] w fun e w' => e = .returned (.bool (isSym t x)) ∧ Below w.heap.size w w' := by
  have HE := Lib.hid (sym_eq h x)
  have heq := eq_tokc
  have hgd := guard_tokc
  obtain ⟨W, eW, q1, b1, z1⟩ := one_box w (.int .i64 t.kind) (.string (mkB t.text)) (.int .i64 t.num) (.int .i64 t.place) 133
  have HEW := Lib.hid eW
  have HB := Lib.hid b1
  obtain ⟨x0, x1, x2, x3, x4, _⟩ := q1
  show Calls Tryd.prog 130 #[.agg #[.int .i64 t.kind, .string (mkB t.text), .int .i64 t.num, .int .i64 t.place], .string (mkB x)] w _
  clear eW b1 h
  generalize isSym t x = r at *
  generalize t.kind = tk at *
  generalize mkB t.text = tx at *
  generalize t.num = tn at *
  generalize t.place = tp at *
  generalize mkB x = xx at *
  go_enter Tryd.func130, Tryd.ntmps130
  go_upto_region 1 with (fail)
  rw [HEW.out]
  go_wp2_with fail
  go_ret
  exact ⟨ret_bool HE.out, HB.out⟩
set_option maxRecDepth 100000 in
set_option maxHeartbeats 1000000 in
theorem refusal_any (n : Int) (t : Tok) (w : World) : Calls Tryd.prog 93 #[.int .i64 n, tokV t] w fun e w' => e = .returned (.agg #[.int .i64 n, .int .i64 t.place]) ∧ Below w.heap.size w w' := by
  show Calls Tryd.prog 93 #[.int .i64 n, .agg #[.int .i64 t.kind, .string (mkB t.text), .int .i64 t.num, .int .i64 t.place]] w _
  generalize t.kind = tk at *
  generalize mkB t.text = tx at *
  generalize t.num = tn at *
  generalize t.place = tp at *
  go_enter Tryd.func93, Tryd.ntmps93
  go_wp2_with fail
  exact bodyPost_ret (v := .agg #[.int .i64 n, .int .i64 tp]) (by simp [results, Tryd.results93, go_sem]) rfl ⟨rfl, below2 w _ _⟩
/-- The place moves on. -/
theorem rd_next {toks : List Tok} {rb g cap i o : Nat} {w0 w : World} (h : Rd toks rb g cap i o w) (hb : Below w0.heap.size w0 w) : Rd toks rb g cap (i + 1) o (w.setCell ⟨rb, 1, none⟩ (.int .i64 ((i : Int) + 1))) ∧ Fr (fun b => b = rb) w0 (w.setCell ⟨rb, 1, none⟩ (.int .i64 ((i : Int) + 1))) := by
  have h1 := h.place (i + 1)
  rw [show (((i + 1 : Nat)) : Int) = (i : Int) + 1 by push_cast; rfl] at h1
  exact ⟨h1, (Fr.of_below hb).trans (rd_fr w rb 1 _)⟩
/-- What takes told. -/
def TakeRes (toks : List Tok) (rb g cap i o : Nat) (q : Bool) (w : World) (e : Ending) (w' : World) : Prop := e = .returned (.bool q) ∧ Rd toks rb g cap (if q = true then i + 1 else i) o w' ∧ Fr (fun b => b = rb) w w'
set_option maxRecDepth 100000 in
set_option maxHeartbeats 1000000 in
theorem takes_any (toks : List Tok) (rb g cap i o : Nat) (x : List UInt8) (w : World) (h : Rd toks rb g cap i o w) (hi : i < toks.length) (hl : toks.length ≤ 1099511627776) (hz : SymZ toks[i]) :
    Calls Tryd.prog 129 #[.pointer (some ⟨rb, 0, none⟩), .string (mkB x)] w (TakeRes toks rb g cap i o (isSym toks[i] x) w) := by
  have HT := Lib.hid (token_any toks rb g cap i o w h hi)
  have HS := Lib.hid (fun w => symbol_any toks[i] x w hz)
  have HR := Lib.hid h
  clear h hz
  generalize toks[i] = t at *
  cases hq : isSym t x with
  | true =>
    rw [hq] at HS
    clear hq
    generalize mkB x = xx at *
    go_enter Tryd.func129, Tryd.ntmps129
    go_wp2_with fail
    (with_reducible refine HT.out.mono ?_)
    rintro e w1 ⟨rfl, hb1⟩
    have HB1 := Lib.hid hb1
    clear hb1
    go_wp2_with fail
    (with_reducible refine (HS.out _).mono ?_)
    rintro e w2 ⟨rfl, hb2⟩
    have hb := HB1.out.trans (hb2.mono HB1.out.size)
    have hr := HR.out.on hb
    obtain ⟨p0, p1, p2, p3, p4, p5, p6⟩ := three_cells hr.blk
    have HP := Lib.hid (rd_next hr hb)
    clear hb2 hb hr
    go_wp2
    go_ret
    exact ⟨rfl, HP.out.1, HP.out.2⟩
  | false =>
    rw [hq] at HS
    clear hq
    generalize mkB x = xx at *
    go_enter Tryd.func129, Tryd.ntmps129
    go_wp2_with fail
    (with_reducible refine HT.out.mono ?_)
    rintro e w1 ⟨rfl, hb1⟩
    have HB1 := Lib.hid hb1
    clear hb1
    go_wp2_with fail
    (with_reducible refine (HS.out _).mono ?_)
    rintro e w2 ⟨rfl, hb2⟩
    have hb := HB1.out.trans (hb2.mono HB1.out.size)
    have HP : Hid (TakeRes toks rb g cap i o false w (.returned (.bool false)) w2) := ⟨rfl, HR.out.on hb, Fr.of_below hb⟩
    clear hb2 hb
    go_wp2
    go_ret
    exact HP.out
set_option maxRecDepth 100000 in
set_option maxHeartbeats 1000000 in
theorem begins_any (toks : List Tok) (rb g cap i o pb : Nat) (w : World) (h : Rd toks rb g cap i o w) (hp : w.heap[pb]? = some (.cells #[.pointer (some ⟨rb, 0, none⟩)] 175)) (hi : i < toks.length) (hz : SymZ toks[i]) :
    Calls Tryd.prog 153 #[.pointer (some ⟨pb, 0, none⟩)] w fun e w' => e = .returned (.bool (begT toks[i])) ∧ Below w.heap.size w w' := by
  have HT := Lib.hid (token_any toks rb g cap i o w h hi)
  have HS : Hid (∀ w, Calls Tryd.prog 130 #[tokV toks[i], .string ⟨#[40]⟩] w fun e w' => e = .returned (.bool (isSym toks[i] [40])) ∧ Below w.heap.size w w') := fun w => symbol_any toks[i] [40] w hz
  have c0 := cell_of_one hp
  have hpl := lt_of_block hp
  have HBG : Hid (begT toks[i] = (toks[i].kind == 1 || toks[i].kind == 2 || isSym toks[i] [40])) := rfl
  clear h hz hp
  generalize toks[i] = t at *
  generalize isSym t [40] = q at *
  generalize begT t = bt at *
  go_enter Tryd.func153, Tryd.ntmps153
  go_wp2_with fail
  (with_reducible refine HT.out.mono ?_)
  rintro e w1 ⟨rfl, hb1⟩
  obtain ⟨W, eW, q1, b1, z1⟩ := one_box w1 (.int .i64 t.kind) (.string (mkB t.text)) (.int .i64 t.num) (.int .i64 t.place) 133
  have HEW := Lib.hid eW
  have HB := Lib.hid (hb1.trans (b1.mono hb1.size))
  obtain ⟨x0, x1, x2, x3, x4, _⟩ := q1
  have HSW := Lib.hid (HS.out W)
  have HTV : Hid (tokV t = .agg #[.int .i64 t.kind, .string (mkB t.text), .int .i64 t.num, .int .i64 t.place]) := rfl
  rw [HTV.out] at HSW ⊢
  clear eW hb1 b1
  generalize t.kind = tk at *
  generalize mkB t.text = tx at *
  generalize t.num = tn at *
  generalize t.place = tp at *
  by_cases h2 : tk = 2
  · have HE : Hid (bt = true) := by show _ = _; rw [HBG.out]; simp [h2]
    have hz2 : (tk : Int) = 2 := by omega
    generalize (tk : Int) = zk at *
    subst hz2
    go_upto_region 2 with (fail)
    rw [HEW.out]
    go_wp2
    go_ret
    exact ⟨ret_bool HE.out.symm, HB.out⟩
  · have hk2 : ((tk : Int) == 2) = false := by rw [beq_eq_false_iff_ne]; omega
    by_cases h1 : tk = 1
    · have HE : Hid (bt = true) := by show _ = _; rw [HBG.out]; simp [h1]
      have hz1 : (tk : Int) = 1 := by omega
      clear hk2
      generalize (tk : Int) = zk at *
      subst hz1
      go_upto_region 2 with (fail)
      rw [HEW.out]
      go_wp2
      go_ret
      exact ⟨ret_bool HE.out.symm, HB.out⟩
    · have hk1 : ((tk : Int) == 1) = false := by rw [beq_eq_false_iff_ne]; omega
      have HE : Hid (bt = q) := by show _ = _; rw [HBG.out]; simp [h1, h2]
      generalize (tk : Int) = zk at *
      go_upto_region 2 with (fail)
      rw [HEW.out]
      go_wp2_with fail
      (with_reducible refine HSW.out.mono ?_)
      rintro e w2 ⟨rfl, hb2⟩
      have HB2 := Lib.hid (HB.out.trans (hb2.mono HB.out.size))
      clear hb2
      go_wp2
      go_ret
      exact ⟨ret_bool HE.out.symm, HB2.out⟩
end Go.Proofs.YtbdfjboojokgdaaDoor
