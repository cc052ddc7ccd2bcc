/- The contract of the document's Preds (chapter 5). Conditions: at most 2^40 tokens, the last one an end. -/
import Derived.Test.YtbdfjboojokgdaaGreatDoorM45
namespace Go.Proofs.YtbdfjboojokgdaaGreatDoor
open Go.RowKit Lx

theorem readX_all (toks : List Tok) (g cap : Nat) (hl : toks.length ≤ 1099511627776) : ∀ n, AtomX toks g cap n ∧ TypeX toks g cap n := by
  intro n
  induction n using Nat.strongRecOn with
  | _ n ih =>
    cases n with
    | zero => exact ⟨fun i o w res _ _ _ hr => by simp [atomN] at hr, fun i o w res _ _ _ hr => by simp [typeN] at hr⟩
    | succ n =>
      refine ⟨atomX_of toks g cap n (ih n (Nat.lt_succ_self _)).2 hl, typeX_of toks g cap n (fun m hm => (ih m (by omega)).1) (ih n (Nat.lt_succ_self _)).2 hl⟩
theorem atomX_any {toks : List Tok} {g cap i o : Nat} {w : World} (hT : TokC w g toks) (hg : g < w.heap.size) (ho : o ≤ 40) (hl : toks.length ≤ 1099511627776) (hE : EndsT (toks.drop i)) :
    Calls Tryz.prog 45 #[.slice (some ⟨g, 0, none⟩) toks.length cap, .int .i64 i, .int .i64 o] w (XRes toks (atomL (toks.drop i) o) w) := (readX_all toks g cap hl _).1 i o w _ hT hg ho (atomL_is hE o)
theorem typeX_any {toks : List Tok} {g cap i o : Nat} {w : World} (hT : TokC w g toks) (hg : g < w.heap.size) (ho : o ≤ 40) (hl : toks.length ≤ 1099511627776) (hE : EndsT (toks.drop i)) :
    Calls Tryz.prog 23 #[.slice (some ⟨g, 0, none⟩) toks.length cap, .int .i64 i, .int .i64 o] w (XRes toks (typeL (toks.drop i) o) w) := (readX_all toks g cap hl _).2 i o w _ hT hg ho (typeL_is hE o)
theorem atomL_err {l : List Tok} {o e p : Nat} (hE : EndsT l) (h : atomL l o = .no e p) : e = 12 ∨ e = 13 := (err_all (3 * l.length)).1 l o e p ((atomL_is hE o).trans (by rw [h]))
theorem typeL_err {l : List Tok} {o e p : Nat} (hE : EndsT l) (h : typeL l o = .no e p) : e = 12 ∨ e = 13 := (err_all (3 * l.length + 2)).2.2 l o e p ((typeL_is hE o).trans (by rw [h]))
/-- What the document's Preds tell. -/
def PXRes (toks : List Tok) (i place : Nat) (out : Option (List (ByteArray × Ty) × List Tok)) (w : World) (e : Ending) (w' : World) : Prop :=
  match out with
  | none => e = .returned (.agg #[.int .i64 0, .int .i64 0, .string ⟨#[]⟩, .slice none 0 0, .slice none 0 0, .slice none 0 0, .int .i64 i, .int .i64 0, .int .i64 0]) ∧ Below w.heap.size w w'
  | some (ps, q) => (16 < ps.length ∧ e = .returned (.agg #[.int .i64 0, .int .i64 0, .string ⟨#[]⟩, .slice none 0 0, .slice none 0 0, .slice none 0 0, .int .i64 0, .int .i64 2, .int .i64 place]) ∧ Below w.heap.size w w') ∨
      (ps.length ≤ 16 ∧ ∃ A c, e = .returned (.agg #[.int .i64 0, .int .i64 0, .string ⟨#[]⟩, .slice none 0 0, .slice A ps.length c, .slice none 0 0, .int .i64 ((toks.length - q.length : Nat) : Int), .int .i64 0, .int .i64 0]) ∧ PRow w.heap.size w' ps (.slice A ps.length c) ∧ Below w.heap.size w w' ∧ q <:+ toks ∧ q ≠ [])
/-- What the loop of Preds knows. -/
structure PBox (w0 wr : World) (i : Nat) : Prop where
  b0 : wr.heap[w0.heap.size]? = some (.cells #[.int .i64 0, .int .i64 0, .string ⟨#[]⟩, .slice none 0 0, .slice none 0 0, .slice none 0 0, .int .i64 0, .int .i64 0, .int .i64 0] 35)
  b1 : wr.heap[w0.heap.size + 1]? = some (.cells #[.int .i64 0, .int .i64 0, .string ⟨#[]⟩, .slice none 0 0, .slice none 0 0, .slice none 0 0, .int .i64 i, .int .i64 0, .int .i64 0] 35)
  bl : Below w0.heap.size w0 wr
theorem PBox.on {w0 wr w' : World} {i : Nat} (h : PBox w0 wr i) (hb : Below wr.heap.size wr w') : PBox w0 w' i :=
  ⟨(hb.block _ (lt_of_block h.b0)).trans h.b0, (hb.block _ (lt_of_block h.b1)).trans h.b1, h.bl.trans (hb.mono h.bl.size)⟩
/-- What is told where no predicates stand. -/
theorem p_none {toks : List Tok} {i place : Nat} {w wr : World} (h : PBox w wr i) (x0 x1 x2 x3 x4 x5 x6 x7 x8 : Value) : PXRes toks i place none w (.returned (.agg #[.int .i64 0, .int .i64 0, .string ⟨#[]⟩, .slice none 0 0, .slice none 0 0, .slice none 0 0, .int .i64 i, .int .i64 0, .int .i64 0])) (putX wr w.heap.size x0 x1 x2 x3 x4 x5 x6 x7 x8) :=
  ⟨rfl, putX_below h.bl (Nat.le_refl _) _ _ _ _ _ _ _ _ _⟩
theorem PRow.lowerX {base b2 : Nat} {w : World} {ps : List (ByteArray × Ty)} {v : Value} (h : PRow base w ps v) (hb : b2 ≤ base) : PRow b2 w ps v := h.lower hb
theorem p_some {toks : List Tok} {i place : Nat} {w wr : World} {ps : List (ByteArray × Ty)} {q : List Tok} {A : Option Addr} {c : Nat} {P : Int} (h : PBox w wr i) (hr : PRow (w.heap.size + 2) wr ps (.slice A ps.length c)) (h16 : ps.length ≤ 16) (hP : P = ((toks.length - q.length : Nat) : Int)) (hq : q <:+ toks) (hq2 : q ≠ []) (x0 x1 x2 x3 x4 x5 x6 x7 x8 : Value) :
    PXRes toks i place (some (ps, q)) w (.returned (.agg #[.int .i64 0, .int .i64 0, .string ⟨#[]⟩, .slice none 0 0, .slice A ps.length c, .slice none 0 0, .int .i64 P, .int .i64 0, .int .i64 0])) (putX wr w.heap.size x0 x1 x2 x3 x4 x5 x6 x7 x8) := by
  refine .inr ⟨h16, A, c, by rw [hP], (hr.keepH (by rw [putX_size]; exact Nat.le_refl _) (fun k h1 h2 => putX_ne _ _ _ _ _ _ _ _ _ _ _ k (by omega))).lower (by omega), putX_below h.bl (Nat.le_refl _) _ _ _ _ _ _ _ _ _, hq, hq2⟩
theorem p_long {toks : List Tok} {i place : Nat} {w wr : World} {ps : List (ByteArray × Ty)} {q : List Tok} (h : Below w.heap.size w wr) (h16 : 16 < ps.length) (x0 x1 x2 x3 x4 x5 x6 x7 x8 : Value) :
    PXRes toks i place (some (ps, q)) w (.returned (.agg #[.int .i64 0, .int .i64 0, .string ⟨#[]⟩, .slice none 0 0, .slice none 0 0, .slice none 0 0, .int .i64 0, .int .i64 2, .int .i64 place])) (putX wr w.heap.size x0 x1 x2 x3 x4 x5 x6 x7 x8) := .inl ⟨h16, rfl, putX_below h (Nat.le_refl _) _ _ _ _ _ _ _ _ _⟩
def PXRel (toks : List Tok) (i o : Nat) (w0 : World) (R : Option (List (ByteArray × Ty) × List Tok)) (k : Nat) (kv ov : Value) (wr : World) : Prop :=
  ∃ acc ip, kv = .int .i64 (ip : Nat) ∧ PBox w0 wr i ∧ PRow (w0.heap.size + 2) wr acc ov ∧ acc.length ≤ ip ∧ (toks.drop ip).length ≤ k ∧ ip < toks.length ∧ predL k (toks.drop ip) o acc = R
set_option maxRecDepth 100000 in
set_option maxHeartbeats 2000000 in
theorem predstrueX (toks : List Tok) (g cap i : Nat) (w : World) (hT : TokC w g toks) (hg : g < w.heap.size) (hi : i < toks.length) (hl : toks.length ≤ 1099511627776) (hE : EndsT toks) (hq0 : isSym toks[i] [40] = true) :
    Calls Tryz.prog 49 #[.slice (some ⟨g, 0, none⟩) toks.length cap, .int .i64 i] w (PXRes toks i toks[i].place (predsRaw (toks.drop i)) w) := by
  have hE0 := hE.drop hi
  cases hd0 : toks.drop i with
  | nil => exact absurd hd0 hE0.ne
  | cons t0 r0 =>
  obtain ⟨hi0, ht0, hdr0, hlen0⟩ := drop_at hd0
  rw [hd0] at hE0
  rw [ht0] at hq0 ⊢
  have HET := Lib.hid hE
  have HPR : Hid (predsRaw (t0 :: r0) = tailP true (predL r0.length r0 1 [])) := by
    show _ = _
    unfold predsRaw
    simp only [hq0, if_true]
  obtain ⟨W, eW, k0, b1, z1⟩ := box9 w (.int .i64 0) (.int .i64 0) (.string ⟨#[]⟩) (.slice none 0 0) (.slice none 0 0) (.slice none 0 0) (.int .i64 0) (.int .i64 0) (.int .i64 0) 35
  obtain ⟨V, eV, k1, b2, z2⟩ := box9 W (.int .i64 0) (.int .i64 0) (.string ⟨#[]⟩) (.slice none 0 0) (.slice none 0 0) (.slice none 0 0) (.int .i64 i) (.int .i64 0) (.int .i64 0) 35
  rw [z1] at k1
  have hPB : PBox w V i := ⟨(b2.block _ (by omega)).trans k0, k1, b1.trans (b2.mono b1.size)⟩
  have hTV : TokC V g toks := hT.block (hPB.bl.block g hg)
  obtain ⟨c0, c1, c2, c3⟩ := hTV i hi
  rw [ht0] at c0 c1 c2 c3
  have hgV : g < V.heap.size := by omega
  have HIS : Hid (Calls Tryz.prog 47 #[.agg #[.int .i64 t0.kind, .string (mkB t0.text), .int .i64 t0.num, .int .i64 t0.place], .string ⟨#[40]⟩] V fun e w' => e = .returned (.bool (isSym t0 [40])) ∧ Below V.heap.size V w') := is_any t0 [40] V
  rw [hq0] at HIS
  have hiI : (i : Int) < (toks.length : Int) := by omega
  have hi00 : (0 : Int) ≤ (i : Int) := by omega
  have hi40 : (i : Int) ≤ 1099511627776 := by omega
  obtain ⟨R, hRdef⟩ : ∃ R, predL r0.length r0 1 [] = R := ⟨_, rfl⟩
  obtain ⟨kk0, hk0⟩ : ∃ kk0, kk0 = r0.length := ⟨_, rfl⟩
  have HRD := Lib.hid hRdef
  have HK0 := Lib.hid hk0
  have HT0 := Lib.hid hT
  have HE0 := Lib.hid hE0
  have HHT0 := Lib.hid ht0
  rw [HPR.out, hRdef]
  have hEs : EndsT (r0) := hE0.tail (sym_kind hq0)
  have hr0p := List.length_pos_iff.2 hEs.ne
  have hlen9 : r0.length + 1 = toks.length - i := by have := congrArg List.length hd0; simp at this; omega
  have HR0 : Hid (∀ y, Below V.heap.size V y → PXRel toks i 1 w R kk0 (.int .i64 ((i : Int) + 1)) (.slice none 0 0) y) := fun y hb =>
    ⟨[], i + 1, by push_cast; rfl, hPB.on hb, PRow.nil _ _, Nat.zero_le _, by rw [hdr0, HK0.out]; exact Nat.le_refl _, by omega, by rw [hdr0, HK0.out]; exact HRD.out⟩
  have HEW := Lib.hid eW
  have HEV := Lib.hid eV
  clear eW eV hE HPR hRdef hk0 hPB hTV hT k0 k1 b1 b2 hd0 hE0 hdr0 hq0 hEs
  go_enter Tryz.func49, Tryz.ntmps49
  go_upto_region 1 with (fail)
  rw [HEW.out]
  go_upto_region 2 with (fail)
  rw [HEV.out]
  go_wp2_with fail
  (with_reducible refine HIS.out.mono ?_)
  rintro e0 y0 ⟨rfl, hb0⟩
  have HR1 := Lib.hid (HR0.out y0 hb0)
  clear hb0 HR0 c0 c1 c2 c3
  go_wp2_with fail
  go_loopg [7, 9] kk0 (fun k kv ov wr => PXRel toks i 1 w R k kv ov wr)
  case atStart => exact HR1.out
  case round =>
    obtain ⟨acc, ip, rfl, hbx, hrow, hal, hkl, hil, hR⟩ := hrel
    obtain ⟨A9, c9, rfl⟩ := hrow.form
    have hEd := HET.out.drop hil
    cases hd : toks.drop ip with
    | nil => exact absurd hd hEd.ne
    | cons t r =>
    obtain ⟨hi9, ht, hdr, hlen⟩ := drop_at hd
    rw [hd] at hR hkl hEd
    simp only [List.length_cons] at hkl
    cases gk with
    | zero => omega
    | succ m =>
    simp only [predL] at hR
    have hTr : TokC wr g toks := HT0.out.block (hbx.bl.block g hg)
    obtain ⟨d0, d1, d2, d3⟩ := hTr ip hil
    rw [ht] at d0 d1 d2 d3
    have hws := hbx.bl.size
    have hw1 := lt_of_block hbx.b1
    have hgr : g < wr.heap.size := by omega
    have hpI : (ip : Int) < (toks.length : Int) := by omega
    have hp0 : (0 : Int) ≤ (ip : Int) := by omega
    obtain ⟨n0, n1, n2, n3, n4, n5, n6, n7, n8, _⟩ := nine_cells hbx.b1
    obtain ⟨u0, u1, u2, u3, u4, u5, u6, u7, u8, f0, f1, f2, f3, f4, f5, f6, f7, f8, hw0⟩ := nine_cells hbx.b0
    by_cases h2 : t.kind = 2
    · rw [if_pos h2] at hR
      have hk : (t.kind : Int) = 2 := by omega
      have hEr : EndsT r := hEd.tail (by omega)
      have hat := atomX_any (cap := cap) (i := ip + 1) (o := 1) hTr hgr (by omega) hl (by rw [hdr]; exact hEr)
      rw [hdr, show (((ip + 1 : Nat)) : Int) = (ip : Int) + 1 by push_cast; rfl] at hat
      have HAT : Hid (Calls Tryz.prog 45 #[.slice (some ⟨g, 0, none⟩) toks.length cap, .int .i64 ((ip : Int) + 1), .int .i64 1] wr (XRes toks (atomL r 1) wr)) := hat
      have HBX := Lib.hid hbx
      have HROW := Lib.hid hrow
      have HTr := Lib.hid hTr
      have HTT := Lib.hid ht
      have herr := fun e p => atomL_err (e := e) (p := p) (o := 1) hEr
      have hok := fun x q => atomL_ok (t := x) (q := q) (o := 1) hEr
      have HDR := Lib.hid hdr
      clear hbx hrow hTr hat ht hd n0 n1 n2 n3 n4 n5 n6 n7 n8 u0 u1 u2 u3 u4 u5 u6 u7 u8 f0 f1 f2 f3 f4 f5 f6 f7 f8
      generalize atomL r 1 = ra at *
      generalize (t.kind : Int) = tk at *
      subst hk
      go_wp2_with fail
      (with_reducible refine HAT.out.mono ?_)
      intro e1 y hy
      cases ra with
      | no e p =>
        obtain ⟨rfl, hb⟩ := hy
        simp only at hR
        subst hR
        have he := herr e p rfl
        have he0 : ((e : Int) == 0) = false := by rw [beq_eq_false_iff_ne]; omega
        obtain ⟨Z, eZ, k2, b3, z3⟩ := box9 y (.int .i64 0) (.int .i64 0) (.string ⟨#[]⟩) (.slice none 0 0) (.slice none 0 0) (.slice none 0 0) (.int .i64 0) (.int .i64 e) (.int .i64 p) 35
        have hbZ := hb.trans (b3.mono hb.size)
        have hbx := HBX.out.on hbZ
        obtain ⟨v0, v1, v2, v3, v4, v5, v6, v7, v8, _⟩ := nine_cells k2
        obtain ⟨n0, n1, n2, n3, n4, n5, n6, n7, n8, _⟩ := nine_cells hbx.b1
        obtain ⟨u0, u1, u2, u3, u4, u5, u6, u7, u8, f0, f1, f2, f3, f4, f5, f6, f7, f8, hw0⟩ := nine_cells hbx.b0
        have hwy : w.heap.size + 1 < y.heap.size := by have := hb.size; omega
        have HEZ := Lib.hid eZ
        have HE : Hid (PXRes toks i t0.place (tailP true none) w (.returned (.agg #[.int .i64 0, .int .i64 0, .string ⟨#[]⟩, .slice none 0 0, .slice none 0 0, .slice none 0 0, .int .i64 i, .int .i64 0, .int .i64 0])) (putX Z w.heap.size (.int .i64 0) (.int .i64 0) (.string ⟨#[]⟩) (.slice none 0 0) (.slice none 0 0) (.slice none 0 0) (.int .i64 i) (.int .i64 0) (.int .i64 0))) := p_none hbx _ _ _ _ _ _ _ _ _
        clear hb eZ k2 b3 hbZ hbx herr hok
        go_upto_region 12 with (fail)
        rw [HEZ.out]
        go_wp2_with fail
        exact bodyPost_ret (v := .agg #[.int .i64 0, .int .i64 0, .string ⟨#[]⟩, .slice none 0 0, .slice none 0 0, .slice none 0 0, .int .i64 i, .int .i64 0, .int .i64 0]) (by simp [results, Tryz.results49, go_sem, u0, u1, u2, u3, u4, u5, u6, u7, u8]) rfl HE.out
      | ok x s =>
        obtain ⟨f1, n1, s1, A1, l1, c1, rfl, hty, hb⟩ := hy
        have hao := hok x s rfl
        match s, hao, hR, hty with
        | [], hao, _, _ => exact absurd rfl hao.1.ne
        | c :: q, hao, hR, hty =>
        have hdc : toks.drop (toks.length - (c :: q).length) = c :: q := drop_suf (i := ip + 1) (by rw [HDR.out]; exact hao.2.1)
        obtain ⟨hci, hct, hcd, hcl⟩ := drop_at hdc
        have hrl := hao.2.2.1
        have hplace : toks.length - (c :: q).length + 1 = toks.length - q.length := hcl.symm
        have hPi : ip + 2 ≤ toks.length - (c :: q).length := by simp only [List.length_cons] at hrl ⊢; omega
        have hqlen : (c :: q).length + 1 ≤ r.length + 0 := by omega
        have hsuf : (c :: q) <:+ toks := by rw [← hdc]; exact List.drop_suffix _ _
        simp only at hR
        generalize hP : toks.length - (c :: q).length = P at *
        obtain ⟨Z, eZ, k2, b3, z3⟩ := box9 y (.int .i64 f1) (.int .i64 n1) (.string s1) (.slice A1 l1 c1) (.slice none 0 0) (.slice none 0 0) (.int .i64 (P : Int)) (.int .i64 0) (.int .i64 0) 35
        have hbZ := hb.trans (b3.mono hb.size)
        have hbxZ := HBX.out.on hbZ
        have hrowZ := HROW.out.on hbZ
        have htyZ := hty.on b3
        have hTZ : TokC Z g toks := HT0.out.block (hbxZ.bl.block g hg)
        have hyw : wr.heap.size ≤ y.heap.size := hb.size
        obtain ⟨cs, ho9, hte9⟩ := hrowZ
        have hrowlt : ∀ k, (Value.slice A9 acc.length c9).ownBlock = some k → w.heap.size + 2 ≤ k ∧ k < wr.heap.size := fun k hk => by
          obtain ⟨cs0, ho0, _⟩ := HROW.out
          exact World.ownsRow.lt ho0 k hk
        have hacc : acc.length ≤ 1099511627776 := by omega
        have HSTEP : Hid (∀ (Q w2 : World) (gq cap2 : Nat), w2.ownsRow (w.heap.size + 2) 97 5 (.slice (some ⟨gq, 0, none⟩) (acc.length + 1) cap2) (acc.length + 1) (cs ++ [.string (mkB t.text), .int .i64 f1, .int .i64 n1, .string s1, .slice A1 l1 c1]) → Q.grownBy w2 (Value.slice A9 acc.length c9).ownBlock → ((Value.slice A9 acc.length c9).ownBlock = some gq ∨ gq = y.heap.size + 1 + 1) → Below Z.heap.size Z Q ∧ Q.heap.size = y.heap.size + 1 + 1 → PBox w w2 i ∧ PRow (w.heap.size + 2) w2 (acc ++ [(mkB t.text, x)]) (.slice (some ⟨gq, 0, none⟩) (acc.length + 1) cap2) ∧ w2.heap[y.heap.size]? = some (.cells #[.int .i64 f1, .int .i64 n1, .string s1, .slice A1 l1 c1, .slice none 0 0, .slice none 0 0, .int .i64 (P : Int), .int .i64 0, .int .i64 0] 35) ∧ y.heap.size + 1 ≤ w2.heap.size) := fun Q w2 gq cap2 ho2 hg2 hat hQ => by
          obtain ⟨hQb, hQs⟩ := hQ
          have hz2 := hg2.size
          have hkk : ∀ k, k < Z.heap.size → (Value.slice A9 acc.length c9).ownBlock ≠ some k → w2.heap[k]? = Z.heap[k]? := fun k h1 hne => (hg2.block k (by omega) (fun e => hne e.symm)).trans (hQb.block k h1)
          have hk2 : ∀ k, k < Z.heap.size → k < w.heap.size + 2 → w2.heap[k]? = Z.heap[k]? := fun k h1 h2 => hkk k h1 (fun e => by have := (hrowlt k e).1; omega)
          have hbl := hbxZ.bl
          refine ⟨⟨(hk2 _ (by omega) (by omega)).trans hbxZ.b0, (hk2 _ (by omega) (by omega)).trans hbxZ.b1, hg2.os.trans (hQb.os.trans hbl.os), hg2.tape.trans (hQb.tape.trans hbl.tape), hg2.output.trans (hQb.output.trans hbl.output), by have := hbl.size; omega, fun k h1 => (hk2 k (by have := hbl.size; omega) (by omega)).trans (hbl.block k h1)⟩, ?_, (hkk _ (by omega) (fun e => by have := (hrowlt _ e).2; omega)).trans k2, by omega⟩
          have hta : TyAt (fun b => w.heap.size + 2 ≤ b ∧ (Value.slice A9 acc.length c9).ownBlock ≠ some b) Q x (.agg #[.int .i64 f1, .int .i64 n1, .string s1, .slice A1 l1 c1]) :=
            ((htyZ.on hQb).mono (fun b (hb : wr.heap.size ≤ b) => ⟨by omega, fun e => by have := (hrowlt b e).2; omega⟩))
          have hoQ := own_below ho9 hQb
          exact PRow.push (v' := .slice (some ⟨gq, 0, none⟩) (acc.length + 1) cap2) hoQ (fun j hj => by
              obtain ⟨x0, x1, x2, x3, k0, k1, k2, k3, k4, hx⟩ := hte9 j hj
              exact ⟨x0, x1, x2, x3, k0, k1, k2, k3, k4, hx.on hQb⟩) hta ho2 hg2 (by
            rcases hat with h9 | h9
            · exact .inl (by rw [h9]; rfl)
            · exact .inr (by rw [h9, hQs]; simp [Value.ownBlock]))
        have bn1 := below_new Z (.cells #[.string (mkB t.text), .int .i64 f1, .int .i64 n1, .string s1, .slice A1 l1 c1] 97)
        have bn2 := below_new Z.drew (.cells #[.string (mkB t.text), .int .i64 f1, .int .i64 n1, .string s1, .slice A1 l1 c1] 97)
        have bd : Below Z.heap.size Z Z.drew := (Below.refl _ Z).drew
        have HQ1 : Hid (Below Z.heap.size Z (Z.alloc (.cells #[.string (mkB t.text), .int .i64 f1, .int .i64 n1, .string s1, .slice A1 l1 c1] 97)) ∧ (Z.alloc (.cells #[.string (mkB t.text), .int .i64 f1, .int .i64 n1, .string s1, .slice A1 l1 c1] 97)).heap.size = y.heap.size + 1 + 1) := ⟨bn1, by simp; omega⟩
        have HQ2 : Hid (Below Z.heap.size Z (Z.alloc (.cells #[.string (mkB t.text), .int .i64 f1, .int .i64 n1, .string s1, .slice A1 l1 c1] 97)).drew ∧ (Z.alloc (.cells #[.string (mkB t.text), .int .i64 f1, .int .i64 n1, .string s1, .slice A1 l1 c1] 97)).drew.heap.size = y.heap.size + 1 + 1) := ⟨bn1.drew, by simp; omega⟩
        have HQ3 : Hid (Below Z.heap.size Z (Z.drew.alloc (.cells #[.string (mkB t.text), .int .i64 f1, .int .i64 n1, .string s1, .slice A1 l1 c1] 97)) ∧ (Z.drew.alloc (.cells #[.string (mkB t.text), .int .i64 f1, .int .i64 n1, .string s1, .slice A1 l1 c1] 97)).heap.size = y.heap.size + 1 + 1) := ⟨bd.trans bn2, by simp; omega⟩
        have HO1 := Lib.hid (own_below ho9 HQ1.out.1)
        have HO2 := Lib.hid (own_below ho9 HQ2.out.1)
        have HO3 := Lib.hid (own_below ho9 HQ3.out.1)
        have hnw := news_five Z (.string (mkB t.text)) (.int .i64 f1) (.int .i64 n1) (.string s1) (.slice A1 l1 c1) 97
        have hnwd := news_five Z.drew (.string (mkB t.text)) (.int .i64 f1) (.int .i64 n1) (.string s1) (.slice A1 l1 c1) 97
        rw [z3] at hnw
        rw [show Z.drew.heap.size = Z.heap.size from rfl, z3] at hnwd
        have HNEW := Lib.hid hnw
        have HNEWD := Lib.hid hnwd
        have HONE := Lib.hid (one_pred (mkB t.text) f1 n1 s1 A1 l1 c1)
        obtain ⟨i0, hi0, hz0, hzs0, hzb⟩ := info_parts' Tryz.info97
        obtain ⟨v0, v1, v2, v3, v4, v5, v6, v7, v8, _⟩ := nine_cells k2
        obtain ⟨d0, d1, d2, d3⟩ := hTZ ip hil
        rw [HTT.out] at d0 d1 d2 d3
        have HEZ := Lib.hid eZ
        have hwy : w.heap.size + 1 < y.heap.size := by omega
        have hgy : g < y.heap.size := by omega
        have HZ3 := Lib.hid z3
        have HAO := Lib.hid hao.1
        have HR9 := Lib.hid hR
        have HSUF := Lib.hid hsuf
        have HCD := Lib.hid hcd
        have HPL := Lib.hid hplace
        have HCT := Lib.hid hct
        have hbZs : w.heap.size + 2 ≤ Z.heap.size := by omega
        clear hb eZ k2 b3 hbZ hbxZ herr hok hty htyZ hTZ ho9 hte9 hrowlt bn1 bn2 bd hnw hnwd hao hR hsuf hcd hplace hct hdc hcl
        go_upto_region 12 with (fail)
        rw [HEZ.out]
        go_wp2_with fail
        go_region_law (refine step_append_lies _ rfl (.tmp 42) (.tmp 51) 33 rfl (w.heap.size + 2) 97 i0 (.agg #[.string ⟨#[]⟩, .int .i64 0, .int .i64 0, .string ⟨#[]⟩, .slice none 0 0]) 5 72 Tryz.underlying33 hi0 hz0 hzs0 hzb rfl (by decide) (.slice A9 acc.length c9) acc.length cs rfl (by first | exact HO1.out | exact HO2.out | exact HO3.out) ⟨y.heap.size + 1, 0, none⟩ 1 1 [.string (mkB t.text), .int .i64 f1, .int .i64 n1, .string s1, .slice A1 l1 c1] rfl rfl (by first | exact HNEW.out | exact HNEWD.out) HONE.out (by omega) (by unfold maxLen; omega) (by omega) (by simp; omega) (y.heap.size + 1 + 1) (by simp; omega) ?_; intro gq cap2 w2 h2 g2 hat _; (first | have hs2 := HSTEP.out _ w2 gq cap2 h2 g2 hat HQ1.out | have hs2 := HSTEP.out _ w2 gq cap2 h2 g2 hat HQ2.out | have hs2 := HSTEP.out _ w2 gq cap2 h2 g2 hat HQ3.out); have HS2 := Lib.hid hs2; clear hs2 h2 g2 hat)
        all_goals
          obtain ⟨hbx2, hrow2, hk2', hsz2⟩ := HS2.out
          have hT2 : TokC w2 g toks := HT0.out.block (hbx2.bl.block g hg)
          obtain ⟨v0, v1, v2, v3, v4, v5, v6, v7, v8, _⟩ := nine_cells hk2'
          obtain ⟨y0, y1, y2, y3⟩ := hT2 P hci
          rw [HCT.out] at y0 y1 y2 y3
          have hg2 : g < w2.heap.size := by omega
          have HI2 : Hid (Calls Tryz.prog 47 #[.agg #[.int .i64 c.kind, .string (mkB c.text), .int .i64 c.num, .int .i64 c.place], .string ⟨#[44]⟩] w2 fun e w' => e = .returned (.bool (isSym c [44])) ∧ Below w2.heap.size w2 w') := is_any c [44] w2
          have HBX2 := Lib.hid hbx2
          have HROW2 := Lib.hid hrow2
          have hPI : (P : Int) < (toks.length : Int) := by omega
          have hP0 : (0 : Int) ≤ (P : Int) := by omega
          have hR := HR9.out
          clear hbx2 hrow2 hk2' hT2
          simp only [Nat.succ_ne_zero, false_or] at hR
          cases hq : isSym c [44] with
          | true =>
            rw [hq] at hR HI2
            rw [if_neg (by simp)] at hR
            have hqE := HAO.out.tail (sym_kind hq)
            have hqlp := List.length_pos_iff.2 hqE.ne
            have HRR := Lib.hid hR
            clear hq hR
            go_wp2_with fail
            (with_reducible refine HI2.out.mono ?_)
            rintro e7 z ⟨rfl, hbz⟩
            have hbxz := HBX2.out.on hbz
            have hTz : TokC z g toks := HT0.out.block (hbxz.bl.block g hg)
            have HROWZ := Lib.hid (HROW2.out.on hbz)
            have hgz : g < z.heap.size := by have := hbz.size; omega
            have HBXZ := Lib.hid hbxz
            have HREL : Hid (PXRel toks i 1 w R m (.int .i64 ((P : Int) + 1)) (.slice (some ⟨gq, 0, none⟩) (acc.length + 1) cap2) z) :=
              ⟨acc ++ [(mkB t.text, x)], P + 1, by push_cast; rfl, hbxz, HROWZ.out, by rw [List.length_append, List.length_singleton]; omega, by rw [HCD.out]; simp only [List.length_cons] at hqlen; omega, by have := HPL.out; omega, by rw [HCD.out]; exact HRR.out⟩
            clear hbz hbxz hTz
            go_wp2_with fail
            go_roundg m
            case rel => exact HREL.out
            case measure => omega
          | false =>
            rw [hq] at hR HI2
            rw [if_pos rfl] at hR
            have HRR := Lib.hid hR
            clear hq hR
            go_wp2_with fail
            (with_reducible refine HI2.out.mono ?_)
            rintro e7 z ⟨rfl, hbz⟩
            have hbxz := HBX2.out.on hbz
            have hTz : TokC z g toks := HT0.out.block (hbxz.bl.block g hg)
            have HROWZ := Lib.hid (HROW2.out.on hbz)
            have hgz : g < z.heap.size := by have := hbz.size; omega
            have HBXZ := Lib.hid hbxz
            obtain ⟨y0, y1, y2, y3⟩ := hTz P hci
            rw [HCT.out] at y0 y1 y2 y3
            have HI3 : Hid (Calls Tryz.prog 47 #[.agg #[.int .i64 c.kind, .string (mkB c.text), .int .i64 c.num, .int .i64 c.place], .string ⟨#[41]⟩] z fun e w' => e = .returned (.bool (isSym c [41])) ∧ Below z.heap.size z w') := is_any c [41] z
            clear hbz hbxz hTz
            cases hq3 : isSym c [41] with
            | false =>
              rw [hq3] at HI3
              have HTN : Hid (tailP true R = none) := by
                show _ = _
                rw [← HRR.out]
                simp only [tailP, if_true]
                cases q with
                | nil => rfl
                | cons d q2 => simp only; rw [if_neg (by rw [hq3]; simp)]
              clear hq3
              go_wp2_with fail
              (with_reducible refine HI3.out.mono ?_)
              rintro e6 x6 ⟨rfl, hb6⟩
              have hbx6 := HBXZ.out.on hb6
              obtain ⟨n0, n1, n2, n3, n4, n5, n6, n7, n8, _⟩ := nine_cells hbx6.b1
              obtain ⟨u0, u1, u2, u3, u4, u5, u6, u7, u8, f0, f1', f2, f3, f4, f5, f6, f7, f8, hw0⟩ := nine_cells hbx6.b0
              have HE : Hid (PXRes toks i t0.place (tailP true R) w (.returned (.agg #[.int .i64 0, .int .i64 0, .string ⟨#[]⟩, .slice none 0 0, .slice none 0 0, .slice none 0 0, .int .i64 i, .int .i64 0, .int .i64 0])) (putX x6 w.heap.size (.int .i64 0) (.int .i64 0) (.string ⟨#[]⟩) (.slice none 0 0) (.slice none 0 0) (.slice none 0 0) (.int .i64 i) (.int .i64 0) (.int .i64 0))) := by
                show PXRes _ _ _ _ _ _ _
                rw [HTN.out]
                exact p_none hbx6 _ _ _ _ _ _ _ _ _
              clear hb6 hbx6
              go_wp2_with fail
              exact bodyPost_ret (v := .agg #[.int .i64 0, .int .i64 0, .string ⟨#[]⟩, .slice none 0 0, .slice none 0 0, .slice none 0 0, .int .i64 i, .int .i64 0, .int .i64 0]) (by simp [results, Tryz.results49, go_sem, u0, u1, u2, u3, u4, u5, u6, u7, u8]) rfl HE.out
            | true =>
              rw [hq3] at HI3
              have hqE := HAO.out.tail (sym_kind hq3)
              cases q with
              | nil => exact absurd rfl hqE.ne
              | cons d q2 =>
              have hdd : toks.drop (toks.length - (d :: q2).length) = d :: q2 := by rw [← HPL.out, HCD.out]
              obtain ⟨hdi, hdt, hdcd, hdl⟩ := drop_at hdd
              have hsuf2 : q2 <:+ toks := by rw [← hdcd]; exact List.drop_suffix _ _
              have hP1 : toks.length - (d :: q2).length = P + 1 := HPL.out.symm
              have hpl2 : toks.length - (d :: q2).length + 1 = toks.length - q2.length := hdl.symm
              rw [hP1] at hpl2
              have HTL : Hid (tailP true R = if isSym d [61, 62] = true then some (acc ++ [(mkB t.text, x)], q2) else none) := by
                show _ = _
                rw [← HRR.out]
                simp only [tailP, if_true]
                by_cases h9 : isSym d [61, 62] = true
                · rw [if_pos ⟨hq3, h9⟩, if_pos h9]
                · rw [if_neg (fun e => h9 e.2), if_neg h9]
              have HPQ : Hid ((P : Int) + 1 + 1 = ((toks.length - q2.length : Nat) : Int)) := by show _ = _; rw [← hpl2]; push_cast; rfl
              have HSQ := Lib.hid hsuf2
              have HNE : Hid (isSym d [61, 62] = true → q2 ≠ []) := fun h => (hqE.tail (sym_kind h)).ne
              have hi1 : P + 1 < toks.length := by rw [← hP1]; exact hdi
              have hdt2 : toks[P + 1] = d := by rw [← hdt]; congr 1 <;> exact hP1.symm
              have HDT := Lib.hid hdt2
              have hPI1 : (P : Int) + 1 < (toks.length : Int) := by omega
              clear hq3 hdd hdt hdcd hdl hsuf2 hpl2 hdt2
              go_wp2_with fail
              (with_reducible refine HI3.out.mono ?_)
              rintro e6 x6 ⟨rfl, hb6⟩
              have hbx6 := HBXZ.out.on hb6
              have hT6 : TokC x6 g toks := HT0.out.block (hbx6.bl.block g hg)
              have HROWZ2 := Lib.hid (HROWZ.out.on hb6)
              have hg6 : g < x6.heap.size := by have := hb6.size; omega
              have HBXZ2 := Lib.hid hbx6
              obtain ⟨j0, j1, j2, j3⟩ := hT6 (P + 1) hi1
              rw [HDT.out] at j0 j1 j2 j3
              clear hb6 hbx6 hT6 y0 y1 y2 y3 HBXZ HROWZ
              have HBXZ := HBXZ2
              have HROWZ := HROWZ2
              have HIA : Hid (Calls Tryz.prog 47 #[.agg #[.int .i64 d.kind, .string (mkB d.text), .int .i64 d.num, .int .i64 d.place], .string ⟨#[61, 62]⟩] x6 fun e w' => e = .returned (.bool (isSym d [61, 62])) ∧ Below x6.heap.size x6 w') := is_any d [61, 62] x6
              cases hqa : isSym d [61, 62] with
              | false =>
                rw [hqa] at HIA
                have HTN : Hid (tailP true R = none) := by show _ = _; rw [HTL.out, if_neg (by rw [hqa]; simp)]
                clear hqa
                go_wp2_with fail
                (with_reducible refine HIA.out.mono ?_)
                rintro e8 x8 ⟨rfl, hb8⟩
                have hbx8 := HBXZ.out.on hb8
                obtain ⟨n0, n1, n2, n3, n4, n5, n6, n7, n8, _⟩ := nine_cells hbx8.b1
                obtain ⟨u0, u1, u2, u3, u4, u5, u6, u7, u8, f0, f1', f2, f3, f4, f5, f6, f7, f8, hw0⟩ := nine_cells hbx8.b0
                have HE : Hid (PXRes toks i t0.place (tailP true R) w (.returned (.agg #[.int .i64 0, .int .i64 0, .string ⟨#[]⟩, .slice none 0 0, .slice none 0 0, .slice none 0 0, .int .i64 i, .int .i64 0, .int .i64 0])) (putX x8 w.heap.size (.int .i64 0) (.int .i64 0) (.string ⟨#[]⟩) (.slice none 0 0) (.slice none 0 0) (.slice none 0 0) (.int .i64 i) (.int .i64 0) (.int .i64 0))) := by
                  show PXRes _ _ _ _ _ _ _
                  rw [HTN.out]
                  exact p_none hbx8 _ _ _ _ _ _ _ _ _
                clear hb8 hbx8
                go_wp2_with fail
                exact bodyPost_ret (v := .agg #[.int .i64 0, .int .i64 0, .string ⟨#[]⟩, .slice none 0 0, .slice none 0 0, .slice none 0 0, .int .i64 i, .int .i64 0, .int .i64 0]) (by simp [results, Tryz.results49, go_sem, u0, u1, u2, u3, u4, u5, u6, u7, u8]) rfl HE.out
              | true =>
                rw [hqa] at HIA
                have HTS : Hid (tailP true R = some (acc ++ [(mkB t.text, x)], q2)) := by show _ = _; rw [HTL.out, if_pos hqa]
                have hqne := HNE.out hqa
                have hlenp : (acc ++ [(mkB t.text, x)]).length = acc.length + 1 := by simp
                clear hqa
                go_wp2_with fail
                (with_reducible refine HIA.out.mono ?_)
                rintro e8 x8 ⟨rfl, hb8⟩
                have hbx8 := HBXZ.out.on hb8
                have hrow8 := HROWZ.out.on hb8
                have hs8 := hb8.size
                by_cases h16 : 16 < acc.length + 1
                · have h16I : (16 : Int) < (acc.length : Int) + 1 := by omega
                  have hT8 : TokC x8 g toks := HT0.out.block (hbx8.bl.block g hg)
                  obtain ⟨m0, m1, m2, m3⟩ := hT8 i hi
                  rw [HHT0.out] at m0 m1 m2 m3
                  have hg8 : g < x8.heap.size := by have := hbx8.bl.size; omega
                  have HBAD := Lib.hid (bad_any 2 t0 x8)
                  have HBX8 := Lib.hid hbx8
                  clear hb8 hbx8 hrow8 hT8
                  go_wp2_with fail
                  (with_reducible refine HBAD.out.mono ?_)
                  rintro e9 x9 ⟨rfl, hb9⟩
                  have hbx9 := HBX8.out.on hb9
                  obtain ⟨u0, u1, u2, u3, u4, u5, u6, u7, u8, f0, f1', f2, f3, f4, f5, f6, f7, f8, hw0⟩ := nine_cells hbx9.b0
                  have HE : Hid (PXRes toks i t0.place (tailP true R) w (.returned (.agg #[.int .i64 0, .int .i64 0, .string ⟨#[]⟩, .slice none 0 0, .slice none 0 0, .slice none 0 0, .int .i64 0, .int .i64 2, .int .i64 t0.place])) (putX x9 w.heap.size (.int .i64 0) (.int .i64 0) (.string ⟨#[]⟩) (.slice none 0 0) (.slice none 0 0) (.slice none 0 0) (.int .i64 0) (.int .i64 2) (.int .i64 t0.place))) := by
                    show PXRes _ _ _ _ _ _ _
                    rw [HTS.out]
                    exact p_long hbx9.bl (by rw [hlenp]; exact h16) _ _ _ _ _ _ _ _ _
                  clear hb9 hbx9
                  go_wp2_with fail
                  exact bodyPost_ret (v := .agg #[.int .i64 0, .int .i64 0, .string ⟨#[]⟩, .slice none 0 0, .slice none 0 0, .slice none 0 0, .int .i64 0, .int .i64 2, .int .i64 t0.place]) (by simp [results, Tryz.results49, go_sem, u0, u1, u2, u3, u4, u5, u6, u7, u8]) rfl HE.out
                · have h16I : ¬ (16 : Int) < (acc.length : Int) + 1 := by omega
                  obtain ⟨u0, u1, u2, u3, u4, u5, u6, u7, u8, f0, f1', f2, f3, f4, f5, f6, f7, f8, hw0⟩ := nine_cells hbx8.b0
                  have HE : Hid (PXRes toks i t0.place (tailP true R) w (.returned (.agg #[.int .i64 0, .int .i64 0, .string ⟨#[]⟩, .slice none 0 0, .slice (some ⟨gq, 0, none⟩) (acc.length + 1) cap2, .slice none 0 0, .int .i64 (((P : Int) + 1) + 1), .int .i64 0, .int .i64 0])) (putX x8 w.heap.size (.int .i64 0) (.int .i64 0) (.string ⟨#[]⟩) (.slice none 0 0) (.slice (some ⟨gq, 0, none⟩) (acc.length + 1) cap2) (.slice none 0 0) (.int .i64 (((P : Int) + 1) + 1)) (.int .i64 0) (.int .i64 0))) := by
                    show PXRes _ _ _ _ _ _ _
                    rw [HTS.out, ← hlenp]
                    exact p_some hbx8 (by rw [hlenp]; exact hrow8) (by omega) HPQ.out HSQ.out hqne _ _ _ _ _ _ _ _ _
                  clear hb8 hbx8 hrow8
                  go_wp2_with fail
                  exact bodyPost_ret (v := .agg #[.int .i64 0, .int .i64 0, .string ⟨#[]⟩, .slice none 0 0, .slice (some ⟨gq, 0, none⟩) (acc.length + 1) cap2, .slice none 0 0, .int .i64 (((P : Int) + 1) + 1), .int .i64 0, .int .i64 0]) (by simp [results, Tryz.results49, go_sem, u0, u1, u2, u3, u4, u5, u6, u7, u8]) rfl HE.out
    · rw [if_neg h2] at hR
      subst hR
      have hk2 : ((t.kind : Int) == 2) = false := by rw [beq_eq_false_iff_ne]; omega
      have HE : Hid (PXRes toks i t0.place (tailP true none) w (.returned (.agg #[.int .i64 0, .int .i64 0, .string ⟨#[]⟩, .slice none 0 0, .slice none 0 0, .slice none 0 0, .int .i64 i, .int .i64 0, .int .i64 0])) (putX wr w.heap.size (.int .i64 0) (.int .i64 0) (.string ⟨#[]⟩) (.slice none 0 0) (.slice none 0 0) (.slice none 0 0) (.int .i64 i) (.int .i64 0) (.int .i64 0))) := p_none hbx _ _ _ _ _ _ _ _ _
      clear hbx hrow hTr ht hd
      go_wp2_with fail
      exact bodyPost_ret (v := .agg #[.int .i64 0, .int .i64 0, .string ⟨#[]⟩, .slice none 0 0, .slice none 0 0, .slice none 0 0, .int .i64 i, .int .i64 0, .int .i64 0]) (by simp [results, Tryz.results49, go_sem, u0, u1, u2, u3, u4, u5, u6, u7, u8]) rfl HE.out
set_option maxRecDepth 100000 in
set_option maxHeartbeats 2000000 in
theorem predsfalseX (toks : List Tok) (g cap i : Nat) (w : World) (hT : TokC w g toks) (hg : g < w.heap.size) (hi : i < toks.length) (hl : toks.length ≤ 1099511627776) (hE : EndsT toks) (hq0 : isSym toks[i] [40] = false) :
    Calls Tryz.prog 49 #[.slice (some ⟨g, 0, none⟩) toks.length cap, .int .i64 i] w (PXRes toks i toks[i].place (predsRaw (toks.drop i)) w) := by
  have hE0 := hE.drop hi
  cases hd0 : toks.drop i with
  | nil => exact absurd hd0 hE0.ne
  | cons t0 r0 =>
  obtain ⟨hi0, ht0, hdr0, hlen0⟩ := drop_at hd0
  rw [hd0] at hE0
  rw [ht0] at hq0 ⊢
  have HET := Lib.hid hE
  have HPR : Hid (predsRaw (t0 :: r0) = tailP false (predL (r0.length + 1) (t0 :: r0) 0 [])) := by
    show _ = _
    unfold predsRaw
    simp only [hq0, Bool.false_eq_true, if_false]
  obtain ⟨W, eW, k0, b1, z1⟩ := box9 w (.int .i64 0) (.int .i64 0) (.string ⟨#[]⟩) (.slice none 0 0) (.slice none 0 0) (.slice none 0 0) (.int .i64 0) (.int .i64 0) (.int .i64 0) 35
  obtain ⟨V, eV, k1, b2, z2⟩ := box9 W (.int .i64 0) (.int .i64 0) (.string ⟨#[]⟩) (.slice none 0 0) (.slice none 0 0) (.slice none 0 0) (.int .i64 i) (.int .i64 0) (.int .i64 0) 35
  rw [z1] at k1
  have hPB : PBox w V i := ⟨(b2.block _ (by omega)).trans k0, k1, b1.trans (b2.mono b1.size)⟩
  have hTV : TokC V g toks := hT.block (hPB.bl.block g hg)
  obtain ⟨c0, c1, c2, c3⟩ := hTV i hi
  rw [ht0] at c0 c1 c2 c3
  have hgV : g < V.heap.size := by omega
  have HIS : Hid (Calls Tryz.prog 47 #[.agg #[.int .i64 t0.kind, .string (mkB t0.text), .int .i64 t0.num, .int .i64 t0.place], .string ⟨#[40]⟩] V fun e w' => e = .returned (.bool (isSym t0 [40])) ∧ Below V.heap.size V w') := is_any t0 [40] V
  rw [hq0] at HIS
  have hiI : (i : Int) < (toks.length : Int) := by omega
  have hi00 : (0 : Int) ≤ (i : Int) := by omega
  have hi40 : (i : Int) ≤ 1099511627776 := by omega
  obtain ⟨R, hRdef⟩ : ∃ R, predL (r0.length + 1) (t0 :: r0) 0 [] = R := ⟨_, rfl⟩
  obtain ⟨kk0, hk0⟩ : ∃ kk0, kk0 = r0.length + 1 := ⟨_, rfl⟩
  have HRD := Lib.hid hRdef
  have HK0 := Lib.hid hk0
  have HT0 := Lib.hid hT
  have HE0 := Lib.hid hE0
  have HHT0 := Lib.hid ht0
  rw [HPR.out, hRdef]
  have hEs : EndsT (t0 :: r0) := hE0
  have hr0p := List.length_pos_iff.2 hEs.ne
  have hlen9 : r0.length + 1 = toks.length - i := by have := congrArg List.length hd0; simp at this; omega
  have HR0 : Hid (∀ y, Below V.heap.size V y → PXRel toks i 0 w R kk0 (.int .i64 (i : Int)) (.slice none 0 0) y) := fun y hb =>
    ⟨[], i, rfl, hPB.on hb, PRow.nil _ _, Nat.zero_le _, by rw [hd0, HK0.out]; simp, by omega, by rw [hd0, HK0.out]; exact HRD.out⟩
  have HEW := Lib.hid eW
  have HEV := Lib.hid eV
  clear eW eV hE HPR hRdef hk0 hPB hTV hT k0 k1 b1 b2 hd0 hE0 hdr0 hq0 hEs
  go_enter Tryz.func49, Tryz.ntmps49
  go_upto_region 1 with (fail)
  rw [HEW.out]
  go_upto_region 2 with (fail)
  rw [HEV.out]
  go_wp2_with fail
  (with_reducible refine HIS.out.mono ?_)
  rintro e0 y0 ⟨rfl, hb0⟩
  have HR1 := Lib.hid (HR0.out y0 hb0)
  clear hb0 HR0 c0 c1 c2 c3
  go_wp2_with fail
  go_loopg [7, 9] kk0 (fun k kv ov wr => PXRel toks i 0 w R k kv ov wr)
  case atStart => exact HR1.out
  case round =>
    obtain ⟨acc, ip, rfl, hbx, hrow, hal, hkl, hil, hR⟩ := hrel
    obtain ⟨A9, c9, rfl⟩ := hrow.form
    have hEd := HET.out.drop hil
    cases hd : toks.drop ip with
    | nil => exact absurd hd hEd.ne
    | cons t r =>
    obtain ⟨hi9, ht, hdr, hlen⟩ := drop_at hd
    rw [hd] at hR hkl hEd
    simp only [List.length_cons] at hkl
    cases gk with
    | zero => omega
    | succ m =>
    simp only [predL] at hR
    have hTr : TokC wr g toks := HT0.out.block (hbx.bl.block g hg)
    obtain ⟨d0, d1, d2, d3⟩ := hTr ip hil
    rw [ht] at d0 d1 d2 d3
    have hws := hbx.bl.size
    have hw1 := lt_of_block hbx.b1
    have hgr : g < wr.heap.size := by omega
    have hpI : (ip : Int) < (toks.length : Int) := by omega
    have hp0 : (0 : Int) ≤ (ip : Int) := by omega
    obtain ⟨n0, n1, n2, n3, n4, n5, n6, n7, n8, _⟩ := nine_cells hbx.b1
    obtain ⟨u0, u1, u2, u3, u4, u5, u6, u7, u8, f0, f1, f2, f3, f4, f5, f6, f7, f8, hw0⟩ := nine_cells hbx.b0
    by_cases h2 : t.kind = 2
    · rw [if_pos h2] at hR
      have hk : (t.kind : Int) = 2 := by omega
      have hEr : EndsT r := hEd.tail (by omega)
      have hat := atomX_any (cap := cap) (i := ip + 1) (o := 0) hTr hgr (by omega) hl (by rw [hdr]; exact hEr)
      rw [hdr, show (((ip + 1 : Nat)) : Int) = (ip : Int) + 1 by push_cast; rfl] at hat
      have HAT : Hid (Calls Tryz.prog 45 #[.slice (some ⟨g, 0, none⟩) toks.length cap, .int .i64 ((ip : Int) + 1), .int .i64 0] wr (XRes toks (atomL r 0) wr)) := hat
      have HBX := Lib.hid hbx
      have HROW := Lib.hid hrow
      have HTr := Lib.hid hTr
      have HTT := Lib.hid ht
      have herr := fun e p => atomL_err (e := e) (p := p) (o := 0) hEr
      have hok := fun x q => atomL_ok (t := x) (q := q) (o := 0) hEr
      have HDR := Lib.hid hdr
      clear hbx hrow hTr hat ht hd n0 n1 n2 n3 n4 n5 n6 n7 n8 u0 u1 u2 u3 u4 u5 u6 u7 u8 f0 f1 f2 f3 f4 f5 f6 f7 f8
      generalize atomL r 0 = ra at *
      generalize (t.kind : Int) = tk at *
      subst hk
      go_wp2_with fail
      (with_reducible refine HAT.out.mono ?_)
      intro e1 y hy
      cases ra with
      | no e p =>
        obtain ⟨rfl, hb⟩ := hy
        simp only at hR
        subst hR
        have he := herr e p rfl
        have he0 : ((e : Int) == 0) = false := by rw [beq_eq_false_iff_ne]; omega
        obtain ⟨Z, eZ, k2, b3, z3⟩ := box9 y (.int .i64 0) (.int .i64 0) (.string ⟨#[]⟩) (.slice none 0 0) (.slice none 0 0) (.slice none 0 0) (.int .i64 0) (.int .i64 e) (.int .i64 p) 35
        have hbZ := hb.trans (b3.mono hb.size)
        have hbx := HBX.out.on hbZ
        obtain ⟨v0, v1, v2, v3, v4, v5, v6, v7, v8, _⟩ := nine_cells k2
        obtain ⟨n0, n1, n2, n3, n4, n5, n6, n7, n8, _⟩ := nine_cells hbx.b1
        obtain ⟨u0, u1, u2, u3, u4, u5, u6, u7, u8, f0, f1, f2, f3, f4, f5, f6, f7, f8, hw0⟩ := nine_cells hbx.b0
        have hwy : w.heap.size + 1 < y.heap.size := by have := hb.size; omega
        have HEZ := Lib.hid eZ
        have HE : Hid (PXRes toks i t0.place (tailP false none) w (.returned (.agg #[.int .i64 0, .int .i64 0, .string ⟨#[]⟩, .slice none 0 0, .slice none 0 0, .slice none 0 0, .int .i64 i, .int .i64 0, .int .i64 0])) (putX Z w.heap.size (.int .i64 0) (.int .i64 0) (.string ⟨#[]⟩) (.slice none 0 0) (.slice none 0 0) (.slice none 0 0) (.int .i64 i) (.int .i64 0) (.int .i64 0))) := p_none hbx _ _ _ _ _ _ _ _ _
        clear hb eZ k2 b3 hbZ hbx herr hok
        go_upto_region 12 with (fail)
        rw [HEZ.out]
        go_wp2_with fail
        exact bodyPost_ret (v := .agg #[.int .i64 0, .int .i64 0, .string ⟨#[]⟩, .slice none 0 0, .slice none 0 0, .slice none 0 0, .int .i64 i, .int .i64 0, .int .i64 0]) (by simp [results, Tryz.results49, go_sem, u0, u1, u2, u3, u4, u5, u6, u7, u8]) rfl HE.out
      | ok x s =>
        obtain ⟨f1, n1, s1, A1, l1, c1, rfl, hty, hb⟩ := hy
        have hao := hok x s rfl
        match s, hao, hR, hty with
        | [], hao, _, _ => exact absurd rfl hao.1.ne
        | c :: q, hao, hR, hty =>
        have hdc : toks.drop (toks.length - (c :: q).length) = c :: q := drop_suf (i := ip + 1) (by rw [HDR.out]; exact hao.2.1)
        obtain ⟨hci, hct, hcd, hcl⟩ := drop_at hdc
        have hrl := hao.2.2.1
        have hplace : toks.length - (c :: q).length + 1 = toks.length - q.length := hcl.symm
        have hPi : ip + 2 ≤ toks.length - (c :: q).length := by simp only [List.length_cons] at hrl ⊢; omega
        have hqlen : (c :: q).length + 1 ≤ r.length + 0 := by omega
        have hsuf : (c :: q) <:+ toks := by rw [← hdc]; exact List.drop_suffix _ _
        simp only at hR
        generalize hP : toks.length - (c :: q).length = P at *
        obtain ⟨Z, eZ, k2, b3, z3⟩ := box9 y (.int .i64 f1) (.int .i64 n1) (.string s1) (.slice A1 l1 c1) (.slice none 0 0) (.slice none 0 0) (.int .i64 (P : Int)) (.int .i64 0) (.int .i64 0) 35
        have hbZ := hb.trans (b3.mono hb.size)
        have hbxZ := HBX.out.on hbZ
        have hrowZ := HROW.out.on hbZ
        have htyZ := hty.on b3
        have hTZ : TokC Z g toks := HT0.out.block (hbxZ.bl.block g hg)
        have hyw : wr.heap.size ≤ y.heap.size := hb.size
        obtain ⟨cs, ho9, hte9⟩ := hrowZ
        have hrowlt : ∀ k, (Value.slice A9 acc.length c9).ownBlock = some k → w.heap.size + 2 ≤ k ∧ k < wr.heap.size := fun k hk => by
          obtain ⟨cs0, ho0, _⟩ := HROW.out
          exact World.ownsRow.lt ho0 k hk
        have hacc : acc.length ≤ 1099511627776 := by omega
        have HSTEP : Hid (∀ (Q w2 : World) (gq cap2 : Nat), w2.ownsRow (w.heap.size + 2) 97 5 (.slice (some ⟨gq, 0, none⟩) (acc.length + 1) cap2) (acc.length + 1) (cs ++ [.string (mkB t.text), .int .i64 f1, .int .i64 n1, .string s1, .slice A1 l1 c1]) → Q.grownBy w2 (Value.slice A9 acc.length c9).ownBlock → ((Value.slice A9 acc.length c9).ownBlock = some gq ∨ gq = y.heap.size + 1 + 1) → Below Z.heap.size Z Q ∧ Q.heap.size = y.heap.size + 1 + 1 → PBox w w2 i ∧ PRow (w.heap.size + 2) w2 (acc ++ [(mkB t.text, x)]) (.slice (some ⟨gq, 0, none⟩) (acc.length + 1) cap2) ∧ w2.heap[y.heap.size]? = some (.cells #[.int .i64 f1, .int .i64 n1, .string s1, .slice A1 l1 c1, .slice none 0 0, .slice none 0 0, .int .i64 (P : Int), .int .i64 0, .int .i64 0] 35) ∧ y.heap.size + 1 ≤ w2.heap.size) := fun Q w2 gq cap2 ho2 hg2 hat hQ => by
          obtain ⟨hQb, hQs⟩ := hQ
          have hz2 := hg2.size
          have hkk : ∀ k, k < Z.heap.size → (Value.slice A9 acc.length c9).ownBlock ≠ some k → w2.heap[k]? = Z.heap[k]? := fun k h1 hne => (hg2.block k (by omega) (fun e => hne e.symm)).trans (hQb.block k h1)
          have hk2 : ∀ k, k < Z.heap.size → k < w.heap.size + 2 → w2.heap[k]? = Z.heap[k]? := fun k h1 h2 => hkk k h1 (fun e => by have := (hrowlt k e).1; omega)
          have hbl := hbxZ.bl
          refine ⟨⟨(hk2 _ (by omega) (by omega)).trans hbxZ.b0, (hk2 _ (by omega) (by omega)).trans hbxZ.b1, hg2.os.trans (hQb.os.trans hbl.os), hg2.tape.trans (hQb.tape.trans hbl.tape), hg2.output.trans (hQb.output.trans hbl.output), by have := hbl.size; omega, fun k h1 => (hk2 k (by have := hbl.size; omega) (by omega)).trans (hbl.block k h1)⟩, ?_, (hkk _ (by omega) (fun e => by have := (hrowlt _ e).2; omega)).trans k2, by omega⟩
          have hta : TyAt (fun b => w.heap.size + 2 ≤ b ∧ (Value.slice A9 acc.length c9).ownBlock ≠ some b) Q x (.agg #[.int .i64 f1, .int .i64 n1, .string s1, .slice A1 l1 c1]) :=
            ((htyZ.on hQb).mono (fun b (hb : wr.heap.size ≤ b) => ⟨by omega, fun e => by have := (hrowlt b e).2; omega⟩))
          have hoQ := own_below ho9 hQb
          exact PRow.push (v' := .slice (some ⟨gq, 0, none⟩) (acc.length + 1) cap2) hoQ (fun j hj => by
              obtain ⟨x0, x1, x2, x3, k0, k1, k2, k3, k4, hx⟩ := hte9 j hj
              exact ⟨x0, x1, x2, x3, k0, k1, k2, k3, k4, hx.on hQb⟩) hta ho2 hg2 (by
            rcases hat with h9 | h9
            · exact .inl (by rw [h9]; rfl)
            · exact .inr (by rw [h9, hQs]; simp [Value.ownBlock]))
        have bn1 := below_new Z (.cells #[.string (mkB t.text), .int .i64 f1, .int .i64 n1, .string s1, .slice A1 l1 c1] 97)
        have bn2 := below_new Z.drew (.cells #[.string (mkB t.text), .int .i64 f1, .int .i64 n1, .string s1, .slice A1 l1 c1] 97)
        have bd : Below Z.heap.size Z Z.drew := (Below.refl _ Z).drew
        have HQ1 : Hid (Below Z.heap.size Z (Z.alloc (.cells #[.string (mkB t.text), .int .i64 f1, .int .i64 n1, .string s1, .slice A1 l1 c1] 97)) ∧ (Z.alloc (.cells #[.string (mkB t.text), .int .i64 f1, .int .i64 n1, .string s1, .slice A1 l1 c1] 97)).heap.size = y.heap.size + 1 + 1) := ⟨bn1, by simp; omega⟩
        have HQ2 : Hid (Below Z.heap.size Z (Z.alloc (.cells #[.string (mkB t.text), .int .i64 f1, .int .i64 n1, .string s1, .slice A1 l1 c1] 97)).drew ∧ (Z.alloc (.cells #[.string (mkB t.text), .int .i64 f1, .int .i64 n1, .string s1, .slice A1 l1 c1] 97)).drew.heap.size = y.heap.size + 1 + 1) := ⟨bn1.drew, by simp; omega⟩
        have HQ3 : Hid (Below Z.heap.size Z (Z.drew.alloc (.cells #[.string (mkB t.text), .int .i64 f1, .int .i64 n1, .string s1, .slice A1 l1 c1] 97)) ∧ (Z.drew.alloc (.cells #[.string (mkB t.text), .int .i64 f1, .int .i64 n1, .string s1, .slice A1 l1 c1] 97)).heap.size = y.heap.size + 1 + 1) := ⟨bd.trans bn2, by simp; omega⟩
        have HO1 := Lib.hid (own_below ho9 HQ1.out.1)
        have HO2 := Lib.hid (own_below ho9 HQ2.out.1)
        have HO3 := Lib.hid (own_below ho9 HQ3.out.1)
        have hnw := news_five Z (.string (mkB t.text)) (.int .i64 f1) (.int .i64 n1) (.string s1) (.slice A1 l1 c1) 97
        have hnwd := news_five Z.drew (.string (mkB t.text)) (.int .i64 f1) (.int .i64 n1) (.string s1) (.slice A1 l1 c1) 97
        rw [z3] at hnw
        rw [show Z.drew.heap.size = Z.heap.size from rfl, z3] at hnwd
        have HNEW := Lib.hid hnw
        have HNEWD := Lib.hid hnwd
        have HONE := Lib.hid (one_pred (mkB t.text) f1 n1 s1 A1 l1 c1)
        obtain ⟨i0, hi0, hz0, hzs0, hzb⟩ := info_parts' Tryz.info97
        obtain ⟨v0, v1, v2, v3, v4, v5, v6, v7, v8, _⟩ := nine_cells k2
        obtain ⟨d0, d1, d2, d3⟩ := hTZ ip hil
        rw [HTT.out] at d0 d1 d2 d3
        have HEZ := Lib.hid eZ
        have hwy : w.heap.size + 1 < y.heap.size := by omega
        have hgy : g < y.heap.size := by omega
        have HZ3 := Lib.hid z3
        have HAO := Lib.hid hao.1
        have HR9 := Lib.hid hR
        have HSUF := Lib.hid hsuf
        have HCD := Lib.hid hcd
        have HPL := Lib.hid hplace
        have HCT := Lib.hid hct
        have hbZs : w.heap.size + 2 ≤ Z.heap.size := by omega
        clear hb eZ k2 b3 hbZ hbxZ herr hok hty htyZ hTZ ho9 hte9 hrowlt bn1 bn2 bd hnw hnwd hao hR hsuf hcd hplace hct hdc hcl
        go_upto_region 12 with (fail)
        rw [HEZ.out]
        go_wp2_with fail
        go_region_law (refine step_append_lies _ rfl (.tmp 42) (.tmp 51) 33 rfl (w.heap.size + 2) 97 i0 (.agg #[.string ⟨#[]⟩, .int .i64 0, .int .i64 0, .string ⟨#[]⟩, .slice none 0 0]) 5 72 Tryz.underlying33 hi0 hz0 hzs0 hzb rfl (by decide) (.slice A9 acc.length c9) acc.length cs rfl (by first | exact HO1.out | exact HO2.out | exact HO3.out) ⟨y.heap.size + 1, 0, none⟩ 1 1 [.string (mkB t.text), .int .i64 f1, .int .i64 n1, .string s1, .slice A1 l1 c1] rfl rfl (by first | exact HNEW.out | exact HNEWD.out) HONE.out (by omega) (by unfold maxLen; omega) (by omega) (by simp; omega) (y.heap.size + 1 + 1) (by simp; omega) ?_; intro gq cap2 w2 h2 g2 hat _; (first | have hs2 := HSTEP.out _ w2 gq cap2 h2 g2 hat HQ1.out | have hs2 := HSTEP.out _ w2 gq cap2 h2 g2 hat HQ2.out | have hs2 := HSTEP.out _ w2 gq cap2 h2 g2 hat HQ3.out); have HS2 := Lib.hid hs2; clear hs2 h2 g2 hat)
        all_goals
          obtain ⟨hbx2, hrow2, hk2', hsz2⟩ := HS2.out
          have hT2 : TokC w2 g toks := HT0.out.block (hbx2.bl.block g hg)
          obtain ⟨v0, v1, v2, v3, v4, v5, v6, v7, v8, _⟩ := nine_cells hk2'
          obtain ⟨y0, y1, y2, y3⟩ := hT2 P hci
          rw [HCT.out] at y0 y1 y2 y3
          have hg2 : g < w2.heap.size := by omega
          have HI2 : Hid (Calls Tryz.prog 47 #[.agg #[.int .i64 c.kind, .string (mkB c.text), .int .i64 c.num, .int .i64 c.place], .string ⟨#[44]⟩] w2 fun e w' => e = .returned (.bool (isSym c [44])) ∧ Below w2.heap.size w2 w') := is_any c [44] w2
          have HBX2 := Lib.hid hbx2
          have HROW2 := Lib.hid hrow2
          have hPI : (P : Int) < (toks.length : Int) := by omega
          have hP0 : (0 : Int) ≤ (P : Int) := by omega
          have hR := HR9.out
          clear hbx2 hrow2 hk2' hT2
          rw [if_pos (Or.inl trivial)] at hR
          have HTL : Hid (tailP false R = if isSym c [61, 62] = true then some (acc ++ [(mkB t.text, x)], q) else none) := by
            show _ = _
            rw [← hR]; simp [tailP]
          have HPQ : Hid ((P : Int) + 1 = ((toks.length - q.length : Nat) : Int)) := by show _ = _; rw [← HPL.out]; push_cast; rfl
          have HSQ : Hid (q <:+ toks) := (List.suffix_cons _ _).trans HSUF.out
          have HNE : Hid (isSym c [61, 62] = true → q ≠ []) := fun h => (HAO.out.tail (sym_kind h)).ne
          clear hR
          go_wp2_with fail
          (with_reducible refine HI2.out.mono ?_)
          rintro e7 z ⟨rfl, hbz⟩
          have hbxz := HBX2.out.on hbz
          have hTz : TokC z g toks := HT0.out.block (hbxz.bl.block g hg)
          have HROWZ := Lib.hid (HROW2.out.on hbz)
          have hgz : g < z.heap.size := by have := hbz.size; omega
          have HBXZ := Lib.hid hbxz
          obtain ⟨y0, y1, y2, y3⟩ := hTz P hci
          rw [HCT.out] at y0 y1 y2 y3
          clear hbz hbxz hTz
          have HIA : Hid (Calls Tryz.prog 47 #[.agg #[.int .i64 c.kind, .string (mkB c.text), .int .i64 c.num, .int .i64 c.place], .string ⟨#[61, 62]⟩] z fun e w' => e = .returned (.bool (isSym c [61, 62])) ∧ Below z.heap.size z w') := is_any c [61, 62] z
          cases hqa : isSym c [61, 62] with
          | false =>
            rw [hqa] at HIA
            have HTN : Hid (tailP false R = none) := by show _ = _; rw [HTL.out, if_neg (by rw [hqa]; simp)]
            clear hqa
            go_wp2_with fail
            (with_reducible refine HIA.out.mono ?_)
            rintro e8 x8 ⟨rfl, hb8⟩
            have hbx8 := HBXZ.out.on hb8
            obtain ⟨n0, n1, n2, n3, n4, n5, n6, n7, n8, _⟩ := nine_cells hbx8.b1
            obtain ⟨u0, u1, u2, u3, u4, u5, u6, u7, u8, f0, f1', f2, f3, f4, f5, f6, f7, f8, hw0⟩ := nine_cells hbx8.b0
            have HE : Hid (PXRes toks i t0.place (tailP false R) w (.returned (.agg #[.int .i64 0, .int .i64 0, .string ⟨#[]⟩, .slice none 0 0, .slice none 0 0, .slice none 0 0, .int .i64 i, .int .i64 0, .int .i64 0])) (putX x8 w.heap.size (.int .i64 0) (.int .i64 0) (.string ⟨#[]⟩) (.slice none 0 0) (.slice none 0 0) (.slice none 0 0) (.int .i64 i) (.int .i64 0) (.int .i64 0))) := by
              show PXRes _ _ _ _ _ _ _
              rw [HTN.out]
              exact p_none hbx8 _ _ _ _ _ _ _ _ _
            clear hb8 hbx8
            go_wp2_with fail
            exact bodyPost_ret (v := .agg #[.int .i64 0, .int .i64 0, .string ⟨#[]⟩, .slice none 0 0, .slice none 0 0, .slice none 0 0, .int .i64 i, .int .i64 0, .int .i64 0]) (by simp [results, Tryz.results49, go_sem, u0, u1, u2, u3, u4, u5, u6, u7, u8]) rfl HE.out
          | true =>
            rw [hqa] at HIA
            have HTS : Hid (tailP false R = some (acc ++ [(mkB t.text, x)], q)) := by show _ = _; rw [HTL.out, if_pos hqa]
            have hqne := HNE.out hqa
            have hlenp : (acc ++ [(mkB t.text, x)]).length = acc.length + 1 := by simp
            clear hqa
            go_wp2_with fail
            (with_reducible refine HIA.out.mono ?_)
            rintro e8 x8 ⟨rfl, hb8⟩
            have hbx8 := HBXZ.out.on hb8
            have hrow8 := HROWZ.out.on hb8
            have hs8 := hb8.size
            by_cases h16 : 16 < acc.length + 1
            · have h16I : (16 : Int) < (acc.length : Int) + 1 := by omega
              have hT8 : TokC x8 g toks := HT0.out.block (hbx8.bl.block g hg)
              obtain ⟨m0, m1, m2, m3⟩ := hT8 i hi
              rw [HHT0.out] at m0 m1 m2 m3
              have hg8 : g < x8.heap.size := by have := hbx8.bl.size; omega
              have HBAD := Lib.hid (bad_any 2 t0 x8)
              have HBX8 := Lib.hid hbx8
              clear hb8 hbx8 hrow8 hT8
              go_wp2_with fail
              (with_reducible refine HBAD.out.mono ?_)
              rintro e9 x9 ⟨rfl, hb9⟩
              have hbx9 := HBX8.out.on hb9
              obtain ⟨u0, u1, u2, u3, u4, u5, u6, u7, u8, f0, f1', f2, f3, f4, f5, f6, f7, f8, hw0⟩ := nine_cells hbx9.b0
              have HE : Hid (PXRes toks i t0.place (tailP false R) w (.returned (.agg #[.int .i64 0, .int .i64 0, .string ⟨#[]⟩, .slice none 0 0, .slice none 0 0, .slice none 0 0, .int .i64 0, .int .i64 2, .int .i64 t0.place])) (putX x9 w.heap.size (.int .i64 0) (.int .i64 0) (.string ⟨#[]⟩) (.slice none 0 0) (.slice none 0 0) (.slice none 0 0) (.int .i64 0) (.int .i64 2) (.int .i64 t0.place))) := by
                show PXRes _ _ _ _ _ _ _
                rw [HTS.out]
                exact p_long hbx9.bl (by rw [hlenp]; exact h16) _ _ _ _ _ _ _ _ _
              clear hb9 hbx9
              go_wp2_with fail
              exact bodyPost_ret (v := .agg #[.int .i64 0, .int .i64 0, .string ⟨#[]⟩, .slice none 0 0, .slice none 0 0, .slice none 0 0, .int .i64 0, .int .i64 2, .int .i64 t0.place]) (by simp [results, Tryz.results49, go_sem, u0, u1, u2, u3, u4, u5, u6, u7, u8]) rfl HE.out
            · have h16I : ¬ (16 : Int) < (acc.length : Int) + 1 := by omega
              obtain ⟨u0, u1, u2, u3, u4, u5, u6, u7, u8, f0, f1', f2, f3, f4, f5, f6, f7, f8, hw0⟩ := nine_cells hbx8.b0
              have HE : Hid (PXRes toks i t0.place (tailP false R) w (.returned (.agg #[.int .i64 0, .int .i64 0, .string ⟨#[]⟩, .slice none 0 0, .slice (some ⟨gq, 0, none⟩) (acc.length + 1) cap2, .slice none 0 0, .int .i64 ((P : Int) + 1), .int .i64 0, .int .i64 0])) (putX x8 w.heap.size (.int .i64 0) (.int .i64 0) (.string ⟨#[]⟩) (.slice none 0 0) (.slice (some ⟨gq, 0, none⟩) (acc.length + 1) cap2) (.slice none 0 0) (.int .i64 ((P : Int) + 1)) (.int .i64 0) (.int .i64 0))) := by
                show PXRes _ _ _ _ _ _ _
                rw [HTS.out, ← hlenp]
                exact p_some hbx8 (by rw [hlenp]; exact hrow8) (by omega) HPQ.out HSQ.out hqne _ _ _ _ _ _ _ _ _
              clear hb8 hbx8 hrow8
              go_wp2_with fail
              exact bodyPost_ret (v := .agg #[.int .i64 0, .int .i64 0, .string ⟨#[]⟩, .slice none 0 0, .slice (some ⟨gq, 0, none⟩) (acc.length + 1) cap2, .slice none 0 0, .int .i64 ((P : Int) + 1), .int .i64 0, .int .i64 0]) (by simp [results, Tryz.results49, go_sem, u0, u1, u2, u3, u4, u5, u6, u7, u8]) rfl HE.out
    · rw [if_neg h2] at hR
      subst hR
      have hk2 : ((t.kind : Int) == 2) = false := by rw [beq_eq_false_iff_ne]; omega
      have HE : Hid (PXRes toks i t0.place (tailP false none) w (.returned (.agg #[.int .i64 0, .int .i64 0, .string ⟨#[]⟩, .slice none 0 0, .slice none 0 0, .slice none 0 0, .int .i64 i, .int .i64 0, .int .i64 0])) (putX wr w.heap.size (.int .i64 0) (.int .i64 0) (.string ⟨#[]⟩) (.slice none 0 0) (.slice none 0 0) (.slice none 0 0) (.int .i64 i) (.int .i64 0) (.int .i64 0))) := p_none hbx _ _ _ _ _ _ _ _ _
      clear hbx hrow hTr ht hd
      go_wp2_with fail
      exact bodyPost_ret (v := .agg #[.int .i64 0, .int .i64 0, .string ⟨#[]⟩, .slice none 0 0, .slice none 0 0, .slice none 0 0, .int .i64 i, .int .i64 0, .int .i64 0]) (by simp [results, Tryz.results49, go_sem, u0, u1, u2, u3, u4, u5, u6, u7, u8]) rfl HE.out
theorem predsX_any (toks : List Tok) (g cap i : Nat) (w : World) (hT : TokC w g toks) (hg : g < w.heap.size) (hi : i < toks.length) (hl : toks.length ≤ 1099511627776) (hE : EndsT toks) :
    Calls Tryz.prog 49 #[.slice (some ⟨g, 0, none⟩) toks.length cap, .int .i64 i] w (PXRes toks i toks[i].place (predsRaw (toks.drop i)) w) := by
  cases hq0 : isSym toks[i] [40] with
  | true => exact predstrueX toks g cap i w hT hg hi hl hE hq0
  | false => exact predsfalseX toks g cap i w hT hg hi hl hE hq0
end Go.Proofs.YtbdfjboojokgdaaGreatDoor
