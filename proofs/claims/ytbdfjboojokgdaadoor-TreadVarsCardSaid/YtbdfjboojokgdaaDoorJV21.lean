/- The contract of tread's preds (chapter 5). Conditions: at most 2^40 tokens, the last one an end; symbols bear no number. -/
import Derived.Test.YtbdfjboojokgdaaDoorJV20
namespace Go.Proofs.YtbdfjboojokgdaaDoor
open Go.RowKit Lx

/-- A row of predicates that a call owns. -/
def PRow (base : Nat) (w : World) (ps : List (ByteArray × Ty)) (v : Value) : Prop :=
  ∃ cs : List Value, w.ownsRow base 82 5 v ps.length cs ∧ ∀ i (h : i < ps.length), ∃ x0 x1 x2 x3, cs[i * 5]? = some (.string ps[i].1) ∧ cs[i * 5 + 1]? = some x0 ∧ cs[i * 5 + 2]? = some x1 ∧ cs[i * 5 + 3]? = some x2 ∧ cs[i * 5 + 4]? = some x3 ∧ TyAt (fun b => base ≤ b ∧ v.ownBlock ≠ some b) w ps[i].2 (.agg #[x0, x1, x2, x3])
theorem PRow.nil (base : Nat) (w : World) : PRow base w [] (.slice none 0 0) := ⟨[], World.ownsRow_nil w base 82 5, fun _ h => absurd h (Nat.not_lt_zero _)⟩
theorem PRow.form {base : Nat} {w : World} {ps : List (ByteArray × Ty)} {v : Value} (h : PRow base w ps v) : ∃ A c, v = .slice A ps.length c := by obtain ⟨cs, ho, _⟩ := h; exact own_form ho
theorem PRow.keepH {base : Nat} {w w' : World} {us : List (ByteArray × Ty)} {v : Value} (h : PRow base w us v) (hs : w.heap.size ≤ w'.heap.size) (hb : ∀ k, base ≤ k → k < w.heap.size → w'.heap[k]? = w.heap[k]?) : PRow base w' us v := by
  obtain ⟨cs, ho, ht⟩ := h
  refine ⟨cs, own_keep ho (fun k hk => hb k (World.ownsRow.lt ho k hk).1 (World.ownsRow.lt ho k hk).2), fun i hi => ?_⟩
  obtain ⟨x0, x1, x2, x3, c0, c1, c2, c3, c4, hx⟩ := ht i hi
  exact ⟨x0, x1, x2, x3, c0, c1, c2, c3, c4, hx.keep ⟨hs, fun b off hp hl => World.cell?_of_block (a := ⟨b, off, none⟩) (hb b hp.1 hl)⟩⟩
theorem PRow.on {base : Nat} {w w' : World} {us : List (ByteArray × Ty)} {v : Value} (h : PRow base w us v) (hb : Below w.heap.size w w') : PRow base w' us v := h.keepH hb.size (fun k _ hk => hb.block k hk)
theorem PRow.fr {base rb : Nat} {w w' : World} {us : List (ByteArray × Ty)} {v : Value} (h : PRow base w us v) (hf : Fr (fun b => b = rb) w w') (hrb : rb < base) : PRow base w' us v := h.keepH hf.size (fun k h1 h2 => hf.block k h2 (by omega))
/-- One more, behind an append. -/
theorem PRow.push {base : Nat} {w w' : World} {ps : List (ByteArray × Ty)} {v v' : Value} {s : ByteArray} {t : Ty} {cs : List Value} {x0 x1 x2 x3 : Value}
    (ho : w.ownsRow base 82 5 v ps.length cs) (ht : ∀ i (h : i < ps.length), ∃ x0 x1 x2 x3, cs[i * 5]? = some (.string ps[i].1) ∧ cs[i * 5 + 1]? = some x0 ∧ cs[i * 5 + 2]? = some x1 ∧ cs[i * 5 + 3]? = some x2 ∧ cs[i * 5 + 4]? = some x3 ∧ TyAt (fun b => base ≤ b ∧ v.ownBlock ≠ some b) w ps[i].2 (.agg #[x0, x1, x2, x3]))
    (hx : TyAt (fun b => base ≤ b ∧ v.ownBlock ≠ some b) w t (.agg #[x0, x1, x2, x3]))
    (ho' : w'.ownsRow base 82 5 v' (ps.length + 1) (cs ++ [.string s, x0, x1, x2, x3])) (hg : w.grownBy w' v.ownBlock) (hat : v'.ownBlock = v.ownBlock ∨ v'.ownBlock = some w.heap.size) : PRow base w' (ps ++ [(s, t)]) v' := by
  have hcl : cs.length = ps.length * 5 := ho.1
  have hk : ∀ {t : Ty} {u : Value}, TyAt (fun b => base ≤ b ∧ v.ownBlock ≠ some b) w t u → TyAt (fun b => base ≤ b ∧ v'.ownBlock ≠ some b) w' t u := by
    intro t u h
    have h1 := h.bound.keep (w' := w') ⟨hg.size, fun b off hp hlt => World.cell?_of_block (a := ⟨b, off, none⟩) (hg.block b hlt (fun e => hp.1.2 e.symm))⟩
    refine h1.mono (fun b hb => ⟨hb.1.1, fun e => ?_⟩)
    rcases hat with h9 | h9
    · exact hb.1.2 (h9 ▸ e)
    · rw [h9] at e; injection e with e; have := hb.2; omega
  refine ⟨cs ++ [.string s, x0, x1, x2, x3], by rw [List.length_append]; exact ho', fun i hi => ?_⟩
  rw [List.length_append] at hi
  simp only [List.length_cons, List.length_nil] at hi
  by_cases hit : i < ps.length
  · obtain ⟨y0, y1, y2, y3, c0, c1, c2, c3, c4, hy⟩ := ht i hit
    rw [List.getElem_append_left hit]
    refine ⟨y0, y1, y2, y3, ?_, ?_, ?_, ?_, ?_, hk hy⟩
    · rw [List.getElem?_append_left (by omega)]; exact c0
    · rw [List.getElem?_append_left (by omega)]; exact c1
    · rw [List.getElem?_append_left (by omega)]; exact c2
    · rw [List.getElem?_append_left (by omega)]; exact c3
    · rw [List.getElem?_append_left (by omega)]; exact c4
  · have hi' : i = ps.length := by omega
    subst hi'
    rw [List.getElem_append_right (Nat.le_refl _)]
    simp only [Nat.sub_self, List.getElem_cons_zero]
    refine ⟨x0, x1, x2, x3, ?_, ?_, ?_, ?_, ?_, hk hx⟩
    · rw [List.getElem?_append_right (by omega), hcl, Nat.sub_self]; rfl
    · rw [List.getElem?_append_right (by omega), hcl, show ps.length * 5 + 1 - ps.length * 5 = 1 by omega]; rfl
    · rw [List.getElem?_append_right (by omega), hcl, show ps.length * 5 + 2 - ps.length * 5 = 2 by omega]; rfl
    · rw [List.getElem?_append_right (by omega), hcl, show ps.length * 5 + 3 - ps.length * 5 = 3 by omega]; rfl
    · rw [List.getElem?_append_right (by omega), hcl, show ps.length * 5 + 4 - ps.length * 5 = 4 by omega]; rfl
theorem Tryd.info82 : (Tryd.prog.info? 82).map (fun i => (i.zero, i.size, i.bytes)) = some (some (.agg #[.string ⟨#[]⟩, .int .i64 0, .int .i64 0, .string ⟨#[]⟩, .slice none 0 0]), 5, 72) := by kernel_rfl
theorem news_five (w : World) (u0 u1 u2 u3 u4 : Value) (t : TypeId) : ∀ j x, [u0, u1, u2, u3, u4][j]? = some x → (w.alloc (.cells #[u0, u1, u2, u3, u4] t)).cell? ((⟨w.heap.size, 0, none⟩ : Addr).add j) = some x := by
  intro j x hj
  match j with
  | 0 => simp at hj; subst hj; simp [go_sem, Addr.add]
  | 1 => simp at hj; subst hj; simp [go_sem, Addr.add]
  | 2 => simp at hj; subst hj; simp [go_sem, Addr.add]
  | 3 => simp at hj; subst hj; simp [go_sem, Addr.add]
  | 4 => simp at hj; subst hj; simp [go_sem, Addr.add]
  | j + 5 => simp at hj
theorem one_pred (p : ByteArray) (f n : Int) (s : ByteArray) (A : Option Addr) (l c : Nat) : ∀ u ∈ [Value.string p, .int .i64 f, .int .i64 n, .string s, .slice A l c], u.oneCell' = true := by simp [Value.oneCell']
theorem box5v (w : World) (x0 x1 x2 x3 x4 : Value) : ∃ W, w.alloc (.cells #[x0, x1, x2, x3, x4] 82) = W ∧ W.heap[w.heap.size]? = some (.cells #[x0, x1, x2, x3, x4] 82) ∧ Below w.heap.size w W ∧ W.heap.size = w.heap.size + 1 :=
  ⟨_, rfl, (MapKept.heap_alloc w _).1, below_new w _, by simp⟩
theorem EndsT.drop {l : List Tok} (h : EndsT l) {i : Nat} (hi : i < l.length) : EndsT (l.drop i) := by
  obtain ⟨r, t, e, ht⟩ := h
  subst e
  rw [List.length_append, List.length_singleton] at hi
  exact ⟨r.drop i, t, by rw [List.drop_append_of_le_length (by omega)], ht⟩
/-- What stands behind the predicates. -/
def tailP (B : Bool) : Option (List (ByteArray × Ty) × List Tok) → Option (List (ByteArray × Ty) × List Tok)
  | some (ps, c :: q) => if B = true then (match q with
      | d :: q2 => if isSym c [41] = true ∧ isSym d [61, 62] = true then some (ps, q2) else none
      | [] => none) else (if isSym c [61, 62] = true then some (ps, q) else none)
  | _ => none
def predsRaw (l : List Tok) : Option (List (ByteArray × Ty) × List Tok) :=
  match l with
  | [] => none
  | t :: r => if isSym t [40] = true then tailP true (predL r.length r 1 []) else tailP false (predL (r.length + 1) (t :: r) 0 [])
/-- What preds told. -/
def PredsRes (toks : List Tok) (rb g cap : Nat) (out : Option (List (ByteArray × Ty) × List Tok)) (w : World) (e : Ending) (w' : World) : Prop :=
  match out with
  | some (ps, q) => ∃ A c, e = .returned (.tuple #[.slice A ps.length c, .bool true]) ∧ PRow w.heap.size w' ps (.slice A ps.length c) ∧ (∃ o', Rd toks rb g cap (toks.length - q.length) o' w') ∧ Fr (fun b => b = rb) w w' ∧ q <:+ toks ∧ q ≠ []
  | none => (∃ A n c, e = .returned (.tuple #[.slice A n c, .bool false])) ∧ (∃ i' o', Rd toks rb g cap i' o' w') ∧ Fr (fun b => b = rb) w w'
/-- What the loop of preds knows. -/
def PredsRel (toks : List Tok) (rb g cap o : Nat) (w0 : World) (R : Option (List (ByteArray × Ty) × List Tok)) (k : Nat) (ov : Value) (wr : World) : Prop :=
  ∃ acc ip, Rd toks rb g cap ip o wr ∧ PRow w0.heap.size wr acc ov ∧ Fr (fun b => b = rb) w0 wr ∧ acc.length ≤ ip ∧ (toks.drop ip).length ≤ k ∧ ip < toks.length ∧ predL k (toks.drop ip) o acc = R
set_option maxRecDepth 100000 in
set_option maxHeartbeats 1000000 in
theorem preds_any (toks : List Tok) (rb g cap i : Nat) (w : World) (h : Rd toks rb g cap i 0 w) (hi : i < toks.length) (hl : toks.length ≤ 1099511627776) (hz : ∀ t ∈ toks, SymZ t) (hE : EndsT toks) :
    Calls Tryd.prog 92 #[.pointer (some ⟨rb, 0, none⟩)] w (PredsRes toks rb g cap (predsRaw (toks.drop i)) w) := by
  have hE0 := hE.drop hi
  cases hd0 : toks.drop i with
  | nil => exact absurd hd0 hE0.ne
  | cons t0 r0 =>
  obtain ⟨hi0, ht0, hdr0, hlen0⟩ := drop_at hd0
  rw [hd0] at hE0
  have hg := h.lt
  have hrb := h.rb_lt
  have HSZ := Lib.hid hz
  have HET := Lib.hid hE
  have htk0 := takes_any toks rb g cap i 0 [40] w h hi hl (hz _ (List.getElem_mem hi))
  rw [ht0] at htk0
  have HRAW : Hid (predsRaw (t0 :: r0) = if isSym t0 [40] = true then tailP true (predL r0.length r0 1 []) else tailP false (predL (r0.length + 1) (t0 :: r0) 0 [])) := rfl
  cases hq0 : isSym t0 [40] with
  | true =>
    rw [hq0] at htk0
    have HPR : Hid (predsRaw (t0 :: r0) = tailP true (predL r0.length r0 1 [])) := by show _ = _; rw [HRAW.out, if_pos hq0]
    have HTK0 : Hid (Calls Tryd.prog 129 #[.pointer (some ⟨rb, 0, none⟩), .string ⟨#[40]⟩] w (TakeRes toks rb g cap i 0 true w)) := htk0
    have hEr0 : EndsT r0 := hE0.tail (sym_kind hq0)
    have hr0p := List.length_pos_iff.2 hEr0.ne
    rw [HPR.out]
    obtain ⟨R, hRdef⟩ : ∃ R, predL r0.length r0 1 [] = R := ⟨_, rfl⟩
    obtain ⟨k0, hk0⟩ : ∃ k0, k0 = r0.length := ⟨_, rfl⟩
    have HRD := Lib.hid hRdef
    have HK0 := Lib.hid hk0
    rw [hRdef]
    clear htk0 hq0 hE0 hz hE h HRAW HPR hRdef hk0 hEr0
    go_enter Tryd.func92, Tryd.ntmps92
    go_wp2_with fail
    (with_reducible refine HTK0.out.mono ?_)
    intro e0 y0 hy0
    obtain ⟨rfl, hr0, hf0⟩ := hy0
    rw [if_pos rfl] at hr0
    obtain ⟨p0, p1, p2, p3, p4, p5, p6⟩ := three_cells hr0.blk
    obtain ⟨Z0, eZ0⟩ : ∃ Z0, y0.setCell ⟨rb, 2, none⟩ (.int .i64 1) = Z0 := ⟨_, rfl⟩
    have HR0 : Hid (PredsRel toks rb g cap 1 w R k0 (.slice none 0 0) Z0) := by
      have h9 := hr0.opened 1
      rw [show ((1 : Nat) : Int) = 1 from rfl, eZ0] at h9
      refine ⟨[], i + 1, h9, PRow.nil _ _, by rw [← eZ0]; exact hf0.trans (rd_fr _ _ _ _), Nat.zero_le _, by rw [hdr0, HK0.out]; exact Nat.le_refl _, by omega, by rw [hdr0, HK0.out]; exact HRD.out⟩
    have HEZ0 := Lib.hid eZ0
    clear hr0 hf0 eZ0
    go_upto_region 4 with (fail)
    rw [HEZ0.out]
    go_wp2_with fail
    go_loopg [5] k0 (fun k ov wr => PredsRel toks rb g cap 1 w R k ov wr)
    case atStart => exact HR0.out
    case round =>
      obtain ⟨acc, ip, hr, hrow, hf, hal, hkl, hil, hR⟩ := hrel
      obtain ⟨A9, c9, rfl⟩ := hrow.form
      have hEd := HET.out.drop hil
      cases hd : toks.drop ip with
      | nil => exact absurd hd hEd.ne
      | cons t r =>
      obtain ⟨hi, ht, hdr, hlen⟩ := drop_at hd
      rw [hd] at hR hkl hEd
      simp only [List.length_cons] at hkl
      cases gk with
      | zero => omega
      | succ m =>
      simp only [predL] at hR
      have hzr := hf.size
      by_cases h2 : t.kind = 2
      · rw [if_pos h2] at hR
        have hEr : EndsT r := hEd.tail (by omega)
        have hat := atomL_is hEr 1
        have HC := Lib.hid (pred_any toks rb g cap (3 * r.length) ip 1 wr t r hr (by omega) hl HSZ.out hd (some (atomL r 1)) (by rw [if_pos h2]; exact ⟨hat, by simp⟩))
        cases hal9 : atomL r 1 with
        | no e p =>
          rw [hal9] at hR HC
          simp only at hR
          have HRN := Lib.hid hR
          have HFF := Lib.hid hf
          clear hr hrow hf hR hd hEd hEr hat hal9
          go_wp2_with fail
          (with_reducible refine HC.out.mono ?_)
          intro e1 y hy
          obtain ⟨⟨s0, f1, n1, s1, A1, l1, c1, rfl⟩, ⟨i', o', hr1⟩, hf1⟩ := hy
          have HE : Hid (PredsRes toks rb g cap (tailP true R) w (.returned (.tuple #[.slice none 0 0, .bool false])) (y.alloc (.cells #[.string s0, .int .i64 f1, .int .i64 n1, .string s1, .slice A1 l1 c1] 82))) := by
            show PredsRes _ _ _ _ _ _ _ _
            rw [← HRN.out]
            exact ⟨⟨_, _, _, rfl⟩, ⟨_, _, hr1.on (below_new _ _)⟩, (HFF.out.trans hf1).trans (Fr.of_below (below_new _ _))⟩
          clear hr1 hf1
          go_wp2_with fail
          go_ret2
          exact HE.out
        | ok x s =>
          have hao := atomL_ok hEr hal9
          rw [hal9] at hR HC
          match s, hao, hR, HC with
          | [], hao, _, _ => exact absurd rfl hao.1.ne
          | c :: q, hao, hR, HC =>
          have hsx : toks.drop (toks.length - (c :: q).length) = c :: q := drop_suf (i := ip + 1) (by rw [hdr]; exact hao.2.1)
          obtain ⟨hci, hct, hcd, hcl⟩ := drop_at hsx
          have hrl := hao.2.2.1
          have hplace : toks.length - (c :: q).length + 1 = toks.length - q.length := hcl.symm
          have hPi : ip + 2 ≤ toks.length - (c :: q).length := by simp only [List.length_cons] at hrl ⊢; omega
          have hqlen : (c :: q).length + 1 ≤ m := by omega
          have hsuf : (c :: q) <:+ toks := by rw [← hsx]; exact List.drop_suffix _ _
          simp only at hR
          generalize hP : toks.length - (c :: q).length = P at *
          have hSc := HSZ.out c (by rw [← hct]; exact List.getElem_mem hci)
          have HFF := Lib.hid hf
          have HROW := Lib.hid hrow
          have HECQ := Lib.hid hao.1
          have hwr0 : w.heap.size ≤ wr.heap.size := hzr
          clear hr hrow hf hd hEd hEr hat hal9 hao
          go_wp2_with fail
          (with_reducible refine HC.out.mono ?_)
          intro e1 y hy
          obtain ⟨f1, n1, s1, A1, l1, c1, rfl, hty, hr1, hf1⟩ := hy
          rw [hP] at hr1
          obtain ⟨Y, eY, k5, b5, z5⟩ := box5v y (.string (mkB t.text)) (.int .i64 f1) (.int .i64 n1) (.string s1) (.slice A1 l1 c1)
          obtain ⟨u0, u1, u2, u3, u4, u5, u6, u7, u8, u9, u10⟩ := five_cells k5
          have hsy := hf1.size
          have hfY := (HFF.out.trans hf1).trans (Fr.of_below b5)
          have hrowY := (HROW.out.fr hf1 hrb).on b5
          have hQb := below_new Y (.cells #[.string (mkB t.text), .int .i64 f1, .int .i64 n1, .string s1, .slice A1 l1 c1] 82)
          obtain ⟨cs, ho9, hte9⟩ := hrowY.on hQb
          have hrowlt : ∀ k, (Value.slice A9 acc.length c9).ownBlock = some k → w.heap.size ≤ k ∧ k < wr.heap.size := fun k hk => by
            obtain ⟨cs0, ho0, _⟩ := HROW.out
            exact World.ownsRow.lt ho0 k hk
          have HOWN := Lib.hid ho9
          have HNEW := Lib.hid (news_five Y (.string (mkB t.text)) (.int .i64 f1) (.int .i64 n1) (.string s1) (.slice A1 l1 c1) 82)
          have HONE := Lib.hid (one_pred (mkB t.text) f1 n1 s1 A1 l1 c1)
          have HEY := Lib.hid eY
          have HZ5 := Lib.hid z5
          have hacc : acc.length ≤ 1099511627776 := by omega
          have hwY : w.heap.size ≤ Y.heap.size := by omega
          have HSTEP : Hid (∀ (w2 : World) (gq cap2 : Nat), w2.ownsRow w.heap.size 82 5 (.slice (some ⟨gq, 0, none⟩) (acc.length + 1) cap2) (acc.length + 1) (cs ++ [.string (mkB t.text), .int .i64 f1, .int .i64 n1, .string s1, .slice A1 l1 c1]) → (Y.alloc (.cells #[.string (mkB t.text), .int .i64 f1, .int .i64 n1, .string s1, .slice A1 l1 c1] 82)).grownBy w2 (Value.slice A9 acc.length c9).ownBlock → ((Value.slice A9 acc.length c9).ownBlock = some gq ∨ gq = Y.heap.size + 1) → Rd toks rb g cap P 1 w2 ∧ PRow w.heap.size w2 (acc ++ [(mkB t.text, x)]) (.slice (some ⟨gq, 0, none⟩) (acc.length + 1) cap2) ∧ Fr (fun b => b = rb) w w2) := fun w2 gq cap2 ho2 hg2 hat => by
            have hk2 : ∀ k, k < Y.heap.size → k < w.heap.size → w2.heap[k]? = Y.heap[k]? := fun k h1 h2 => (hg2.block k (by simp; omega) (fun e => by have := (hrowlt k e.symm).1; omega)).trans (hQb.block k h1)
            have hz2 := hg2.size
            simp only [World.size_alloc] at hz2
            have hrY := hr1.on b5
            refine ⟨hrY.fr (by omega) (hk2 rb hrY.rb_lt (by omega)) (hk2 g hrY.lt (by omega)), ?_, hg2.os.trans hfY.os, hg2.tape.trans hfY.tape, hg2.output.trans hfY.output, by omega, fun k h1 h2 => (hk2 k (by omega) (by omega)).trans (hfY.block k h1 h2)⟩
            have hta : TyAt (fun b => w.heap.size ≤ b ∧ (Value.slice A9 acc.length c9).ownBlock ≠ some b) (Y.alloc (.cells #[.string (mkB t.text), .int .i64 f1, .int .i64 n1, .string s1, .slice A1 l1 c1] 82)) x (.agg #[.int .i64 f1, .int .i64 n1, .string s1, .slice A1 l1 c1]) :=
              ((hty.on b5).on hQb).mono (fun b (hb : wr.heap.size + 1 ≤ b) => ⟨by omega, fun e => by have := (hrowlt b e).2; omega⟩)
            exact PRow.push (v' := .slice (some ⟨gq, 0, none⟩) (acc.length + 1) cap2) ho9 hte9 hta ho2 hg2 (by
              rcases hat with h9 | h9
              · exact .inl (by rw [h9]; rfl)
              · exact .inr (by rw [h9]; simp [Value.ownBlock]))
          obtain ⟨i0, hi0, hz0, hzs0, hzb⟩ := info_parts' Tryd.info82
          clear hty hr1 hf1 eY k5 b5 z5 hfY hrowY hQb ho9 hte9 hrowlt
          go_upto_region 6 with (fail)
          rw [HEY.out]
          go_upto_region 9 with (at_builtin; refine wpList_append_lies _ rfl (.tmp 25) (.tmp 27) 60 rfl w.heap.size 82 i0 (.agg #[.string ⟨#[]⟩, .int .i64 0, .int .i64 0, .string ⟨#[]⟩, .slice none 0 0]) 5 72 Tryd.underlying60 hi0 hz0 hzs0 hzb rfl (by decide) (.slice A9 acc.length c9) acc.length cs rfl HOWN.out ⟨Y.heap.size, 0, none⟩ 1 1 [.string (mkB t.text), .int .i64 f1, .int .i64 n1, .string s1, .slice A1 l1 c1] rfl rfl HNEW.out HONE.out (by omega) (by unfold maxLen; omega) (by omega) (by simp; omega) (Y.heap.size + 1) (by simp) ?_; intro gq cap2 w2 h2 g2 hat _; have HS2 := Lib.hid (HSTEP.out w2 gq cap2 h2 g2 hat); clear h2 g2 hat)
          simp only [Nat.succ_ne_zero, false_or] at hR
          have htk := takes_any toks rb g cap P 1 [44] w2 HS2.out.1 hci hl (by rw [hct]; exact hSc)
          rw [hct] at htk
          cases hq : isSym c [44] with
          | true =>
            rw [hq] at htk hR
            rw [if_neg (by simp)] at hR
            have HTK : Hid (Calls Tryd.prog 129 #[.pointer (some ⟨rb, 0, none⟩), .string ⟨#[44]⟩] w2 (TakeRes toks rb g cap P 1 true w2)) := htk
            have hqne : EndsT q := HECQ.out.tail (sym_kind hq)
            have hR2 := Lib.hid hR
            have HQN := Lib.hid hqne
            clear htk hR hq hqne
            go_wp2_with fail
            (with_reducible refine HTK.out.mono ?_)
            intro e2 z hz9
            obtain ⟨rfl, hrz, hfz⟩ := hz9
            rw [if_pos rfl, hplace] at hrz
            have hql := List.length_pos_iff.2 HQN.out.ne
            have HREL : Hid (PredsRel toks rb g cap 1 w R m (.slice (some ⟨gq, 0, none⟩) (acc.length + 1) cap2) z) :=
              ⟨acc ++ [(mkB t.text, x)], toks.length - q.length, hrz, HS2.out.2.1.fr hfz hrb, HS2.out.2.2.trans hfz, by rw [List.length_append, List.length_singleton]; omega, by rw [← hplace, hcd]; simp only [List.length_cons] at hqlen; omega, by omega, by rw [← hplace, hcd]; exact hR2.out⟩
            clear hrz hfz
            go_wp2_with fail
            go_roundg m
            case rel => exact HREL.out
            case measure => omega
          | false =>
            rw [hq] at htk hR
            rw [if_pos rfl] at hR
            have HTK : Hid (Calls Tryd.prog 129 #[.pointer (some ⟨rb, 0, none⟩), .string ⟨#[44]⟩] w2 (TakeRes toks rb g cap P 1 false w2)) := htk
            have HR2 := Lib.hid hR
            clear htk hR hq
            go_wp2_with fail
            (with_reducible refine HTK.out.mono ?_)
            intro e2 z hz9
            obtain ⟨rfl, hrz, hfz⟩ := hz9
            rw [if_neg (by simp)] at hrz
            have hrow2 := HS2.out.2.1.fr hfz hrb
            have hf2 := HS2.out.2.2.trans hfz
            have htk2 := takes_any toks rb g cap P 1 [41] z hrz hci hl (by rw [hct]; exact hSc)
            rw [hct] at htk2
            have HROW2 := Lib.hid hrow2
            have HF2 := Lib.hid hf2
            clear hrz hfz hrow2 hf2
            cases hq : isSym c [41] with
            | false =>
              rw [hq] at htk2
              have HTK2 : Hid (Calls Tryd.prog 129 #[.pointer (some ⟨rb, 0, none⟩), .string ⟨#[41]⟩] z (TakeRes toks rb g cap P 1 false z)) := htk2
              have HT : Hid (tailP true R = none) := by
                show _ = _
                rw [← HR2.out]
                simp only [tailP, if_true]
                cases q with
                | nil => rfl
                | cons d q2 => simp only; rw [if_neg (by rw [hq]; simp)]
              clear htk2 hq
              go_wp2_with fail
              (with_reducible refine HTK2.out.mono ?_)
              intro e3 v hv9
              obtain ⟨rfl, hrv, hfv⟩ := hv9
              have HE : Hid (PredsRes toks rb g cap (tailP true R) w (.returned (.tuple #[.slice none 0 0, .bool false])) v) := by
                show PredsRes _ _ _ _ _ _ _ _
                rw [HT.out]
                exact ⟨⟨_, _, _, rfl⟩, ⟨_, _, hrv⟩, HF2.out.trans hfv⟩
              clear hrv hfv
              go_wp2_with fail
              go_ret2
              exact HE.out
            | true =>
              rw [hq] at htk2
              have HTK2 : Hid (Calls Tryd.prog 129 #[.pointer (some ⟨rb, 0, none⟩), .string ⟨#[41]⟩] z (TakeRes toks rb g cap P 1 true z)) := htk2
              have hqe : EndsT q := HECQ.out.tail (sym_kind hq)
              cases q with
              | nil => exact absurd rfl hqe.ne
              | cons d q2 =>
              have hdd : toks.drop (toks.length - (d :: q2).length) = d :: q2 := by rw [← hplace, hcd]
              obtain ⟨hdi, hdt, hdcd, hdl⟩ := drop_at hdd
              have hSd := HSZ.out d (by rw [← hdt]; exact List.getElem_mem hdi)
              have hsuf2 : q2 <:+ toks := by rw [← hdcd]; exact List.drop_suffix _ _
              have hplace2 : toks.length - (d :: q2).length + 1 = toks.length - q2.length := hdl.symm
              have HTL : Hid (tailP true R = if isSym d [61, 62] = true then some (acc ++ [(mkB t.text, x)], q2) else none) := by
                show _ = _
                rw [← HR2.out]
                simp only [tailP, if_true]
                by_cases h9 : isSym d [61, 62] = true
                · rw [if_pos ⟨hq, h9⟩, if_pos h9]
                · rw [if_neg (fun e => h9 e.2), if_neg h9]
              have HED := Lib.hid hqe
              clear htk2 hqe
              go_wp2_with fail
              (with_reducible refine HTK2.out.mono ?_)
              intro e3 v hv9
              obtain ⟨rfl, hrv, hfv⟩ := hv9
              rw [if_pos rfl, hplace] at hrv
              have htk3 := takes_any toks rb g cap (toks.length - (d :: q2).length) 1 [61, 62] v hrv hdi hl (by rw [hdt]; exact hSd)
              rw [hdt] at htk3
              have HROW3 := Lib.hid (HROW2.out.fr hfv hrb)
              have HF3 := Lib.hid (HF2.out.trans hfv)
              clear hrv hfv
              cases hq2 : isSym d [61, 62] with
              | true =>
                rw [hq2] at htk3
                have HTK3 : Hid (Calls Tryd.prog 129 #[.pointer (some ⟨rb, 0, none⟩), .string ⟨#[61, 62]⟩] v (TakeRes toks rb g cap (toks.length - (d :: q2).length) 1 true v)) := htk3
                have hne2 := (HED.out.tail (sym_kind hq2)).ne
                have HT : Hid (tailP true R = some (acc ++ [(mkB t.text, x)], q2)) := by show _ = _; rw [HTL.out, if_pos hq2]
                clear htk3 hq2
                go_wp2_with fail
                (with_reducible refine HTK3.out.mono ?_)
                intro e4 v2 hv9
                obtain ⟨rfl, hrv, hfv⟩ := hv9
                rw [if_pos rfl, hplace2] at hrv
                have HE : Hid (PredsRes toks rb g cap (tailP true R) w (.returned (.tuple #[.slice (some ⟨gq, 0, none⟩) (acc.length + 1) cap2, .bool true])) v2) := by
                  show PredsRes _ _ _ _ _ _ _ _
                  rw [HT.out]
                  have hln : (acc ++ [(mkB t.text, x)]).length = acc.length + 1 := by simp
                  refine ⟨some ⟨gq, 0, none⟩, cap2, by rw [hln], ?_, ⟨_, hrv⟩, HF3.out.trans hfv, hsuf2, hne2⟩
                  rw [hln]; exact HROW3.out.fr hfv hrb
                clear hrv hfv
                go_wp2_with fail
                go_ret2
                exact HE.out
              | false =>
                rw [hq2] at htk3
                have HTK3 : Hid (Calls Tryd.prog 129 #[.pointer (some ⟨rb, 0, none⟩), .string ⟨#[61, 62]⟩] v (TakeRes toks rb g cap (toks.length - (d :: q2).length) 1 false v)) := htk3
                have HT : Hid (tailP true R = none) := by show _ = _; rw [HTL.out, if_neg (by rw [hq2]; simp)]
                clear htk3 hq2
                go_wp2_with fail
                (with_reducible refine HTK3.out.mono ?_)
                intro e4 v2 hv9
                obtain ⟨rfl, hrv, hfv⟩ := hv9
                have HE : Hid (PredsRes toks rb g cap (tailP true R) w (.returned (.tuple #[.slice (some ⟨gq, 0, none⟩) (acc.length + 1) cap2, .bool false])) v2) := by
                  show PredsRes _ _ _ _ _ _ _ _
                  rw [HT.out]
                  exact ⟨⟨_, _, _, rfl⟩, ⟨_, _, hrv⟩, HF3.out.trans hfv⟩
                clear hrv hfv
                go_wp2_with fail
                go_ret2
                exact HE.out
      · rw [if_neg h2] at hR
        have HC := Lib.hid (pred_any toks rb g cap 0 ip 1 wr t r hr (by omega) hl HSZ.out hd none (by rw [if_neg h2]))
        have HRN := Lib.hid hR
        have HFF := Lib.hid hf
        clear hr hrow hf hR hd hEd
        go_wp2_with fail
        (with_reducible refine HC.out.mono ?_)
        intro e1 y hy
        obtain ⟨⟨s0, f1, n1, s1, A1, l1, c1, rfl⟩, ⟨i', o', hr1⟩, hf1⟩ := hy
        have HE : Hid (PredsRes toks rb g cap (tailP true R) w (.returned (.tuple #[.slice none 0 0, .bool false])) (y.alloc (.cells #[.string s0, .int .i64 f1, .int .i64 n1, .string s1, .slice A1 l1 c1] 82))) := by
          show PredsRes _ _ _ _ _ _ _ _
          rw [← HRN.out]
          exact ⟨⟨_, _, _, rfl⟩, ⟨_, _, hr1.on (below_new _ _)⟩, (HFF.out.trans hf1).trans (Fr.of_below (below_new _ _))⟩
        clear hr1 hf1
        go_wp2_with fail
        go_ret2
        exact HE.out
  | false =>
    rw [hq0] at htk0
    have HPR : Hid (predsRaw (t0 :: r0) = tailP false (predL (r0.length + 1) (t0 :: r0) 0 [])) := by show _ = _; rw [HRAW.out, if_neg (by rw [hq0]; simp)]
    have HTK0 : Hid (Calls Tryd.prog 129 #[.pointer (some ⟨rb, 0, none⟩), .string ⟨#[40]⟩] w (TakeRes toks rb g cap i 0 false w)) := htk0
    rw [HPR.out]
    obtain ⟨R, hRdef⟩ : ∃ R, predL (r0.length + 1) (t0 :: r0) 0 [] = R := ⟨_, rfl⟩
    obtain ⟨k0, hk0⟩ : ∃ k0, k0 = r0.length + 1 := ⟨_, rfl⟩
    have HRD := Lib.hid hRdef
    have HK0 := Lib.hid hk0
    have HD0 := Lib.hid hd0
    rw [hRdef]
    clear htk0 hq0 hE0 hz hE h HRAW HPR hRdef hk0
    go_enter Tryd.func92, Tryd.ntmps92
    go_wp2_with fail
    (with_reducible refine HTK0.out.mono ?_)
    intro e0 y0 hy0
    obtain ⟨rfl, hr0, hf0⟩ := hy0
    rw [if_neg (by simp)] at hr0
    have HR0 : Hid (PredsRel toks rb g cap 0 w R k0 (.slice none 0 0) y0) :=
      ⟨[], i, hr0, PRow.nil _ _, hf0, Nat.zero_le _, by rw [HD0.out, HK0.out]; exact Nat.le_refl _, by omega, by rw [HD0.out, HK0.out]; exact HRD.out⟩
    clear hr0 hf0 hd0
    go_wp2_with fail
    go_loopg [5] k0 (fun k ov wr => PredsRel toks rb g cap 0 w R k ov wr)
    case atStart => exact HR0.out
    case round =>
      obtain ⟨acc, ip, hr, hrow, hf, hal, hkl, hil, hR⟩ := hrel
      obtain ⟨A9, c9, rfl⟩ := hrow.form
      have hEd := HET.out.drop hil
      cases hd : toks.drop ip with
      | nil => exact absurd hd hEd.ne
      | cons t r =>
      obtain ⟨hi, ht, hdr, hlen⟩ := drop_at hd
      rw [hd] at hR hkl hEd
      simp only [List.length_cons] at hkl
      cases gk with
      | zero => omega
      | succ m =>
      simp only [predL] at hR
      have hzr := hf.size
      by_cases h2 : t.kind = 2
      · rw [if_pos h2] at hR
        have hEr : EndsT r := hEd.tail (by omega)
        have hat := atomL_is hEr 0
        have HC := Lib.hid (pred_any toks rb g cap (3 * r.length) ip 0 wr t r hr (by omega) hl HSZ.out hd (some (atomL r 0)) (by rw [if_pos h2]; exact ⟨hat, by simp⟩))
        cases hal9 : atomL r 0 with
        | no e p =>
          rw [hal9] at hR HC
          simp only at hR
          have HRN := Lib.hid hR
          have HFF := Lib.hid hf
          clear hr hrow hf hR hd hEd hEr hat hal9
          go_wp2_with fail
          (with_reducible refine HC.out.mono ?_)
          intro e1 y hy
          obtain ⟨⟨s0, f1, n1, s1, A1, l1, c1, rfl⟩, ⟨i', o', hr1⟩, hf1⟩ := hy
          have HE : Hid (PredsRes toks rb g cap (tailP false R) w (.returned (.tuple #[.slice none 0 0, .bool false])) (y.alloc (.cells #[.string s0, .int .i64 f1, .int .i64 n1, .string s1, .slice A1 l1 c1] 82))) := by
            show PredsRes _ _ _ _ _ _ _ _
            rw [← HRN.out]
            exact ⟨⟨_, _, _, rfl⟩, ⟨_, _, hr1.on (below_new _ _)⟩, (HFF.out.trans hf1).trans (Fr.of_below (below_new _ _))⟩
          clear hr1 hf1
          go_wp2_with fail
          go_ret2
          exact HE.out
        | ok x s =>
          have hao := atomL_ok hEr hal9
          rw [hal9] at hR HC
          match s, hao, hR, HC with
          | [], hao, _, _ => exact absurd rfl hao.1.ne
          | c :: q, hao, hR, HC =>
          have hsx : toks.drop (toks.length - (c :: q).length) = c :: q := drop_suf (i := ip + 1) (by rw [hdr]; exact hao.2.1)
          obtain ⟨hci, hct, hcd, hcl⟩ := drop_at hsx
          have hrl := hao.2.2.1
          have hplace : toks.length - (c :: q).length + 1 = toks.length - q.length := hcl.symm
          have hPi : ip + 2 ≤ toks.length - (c :: q).length := by simp only [List.length_cons] at hrl ⊢; omega
          have hqlen : (c :: q).length + 1 ≤ m := by omega
          have hsuf : (c :: q) <:+ toks := by rw [← hsx]; exact List.drop_suffix _ _
          simp only at hR
          generalize hP : toks.length - (c :: q).length = P at *
          have hSc := HSZ.out c (by rw [← hct]; exact List.getElem_mem hci)
          have HFF := Lib.hid hf
          have HROW := Lib.hid hrow
          have HECQ := Lib.hid hao.1
          have hwr0 : w.heap.size ≤ wr.heap.size := hzr
          clear hr hrow hf hd hEd hEr hat hal9 hao
          go_wp2_with fail
          (with_reducible refine HC.out.mono ?_)
          intro e1 y hy
          obtain ⟨f1, n1, s1, A1, l1, c1, rfl, hty, hr1, hf1⟩ := hy
          rw [hP] at hr1
          obtain ⟨Y, eY, k5, b5, z5⟩ := box5v y (.string (mkB t.text)) (.int .i64 f1) (.int .i64 n1) (.string s1) (.slice A1 l1 c1)
          obtain ⟨u0, u1, u2, u3, u4, u5, u6, u7, u8, u9, u10⟩ := five_cells k5
          have hsy := hf1.size
          have hfY := (HFF.out.trans hf1).trans (Fr.of_below b5)
          have hrowY := (HROW.out.fr hf1 hrb).on b5
          have hQb := below_new Y (.cells #[.string (mkB t.text), .int .i64 f1, .int .i64 n1, .string s1, .slice A1 l1 c1] 82)
          obtain ⟨cs, ho9, hte9⟩ := hrowY.on hQb
          have hrowlt : ∀ k, (Value.slice A9 acc.length c9).ownBlock = some k → w.heap.size ≤ k ∧ k < wr.heap.size := fun k hk => by
            obtain ⟨cs0, ho0, _⟩ := HROW.out
            exact World.ownsRow.lt ho0 k hk
          have HOWN := Lib.hid ho9
          have HNEW := Lib.hid (news_five Y (.string (mkB t.text)) (.int .i64 f1) (.int .i64 n1) (.string s1) (.slice A1 l1 c1) 82)
          have HONE := Lib.hid (one_pred (mkB t.text) f1 n1 s1 A1 l1 c1)
          have HEY := Lib.hid eY
          have HZ5 := Lib.hid z5
          have hacc : acc.length ≤ 1099511627776 := by omega
          have hwY : w.heap.size ≤ Y.heap.size := by omega
          have HSTEP : Hid (∀ (w2 : World) (gq cap2 : Nat), w2.ownsRow w.heap.size 82 5 (.slice (some ⟨gq, 0, none⟩) (acc.length + 1) cap2) (acc.length + 1) (cs ++ [.string (mkB t.text), .int .i64 f1, .int .i64 n1, .string s1, .slice A1 l1 c1]) → (Y.alloc (.cells #[.string (mkB t.text), .int .i64 f1, .int .i64 n1, .string s1, .slice A1 l1 c1] 82)).grownBy w2 (Value.slice A9 acc.length c9).ownBlock → ((Value.slice A9 acc.length c9).ownBlock = some gq ∨ gq = Y.heap.size + 1) → Rd toks rb g cap P 0 w2 ∧ PRow w.heap.size w2 (acc ++ [(mkB t.text, x)]) (.slice (some ⟨gq, 0, none⟩) (acc.length + 1) cap2) ∧ Fr (fun b => b = rb) w w2) := fun w2 gq cap2 ho2 hg2 hat => by
            have hk2 : ∀ k, k < Y.heap.size → k < w.heap.size → w2.heap[k]? = Y.heap[k]? := fun k h1 h2 => (hg2.block k (by simp; omega) (fun e => by have := (hrowlt k e.symm).1; omega)).trans (hQb.block k h1)
            have hz2 := hg2.size
            simp only [World.size_alloc] at hz2
            have hrY := hr1.on b5
            refine ⟨hrY.fr (by omega) (hk2 rb hrY.rb_lt (by omega)) (hk2 g hrY.lt (by omega)), ?_, hg2.os.trans hfY.os, hg2.tape.trans hfY.tape, hg2.output.trans hfY.output, by omega, fun k h1 h2 => (hk2 k (by omega) (by omega)).trans (hfY.block k h1 h2)⟩
            have hta : TyAt (fun b => w.heap.size ≤ b ∧ (Value.slice A9 acc.length c9).ownBlock ≠ some b) (Y.alloc (.cells #[.string (mkB t.text), .int .i64 f1, .int .i64 n1, .string s1, .slice A1 l1 c1] 82)) x (.agg #[.int .i64 f1, .int .i64 n1, .string s1, .slice A1 l1 c1]) :=
              ((hty.on b5).on hQb).mono (fun b (hb : wr.heap.size + 1 ≤ b) => ⟨by omega, fun e => by have := (hrowlt b e).2; omega⟩)
            exact PRow.push (v' := .slice (some ⟨gq, 0, none⟩) (acc.length + 1) cap2) ho9 hte9 hta ho2 hg2 (by
              rcases hat with h9 | h9
              · exact .inl (by rw [h9]; rfl)
              · exact .inr (by rw [h9]; simp [Value.ownBlock]))
          obtain ⟨i0, hi0, hz0, hzs0, hzb⟩ := info_parts' Tryd.info82
          clear hty hr1 hf1 eY k5 b5 z5 hfY hrowY hQb ho9 hte9 hrowlt
          go_upto_region 6 with (fail)
          rw [HEY.out]
          go_upto_region 9 with (at_builtin; refine wpList_append_lies _ rfl (.tmp 25) (.tmp 27) 60 rfl w.heap.size 82 i0 (.agg #[.string ⟨#[]⟩, .int .i64 0, .int .i64 0, .string ⟨#[]⟩, .slice none 0 0]) 5 72 Tryd.underlying60 hi0 hz0 hzs0 hzb rfl (by decide) (.slice A9 acc.length c9) acc.length cs rfl HOWN.out ⟨Y.heap.size, 0, none⟩ 1 1 [.string (mkB t.text), .int .i64 f1, .int .i64 n1, .string s1, .slice A1 l1 c1] rfl rfl HNEW.out HONE.out (by omega) (by unfold maxLen; omega) (by omega) (by simp; omega) (Y.heap.size + 1) (by simp) ?_; intro gq cap2 w2 h2 g2 hat _; have HS2 := Lib.hid (HSTEP.out w2 gq cap2 h2 g2 hat); clear h2 g2 hat)
          simp only [true_or, if_true] at hR
          have htk3 := takes_any toks rb g cap P 0 [61, 62] w2 HS2.out.1 hci hl (by rw [hct]; exact hSc)
          rw [hct] at htk3
          have HR2 := Lib.hid hR
          have HTL : Hid (tailP false R = if isSym c [61, 62] = true then some (acc ++ [(mkB t.text, x)], q) else none) := by
            show _ = _
            rw [← HR2.out]
            simp [tailP]
          clear hR
          cases hq2 : isSym c [61, 62] with
          | true =>
            rw [hq2] at htk3
            have HTK3 : Hid (Calls Tryd.prog 129 #[.pointer (some ⟨rb, 0, none⟩), .string ⟨#[61, 62]⟩] w2 (TakeRes toks rb g cap P 0 true w2)) := htk3
            have hne2 := (HECQ.out.tail (sym_kind hq2)).ne
            have hsuf2 : q <:+ toks := (List.suffix_cons _ _).trans hsuf
            have HT : Hid (tailP false R = some (acc ++ [(mkB t.text, x)], q)) := by show _ = _; rw [HTL.out, if_pos hq2]
            clear htk3 hq2
            go_wp2_with fail
            (with_reducible refine HTK3.out.mono ?_)
            intro e4 v2 hv9
            obtain ⟨rfl, hrv, hfv⟩ := hv9
            rw [if_pos rfl, hplace] at hrv
            have HE : Hid (PredsRes toks rb g cap (tailP false R) w (.returned (.tuple #[.slice (some ⟨gq, 0, none⟩) (acc.length + 1) cap2, .bool true])) v2) := by
              show PredsRes _ _ _ _ _ _ _ _
              rw [HT.out]
              have hln : (acc ++ [(mkB t.text, x)]).length = acc.length + 1 := by simp
              refine ⟨some ⟨gq, 0, none⟩, cap2, by rw [hln], ?_, ⟨_, hrv⟩, HS2.out.2.2.trans hfv, hsuf2, hne2⟩
              rw [hln]; exact HS2.out.2.1.fr hfv hrb
            clear hrv hfv
            go_wp2_with fail
            go_ret2
            exact HE.out
          | false =>
            rw [hq2] at htk3
            have HTK3 : Hid (Calls Tryd.prog 129 #[.pointer (some ⟨rb, 0, none⟩), .string ⟨#[61, 62]⟩] w2 (TakeRes toks rb g cap P 0 false w2)) := htk3
            have HT : Hid (tailP false R = none) := by show _ = _; rw [HTL.out, if_neg (by rw [hq2]; simp)]
            clear htk3 hq2
            go_wp2_with fail
            (with_reducible refine HTK3.out.mono ?_)
            intro e4 v2 hv9
            obtain ⟨rfl, hrv, hfv⟩ := hv9
            have HE : Hid (PredsRes toks rb g cap (tailP false R) w (.returned (.tuple #[.slice (some ⟨gq, 0, none⟩) (acc.length + 1) cap2, .bool false])) v2) := by
              show PredsRes _ _ _ _ _ _ _ _
              rw [HT.out]
              exact ⟨⟨_, _, _, rfl⟩, ⟨_, _, hrv⟩, HS2.out.2.2.trans hfv⟩
            clear hrv hfv
            go_wp2_with fail
            go_ret2
            exact HE.out
      · rw [if_neg h2] at hR
        have HC := Lib.hid (pred_any toks rb g cap 0 ip 0 wr t r hr (by omega) hl HSZ.out hd none (by rw [if_neg h2]))
        have HRN := Lib.hid hR
        have HFF := Lib.hid hf
        clear hr hrow hf hR hd hEd
        go_wp2_with fail
        (with_reducible refine HC.out.mono ?_)
        intro e1 y hy
        obtain ⟨⟨s0, f1, n1, s1, A1, l1, c1, rfl⟩, ⟨i', o', hr1⟩, hf1⟩ := hy
        have HE : Hid (PredsRes toks rb g cap (tailP false R) w (.returned (.tuple #[.slice none 0 0, .bool false])) (y.alloc (.cells #[.string s0, .int .i64 f1, .int .i64 n1, .string s1, .slice A1 l1 c1] 82))) := by
          show PredsRes _ _ _ _ _ _ _ _
          rw [← HRN.out]
          exact ⟨⟨_, _, _, rfl⟩, ⟨_, _, hr1.on (below_new _ _)⟩, (HFF.out.trans hf1).trans (Fr.of_below (below_new _ _))⟩
        clear hr1 hf1
        go_wp2_with fail
        go_ret2
        exact HE.out
end Go.Proofs.YtbdfjboojokgdaaDoor
