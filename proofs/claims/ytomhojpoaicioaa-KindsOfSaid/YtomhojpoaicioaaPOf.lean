/- The contract of kinds.Of: a kind as a term. Conditions: those that each theorem names. -/
import Derived.Test.YtomhojpoaicioaaRZ
import Derived.Test.YtomhojpoaicioaaFlat
import Derived.Test.YtomhojpoaicioaaKindsV
import Derived.Deep.RegionLaw
namespace Go.Proofs.Ytomhojpoaicioaa
open Go.RowKit Tm

def OfKRes (w : World) (k : K) (e : Ending) (w' : World) : Prop := ∃ u, e = .returned u ∧ ZAt (fun b => w.heap.size ≤ b) w' (emb (ofK k)) u ∧ Below w.heap.size w w'
/-- What Of's loop knows. -/
structure PfL (w wr : World) (l : List K) (i : Nat) (v : Value) (A : Option Addr) (c : Nat) : Prop where
  box : TB (fun b => w.heap.size + 3 ≤ b) wr (w.heap.size + 2) (emb (ofK (.mk (l.drop i)))) A c
  k0 : wr.cell? ⟨w.heap.size, 0, none⟩ = some v
  r0 : wr.cell? ⟨w.heap.size + 1, 0, none⟩ = some (.int .i64 0)
  r1 : wr.cell? ⟨w.heap.size + 1, 1, none⟩ = some (.int .i64 0)
  r2 : wr.cell? ⟨w.heap.size + 1, 2, none⟩ = some (.slice none 0 0)
  rf0 : wr.frozen? ⟨w.heap.size + 1, 0, none⟩ = false
  rf1 : wr.frozen? ⟨w.heap.size + 1, 1, none⟩ = false
  rf2 : wr.frozen? ⟨w.heap.size + 1, 2, none⟩ = false
  bw : Below w.heap.size w wr
theorem pf_start (w : World) (l : List K) (v : Value) : ∃ W, W = ((w.alloc (.cells #[v] 25)).alloc (.cells #[.int .i64 0, .int .i64 0, .slice none 0 0] 49)).alloc (.cells #[.int .i64 2, .int .i64 0, .slice none 0 0] 49) ∧ PfL w W l l.length v none 0 := by
  refine ⟨_, rfl, ⟨⟨?_, ?_, ?_, ?_, ?_, ?_, ?_⟩, ?_, ?_, ?_, ?_, ?_, ?_, ?_, ?_⟩⟩
  all_goals try rw [List.drop_length, ofK_nil]
  all_goals first
    | (simp [go_sem, emb, formZ, numZ, argsZ]; done)
    | exact .star _ _
    | exact ((below_new w _).trans ((below_new _ _).mono (by simp))).trans ((below_new _ _).mono (by simp; omega))
theorem pf_step {w wr w3 : World} {l : List K} {i : Nat} {v : Value} {A A' : Option Addr} {c c' : Nat} (_ : i < l.length) (h : PfL w wr l (i + 1) v A c) (hb : Below wr.heap.size wr w3) (hz : ZAt (fun b => w.heap.size + 3 ≤ b) w3 (emb (ofK (.mk (l.drop i)))) (.agg #[.int .i64 (formZ (emb (ofK (.mk (l.drop i))))), .int .i64 (numZ (emb (ofK (.mk (l.drop i))))), .slice A' (argsZ (emb (ofK (.mk (l.drop i))))) c'])) :
    PfL w (put3 w3 (w.heap.size + 2) (.int .i64 (formZ (emb (ofK (.mk (l.drop i)))))) (.int .i64 (numZ (emb (ofK (.mk (l.drop i)))))) (.slice A' (argsZ (emb (ofK (.mk (l.drop i))))) c')) l i v A' c' := by
  have hlt := h.box.lt
  have hb' := h.box.on hb
  have kc : ∀ b o, b < w.heap.size + 2 → (put3 w3 (w.heap.size + 2) (.int .i64 (formZ (emb (ofK (.mk (l.drop i)))))) (.int .i64 (numZ (emb (ofK (.mk (l.drop i)))))) (.slice A' (argsZ (emb (ofK (.mk (l.drop i))))) c')).cell? ⟨b, o, none⟩ = wr.cell? ⟨b, o, none⟩ := fun b o hlt' => (World.cell?_of_block (put3_block (Nat.ne_of_lt hlt'))).trans (hb.cell (p := ⟨b, o, none⟩) (show b < wr.heap.size by omega))
  have kf : ∀ b o, b < w.heap.size + 2 → (put3 w3 (w.heap.size + 2) (.int .i64 (formZ (emb (ofK (.mk (l.drop i)))))) (.int .i64 (numZ (emb (ofK (.mk (l.drop i)))))) (.slice A' (argsZ (emb (ofK (.mk (l.drop i))))) c')).frozen? ⟨b, o, none⟩ = wr.frozen? ⟨b, o, none⟩ := fun b o hlt' => (World.frozen?_of_block (put3_block (Nat.ne_of_lt hlt'))).trans (hb.frozen (p := ⟨b, o, none⟩) (show b < wr.heap.size by omega))
  exact ⟨OB.put ⟨⟨_, hb'.c0⟩, ⟨_, hb'.c1⟩, ⟨_, hb'.c2⟩, hb'.f0, hb'.f1, hb'.f2⟩ hz (fun e => by have h9 : w.heap.size + 3 ≤ w.heap.size + 2 := e; omega),
    (kc _ _ (by omega)).trans h.k0, (kc _ _ (by omega)).trans h.r0, (kc _ _ (by omega)).trans h.r1, (kc _ _ (by omega)).trans h.r2, (kf _ _ (by omega)).trans h.rf0, (kf _ _ (by omega)).trans h.rf1, (kf _ _ (by omega)).trans h.rf2, put3_below (h.bw.trans (hb.mono h.bw.size)) (by omega)⟩
theorem ofK_drop {l : List K} {i : Nat} (hi : i < l.length) : emb (ofK (.mk (l.drop i))) = .arr (emb (ofK l[i])) (emb (ofK (.mk (l.drop (i + 1))))) := by
  rw [List.drop_eq_getElem_cons hi, ofK_cons]; rfl
set_option maxRecDepth 100000 in
set_option maxHeartbeats 2000000 in
theorem pof_any (P : Nat → Prop) : ∀ (n : Nat) (k : K) (v : Value) (w : World), K.sz k ≤ n → KAt P w k v → Calls Try.prog 31 #[.agg #[v]] w (OfKRes w k)
  | 0, .mk l, _, _, hn, _ => by rw [K.sz_mk] at hn; omega
  | n + 1, .mk l, v, w, hn, h => by
    obtain ⟨A0, c0, rfl, hm⟩ := h.form
    unfold maxLen at hm
    obtain ⟨W, eW, hW⟩ := pf_start w l (.slice A0 l.length c0)
    have HW := Lib.hid eW
    have HL0 := Lib.hid hW
    have HK := Lib.hid h
    have k0 := hW.k0
    clear eW hW h
    go_enter Try.func31, Try.ntmps31
    go_upto_region 2 with (fail)
    rw [← HW.out]
    go_wp2_with fail
    clear k0
    go_loopw [4] (fun i wr => ∃ (j : Nat) (A : Option Addr) (c : Nat), j ≤ l.length ∧ i = .int .i64 ((j : Int) - 1) ∧ PfL w wr l j (.slice A0 l.length c0) A c) (fun i _ => (intOf i + 1).toNat)
    case atStart => exact ⟨l.length, none, 0, Nat.le_refl _, rfl, HL0.out⟩
    case round =>
      obtain ⟨j, A, c, hj, rfl, hL⟩ := hrel
      have k0 := hL.k0
      have b0 := hL.box.c0
      have b1 := hL.box.c1
      have b2 := hL.box.c2
      have f0 := hL.box.f0
      have f1 := hL.box.f1
      have f2 := hL.box.f2
      have r0 := hL.r0
      have r1 := hL.r1
      have r2 := hL.r2
      have rf0 := hL.rf0
      have rf1 := hL.rf1
      have rf2 := hL.rf2
      have HL := Lib.hid hL
      clear hL
      cases j with
      | zero =>
        have HE : Hid (OfKRes w (.mk l) (.returned (.agg #[.int .i64 (formZ (emb (ofK (.mk (l.drop 0))))), .int .i64 (numZ (emb (ofK (.mk (l.drop 0))))), .slice A (argsZ (emb (ofK (.mk (l.drop 0))))) c])) (put3 wr (w.heap.size + 1) (.int .i64 (formZ (emb (ofK (.mk (l.drop 0)))))) (.int .i64 (numZ (emb (ofK (.mk (l.drop 0)))))) (.slice A (argsZ (emb (ofK (.mk (l.drop 0))))) c))) :=
          ⟨_, rfl, (HL.out.box.zt.keep (put3_keeps (fun e => by have h9 : w.heap.size + 3 ≤ w.heap.size + 1 := e; omega))).mono (fun b (hb : w.heap.size + 3 ≤ b) => (by omega : w.heap.size ≤ b)), put3_below HL.out.bw (Nat.le_succ _)⟩
        generalize formZ (emb (ofK (.mk (l.drop 0)))) = F at *
        generalize numZ (emb (ofK (.mk (l.drop 0)))) = G at *
        generalize argsZ (emb (ofK (.mk (l.drop 0)))) = N at *
        go_wp2
        exact bodyPost_ret (v := .agg #[.int .i64 F, .int .i64 G, .slice A N c]) (by simp [results, Try.results31, go_sem, r0, r1, r2]) rfl HE.out
      | succ j =>
        have hjl : j < l.length := by omega
        obtain ⟨b, off, u, rfl, hb, hcell, hku⟩ := (HK.out.on HL.out.bw).at j hjl
        have HJ := Lib.hid (show ((j + 1 : Nat) : Int) - 1 = (j : Int) by omega)
        rw [HJ.out]
        have hj0 : (0 : Int) ≤ (j : Int) := by omega
        have hj1 : (j : Int) < (l.length : Int) := by omega
        have hdr : Below wr.heap.size wr wr.drew := (Below.refl _ _).drew
        obtain ⟨lk, hlk⟩ : ∃ lk, l[j] = .mk lk := by cases l[j] with | mk lk => exact ⟨lk, rfl⟩
        have hku' := hku
        rw [hlk] at hku'
        obtain ⟨Au, cu, rfl, _⟩ := hku'.form
        have HC := Lib.hid (pof_any P n l[j] _ wr.drew (sz_get hn hjl) (hku.on hdr))
        have hz3 : w.heap.size + 3 ≤ wr.heap.size := HL.out.box.lt
        have hzt := HL.out.box.zt
        have HD := Lib.hid (ofK_drop hjl)
        have HZT := Lib.hid hzt
        generalize hT : emb (ofK (.mk (l.drop (j + 1)))) = T at *
        have HQ1 : Hid (∀ b, wr.drew.heap.size ≤ b → w.heap.size + 3 ≤ b) := fun b (hb : wr.heap.size ≤ b) => Nat.le_trans hz3 hb
        have hlt2 : w.heap.size + 2 < wr.heap.size := hz3
        clear hku hku' hzt hlk hT
        clear r0 r1 r2 rf0 rf1 rf2
        go_upto_region 5 with (fail)
        go_region_law (first
          | (go_simp; go_at_call 31; (with_reducible refine HC.out.mono ?_); rintro e w1 ⟨u1, rfl, hz1, hb1⟩; have hb1' : Below wr.heap.size wr w1 := hdr.trans hb1; have b0' := (hb1'.cell (p := ⟨w.heap.size + 2, 0, none⟩) hlt2).trans b0; have b1' := (hb1'.cell (p := ⟨w.heap.size + 2, 1, none⟩) hlt2).trans b1; have b2' := (hb1'.cell (p := ⟨w.heap.size + 2, 2, none⟩) hlt2).trans b2; have f0' := (hb1'.frozen (p := ⟨w.heap.size + 2, 0, none⟩) hlt2).trans f0; have f1' := (hb1'.frozen (p := ⟨w.heap.size + 2, 1, none⟩) hlt2).trans f1; have f2' := (hb1'.frozen (p := ⟨w.heap.size + 2, 2, none⟩) hlt2).trans f2; have hlt2' := Nat.lt_of_lt_of_le hlt2 hb1'.size)
          | (go_simp; go_at_call 49; (with_reducible refine (parrow_any (fun b => w.heap.size + 3 ≤ b) (emb (ofK l[j])) T _ _ w1 (hz1.mono HQ1.out) ((HZT.out.on hb1'))).mono ?_); rintro e w2 ⟨u2, rfl, hz2, hb2⟩; obtain ⟨A2, c2, rfl⟩ := hz2.form; have hb2' := hb1'.trans (hb2.mono hb1'.size); have b0'' := (hb2.cell (p := ⟨w.heap.size + 2, 0, none⟩) hlt2').trans b0'; have b1'' := (hb2.cell (p := ⟨w.heap.size + 2, 1, none⟩) hlt2').trans b1'; have b2'' := (hb2.cell (p := ⟨w.heap.size + 2, 2, none⟩) hlt2').trans b2'; have f0'' := (hb2.frozen (p := ⟨w.heap.size + 2, 0, none⟩) hlt2').trans f0'; have f1'' := (hb2.frozen (p := ⟨w.heap.size + 2, 1, none⟩) hlt2').trans f1'; have f2'' := (hb2.frozen (p := ⟨w.heap.size + 2, 2, none⟩) hlt2').trans f2'))
        all_goals
          have hst : Hid (PfL w (put3 w2 (w.heap.size + 2) (.int .i64 (formZ (.arr (emb (ofK l[j])) T))) (.int .i64 (numZ (.arr (emb (ofK l[j])) T))) (.slice A2 (argsZ (.arr (emb (ofK l[j])) T)) c2)) l j (.slice (some ⟨b, off, none⟩) l.length c0) A2 c2) := by
            have h9 := pf_step hjl HL.out hb2' (A' := A2) (c' := c2) (by rw [HD.out]; exact hz2.mono (fun b h8 => h8.elim id (fun h7 => Nat.le_trans (Nat.le_trans hz3 hb1'.size) h7)))
            rw [HD.out] at h9
            exact h9
          clear hz2 hb2 hb2' b0'' b1'' b2'' f0'' f1'' f2'' hb1 hb1' b0' b1' b2' f0' f1' f2' hz1
          go_wp2
          refine ⟨⟨j, _, _, Nat.le_of_lt hjl, ?_, hst.out⟩, ?_⟩
          · rfl
          · simp only [intOf]; omega
end Go.Proofs.Ytomhojpoaicioaa
