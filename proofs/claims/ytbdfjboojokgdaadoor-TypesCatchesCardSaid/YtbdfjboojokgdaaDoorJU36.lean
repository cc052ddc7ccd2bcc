/- The contract of types.Subst (chapter 4, P4.3). Conditions: the library's table of powers of ten reads as the program's text lays it; names are each another one, of at most 2^40 bytes; at most 2^20 nodes. -/
import Derived.Test.YtbdfjboojokgdaaDoorJU35
namespace Go.Proofs.YtbdfjboojokgdaaDoor
open Go.RowKit

def foldP (l : List (ByteArray × Ty)) : ByteArray → Option Ty := l.foldl (fun P p => updP P p.1 (some p.2)) (fun _ => none)
theorem foldP_snoc (l : List (ByteArray × Ty)) (p : ByteArray × Ty) : foldP (l ++ [p]) = updP (foldP l) p.1 (some p.2) := by unfold foldP; rw [List.foldl_append]; rfl
theorem foldP_is : ∀ (l : List (ByteArray × Ty)), (l.map (·.1)).Nodup → ∀ x, foldP l x = lookS l x := by
  intro l
  have key : ∀ (n : Nat) (l : List (ByteArray × Ty)), l.length = n → (l.map (·.1)).Nodup → ∀ x, foldP l x = lookS l x := by
    intro n
    induction n with
    | zero => intro l hl _ x; rw [List.eq_nil_of_length_eq_zero hl]; rfl
    | succ n ih =>
      intro l hl hn x
      have hne : l ≠ [] := fun h => by rw [h] at hl; cases hl
      have e := List.dropLast_concat_getLast hne
      rw [← e]
      rw [← e, List.map_append, List.nodup_append] at hn
      rw [foldP_snoc, lookS_append, ← ih l.dropLast (by simp [hl]) hn.1]
      unfold updP
      by_cases hx : x = (l.getLast hne).1
      · subst hx
        rw [if_pos rfl]
        have : foldP l.dropLast (l.getLast hne).1 = none := by
          rw [ih l.dropLast (by simp [hl]) hn.1, lookS_none]
          intro hm
          exact hn.2.2 _ hm _ (by simp) rfl
        rw [this]; simp [lookS]
      · rw [if_neg hx]
        cases foldP l.dropLast x with
        | some u => rfl
        | none => simp [lookS, Ne.symm hx]
  exact key l.length l rfl
/-- An append where its run is known. -/
theorem wpList_append_runT {ops : Array Oper} {rest : List Oper} {o : Oper} {a : Act} {Q : Exit → Act → World → Prop} {w : World} (t : TypeId) (hgd : o.guard = none) (s x : Operand) (ho : o.op = .call { callee := .builtin .append, args := #[s, x], argTypes := #[t, t] }) (v u : Value) (hs : a.eval s = v) (hx : a.eval x = u) (v' : Value) (w' : World) (hr : (Builtin.append_ #[t, t] o.type #[v, u]).run Tryd.prog w = .ok v' w') (h : wpList Tryd.prog ops Q rest (a.put o.dst v') w') : wpList Tryd.prog ops Q (o :: rest) a w := by
  refine wpList_plain hgd fun _ hK => ?_
  unfold Oper.wp execOp
  simp only [ho, resolve, invoke, builtin, Sem.run_bind, Sem.run_pure, Result.andThen_ok, List.map_toArray, List.map_cons, List.map_nil, hs, hx, hr]
  exact hK _ _ h
/-- A put more behind a row, at whatever state. -/
theorem into_grow {B sb lb pb ub : Nat} {vs : List (ByteArray × Int)} {es : List Int} {P : ByteArray → Option Ty} {N : Nat} {bh op dp : Int} {w w' : World} (h : SbSt B sb lb pb ub vs es P N bh op dp w) {v v' : Value} {l : List PutI} (hi : IntoAt B ub w v l) {p : PutI} (hp : PutAt B ub w p.1 p.2.1 p.2.2) (ho : w'.ownsRow B 113 1 v' (l ++ [p]).length (ptrs (l ++ [p]))) (hg : w.grownBy w' v.ownBlock) : SbSt B sb lb pb ub vs es P N bh op dp w' ∧ IntoAt B ub w' v' (l ++ [p]) := by
  have hk := (h.parts hi.1 (FrSb.row hg)).2.2.2
  refine ⟨h.row hi.1 hg, ho, fun x hx => ?_⟩
  rw [List.mem_append, List.mem_singleton] at hx
  rcases hx with hx | rfl
  · exact hk _ _ _ (hi.2 x hx)
  · exact hk _ _ _ hp
set_option maxRecDepth 100000 in
set_option maxHeartbeats 2000000 in
theorem subst_any (Q : Nat → Prop) (t : Ty) (σ : List (ByteArray × Ty)) (v nv bv : Value) (w : World) (h : TyAt (fun b => b < w.heap.size) w t v) (hn : StrsAt Q w nv (σ.map (·.1))) (hb : TysAt (fun b => b < w.heap.size) w (σ.map (·.2)) bv) (hsh : t.short) (hσ : ∀ p ∈ σ, p.1.size ≤ 1099511627776 ∧ p.2.short ∧ p.2.sz ≤ 1048576) (hnd : (σ.map (·.1)).Nodup) (hz : σ.length + t.sz ≤ 1048576) (htk : (takenB σ).length + t.sz ≤ 1048576) (htab : TabW w) :
    Calls Tryd.prog 29 #[v, nv, bv] w fun e w' => ∃ u, e = .returned u ∧ TyAt (fun b => w.heap.size ≤ b) w' (t.sub σ) u ∧ Below w.heap.size w w' := by
  obtain ⟨f1, n1, s1, A1, l1, c1, rfl⟩ := h.flat
  obtain ⟨An, cn, rfl, _, _⟩ := hn.shape
  obtain ⟨Ab, cb, rfl, _, _⟩ := hb.form
  obtain ⟨W, eW, t0, r0, bW, zW⟩ := boxes2 w (.int .i64 f1) (.int .i64 n1) (.string s1) (.slice A1 l1 c1)
  have HNS := Lib.hid (newSubst_any _ t _ W (h.on bW) hsh (by omega))
  have HT := Lib.hid ((h.on bW).mono (fun b (hb : b < _) => (by omega : b < W.heap.size)))
  have HN := Lib.hid (hn.on bW)
  have HBY := Lib.hid ((hb.on bW).mono (fun b (hb : b < _) => (by omega : b < W.heap.size)))
  have HT0 := Lib.hid t0
  have HR0 := Lib.hid r0
  have HBW := Lib.hid bW
  have HZW := Lib.hid zW
  have HTAB : Hid (∀ y, Below W.heap.size W y → TabB W.heap.size y) := fun y hy x hx => htab.on (bW.trans ((hy.trans hx).mono bW.size))
  simp only [List.length_map] at hn hb ⊢
  obtain ⟨a0, a1, a2, a3, _⟩ := fourC t0
  clear h hn hb t0 r0 bW htab zW
  go_enter Tryd.func29, Tryd.ntmps29
  go_wp2_with fail
  (with_reducible refine HNS.out.mono ?_)
  rintro e Y ⟨sb, lb, pb, ub, rfl, hst, hbY⟩
  have HST := Lib.hid hst
  have HYB := Lib.hid hbY
  clear hst hbY eW a0 a1 a2 a3
  go_wp2_with fail
  go_loopw [18, 8] (fun i va wr => ∃ (k : Nat) (ls : List PutI), k ≤ σ.length ∧ i = .int .i64 k ∧ ls.map (·.2) = σ.take k ∧ IntoAt W.heap.size ub wr va ls ∧ SbSt W.heap.size sb lb pb ub (layV zeroG 0 t) (layE 0 t) (foldP (σ.take k)) k 0 0 0 wr ∧ Below W.heap.size W wr) (fun i _ _ => σ.length - (intOf i).toNat)
  case atStart => exact ⟨0, [], Nat.zero_le _, rfl, rfl, ⟨World.ownsRow_nil _ _ _ _, fun p hp => by cases hp⟩, HST.out, HYB.out⟩
  case round =>
    obtain ⟨k, ls, hk, rfl, hls, hin, hst, hb⟩ := hrel
    obtain ⟨Aa, ca, rfl⟩ := own_form hin.1
    have HIN := Lib.hid hin
    have HST := Lib.hid hst
    have HB := Lib.hid hb
    have HLS := Lib.hid hls
    have hlsl : ls.length ≤ 1048576 := by have := congrArg List.length hls; rw [List.length_map, List.length_take] at this; omega
    have hbB := hst.hB.2.2.2.2
    have hubw : ub < wr.heap.size := by obtain ⟨sz, f, m1, _⟩ := hst.puts; exact m1.lt
    by_cases hlt : k < σ.length
    · have hki : (k : Int) < (σ.length : Int) := by omega
      have hk0 : (0 : Int) ≤ (k : Int) := by omega
      obtain ⟨hs1, hs2, hs3⟩ := hσ σ[k] (List.getElem_mem hlt)
      obtain ⟨gn, on, rfl, hgn, k0⟩ := (HN.out.on hb).at k (by rw [List.length_map]; exact hlt)
      obtain ⟨gb, ob, A', c', rfl, _, hgb, k1, k2, k3, k4, hty⟩ := (HBY.out.on hb).at k (by rw [List.length_map]; exact hlt)
      simp only [List.getElem_map] at k0 k1 k2 k3 k4 hty
      have hd : Below wr.heap.size wr wr.drew := (Below.refl _ _).drew
      have HC := Lib.hid (newPut_any W.heap.size ub σ[k].1 σ[k].2 _ wr.drew (hty.on hd) hbB hubw hs1 hs2 (by omega))
      have HTK : Hid (σ.take (k + 1) = σ.take k ++ [σ[k]]) := List.take_succ_eq_append_getElem hlt
      clear hin hst hb hls hty
      generalize hfm : σ[k].2.form = fm at *
      generalize σ[k].2.num = nm at *
      generalize σ[k].2.name = na at *
      generalize σ[k].2.args.length = la at *
      clear hfm
      go_upto_region 6 with (fail)
      go_cut [10] (fun q wx => ∃ b', q = ptrV b' ∧ PutAt W.heap.size ub wx b' σ[k].1 σ[k].2 ∧ Below wr.heap.size wr wx)
      case first =>
        go_region_law (go_simp; go_at_call 71; (with_reducible refine HC.out.mono ?_); rintro e q ⟨b', rfl, _, hput, hbq⟩)
        all_goals (go_wp2_with fail; go_meet; exact ⟨b', rfl, hput, hd.trans (hbq.mono hd.size)⟩)
      case rest =>
        obtain ⟨b', rfl, hput, hbq⟩ := hcut
        obtain ⟨X1, rfl⟩ : ∃ x, x = wc := ⟨_, rfl⟩
        clear HC k0 k1 k2 k3 k4 hd
        have hst1 := HST.out.on hbq
        have hin1 := HIN.out.on HST.out hbq
        have hd1 := (Below.refl X1.heap.size X1).drew
        have hst1d := hst1.on hd1
        have hin1d := hin1.on hst1 hd1
        have hput1 := (hst1.parts (World.ownsRow_nil X1 W.heap.size 113 1) (FrSb.of_below (g := none) hd1)).2.2.2 _ _ _ hput
        obtain ⟨X2, r2, hst2, hg2⟩ := hst1d.store (by omega) hs1 (ptrV b') (some σ[k].2) (.inr ⟨b', σ[k].2, rfl, rfl, hput1⟩)
        have hin2 := hin1d.store hst1d hg2
        have hput2 := hst1d.keepPut hg2 hput1
        have bN := below_new X2 (.cells #[ptrV b'] 113)
        have hst3 := hst2.on bN
        have hin3 := hin2.on hst2 bN
        have hput3 := (hst2.parts (World.ownsRow_nil X2 W.heap.size 113 1) (FrSb.of_below (g := none) bN)).2.2.2 _ _ _ hput2
        obtain ⟨va', X4, hap, ho3, _, hg4, _⟩ := run_append_put (B := W.heap.size) (w := X2.alloc (.cells #[ptrV b'] 113)) (l := ls) (b', σ[k].1, σ[k].2) hin3.1 ⟨X2.heap.size, 0, none⟩ (cell1 (MapKept.heap_alloc X2 (.cells #[ptrV b'] 113)).1).1 hlsl hst3.hB.2.2.2.2 112
        obtain ⟨hst4, hin4⟩ := into_grow hst3 hin3 hput3 ho3 hg4
        have hb1 := HB.out.trans (hbq.mono HB.out.size)
        have hb2 := (hb1.trans (hd1.mono hb1.size)).grown hg2 hb1.size (fun j e => by injection e with e; have := hst1.hB.2.2.2.1; omega)
        have hb3 := hb2.trans (bN.mono hb2.size)
        have hb4 := hb3.grown hg4 hb3.size (fun j e => (World.ownsRow.lt hin3.1 j e).1)
        have hc1 := hst1.cell
        have p1 : X1.cell? ⟨sb, 2, none⟩ = some (.map (some ub)) := by simp [World.cell?, hc1]
        have p2 : X1.cell? ⟨b', 0, none⟩ = some (.string σ[k].1) := by
          obtain ⟨_, f, n, m, A, l, c, mb, h1, _⟩ := hput
          simp [World.cell?, h1]
        have HFIN : Hid ((ls ++ [((b', σ[k].1, σ[k].2) : PutI)]).map (·.2) = σ.take (k + 1) ∧ IntoAt W.heap.size ub X4 va' (ls ++ [(b', σ[k].1, σ[k].2)]) ∧ SbSt W.heap.size sb lb pb ub (layV zeroG 0 t) (layE 0 t) (foldP (σ.take (k + 1))) (k + 1) 0 0 0 X4 ∧ Below W.heap.size W X4) := by
          refine ⟨?_, hin4, ?_, hb4⟩
          · rw [List.map_append, HLS.out, HTK.out]; rfl
          · rw [HTK.out, foldP_snoc]; exact hst4
        unfold ptrV at r2 hap
        clear hst1 hst1d hin1 hin1d hput hput1 hst2 hin2 hput2 bN hst3 hin3 hput3 ho3 hg4 hst4 hin4 hb1 hb2 hb3 hb4 hc1 hd1 hbq hg2
        unfold ptrV
        go_upto_region 7 with (fail)
        go_region
        go_wp2_with (at_builtin; refine wpList_append_runT 112 rfl (.tmp 39) (.tmp 41) rfl _ _ rfl rfl va' X4 hap ?_)
        go_roundw
        case rel => exact ⟨k + 1, _, by omega, by go_num, HFIN.out⟩
        case measure => simp [intOf]; omega
    · obtain rfl : k = σ.length := by omega
      have hki : ¬ ((σ.length : Nat) : Int) < (σ.length : Int) := by omega
      rw [List.take_length] at hls hst
      have hlsl2 : ls.length = σ.length := by rw [← hls, List.length_map]
      have hvl : (layV zeroG 0 t).length ≤ 1048576 := by rw [layV_len]; have := vars_le t; omega
      have hel : (layE 0 t).length ≤ 1048576 := by have := layE_le 0 t; omega
      have hIA := in_any W.heap.size sb lb pb ub (layV zeroG 0 t) (layE 0 t) hvl hel t.sz t (Nat.le_refl _) (foldP σ) σ.length 0 0 0 zeroG _ ls _ wr hst hin (HT.out.on hb) ⟨⟨[], [], by simp, rfl⟩, ⟨[], [], by simp, rfl⟩, fun _ => Int.le_refl _⟩ hsh (Int.le_refl _) (by omega) (by omega) (by omega) (by rw [hls]; exact htk) (HTAB.out wr hb)
      have hsub : t.subC (foldP σ) (ls.map (·.2)) = t.sub σ := by rw [hls]; exact subC_eq t _ _ (fun x _ => foldP_is σ hnd x)
      rw [hsub] at hIA
      have HIA := Lib.hid hIA
      have hzW := HZW.out
      obtain ⟨a0, a1, a2, a3, _⟩ := fourC ((hb.block w.heap.size (by omega)).trans HT0.out)
      have hrb := (hb.block (w.heap.size + 1) (by omega)).trans HR0.out
      have HRB := Lib.hid hrb
      have hsbB := hst.hB.1
      have hubB := hst.hB.2.2.2.1
      have hownB : ∀ j, (Value.slice Aa ls.length ca).ownBlock = some j → W.heap.size ≤ j := fun j e => (World.ownsRow.lt hin.1 j e).1
      clear hIA hsub hin hst hb hls hrb hlsl2
      go_wp2_with fail
      (with_reducible refine HIA.out.mono ?_)
      rintro e y ⟨rv, rfl, hrv, _, _, hf⟩
      obtain ⟨f2, n2, s2, A2, l2, c2, rfl⟩ := hrv.flat
      have hry := hf.box HRB.out (by omega) (by omega) (fun e => by have := hownB _ e; omega)
      obtain ⟨r0, r1, r2, r3, g0, g1, g2, g3⟩ := fourC hry
      have hby := HBW.out.trans ((HB.out.trans (hf.below hsbB hubB hownB hbB)).mono HBW.out.size)
      have hk : Keeps (fun b => w.heap.size + 1 < b) y (put4 y (w.heap.size + 1) (.int .i64 f2) (.int .i64 n2) (.string s2) (.slice A2 l2 c2)) := (((Keeps.setCell (fun e => by omega) _).trans (.setCell (fun e => by omega) _)).trans (.setCell (fun e => by omega) _)).trans (.setCell (fun e => by omega) _)
      have K1 := Lib.hid (((hrv.mono (fun b (hb : _ ≤ b) => (by omega : w.heap.size + 1 < b))).keep hk).mono (fun b (hb : w.heap.size + 1 < b) => (by omega : w.heap.size ≤ b)))
      have K2 : Hid (Below w.heap.size w (put4 y (w.heap.size + 1) (.int .i64 f2) (.int .i64 n2) (.string s2) (.slice A2 l2 c2))) := (((hby.setCell (Nat.le_succ _) _).setCell (Nat.le_succ _) _).setCell (Nat.le_succ _) _).setCell (Nat.le_succ _) _
      clear hrv hf hry hby hk a0 a1 a2 a3
      go_wp2
      exact bodyPost_ret (v := .agg #[.int .i64 f2, .int .i64 n2, .string s2, .slice A2 l2 c2]) (by simp [results, Tryd.results29, go_sem, r0, r1, r2, r3]) rfl ⟨_, rfl, K1.out, K2.out⟩
end Go.Proofs.YtbdfjboojokgdaaDoor
