/- The contract of a trial's learn. Conditions: those that the theorem names. -/
import Derived.Test.YtomhojpoaicioaaTrial
namespace Go.Proofs.Ytomhojpoaicioaa
open Go.RowKit

set_option maxRecDepth 100000 in
set_option maxHeartbeats 2000000 in
theorem learn_any (L : Nat → Prop) (w : World) (tb sb mb sz : Nat) (made : Int) (kn : Kn) (bv : Value) (fs : List F5) (log : List (Int × Option Tz)) (n : Int) (x : Tz) (v : Value) (hT : TrAt L w tb sb mb sz made kn bv fs log) (hv : ZAt (FL L tb sb mb bv) w x v)
    (hn1 : -9223372036854775808 ≤ n) (hn2 : n ≤ 9223372036854775807) (hsz : sz < 1000000000) (hfs : fs.length < 1000000000) : Calls Try.prog 58 #[.pointer (some ⟨tb, 0, none⟩), .int .i64 n, v] w (Learnt L w tb sb mb sz made kn bv log n x) := by
  obtain ⟨A, c, rfl⟩ := hv.form
  obtain ⟨i106, hi, hz0, hz1, hz2⟩ := info_parts' Try.info106
  generalize hF : formZ x = F at *
  generalize hG : numZ x = G at *
  generalize hM : argsZ x = M at *
  have hb1 := below_new w (.cells #[.int .i64 F, .int .i64 G, .slice A M c] 49)
  -- what was known of n
  obtain ⟨o0, o1, Ao, o2, co, kb, hlk, hkb, hzo⟩ : ∃ (o0 o1 : Int) (Ao : Option Addr) (o2 co : Nat) (kb : Bool), (∀ y, Below w.heap.size w y → (Instr.lookup 83 (.map (some mb)) (.int .i64 n) true).run Try.prog y = .ok (.tuple #[.agg #[.int .i64 o0, .int .i64 o1, .slice Ao o2 co], .bool kb]) y) ∧ kb = (kn n).isSome ∧ ∀ t, kn n = some t → ZAt (FL L tb sb mb bv) w t (.agg #[.int .i64 o0, .int .i64 o1, .slice Ao o2 co]) := by
    cases e : kn n with
    | none => exact ⟨0, 0, none, 0, 0, false, fun y hy => ((hT.sol.known.on hy).look_none e hn1 hn2).1, rfl, fun t h => by cases h⟩
    | some t =>
      obtain ⟨v', hz', hl⟩ := hT.sol.known.look_all e hn1 hn2
      obtain ⟨A', c', rfl⟩ := hz'.form
      exact ⟨_, _, _, _, _, true, fun y hy => (hl y hy).1, rfl, fun t' h => by injection h with h; subst h; exact hz'⟩
  have l1 := hlk _ hb1
  have hb2 : Below w.heap.size w ((w.alloc (.cells #[.int .i64 F, .int .i64 G, .slice A M c] 49)).alloc (.cells #[.int .i64 o0, .int .i64 o1, .slice Ao o2 co] 49)) := hb1.alloc hb1.size _
  have t0 := hT.t0
  have s1 := hT.sol.c1
  have tlt := hT.tlt
  have slt := hT.slt
  have sltw : sb < w.heap.size := by omega
  have HT := Lib.hid hT
  have HV := Lib.hid hv
  have HB2 := Lib.hid hb2
  have HKB := Lib.hid hkb
  have HZO := Lib.hid hzo
  clear hT hv hb2 hkb hzo hlk hb1 hF hG hM
  go_enter Try.func58, Try.ntmps58
  go_wp2_with fail
  have x0 : ((w.alloc (.cells #[.int .i64 F, .int .i64 G, .slice A M c] 49)).alloc (.cells #[.int .i64 o0, .int .i64 o1, .slice Ao o2 co] 49)).cell? ⟨w.heap.size, 0, none⟩ = some (.int .i64 F) := by simp [go_sem]
  have x1 : ((w.alloc (.cells #[.int .i64 F, .int .i64 G, .slice A M c] 49)).alloc (.cells #[.int .i64 o0, .int .i64 o1, .slice Ao o2 co] 49)).cell? ⟨w.heap.size, 1, none⟩ = some (.int .i64 G) := by simp [go_sem]
  have x2 : ((w.alloc (.cells #[.int .i64 F, .int .i64 G, .slice A M c] 49)).alloc (.cells #[.int .i64 o0, .int .i64 o1, .slice Ao o2 co] 49)).cell? ⟨w.heap.size, 2, none⟩ = some (.slice A M c) := by simp [go_sem]
  have p0 : ((w.alloc (.cells #[.int .i64 F, .int .i64 G, .slice A M c] 49)).alloc (.cells #[.int .i64 o0, .int .i64 o1, .slice Ao o2 co] 49)).cell? ⟨w.heap.size + 1, 0, none⟩ = some (.int .i64 o0) := by simp [go_sem]
  have p1 : ((w.alloc (.cells #[.int .i64 F, .int .i64 G, .slice A M c] 49)).alloc (.cells #[.int .i64 o0, .int .i64 o1, .slice Ao o2 co] 49)).cell? ⟨w.heap.size + 1, 1, none⟩ = some (.int .i64 o1) := by simp [go_sem]
  have p2 : ((w.alloc (.cells #[.int .i64 F, .int .i64 G, .slice A M c] 49)).alloc (.cells #[.int .i64 o0, .int .i64 o1, .slice Ao o2 co] 49)).cell? ⟨w.heap.size + 1, 2, none⟩ = some (.slice Ao o2 co) := by simp [go_sem]
  have hza : ((w.alloc (.cells #[.int .i64 F, .int .i64 G, .slice A M c] 49)).alloc (.cells #[.int .i64 o0, .int .i64 o1, .slice Ao o2 co] 49)).heap.size = w.heap.size + 2 := by simp
  generalize (w.alloc (.cells #[.int .i64 F, .int .i64 G, .slice A M c] 49)).alloc (.cells #[.int .i64 o0, .int .i64 o1, .slice Ao o2 co] 49) = wa at *
  have HTA := Lib.hid (HT.out.on HB2.out)
  have t1 := HTA.out.t1
  have ft := HTA.out.ft
  have hrow := HTA.out.row
  obtain ⟨Abv, cbv, ebv⟩ := own_form hrow
  subst ebv
  have hta : tb < wa.heap.size := by omega
  have hw0 : w.heap.size < wa.heap.size := by omega
  have hw1 : w.heap.size + 1 < wa.heap.size := by omega
  have hm63 : fs.length + 1 ≤ maxLen := by unfold maxLen; omega
  have hm56 : (fs.length + 1) * 56 ≤ 140737488355328 := by omega
  have hbs : ∀ (o : Obj), tb + 1 ≤ (wa.alloc o).heap.size := fun o => by simp; omega
  have hfive : ∀ u ∈ [Value.int .i64 n, .int .i64 o0, .int .i64 o1, .slice Ao o2 co, .bool kb], u.oneCell' = true := by intro u hu; simp at hu; rcases hu with rfl | rfl | rfl | rfl | rfl <;> rfl
  have hap : some tb ≠ (Value.slice Abv fs.length cbv).ownBlock := fun e => by have := (hrow.lt tb e.symm).1; omega
  have HZA := Lib.hid hza
  clear t0 s1 l1 hza
  go_region_law (refine step_append_lies _ rfl (.tmp 24) (.tmp 29) 91 rfl (tb + 1) 106 i106 (.agg #[.int .i64 0, .int .i64 0, .int .i64 0, .slice none 0 0, .bool false]) 5 56 Try.underlying91 hi hz0 hz1 hz2 rfl (Nat.succ_pos 4) (.slice Abv fs.length cbv) fs.length (cellsF fs) rfl (hrow.alloc _) ⟨wa.heap.size, 0, none⟩ 1 1 [.int .i64 n, .int .i64 o0, .int .i64 o1, .slice Ao o2 co, .bool kb] rfl rfl (five_new wa _ _ _ _ _ 106) hfive Nat.one_pos hm63 hm56 (hbs _) _ rfl ?_; intro g cp w2 hown2 hg2 hat hlt; have tt1 := hg2.cell (keep_alloc _ t1) hap; have tf1 := free_grown hg2 (keep_alloc _ t1) (free_alloc _ t1 ft) hap)
  all_goals
    obtain ⟨bv3, hT3, fr3, ebv⟩ : ∃ bv3, TrAt L (w2.setCell ⟨tb, 1, none⟩ (.slice (some ⟨g, 0, none⟩) (fs.length + 1) cp)) tb sb mb sz made kn bv3 (fs ++ [⟨n, .int .i64 o0, .int .i64 o1, .slice Ao o2 co, kb⟩]) (log ++ [(n, kn n)]) ∧ Fr tb sb mb (.slice Abv fs.length cbv) bv3 wa (w2.setCell ⟨tb, 1, none⟩ (.slice (some ⟨g, 0, none⟩) (fs.length + 1) cp)) ∧ bv3 = .slice (some ⟨g, 0, none⟩) (fs.length + 1) cp := by
      have hwn : Below wa.heap.size wa (wa.alloc (.cells #[.int .i64 n, .int .i64 o0, .int .i64 o1, .slice Ao o2 co, .bool kb] 106)).drew := (below_new wa _).drew
      obtain ⟨q1, q2⟩ := HTA.out.push hwn ⟨n, .int .i64 o0, .int .i64 o1, .slice Ao o2 co, kb⟩ (kn n) HKB.out ⟨hn1, hn2⟩ (fun t e => (HZO.out t e).on HB2.out) ⟨_, _, _, _, _, rfl, rfl, rfl⟩ hown2 hg2 (by
        rcases hat with h | h
        · exact .inl h.symm
        · exact .inr ⟨g, rfl, by rw [h]; exact Nat.le_refl _⟩)
      exact ⟨_, q1, q2, rfl⟩
    clear hown2 hg2 hat hlt tt1 tf1 hrow
    generalize w2.setCell ⟨tb, 1, none⟩ (.slice (some ⟨g, 0, none⟩) (fs.length + 1) cp) = w3 at *
    have hFB : FB tb sb mb (.slice Abv fs.length cbv) w.heap.size := ⟨by omega, by omega, by have := HT.out.mlt; omega, fun e => by have := (HT.out.row.lt _ e).2; omega⟩
    have hbk := fr3.block w.heap.size hw0 hFB
    have y0 := (World.cell?_of_block (a := ⟨w.heap.size, 0, none⟩) hbk).trans x0
    have y1 := (World.cell?_of_block (a := ⟨w.heap.size, 1, none⟩) hbk).trans x1
    have y2 := (World.cell?_of_block (a := ⟨w.heap.size, 2, none⟩) hbk).trans x2
    have t0 := hT3.t0
    have s1 := hT3.sol.c1
    have hz3 : ZAt (FL L tb sb mb bv3) w3.drew x (.agg #[.int .i64 F, .int .i64 G, .slice A M c]) := (fr3.zat (HV.out.on HB2.out)).on (Below.refl _ w3).drew
    obtain ⟨f3, hM3, hf3⟩ := (hT3.sol.known.on (Below.refl _ w3).drew)
    have hfn : (f3 n).isSome = (kn n).isSome := by
      have h9 := hf3 n
      cases e : kn n with
      | none => rw [e] at h9; have h9' : f3 n = none := h9; rw [h9']; rfl
      | some t => rw [e] at h9; obtain ⟨u, e1, _⟩ := h9; rw [e1]; rfl
    obtain ⟨W, hrun, hMW, hgW⟩ := hM3.store Try.underlying3 Try.underlying83 (by unfold maxLen; omega) (.agg #[.int .i64 F, .int .i64 G, .slice A M c]) hn1 hn2
    rw [hfn] at hMW
    obtain ⟨hT4, fr4⟩ := (hT3.on (Below.refl _ w3).drew).store (x := some x) hf3 hMW hgW ⟨_, rfl, hz3⟩
    have HT4 := Lib.hid hT4
    have HFR := Lib.hid ((((Fr.of_below HB2.out).trans fr3).trans (Fr.of_below (Below.refl _ w3).drew)).trans fr4)
    have z3 : w.heap.size < w3.heap.size := Nat.lt_of_lt_of_le hw0 fr3.size
    have z3t := hT3.tlt
    have z3s := hT3.sol.lt
    clear hT3 fr3 hbk hz3 hM3 hf3 hfn hMW hgW hT4 fr4 hFB
    go_wp2_with fail
    go_region
    all_goals go_wp2
    all_goals
      go_end0
      exact ⟨rfl, _, _, HT4.out, HFR.out⟩
end Go.Proofs.Ytomhojpoaicioaa
