/- scc.Reaches: the walk. Conditions: those that the theorem names. -/
import Derived.Test.YthmnghngcbkjpaaRcA
import Derived.Deep.Cut
namespace Go.Proofs.Ythmnghngcbkjpaa
open Go.RowKit
def ReaR (n : Nat) (uv : Value) (L : Nat → List Int) (src mb : Nat) (w : World) (k : Nat) (v : Value) (wr : World) : Prop :=
  ∃ S left, Rch n L src S left ∧ (left.length + (n - cnt n (pN S)) ≤ k ∧ k ≤ n + 1) ∧ LeftAt w n uv mb S left v wr
def ReaI (n : Nat) (uv : Value) (L : Nat → List Int) (src mb : Nat) (w : World) (K a k : Nat) (v : Value) (wr : World) : Prop :=
  ∃ S left, RchIn n L src S left a k ∧ left.length + (n - cnt n (pN S)) < K ∧ LeftAt w n uv mb S left v wr
theorem seen_none : seenF (fun _ => false) = fun _ => none := by funext x; rfl
theorem rea_start {n src mb : Nat} {uv : Value} {L : Nat → List Int} {w w4 : World} (hs : src < n) (hx : w4.heap[w.heap.size]? = some (.cells #[.int .i64 n, uv] 34)) (hb : Below w.heap.size w w4) (hm : MapI Try.prog 3 w4 mb 1 (seenF (mark (fun _ => false) (src : Int)))) (hmb : w.heap.size ≤ mb) :
    ReaR n uv L src mb w (n + 1) (.slice (some ⟨w4.heap.size, 0, none⟩) 1 1) (w4.alloc (.cells #[.int .i64 src] 3)) := by
  have hc : 1 ≤ cnt n (pN (mark (fun _ => false) (src : Int))) := by
    rw [pN_mark, cnt_upd hs rfl]; omega
  have hba := below_new w4 (.cells #[.int .i64 src] 3)
  refine ⟨_, _, Rch.begin hs, ⟨by simp; omega, Nat.le_refl _⟩, ⟨?_, ⟨1, hm.on hba, hc⟩, (hba.block _ (lt_of_block hx)).trans hx, hmb, hb.trans (hba.mono hb.size)⟩⟩
  exact ⟨by simp, .inr ⟨w4.heap.size, 1, #[.int .i64 src], rfl, hb.size, by rw [alloc_get2]; simp, Nat.le_refl _, by unfold maxLen; omega, by simp, by simp [natV]⟩⟩
set_option maxRecDepth 100000 in
set_option maxHeartbeats 4000000 in
theorem reaches_in (n : Nat) (uv : Value) (M : List (List Int)) (src dst : Nat) (w : World) (h : MatAt (fun b => b < w.heap.size) w uv M) (hn : n ≤ 1000) (hM : ∀ i, (useL M i).length ≤ 1000) (hs : src < n) (hd : dst < n) (ld : Nat → Nat → Bool) (hld : LdIs n (useL M) ld) :
    Calls Try.prog 15 #[.int .i64 n, uv, .int .i64 src, .int .i64 dst] w (BoolB (ld src dst) w) := by
  obtain ⟨Au, cu, rfl, _, hmax⟩ := h.form
  obtain ⟨i3, hi3, hz3, hs3, hb3⟩ := info_parts Try.info3
  generalize hml : M.length = ml at *
  have hb1 := below_new w (.cells #[.int .i64 n, .slice Au ml cu] 34)
  have hbox : (w.alloc (.cells #[.int .i64 n, .slice Au ml cu] 34)).heap[w.heap.size]? = some (.cells #[.int .i64 n, .slice Au ml cu] 34) := by rw [alloc_get2]; simp
  have hmm : ∀ y : World, (Instr.makeMap 43 none).run Try.prog y = .ok (.map (some y.heap.size)) (y.alloc (.map #[] 0)) := fun y => run_makeMap 43 y
  have H := Lib.hid h
  have HM := Lib.hid hM
  have HLD := Lib.hid hld
  have HML := Lib.hid hml
  have HB1 := Lib.hid hb1
  have HBX := Lib.hid hbox
  have HS := Lib.hid hs
  have HD := Lib.hid hd
  have hTs := hasB_true (n := n) (z := (src : Int)) (by omega) (by omega)
  have hTd := hasB_true (n := n) (z := (dst : Int)) (by omega) (by omega)
  have HTS := Lib.hid hTs
  have HTD := Lib.hid hTd
  clear h hM hld hml hb1 hbox hTs hTd hs hd hmax
  go_enter Try.func15, Try.ntmps15
  go_wp2_with fail
  refine (has_any n src _ _ _ _).mono ?_
  rintro e w2 ⟨rfl, hb2⟩
  rw [HTS.out]
  have HB2 := Lib.hid (HB1.out.trans (hb2.mono HB1.out.size))
  have hx2 := (hb2.block w.heap.size (by simp)).trans HBX.out
  have HBX2 := Lib.hid hx2
  have y0 : w2.cell? ⟨w.heap.size, 0, none⟩ = some (.int .i64 n) := by simp [World.cell?, hx2]
  have y1 : w2.cell? ⟨w.heap.size, 1, none⟩ = some (.slice Au ml cu) := by simp [World.cell?, hx2]
  clear hb2 hx2
  go_wp2_with fail
  refine (has_any n dst _ _ _ _).mono ?_
  rintro e w3 ⟨rfl, hb3⟩
  rw [HTD.out]
  have HB3 := Lib.hid (HB2.out.trans (hb3.mono HB2.out.size))
  have hx3 := (hb3.block w.heap.size (lt_of_block HBX2.out)).trans HBX2.out
  have HBX3 := Lib.hid hx3
  have hm0 := MapI.made Try.prog 3 w3
  have HM0 := Lib.hid hm0
  have hsz0 : (0 : Nat) < maxLen := by unfold maxLen; omega
  have hs1 : -9223372036854775808 ≤ (src : Int) := by omega
  have hs2 : (src : Int) ≤ 9223372036854775807 := by have := HS.out; omega
  clear hb3 hx3 y0 y1 hm0
  go_wp2_with (first | (refine wpList_insertI rfl _ _ _ rfl Try.underlying3 Try.underlying43 rfl HM0.out hsz0 (src : Int) rfl (.bool true) rfl hs1 hs2 ?_; intro w4 hM4 hg4) | fail)
  have HR0 : Hid (ReaR n (.slice Au ml cu) (useL M) src w3.heap.size w (n + 1) (.slice (some ⟨w4.heap.size, 0, none⟩) 1 1) (w4.alloc (.cells #[.int .i64 src] 3))) := by
    refine Lib.hid (rea_start HS.out ?_ ?_ ?_ HB3.out.size)
    · refine (hg4.block _ (by have := lt_of_block HBX3.out; simp; omega) (fun e => ?_)).trans ((below_new w3 _).block _ (lt_of_block HBX3.out) |>.trans HBX3.out)
      injection e with e
      have := lt_of_block HBX3.out
      omega
    · exact (HB3.out.trans ((below_new w3 _).mono HB3.out.size)).grown hg4 (by have := HB3.out.size; simp; omega) (fun q hq => by injection hq with hq; have := HB3.out.size; omega)
    · rw [← seen_none, seen_set] at hM4
      exact hM4
  clear hM4 hg4
  clear hmm
  go_loopg [11] (n + 1) (fun k v wr => ReaR n (.slice Au ml cu) (useL M) src w3.heap.size w k v wr)
  case atStart => exact HR0.out
  case round =>
    obtain ⟨S, left, hr, hk, hl⟩ := hrel
    obtain ⟨sz, hmap, _⟩ := hl.map
    have hd1 : -9223372036854775808 ≤ (dst : Int) := by omega
    have hd2 : (dst : Int) ≤ 9223372036854775807 := by have := HD.out; omega
    have hlk := seen_look hmap hd1 hd2
    have hbw := hl.below
    rcases List.eq_nil_or_concat left with e | ⟨r, a, e⟩
    · subst e
      obtain ⟨A, c, rfl, _, _⟩ := own_form hl.own
      have hres : S (dst : Int) = ld src dst := by
        rw [Bool.eq_iff_iff, hr.ends HD.out, HLD.out src dst HS.out HD.out]
      have HRES := Lib.hid hres
      have HB := Lib.hid hbw
      clear hr hk hl hmap hbw hres
      simp only [List.length_nil]
      go_wp2
      go_ret
      exact ⟨ret_bool HRES.out, HB.out⟩
    · rw [List.concat_eq_append] at e
      subst e
      obtain ⟨g, c, ev, hB, hg, hc1, hc2⟩ := own_some hl.own (by simp)
      subst ev
      have hcell : wr.cell? ⟨g, r.length, none⟩ = some (.int .i64 (a : Int)) := by
        rw [hl.own.cellAt r.length (by simp)]; simp [natV]
      simp only [List.length_append, List.length_singleton] at hc1 hk hl ⊢
      cases hSd : S (dst : Int) with
      | true =>
        rw [hSd] at hlk
        have hres : ld src dst = true := (HLD.out src dst HS.out HD.out).2 (hr.found hSd)
        have HRES := Lib.hid hres
        have HB := Lib.hid hbw
        have hri : (0 : Int) < (r.length : Int) + 1 := by omega
        clear hr hk hl hmap hbw hres hcell hSd
        go_wp2
        go_ret
        exact ⟨ret_bool HRES.out.symm, HB.out⟩
      | false =>
        rw [hSd] at hlk
        have hri : (0 : Int) < (r.length : Int) + 1 := by omega
        have hmx : (r.length : Int) + 1 ≤ 9223372036854775807 := by unfold maxLen at hc2; omega
        have HI0 : Hid (ReaI n (.slice Au ml cu) (useL M) src w3.heap.size w gk a 0 (.slice (some ⟨g, 0, none⟩) r.length c) wr) := Lib.hid ⟨S, r, hr.pop, by omega, hl.pop⟩
        have hx := hl.box
        have y0 : wr.cell? ⟨w.heap.size, 0, none⟩ = some (.int .i64 n) := by simp [World.cell?, hx]
        have y1 : wr.cell? ⟨w.heap.size, 1, none⟩ = some (.slice Au ml cu) := by simp [World.cell?, hx]
        have HL := Lib.hid (list_any _ n a _ M wr (H.out.on (w' := wr) hbw))
        have HBW := Lib.hid hbw
        have HGK := Lib.hid hk.2
        clear hr hk hl hmap hbw hSd hx
        go_wp2_with fail
        refine HL.out.mono ?_
        rintro e w5 ⟨⟨lv, rfl, hlv⟩, hb5⟩
        have HI5 : Hid (ReaI n (.slice Au ml cu) (useL M) src w3.heap.size w gk a 0 (.slice (some ⟨g, 0, none⟩) r.length c) w5) := by
          obtain ⟨S9, l9, q1, q2, q3⟩ := HI0.out
          exact Lib.hid ⟨S9, l9, q1, q2, q3.on hb5⟩
        obtain ⟨Al, cl, rfl, hlm⟩ := hlv.form
        have hll := HM.out a
        have hlw := hlv.move2 (w' := w) (Nat.le_refl _) (fun b hb => ((hb5.block b (by have := HBW.out.size; omega)).trans (HBW.out.block b hb)).symm)
        obtain ⟨_, _, _, hx3⟩ := hlw.at
        have HX3 := Lib.hid hx3
        have HZB : Hid (∀ z ∈ useL M a, -9223372036854775808 ≤ z ∧ z ≤ 9223372036854775807) := by obtain ⟨_, _, _, _, _, f3, _⟩ := hlw; exact Lib.hid f3
        clear hlw hx3
        have HB5 := Lib.hid hb5
        clear hlv hb5 y0 y1 hcell hlk hlm
        go_wp2_with fail
        go_loopw [11, 57] (fun v iv wr => ∃ k : Nat, iv = .int .i64 k ∧ k ≤ (useL M a).length ∧ ReaI n (.slice Au ml cu) (useL M) src w3.heap.size w gk a k v wr) (fun _ v _ => (useL M a).length - (intOf v).toNat)
        case atStart => exact ⟨0, rfl, Nat.zero_le _, HI5.out⟩
        case round =>
          obtain ⟨k, rfl, hk, S6, l6, hri6, hm6, hl6⟩ := hrel
          by_cases hkl : k < (useL M a).length
          · have hki : (k : Int) < ((useL M a).length : Int) := by omega
            obtain ⟨bx, ox, rfl, _, hbx, hcx⟩ := HX3.out (by omega)
            have hbel := hl6.below
            have e2 := (hbel.cell (p := ⟨bx, ox + k, none⟩) hbx).trans (hcx k hkl)
            have hzz := HZB.out _ (List.getElem_mem hkl)
            have hz1 := hzz.1
            have hz2 := hzz.2
            have hx := hl6.box
            have y0 : wr.cell? ⟨w.heap.size, 0, none⟩ = some (.int .i64 n) := by simp [World.cell?, hx]
            have y1 : wr.cell? ⟨w.heap.size, 1, none⟩ = some (.slice Au ml cu) := by simp [World.cell?, hx]
            obtain ⟨A6, c6, rfl, hc61, hc62⟩ := own_form hl6.own
            generalize hzg : (useL M a)[k] = z at *
            have HL6 := Lib.hid hl6
            have HRI := Lib.hid hri6
            have HM6 := Lib.hid hm6
            have HZG := Lib.hid hzg
            by_cases hz : 0 ≤ z ∧ z < n
            · have HHB := Lib.hid (hasB_true hz.1 hz.2)
              obtain ⟨hzA, hzB⟩ := hz
              obtain ⟨zn, rfl⟩ := Int.eq_ofNat_of_zero_le hzA
              have hzn : zn < n := by omega
              cases hSz : S6 (zn : Int) with
              | true =>
                have HSZ := Lib.hid hSz
                clear hl6 hri6 hm6 hzg hx hbel hcx hzz hSz
                go_wp2_with fail
                refine (has_any n zn _ _ _ _).mono ?_
                rintro e w7 ⟨rfl, hb7⟩
                rw [HHB.out]
                have hl7 := HL6.out.on hb7
                obtain ⟨sz7, hm7, _⟩ := hl7.map
                have hlk7 := seen_look hm7 hz1 hz2
                rw [HSZ.out] at hlk7
                have HREL : Hid (ReaI n (.slice Au ml cu) (useL M) src w3.heap.size w gk a (k + 1) (.slice A6 l6.length c6) w7) := Lib.hid ⟨S6, l6, HRI.out.pass hkl HZG.out (.inr HSZ.out), HM6.out, hl7⟩
                clear hl7 hm7 hb7 y0 y1 e2
                go_wp2
                go_roundw
                case rel => exact ⟨k + 1, by go_num, by omega, HREL.out⟩
                case measure => simp [intOf]; omega
              | false =>
                have HSZ := Lib.hid hSz
                clear hl6 hri6 hm6 hzg hx hbel hcx hzz hSz
                go_wp2_with fail
                refine (has_any n zn _ _ _ _).mono ?_
                rintro e w7 ⟨rfl, hb7⟩
                rw [HHB.out]
                have hl7 := HL6.out.on hb7
                obtain ⟨sz7, hm7, hsz7, hst⟩ := hl7.marked hzn HSZ.out hn
                have hlk7 := seen_look hm7 hz1 hz2
                rw [HSZ.out] at hlk7
                obtain ⟨w8, hrun8, hM8, hg8⟩ := hm7.store Try.underlying3 Try.underlying43 hsz7 (.bool true) hz1 hz2
                have hl8 := hst w8 hM8 hg8
                have HRI2 := Lib.hid (HRI.out.mark hkl HZG.out hzn)
                clear hl7 hm7 hb7 y0 y1 e2 hst hM8 hg8
                have hl61 : l6.length + 1 ≤ 2000 := by have h9 := HM6.out; have h8 := HGK.out; omega
                have HOWN := Lib.hid hl8.own
                have HMX := Lib.hid (show l6.length + 1 ≤ maxLen by unfold maxLen; omega)
                have HBY := Lib.hid (show (l6.length + 1) * 8 ≤ 140737488355328 by omega)
                have HBS := Lib.hid hl8.below.size
                have HTU : Hid (∀ W : World, W.heap = (w8.alloc (.cells #[.int .i64 (zn : Int)] 3)).heap ∧ W.os = w8.os ∧ W.tape = w8.tape ∧ W.output = w8.output → ∀ (gg cap : Nat) (w3' : World), w3'.ownsRow w.heap.size 3 1 (.slice (some ⟨gg, 0, none⟩) (l6.length + 1) cap) (l6.length + 1) (l6.map natV ++ [.int .i64 (zn : Int)]) → W.grownBy w3' (Value.slice A6 l6.length c6).ownBlock →
                    ∀ W2, Below w3'.heap.size w3' W2 → ReaI n (.slice Au ml cu) (useL M) src w3.heap.size w gk a (k + 1) (.slice (some ⟨gg, 0, none⟩) (l6.length + 1) cap) W2) := by
                  refine Lib.hid ?_
                  rintro W ⟨e1, e2, e3, e4⟩ gg cap w3' h1 h2 W2 hW2
                  have hBW : Below w8.heap.size w8 W := ⟨e2, e3, e4, by simp [e1], fun k hk => by rw [e1]; exact Below.heap_alloc w8 (.cells #[.int .i64 (zn : Int)] 3) k hk⟩
                  refine ⟨_, _, HRI2.out, ?_, (hl8.push zn hBW h1 h2).on hW2⟩
                  rw [pN_mark, cnt_upd hzn (by simpa [pN] using HSZ.out), List.length_append, List.length_singleton]
                  have h9 := HM6.out
                  have h8 := cnt_le n (upd (pN S6) zn true)
                  rw [cnt_upd hzn (by simpa [pN] using HSZ.out)] at h8
                  omega
                generalize l6.map natV = xs at *
                clear hl8 hl61
                go_upto_region 14 with (fail)
                go_wp2_with (at_builtin; refine wpList_append_lies _ rfl (.tmp 72) (.tmp 74) 30 rfl w.heap.size 3 i3 (.int .i64 0) 1 8 Try.underlying30 hi3 hz3 hs3 hb3 rfl (by decide) (.slice A6 l6.length c6) l6.length xs rfl ((own_keep HOWN.out (fun _ _ => rfl)).alloc _) ⟨w8.heap.size, 0, none⟩ 1 1 [.int .i64 (zn : Int)] rfl rfl (one_new _ _ 3) (by intro u hu; rw [List.mem_singleton.1 hu]; rfl) (by decide) HMX.out HBY.out (by have := HBS.out; simp; omega) (w8.heap.size + 1) (by simp) ?_; intro gg cap w3' h2 g2 hat _; (first | have q3 := HTU.out ((w8.alloc (.cells #[.int .i64 (zn : Int)] 3))) ⟨rfl, rfl, rfl, rfl⟩ gg cap w3' h2 g2 | have q3 := HTU.out ((w8.alloc (.cells #[.int .i64 (zn : Int)] 3)).drew) ⟨rfl, rfl, rfl, rfl⟩ gg cap w3' h2 g2); have Q3 := Lib.hid q3; clear q3 h2 g2 hat)
                all_goals
                  have hfin1 := Lib.hid (Q3.out _ (Below.refl _ _))
                  have hfin2 := Lib.hid (Q3.out _ ((Below.refl _ _).drew))
                  go_wp2
                  go_roundw
                  case rel => exact ⟨k + 1, by go_num, by omega, by first | exact hfin1.out | exact hfin2.out⟩
                  case measure => simp [intOf]; omega
            · have HHB := Lib.hid (hasB_false hz)
              have HNZ := Lib.hid hz
              clear hl6 hri6 hm6 hzg hx hbel hcx hzz hz
              go_wp2_with fail
              refine (has_any n z _ _ _ _).mono ?_
              rintro e w7 ⟨rfl, hb7⟩
              rw [HHB.out]
              have HREL : Hid (ReaI n (.slice Au ml cu) (useL M) src w3.heap.size w gk a (k + 1) (.slice A6 l6.length c6) w7) := Lib.hid ⟨S6, l6, HRI.out.pass hkl HZG.out (.inl HNZ.out), HM6.out, HL6.out.on hb7⟩
              clear hb7 y0 y1 e2
              go_wp2
              go_roundw
              case rel => exact ⟨k + 1, by go_num, by omega, HREL.out⟩
              case measure => simp [intOf]; omega
          · have hki : ¬ (k : Int) < ((useL M a).length : Int) := by omega
            have HREL : Hid (ReaR n (.slice Au ml cu) (useL M) src w3.heap.size w (l6.length + (n - cnt n (pN S6))) u11 wr) := Lib.hid ⟨S6, l6, hri6.done (by omega), ⟨Nat.le_refl _, by have := HGK.out; omega⟩, hl6⟩
            have HM6 := Lib.hid hm6
            clear hri6 hl6 hm6
            go_wp2
            go_roundg (l6.length + (n - cnt n (pN S6)))
            case rel => exact HREL.out
            case measure => exact HM6.out
end Go.Proofs.Ythmnghngcbkjpaa
