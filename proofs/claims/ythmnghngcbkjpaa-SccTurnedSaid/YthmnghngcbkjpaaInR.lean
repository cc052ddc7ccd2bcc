/- inRow: the groups in their row. No conditions but those that each theorem names. -/
import Derived.Test.YthmnghngcbkjpaaInw
namespace Go.Proofs.Ythmnghngcbkjpaa
open Go.RowKit
set_option maxRecDepth 100000 in
set_option maxHeartbeats 8000000 in
theorem inrow_any (m : Nat) (gv : Value) (gs : List (List Nat)) (U : Nat → List Nat) (B uo cu : Nat) (uvs : List Value) (w : World) (hg : MatAt (fun b => b < w.heap.size ∧ b ≠ uo ∧ B ≤ b) w gv (toI gs)) (hgl : gs.length = m)
    (huo : w.ownsRow 0 30 1 (.slice (some ⟨uo, 0, none⟩) m cu) m uvs) (hur : ∀ j (h : j < uvs.length), IntsAt (fun b => b < w.heap.size ∧ b ≠ uo) w uvs[j] (natL (U j))) (hB : B ≤ uo) (hm : m ≤ 1000) (hU : ∀ g, g < m → ∀ x ∈ U g, x < m) :
    Calls Try.prog 20 #[gv, .slice (some ⟨uo, 0, none⟩) m cu] w (InRes m gs U B uo w) := by
  obtain ⟨Ag, cg, eg, hg1, hg2⟩ := hg.form
  rw [toI_length, hgl] at eg hg1
  subst eg
  obtain ⟨i30, hi30, hz30, hs30, hb30⟩ := info_parts Try.info30
  have hmk0 := make_rows0 m (by omega)
  have hmk1 := make_rows m (by omega)
  have hmk2 := make_bools m (by omega)
  have hlt := (huo.lt uo rfl).2
  have HG := Lib.hid hg
  have HUO := Lib.hid huo
  have HUR := Lib.hid hur
  have HUU := Lib.hid hU
  clear hg huo hur hU
  go_enter Try.func20, Try.ntmps20
  go_wp2
  go_step3
  go_wp2
  clear hmk0 hmk1 hmk2
  have HN := Lib.hid hlt
  have HST := Lib.hid (in_start m gs U B uo cu uvs w HUO.out HUR.out hB hm)
  unfold inWorld at HST
  have HR0 : Hid (∃ a av Q, InMem B w.heap.size m uo cu gs (fun _ => false) [] a (fun _ => []) U Q uvs (List.replicate m (.slice none 0 0)) [] av (.slice (some ⟨w.heap.size + 1, 0, none⟩) 0 m) w (inWorld w m uo cu) ∧ a.Perm (List.range 0) ∧ Heap a a.length) :=
    Lib.hid ⟨[], _, _, HST.out, .refl _, fun j h0 h1 => by simp at h1⟩
  unfold inWorld at HR0
  clear HST
  go_loopw [28] (fun v wr => ∃ k : Nat, v = .int .i64 k ∧ k ≤ m ∧ ∃ a av Q, InMem B w.heap.size m uo cu gs (fun _ => false) [] a (fun _ => []) U Q uvs (List.replicate m (.slice none 0 0)) [] av (.slice (some ⟨w.heap.size + 1, 0, none⟩) 0 m) w wr ∧ a.Perm (List.range k) ∧ Heap a a.length) (fun v _ => m - (intOf v).toNat)
  case atStart => exact ⟨0, rfl, Nat.zero_le _, HR0.out⟩
  case round =>
    obtain ⟨k, rfl, hk, a, av, Q, hI, hp, hh⟩ := hrel
    by_cases hlt : k < m
    · have hki : (k : Int) < (m : Int) := by omega
      have hal : a.length = k := by have := hp.length_eq; simpa using this
      have HPU := Lib.hid (push_any hI.ask hh k (by omega) (by have := hI.size; omega))
      have HI := Lib.hid hI
      have HP := Lib.hid hp
      unfold hv at HPU
      clear hI hp hh hal
      go_wp2_with fail
      refine HPU.out.mono ?_
      rintro e w1 ⟨rfl, a2, av2, ⟨hp2, hh2⟩, hA2, hf2, hat2⟩
      have HREL : Hid (∃ a av Q, InMem B w.heap.size m uo cu gs (fun _ => false) [] a (fun _ => []) U Q uvs (List.replicate m (.slice none 0 0)) [] av (.slice (some ⟨w.heap.size + 1, 0, none⟩) 0 m) w w1 ∧ a.Perm (List.range (k + 1)) ∧ Heap a a.length) :=
        Lib.hid ⟨a2, av2, _, HI.out.asked HN.out hA2 hf2 hat2, by rw [List.range_succ]; exact hp2.trans (HP.out.append_right _), hh2⟩
      clear hp2 hh2 hA2 hf2 hat2
      go_wp2
      go_roundw
      case rel => exact ⟨k + 1, by go_num, by omega, HREL.out⟩
      case measure => simp [intOf]; omega
    · have ek : k = m := by omega
      subst ek
      have hki : ¬ (k : Int) < (k : Int) := by omega
      have HRW : Hid (InRel B w.heap.size k uo cu gs U w k k (.slice (some ⟨w.heap.size + 1, 0, none⟩) 0 k) wr) := Lib.hid ⟨fun _ => false, [], a, fun _ => [], U, Q, _, _, _, _, RowInv.start k U hp, hh, hI, by simp, rfl, by have := hp.length_eq; simpa using this⟩
      clear hI hp hh
      go_wp2
      go_step3
      go_wp2
      go_loopg [5] k (fun L rv wr => ∃ k2, InRel B w.heap.size k uo cu gs U w L k2 rv wr)
      case atStart => exact ⟨k, HRW.out⟩
      case round =>
        obtain ⟨k2, hrel⟩ := hrel
        have HR := Lib.hid hrel
        clear hrel
        go_wp2
        go_loopg [5] k2 (fun k2 rv wr => InRel B w.heap.size k uo cu gs U w gk k2 rv wr)
        case atStart => exact HR.out
        case round =>
          obtain ⟨told, ord, ask, wait, left, Q, uvs2, wvs, rvs, av, hRI, hH, hI, hwl, hL, hK⟩ := hrel
          obtain ⟨Ar, cr, rfl, _, _⟩ := own_form hI.row
          have hac := hI.ask.cell.1
          cases hask : ask with
          | nil =>
            rw [hask] at hRI hI hK
            obtain ⟨Aa, ca, rfl, _, _⟩ := own_form hI.ask.own
            simp only [List.length_nil] at hac
            have HFIN : Hid (InRes k gs U B uo w (.returned (.slice Ar ord.length cr)) wr) := by
              refine Lib.hid ⟨ord, told, _, rfl, hRI.said, hRI.fin, ?_, hI.fr⟩
              have hrl := hI.row.1
              have hrowB := hI.row
              rcases hI.row.2 with ⟨e1, e2⟩ | ⟨g, c, cur, e1, e2, e3, e4, e5, e6, e7⟩
              · have e0 : ord = [] := List.eq_nil_of_length_eq_zero e2
                rw [e1, e0]
                exact ⟨none, 0, rfl, Nat.le_refl _, Nat.zero_le _, .inl rfl⟩
              · rw [e1]
                have hlen : (toI (ord.map (fun g => gs.getD g []))).length = ord.length := by simp [toI]
                refine ⟨some ⟨g, 0, none⟩, c, by rw [hlen], by rw [hlen]; exact e4, e5, ?_⟩
                by_cases h0 : ord.length = 0
                · left
                  exact List.eq_nil_of_length_eq_zero (by rw [hlen]; exact h0)
                · right
                  refine ⟨g, 0, rfl, ⟨by have := hrowB.lt g (by rw [e1]; rfl); omega, lt_of_block e3⟩, lt_of_block e3, fun i hi => ?_⟩
                  rw [hlen] at hi
                  have hri : i < rvs.length := by omega
                  have hrow := hI.row
                  rw [e1] at hrow
                  refine ⟨rvs[i], by rw [Nat.zero_add, hrow.cellAt i (by omega), List.getElem?_eq_getElem hri], ?_⟩
                  have h9 := (hI.rows i hri hi).mono (Q := fun b => B ≤ b ∧ b < wr.heap.size) (fun b hb => by have := hI.size; omega)
                  have e8 : (toI (ord.map (fun g => gs.getD g [])))[i]'(by rw [hlen]; exact hi) = natL (gs.getD ord[i] []) := by simp [toI, natL]
                  rw [e8]; exact h9
            clear hRI hH hI hwl hL hK hask
            go_wp2
            rw [Exit.noGoto_ret]
            go_ret
            exact HFIN.out
          | cons y ys =>
            have hn : ask.length = ys.length + 1 := by rw [hask]; rfl
            generalize hyl : ys.length = n at *
            clear hask hyl ys y
            have hown := hI.ask.own
            rw [hn] at hown
            obtain ⟨ga, ca, rfl, _, _, _, _⟩ := own_some hown (by omega)
            have hlenk := hRI.len
            have HPO := Lib.hid (pop_any hI.ask hn hH (by omega))
            unfold hv at HPO
            have HRI := Lib.hid hRI
            have HI := Lib.hid hI
            have HWL := Lib.hid hwl
            have hn0 : (0 : Int) < (n : Int) + 1 := by omega
            clear hRI hH hI hwl hown
            go_wp2_with fail
            refine (len_any _ _ _ _).mono ?_
            rintro e w0 ⟨rfl, rfl⟩
            go_wp2_with fail
            refine HPO.out.mono ?_
            rintro e w1 ⟨x, a', rfl, hp1, hl1, hh1, hA1, hf1⟩
            have hta := run_assert_int (x : Int)
            have hxask := HRI.out.askok (hp1.mem_iff.2 List.mem_cons_self)
            have hI1 := (HI.out.asked HN.out hA1 (hf1.mono (fun b hb => hb.imp id (fun e => by rw [e]; rfl))) (.inl rfl)).give HN.out
            obtain ⟨d0, hd0, hd1⟩ := HRI.out.lefts x hxask.1
            have HCO := Lib.hid (come_any hI1.mem x hxask.1 (by omega) (fun y hy => HUU.out x hxask.1 y (by rw [hd0]; exact List.mem_append_right _ hy)) (fun o => by have := HWL.out o; omega) (fun b hb => .inr ⟨by have := hI1.size; omega, .inr hb⟩) (by have := hI1.size; have := HN.out; omega))
            have HI1 := Lib.hid hI1
            have HP1 := Lib.hid hp1
            have HL1 := Lib.hid hl1
            have HH1 := Lib.hid hh1
            have HF1 := Lib.hid hf1
            have hal1 : a'.length + 1 = ask.length := by have := hp1.length_eq; simpa using this.symm
            clear hI1 hp1 hl1 hh1 hA1 hf1 hd1 hd0 d0
            go_wp2_with fail
            refine HCO.out.mono ?_
            rintro e w2 ⟨q, left', wait', uvs', wvs', rfl, hm2, hf2, hcase⟩
            have hI2 := HI1.out.come HN.out hm2 hf2
            rcases hcase with ⟨rfl, ew, rfl, hall⟩ | ⟨rfl, d, o, l, hld, hdd, hto, rfl, rfl⟩
            · obtain rfl := ew.symm
              have hRb := HRI.out.len
              have hpd := (pend_drop hxask.1 hxask.2 wait).length_eq
              rw [List.length_append] at hpd
              have hbound : a'.length + 1 + (wait x).length + ord.length ≤ k := by omega
              obtain ⟨_, ct, _⟩ := hI2.mem.cells
              have hxi : (x : Int) < (k : Int) := by omega
              have htc := hI2.mem.trow.cell hxask.1
              have htf := hI2.mem.trow.free x
              have HI3 := Lib.hid ((hI2.tell x).keepNew HN.out)
              have hxg : x < (toI gs).length := by rw [toI_length, hgl]; exact hxask.1
              obtain ⟨bg, og, Au, cu3, rfl, hbg, hcg, hug⟩ := HG.out.at x hxg
              have hgi : (x : Int) < (k : Int) := hxi
              have hbgN : bg < w.heap.size ∧ bg ≠ uo ∧ B ≤ bg := by
                obtain ⟨A', c', e', _, _, hr⟩ := HG.out
                injection e' with e1 _ _
                rcases hr with hr | ⟨b, off, e2, hp, _⟩
                · rw [hr] at hxg; simp at hxg
                · rw [e2] at e1; injection e1 with e1; injection e1 with e1; rw [e1]; exact hp
              have hcg2 : (w2.setCell ⟨w.heap.size + 1 + 1, x, none⟩ (.bool true)).cell? ⟨bg, og + x, none⟩ = some (.slice Au (toI gs)[x].length cu3) := by
                have h9 := HI3.out.fr.block bg hbgN.1 hbgN.2.1
                exact (World.cell?_of_block (a := ⟨bg, og + x, none⟩) h9).trans hcg
              have hug3 : IntsAt (fun b => b < w.heap.size ∧ b ≠ uo ∧ B ≤ b) (w2.setCell ⟨w.heap.size + 1 + 1, x, none⟩ (.bool true)) (.slice Au (toI gs)[x].length cu3) (natL (gs.getD x [])) := by
                have e9 : (toI gs)[x] = natL (gs.getD x []) := by
                  rw [toI_get gs x (by rw [hgl]; exact hxask.1), List.getD_eq_getElem?_getD, List.getElem?_eq_getElem (by rw [hgl]; exact hxask.1)]; rfl
                rw [← e9]
                exact hug.keepB HI3.out.fr.size (fun b hb hl => HI3.out.fr.block b hl hb.2.1)
              generalize (toI gs)[x].length = lu at *
              have HUG := Lib.hid hug3
              have HALL := Lib.hid hall
              have hord : ord.length ≤ 1000 := by omega
              clear hm2 hf2 hI2 hug hug3 hcg hall hRb hpd ew
              have HOW := Lib.hid (HI3.out.row.alloc (.cells #[.slice Au lu cu3] 30))
              have HNW := Lib.hid (one_new (w2.setCell ⟨w.heap.size + 1 + 1, x, none⟩ (.bool true)) (.slice Au lu cu3) 30)
              have HMX := Lib.hid (show ord.length + 1 ≤ maxLen by unfold maxLen; omega)
              have HBY := Lib.hid (show (ord.length + 1) * 24 ≤ 140737488355328 by omega)
              have HBS := Lib.hid (show w.heap.size ≤ ((w2.setCell ⟨w.heap.size + 1 + 1, x, none⟩ (.bool true)).alloc (.cells #[.slice Au lu cu3] 30)).heap.size by have := HI3.out.size; simp at this ⊢; omega)
              have HRP : Hid (∀ v' w4, w4.ownsRow w.heap.size 30 1 v' (ord.length + 1) (rvs ++ [.slice Au lu cu3]) → ((w2.setCell ⟨w.heap.size + 1 + 1, x, none⟩ (.bool true)).alloc (.cells #[.slice Au lu cu3] 30)).grownBy w4 (Value.slice Ar ord.length cr).ownBlock → (v'.ownBlock = (Value.slice Ar ord.length cr).ownBlock ∨ v'.ownBlock = some ((w2.setCell ⟨w.heap.size + 1 + 1, x, none⟩ (.bool true)).alloc (.cells #[.slice Au lu cu3] 30)).heap.size) →
                  ∃ Q4, InMem B w.heap.size k uo cu gs (upd told x true) (ord ++ [x]) a' wait (upd left x []) Q4 uvs' wvs' (rvs ++ [.slice Au lu cu3]) (.slice (some ⟨ga, 0, none⟩) a'.length ca) v' w w4) := by
                refine Lib.hid fun v' w4 q1 q2 q3 => ⟨_, (HI3.out.on (below_new _ (.cells #[.slice Au lu cu3] 30))).rowpush HN.out (fun b hb => by have := hb.2; simp at this ⊢; omega) x q1 (HUG.out.on (below_new _ _)) q2 (q3.imp id (fun e => ⟨_, e, Nat.le_refl _⟩))⟩
              generalize hw3 : w2.setCell ⟨w.heap.size + 1 + 1, x, none⟩ (.bool true) = w3 at *
              have HW3 := Lib.hid hw3
              clear hw3
              go_upto_region 15 with (fail)
              rw [HW3.out]
              clear ct htc htf hac
              have hord1 : (ord ++ [x]).length = ord.length + 1 := by simp
              go_upto_region 16 with (at_builtin; refine wpList_append_own_at _ rfl (.tmp 53) (.tmp 58) 22 rfl w.heap.size 30 i30 (.slice none 0 0) 1 24 Try.underlying22 hi30 hz30 hs30 hb30 rfl (by decide) _ ord.length rvs rfl HOW.out ⟨w3.heap.size, 0, none⟩ 1 1 [.slice Au lu cu3] rfl rfl HNW.out (by intro u hu; rw [List.mem_singleton.1 hu]; rfl) HMX.out HBY.out HBS.out ?_; intro v' w4 hown2 hg2 _ hat2; obtain ⟨Q4, hI4⟩ := HRP.out v' w4 hown2 hg2 hat2; obtain ⟨A4, c4, rfl, _⟩ := own_form hown2; have HI4 := Lib.hid hI4; clear hI4 hown2 hg2 hat2)
              obtain ⟨_, _, cw⟩ := HI4.out.mem.cells
              have hwl4 : ((List.range k).map (fun j => natL (wait j))).length = k := by simp
              have hxw : x < ((List.range k).map (fun j => natL (wait j))).length := by rw [hwl4]; exact hxask.1
              obtain ⟨gw0, cgw, Aw, cw5, evw, _, hgw0, _, _, _, hvsw, _, _, hcellw, _⟩ := HI4.out.mem.wmat.at x hxw
              injection evw with ev1 ev2 ev3
              injection ev1 with ev1
              injection ev1 with ev1
              subst ev1
              have erw : ((List.range k).map (fun j => natL (wait j)))[x] = natL (wait x) := by simp
              have elw : ((List.range k).map (fun j => natL (wait j)))[x].length = (wait x).length := by rw [erw]; simp [natL]
              rw [elw] at hcellw hvsw
              have hvwl : x < wvs'.length := by have := HI4.out.mem.wmat.len; omega
              have HRow : Hid (∀ (ask2 : List Nat) (Q2 : Nat → Prop) (av2 : Value) (wr : World), InMem B w.heap.size k uo cu gs (upd told x true) (ord ++ [x]) ask2 wait (upd left x []) Q2 uvs' wvs' (rvs ++ [.slice Au lu cu3]) av2 (.slice A4 (ord.length + 1) c4) w wr → ∀ i (hi : i < (wait x).length), ∃ bw, Aw = some ⟨bw, 0, none⟩ ∧ wr.cell? ⟨bw, i, none⟩ = some (.int .i64 (((wait x)[i] : Nat) : Int))) := by
                refine Lib.hid fun ask2 Q2 av2 wr hI i hi => ?_
                have hr := hI.mem.wmat.rows x hvwl hxw
                rw [hvsw, elw, erw] at hr
                obtain ⟨bw, cx, e, _, _, _, _⟩ := own_some hr (by omega)
                injection e with e1 e2 e3
                rw [e1] at hr
                refine ⟨bw, e1, ?_⟩
                rw [hr.cellAt i (by omega)]
                simp [natL, intV, hi]
              have HR4 : Hid (∃ a2 av2 Q2, InMem B w.heap.size k uo cu gs (upd told x true) (ord ++ [x]) a2 wait (upd left x []) Q2 uvs' wvs' (rvs ++ [.slice Au lu cu3]) av2 (.slice A4 (ord.length + 1) c4) w w4 ∧ a2.Perm (a' ++ (wait x).take 0) ∧ Heap a2 a2.length) :=
                Lib.hid ⟨a', _, Q4, HI4.out, by simp, HH1.out⟩
              clear ev2 ev3 hwl4 erw elw hvsw
              go_wp2
              go_loopw [65] (fun v wr => ∃ i : Nat, v = .int .i64 i ∧ i ≤ (wait x).length ∧ ∃ a2 av2 Q2, InMem B w.heap.size k uo cu gs (upd told x true) (ord ++ [x]) a2 wait (upd left x []) Q2 uvs' wvs' (rvs ++ [.slice Au lu cu3]) av2 (.slice A4 (ord.length + 1) c4) w wr ∧ a2.Perm (a' ++ (wait x).take i) ∧ Heap a2 a2.length) (fun v _ => (wait x).length - (intOf v).toNat)
              case atStart => exact ⟨0, rfl, Nat.zero_le _, HR4.out⟩
              case round =>
                obtain ⟨i, rfl, hi, a2, av2, Q2, hI5, hp5, hh5⟩ := hrel
                by_cases hil : i < (wait x).length
                · have hii : (i : Int) < ((wait x).length : Int) := by omega
                  obtain ⟨bw, rfl, hcw⟩ := HRow.out _ _ _ _ hI5 i hil
                  have htk : (wait x).take (i + 1) = (wait x).take i ++ [(wait x)[i]] := List.take_succ_eq_append_getElem hil
                  have hal5 : a2.length = a'.length + i := by
                    have := hp5.length_eq
                    rw [List.length_append, List.length_take] at this; omega
                  have HPU := Lib.hid (push_any hI5.ask hh5 ((wait x)[i]) (by omega) (by have := hI5.size; omega))
                  generalize (wait x)[i] = y at *
                  unfold hv at HPU
                  have HI5 := Lib.hid hI5
                  have HP5 := Lib.hid hp5
                  have HTK := Lib.hid htk
                  clear hI5 hp5 hh5 htk hal5 hcellw cw hgw0
                  go_wp2_with fail
                  refine HPU.out.mono ?_
                  rintro e w6 ⟨rfl, a6, av6, ⟨hp6, hh6⟩, hA6, hf6, hat6⟩
                  have HREL : Hid (∃ a2 av2 Q2, InMem B w.heap.size k uo cu gs (upd told x true) (ord ++ [x]) a2 wait (upd left x []) Q2 uvs' wvs' (rvs ++ [.slice Au lu cu3]) av2 (.slice A4 (ord.length + 1) c4) w w6 ∧ a2.Perm (a' ++ (wait x).take (i + 1)) ∧ Heap a2 a2.length) :=
                    Lib.hid ⟨a6, av6, _, HI5.out.asked HN.out hA6 hf6 hat6, by rw [HTK.out, ← List.append_assoc]; exact hp6.trans (HP5.out.append_right _), hh6⟩
                  clear hp6 hh6 hA6 hf6 hat6
                  go_wp2
                  go_roundw
                  case rel => exact ⟨i + 1, by go_num, by omega, HREL.out⟩
                  case measure => simp [intOf]; omega
                · have ei : i = (wait x).length := by omega
                  subst ei
                  have hii : ¬ ((wait x).length : Int) < ((wait x).length : Int) := by omega
                  rw [List.take_length] at hp5
                  have hRI5 := HRI.out.now HP1.out (fun y hy => HL1.out y hy) (fun y hy => HALL.out y hy) hp5
                  have HREL : Hid (∃ k2, InRel B w.heap.size k uo cu gs U w (k - (ord.length + 1)) k2 (.slice A4 (ord.length + 1) c4) wr) :=
                    Lib.hid ⟨a2.length, _, _, a2, wait, _, Q2, _, _, _, _, hRI5, hh5, hI5, HWL.out, by rw [hord1], rfl⟩
                  clear hRI5 hh5 hI5 hp5 hcellw cw hgw0
                  go_wp2
                  go_roundg (k - (ord.length + 1))
                  case rel => exact HREL.out
                  case measure => omega
            · have hom : o < k := HUU.out x hxask.1 o (by
                obtain ⟨d0, hd0, _⟩ := HRI.out.lefts x hxask.1
                rw [hd0, hld]; simp)
              have hRI2 := HRI.out.later HP1.out ⟨d, hld, hdd⟩ hom hto
              have HREL : Hid (InRel B w.heap.size k uo cu gs U w (k - ord.length) a'.length (.slice Ar ord.length cr) w2) := by
                refine Lib.hid ⟨told, ord, a', _, _, _, uvs', wvs', rvs, _, hRI2, HH1.out, hI2, fun o' => ?_, rfl, rfl⟩
                by_cases e : o' = o
                · subst e
                  exact hRI2.waitle hom hto
                · rw [upd_other _ e]; exact HWL.out o'
              rw [hL] at HREL
              clear hm2 hf2 hI2 hRI2 hld hdd hto hom
              go_wp2
              go_roundg a'.length
              case rel => exact HREL.out
              case measure => omega
end Go.Proofs.Ythmnghngcbkjpaa
