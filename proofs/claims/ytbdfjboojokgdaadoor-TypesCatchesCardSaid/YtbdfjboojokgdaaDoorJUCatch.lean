/- The walk of TypesCatches (chapter 4): it tells true for any row of numbers, any number and any rows of numbers. Condition: the library's table of powers of ten reads as the program's text lays it. -/
import Derived.Test.YtbdfjboojokgdaaDoorJU49
import Derived.Test.YtbdfjboojokgdaaDoorJU47
import Derived.Test.YtbdfjboojokgdaaDoorJU21
import Derived.Test.YtbdfjboojokgdaaDoorJU18
namespace Go.Proofs.YtbdfjboojokgdaaDoor
open Go.RowKit

/-- A slice that tells so many texts. -/
def SrcN (w : World) (u : Value) (fl : List ByteArray) : Prop := ∃ A c, u = .slice A fl.length c ∧ (fl = [] ∨ ∃ a : Addr, A = some a ∧ ∀ j x, (fl.map Value.string)[j]? = some x → w.cell? (a.add j) = some x)
theorem OwnS.srcN {base : Nat} {w : World} {v : Value} {fl : List ByteArray} (h : OwnS base w v fl) : SrcN w v fl := by
  by_cases he : fl = []
  · obtain ⟨A, c, e⟩ := own_form h
    exact ⟨A, c, e, .inl he⟩
  · have hfp := List.length_pos_iff.2 he
    obtain ⟨g, c, e, _, _⟩ := World.ownsRow.form h hfp
    subst e
    exact ⟨_, c, rfl, .inr ⟨_, rfl, World.ownsRow.cells h (g := g) rfl⟩⟩
theorem wpList_append_strN {ops : Array Oper} {rest : List Oper} {o : Oper} {a : Act} {Q : Exit → Act → World → Prop} {w : World} (hgd : o.guard = none) (s x : Operand)
    (ho : o.op = .call { callee := .builtin .append, args := #[s, x], argTypes := #[28, 28] }) (base : Nat) (v u : Value) (ks fl : List ByteArray) (hs : a.eval s = v) (hx : a.eval x = u)
    (hown : OwnS base w v ks) (hsrc : SrcN w u fl) (hlen : ks.length + fl.length ≤ 1048576) (hbase : base ≤ w.heap.size)
    (h : ∀ v' w', OwnS base w' v' (ks ++ fl) → w.grownBy w' v.ownBlock → wpList Tryd.prog ops Q rest (a.put o.dst v') w') : wpList Tryd.prog ops Q (o :: rest) a w := by
  obtain ⟨i9, hi9, hz90, hz9s, hz9b⟩ := info_parts' Tryd.info9
  obtain ⟨A, c, e1, hc⟩ := hsrc
  obtain ⟨Ak, ck, e2, hck, _⟩ := own_cap hown
  subst e1
  by_cases hf : fl = []
  · subst hf
    refine wpList_plain hgd fun _ hK => ?_
    have hrun := run_append_zeroB w o.type Ak A ks.length ck c hck
    unfold Oper.wp execOp
    rw [e2] at hs
    simp only [ho, resolve, invoke, builtin, Sem.run_bind, Sem.run_pure, Result.andThen_ok, List.map_toArray, List.map_cons, List.map_nil, hs, hx, List.length_nil, hrun]
    rw [← e2]
    exact hK _ _ (h v w (by simpa using hown) (World.grownBy.refl _ _))
  · rcases hc with hc | ⟨ad, rfl, hc⟩
    · exact absurd hc hf
    · have hfp := List.length_pos_iff.2 hf
      refine Go.wpList_append_lies w hgd s x 28 ho base 9 i9 (.string ⟨#[]⟩) 1 16 Tryd.underlying28 hi9 hz90 hz9s hz9b rfl (by decide) v ks.length (ks.map Value.string) hs hown ad fl.length c (fl.map Value.string) hx (by simp) hc (fun z hz => by simp at hz; obtain ⟨y, _, rfl⟩ := hz; rfl) hfp (by unfold maxLen; omega) (by omega) hbase w.heap.size rfl (fun g cap w' h2 h3 _ _ => h _ w' ?_ h3)
      show w'.ownsRow base 9 1 _ (ks ++ fl).length ((ks ++ fl).map Value.string)
      rw [List.length_append, List.map_append]
      exact h2
theorem srcN_one (w : World) (s : ByteArray) (t : TypeId) : SrcN (w.alloc (.cells #[.string s] t)) (.slice (some ⟨w.heap.size, 0, none⟩) 1 1) [s] :=
  ⟨_, 1, rfl, .inr ⟨_, rfl, news_one w (.string s) t⟩⟩
def catchA (F N : List ByteArray) : List ByteArray := F.filter (fun x => !hasB N x)
def catchB (F : List ByteArray) (σ : List (ByteArray × Ty)) : List ByteArray := (σ.filter (fun p => hasB F p.1)).flatMap (fun p => p.2.free)
theorem catches (t : Ty) (σ : List (ByteArray × Ty)) (hn : (σ.map (·.1)).Nodup) (x : ByteArray) : x ∈ (t.sub σ).free ↔ x ∈ catchA t.free (σ.map (·.1)) ++ catchB t.free σ := by
  rw [free_mem, sub_fv, List.mem_append]
  unfold catchA catchB
  rw [List.mem_filter, List.mem_flatMap]
  constructor
  · rintro ⟨y, hy, hx⟩
    cases hl : lookS σ y with
    | none =>
      rw [hl] at hx
      obtain rfl : x = y := hx
      have h1 := lookS_none.1 hl
      refine .inl ⟨free_mem.2 hy, ?_⟩
      rw [hasB_not.2 h1]; rfl
    | some u =>
      rw [hl] at hx
      exact .inr ⟨(y, u), List.mem_filter.2 ⟨lookS_mem hl, hasB_mem.2 (free_mem.2 hy)⟩, free_mem.2 hx⟩
  · rintro (⟨h1, h2⟩ | ⟨p, h1, h2⟩)
    · refine ⟨x, free_mem.1 h1, ?_⟩
      have h3 : x ∉ σ.map (·.1) := hasB_not.1 (by simpa using h2)
      rw [lookS_none.2 h3]
      rfl
    · obtain ⟨h3, h4⟩ := List.mem_filter.1 h1
      refine ⟨p.1, free_mem.1 (hasB_mem.1 h4), ?_⟩
      rw [lookS_one hn (show (p.1, p.2) ∈ σ from h3)]
      exact free_mem.1 h2
theorem catchA_take {F N : List ByteArray} {k : Nat} (h : k < F.length) : catchA (F.take (k + 1)) N = if hasB N F[k] then catchA (F.take k) N else catchA (F.take k) N ++ [F[k]] := by
  unfold catchA
  rw [List.take_succ_eq_append_getElem h, List.filter_append]
  cases h9 : hasB N F[k] <;> simp [h9]
theorem catchB_take {F : List ByteArray} {σ : List (ByteArray × Ty)} {k : Nat} (h : k < σ.length) : catchB F (σ.take (k + 1)) = if hasB F σ[k].1 then catchB F (σ.take k) ++ σ[k].2.free else catchB F (σ.take k) := by
  unfold catchB
  rw [List.take_succ_eq_append_getElem h, List.filter_append, List.flatMap_append]
  cases h9 : hasB F σ[k].1 <;> simp [h9]
theorem catchA_len (F N : List ByteArray) : (catchA F N).length ≤ F.length := List.length_filter_le ..
theorem catchB_len (F : List ByteArray) : ∀ (σ : List (ByteArray × Ty)), (∀ p ∈ σ, p.2.sz ≤ 97) → (catchB F σ).length ≤ σ.length * 97
  | [], _ => by simp [catchB]
  | p :: r, h => by
    have ih := catchB_len F r (fun q hq => h q (List.mem_cons_of_mem _ hq))
    have h1 := h p (List.mem_cons_self ..)
    have h2 := freeT_len p.2
    unfold catchB at ih ⊢
    rw [List.filter_cons, List.length_cons, Nat.add_mul]
    split
    · rw [List.flatMap_cons, List.length_append]; omega
    · omega
set_option maxRecDepth 100000 in
set_option maxHeartbeats 4000000 in
theorem typesCatches_law (P : Nat → Prop) (v1 v3 : Value) (zs : List Int) (zss : List (List Int)) (n : Int) (w : World) (h1 : IntsAt P w v1 zs) (h3 : MatAt w zss v3) (hn1 : -9223372036854775808 ≤ n) (hn2 : n ≤ 9223372036854775807) (htab : TabW w) : Calls Tryd.prog 6 #[v1, .int .i64 n, v3] w (TrueB w) := by
  have hc1 := made_any P v1 zs w h1
  have HM := Lib.hid (fun w' (hb : Below w.heap.size w w') => names_any n v3 zss w' (MatAt.on h3 hb) hn1 hn2)
  have HTAB := Lib.hid htab
  obtain ⟨A0, c0, rfl⟩ := h1.slice
  obtain ⟨A9, c9, rfl, _⟩ := h3
  have ft := fit_made zs
  generalize madeZ zs = t at *
  have HC1 := Lib.hid hc1
  clear hc1 h1 htab
  go_enter Tryd.func6, Tryd.ntmps6
  go_wp2_with fail
  refine HC1.out.mono ?_
  rintro e y1 ⟨tv, rfl, ht, hb1⟩
  obtain ⟨f0, n0, s0, A0, l0, c0, rfl⟩ := ht.flat
  obtain ⟨W, eW, q1, b1, z1⟩ := one_box y1 (.int .i64 f0) (.int .i64 n0) (.string s0) (.slice A0 l0 c0) 25
  have HT := Lib.hid (ht.all.on b1)
  have HEW := Lib.hid eW
  have HQ := Lib.hid q1
  have HB := Lib.hid (hb1.trans (b1.mono hb1.size))
  clear ht hb1 eW q1 b1 z1 HC1 hn1 hn2
  generalize hg1 : y1.heap.size = g1 at *
  go_wp2_with fail
  rw [HEW.out]
  refine (HM.out W HB.out).mono ?_
  rintro e V ⟨k, nv, bv, rfl, hk3, hkz, hnv, hbv, hbV⟩
  obtain ⟨An, cn, rfl, _, _⟩ := hnv.shape
  obtain ⟨Ab, cb, rfl, _, _⟩ := hbv.form
  have hp := lawP_puts n hk3 hkz
  have hnl := lawN_len n k
  have htl := lawT_len hkz
  rw [hnl] at hnv ⊢
  rw [htl] at hbv ⊢
  rw [← lawP_fst n hkz] at hnv
  rw [← lawP_snd n hkz] at hbv
  have hkl : (lawP n zss k).length = k := by have := congrArg List.length (lawP_fst n hkz); rw [List.length_map, hnl] at this; exact this
  generalize lawP n zss k = σ at *
  obtain rfl : σ.length = k := hkl
  have HNV := Lib.hid hnv
  have HBV := Lib.hid hbv
  have HTV := Lib.hid (HT.out.on hbV)
  have hqv := HQ.out.on hbV
  have HBB := Lib.hid (HB.out.trans (hbV.mono HB.out.size))
  have HCAT := Lib.hid (catches t σ hp.nd)
  have HCL := Lib.hid (catchB_len t.free σ (fun p hq => (hp.fit p hq).2.sz))
  have fs := ft.subs hp (by omega)
  have hfl := freeT_len t
  have hfl2 := ft.sz
  have HRF := Lib.hid (reffree_any _ t _ V HTV.out (by omega))
  obtain ⟨_, k0, k1, k2, k3, _⟩ := hqv
  have HQV := Lib.hid (HQ.out.on hbV)
  clear hnv hbv hbV HT HQ HB HM HEW hnl htl
  go_wp2_with fail
  (with_reducible refine HRF.out.mono ?_)
  rintro e V2 ⟨⟨fv, rfl, hof⟩, hb2⟩
  obtain ⟨Af, cf, rfl⟩ := own_form hof
  have HF := Lib.hid hof.strs
  have HN2 := Lib.hid (HNV.out.keep (.of_below hb2))
  have HB2 := Lib.hid (HBV.out.on hb2)
  have HBW2 := Lib.hid (HBB.out.trans (hb2.mono HBB.out.size))
  have HSB := Lib.hid (subst_many (HTV.out.on hb2) HN2.out HB2.out ft hp (by omega) (HTAB.out.on HBW2.out))
  obtain ⟨_, k0, k1, k2, k3, _⟩ := HQV.out.on hb2
  clear hof hb2 HNV HBV HTV HQV HBB HRF
  go_wp2_with fail
  (with_reducible refine HSB.out.mono ?_)
  rintro e V3 ⟨u, rfl, hu, hb3⟩
  obtain ⟨fu, nu, su, Au, lu, cu, rfl⟩ := hu.flat
  have HFR := Lib.hid (free_any _ _ _ V3 hu fs.sh (by have := fs.sz; omega))
  have HF3 := Lib.hid (HF.out.keep (.of_below hb3))
  have HN3 := Lib.hid (HN2.out.keep (.of_below hb3))
  have HB3 := Lib.hid (HB2.out.on hb3)
  have HBW3 := Lib.hid (HBW2.out.trans (hb3.mono HBW2.out.size))
  clear hu hb3 HF HN2 HB2 HBW2 HSB k0 k1 k2 k3
  go_wp2_with fail
  (with_reducible refine HFR.out.mono ?_)
  rintro e Z ⟨⟨gv, rfl, hog⟩, hb4⟩
  obtain ⟨Ag, cg, rfl⟩ := own_form hog
  have HG := Lib.hid hog.strs
  have HF := Lib.hid (HF3.out.keep (.of_below hb4))
  have HN := Lib.hid (HN3.out.keep (.of_below hb4))
  have HB := Lib.hid (HB3.out.on hb4)
  have HBZ := Lib.hid (HBW3.out.trans (hb4.mono HBW3.out.size))
  have hgl := freeT_len (t.sub σ)
  have hgl2 := fs.sz
  clear hog hb4 HF3 HN3 HB3 HBW3 HFR fs
  have HAT := Lib.hid (fun k (h : k < t.free.length) => catchA_take (F := t.free) (N := σ.map (·.1)) h)
  have HAL := Lib.hid (fun k => (catchA_len (t.free.take k) (σ.map (·.1))))
  have HBT := Lib.hid (fun k (h : k < σ.length) => catchB_take (F := t.free) (σ := σ) h)
  have HBL := Lib.hid (fun k => catchB_len t.free (σ.take k) (fun p hq => (hp.fit p (List.mem_of_mem_take hq)).2.sz))
  have HPT := Lib.hid (fun p (hq : p ∈ σ) => (hp.fit p hq).2.sz)
  have HLEN := Lib.hid hp.len
  clear ft hp HTAB
  generalize (t.sub σ).free = G at *
  generalize t.free = F at *
  have hF97 : F.length ≤ 97 := by omega
  have hG97 : G.length ≤ 9409 := by omega
  clear hfl hfl2 hgl hgl2
  go_wp2
  go_loopw [12, 13] (fun v i wr => ∃ k : Nat, k ≤ F.length ∧ i = .int .i64 k ∧ OwnS Z.heap.size wr v (catchA (F.take k) (σ.map (·.1))) ∧ Below Z.heap.size Z wr) (fun _ i _ => F.length - (intOf i).toNat)
  case atStart => exact ⟨0, Nat.zero_le _, rfl, OwnS.nil _ _, Below.refl _ _⟩
  case round =>
    obtain ⟨k, hk, rfl, ho, hb⟩ := hrel
    obtain ⟨Ao, co, rfl⟩ := own_form ho
    have HO := Lib.hid ho
    have HBk := Lib.hid hb
    by_cases hlt : k < F.length
    · obtain ⟨gf, off, rfl, hgf, k0⟩ := (HF.out.keep (.of_below hb)).at k hlt
      have hki : (k : Int) < (F.length : Int) := by omega
      have hk0 : (0 : Int) ≤ (k : Int) := by omega
      have HH := Lib.hid (has_any _ _ F[k] _ wr (HN.out.keep (.of_below hb)))
      have HK := Lib.hid (HAT.out k hlt)
      have hal := HAL.out k
      rw [List.length_take] at hal
      generalize F[k] = s at *
      clear ho hb
      go_wp2_with fail
      (with_reducible refine HH.out.mono ?_)
      rintro e wq ⟨rfl, rfl⟩
      cases hq : hasB (σ.map (·.1)) s with
      | true =>
        rw [hq] at HK HH
        clear HH
        go_wp2_with fail
        go_roundw
        case rel => exact ⟨k + 1, by omega, by go_num, by rw [HK.out]; exact HO.out, HBk.out⟩
        case measure => simp [intOf]; omega
      | false =>
        rw [hq] at HK HH
        clear HH
        have HOn : Hid (OwnS Z.heap.size (wr.alloc (.cells #[.string s] 9)) _ _) := Lib.hid (own_below HO.out (below_new wr (.cells #[.string s] 9)))
        have HSr := Lib.hid (srcN_one wr s 9)
        have HBn := Lib.hid (HBk.out.trans ((below_new wr (.cells #[.string s] 9)).mono HBk.out.size))
        have hBs := HBk.out.size
        generalize catchA (F.take k) (σ.map (·.1)) = L at *
        go_wp2_with (at_builtin; refine wpList_append_strN rfl (.tmp 45) (.tmp 50) rfl Z.heap.size _ _ L [s] rfl rfl HOn.out HSr.out (by rw [List.length_singleton]; omega) HBn.out.size ?_; intro v' w' hO2 hG2; have HO2 := Lib.hid hO2; have HB2 := Lib.hid (HBn.out.grown hG2 HBn.out.size (fun g hg => (World.ownsRow.lt HOn.out g hg).1)); clear hO2 hG2)
        go_roundw
        case rel => exact ⟨k + 1, by omega, by go_num, by rw [HK.out]; exact HO2.out, HB2.out⟩
        case measure => simp [intOf]; omega
    · have hki : ¬ (k : Int) < (F.length : Int) := by omega
      obtain rfl : k = F.length := by omega
      rw [List.take_length] at HO ⊢
      have hal := HAL.out F.length
      rw [List.take_length] at hal
      clear ho hb
      generalize catchA F (σ.map (·.1)) = L at *
      go_wp2
      go_loopw [12, 14] (fun v i wr => ∃ k : Nat, k ≤ σ.length ∧ i = .int .i64 k ∧ OwnS Z.heap.size wr v (L ++ catchB F (σ.take k)) ∧ Below Z.heap.size Z wr) (fun _ i _ => σ.length - (intOf i).toNat)
      case atStart => exact ⟨0, Nat.zero_le _, rfl, by simpa [catchB] using HO.out, HBk.out⟩
      case round =>
        obtain ⟨k, hk, rfl, ho, hb⟩ := hrel
        obtain ⟨M, hM⟩ : ∃ M, M = L ++ catchB F (σ.take k) := ⟨_, rfl⟩
        rw [← hM] at ho
        have HM := Lib.hid hM
        have hMl : M.length = L.length + (catchB F (σ.take k)).length := by rw [hM, List.length_append]
        clear hM
        obtain ⟨Aw, cw, rfl⟩ := own_form ho
        have HO := Lib.hid ho
        have HBk := Lib.hid hb
        by_cases hlt : k < σ.length
        · obtain ⟨gn, on, rfl, hgn, k0⟩ := (HN.out.keep (.of_below hb)).at k (by rw [List.length_map]; exact hlt)
          obtain ⟨gb, ob, A', c', rfl, _, hgb, k1, k2, k3, k4, hty⟩ := (HB.out.on hb).at k (by rw [List.length_map]; exact hlt)
          simp only [List.getElem_map] at k0 k1 k2 k3 k4 hty
          have hki : (k : Int) < (σ.length : Int) := by omega
          have hk0 : (0 : Int) ≤ (k : Int) := by omega
          have HH := Lib.hid (has_any _ F σ[k].1 _ wr (HF.out.keep (.of_below hb)))
          have HK := Lib.hid (HBT.out k hlt)
          have hpz := HPT.out σ[k] (List.getElem_mem hlt)
          have HFX := Lib.hid (reffree_any _ σ[k].2 _ wr hty (by omega))
          have hbl := HBL.out k
          rw [List.length_take] at hbl
          have hl3 := HLEN.out
          have hf1 := freeT_len σ[k].2
          have hcl : M.length ≤ 388 := by omega
          clear ho hb hty hbl hl3 hMl
          generalize σ[k].1 = s at *
          generalize σ[k].2 = sT at *
          go_wp2_with fail
          (with_reducible refine HH.out.mono ?_)
          rintro e wq ⟨rfl, rfl⟩
          cases hq : hasB F s with
          | true =>
            rw [hq] at HK HH
            clear HH
            go_wp2_with fail
            (with_reducible refine HFX.out.mono ?_)
            rintro e x1 ⟨⟨u, rfl, hou⟩, hbu⟩
            have HO1 : Hid (OwnS Z.heap.size x1 _ _) := Lib.hid (own_below HO.out hbu)
            have HU := Lib.hid hou.srcN
            have HB1 := Lib.hid (HBk.out.trans (hbu.mono HBk.out.size))
            clear hou hbu HFX
            generalize sT.free = fl at *
            go_wp2_with (at_builtin; refine wpList_append_strN rfl (.tmp 64) (.tmp 69) rfl Z.heap.size _ u M fl rfl rfl HO1.out HU.out (by omega) HB1.out.size ?_; intro v' w' hO2 hG2; have HO2 := Lib.hid hO2; have HB2 := Lib.hid (HB1.out.grown hG2 HB1.out.size (fun g hg => (World.ownsRow.lt HO1.out g hg).1)); clear hO2 hG2)
            go_roundw
            case rel => exact ⟨k + 1, by omega, by go_num, by rw [HK.out, if_pos trivial, ← List.append_assoc, ← HM.out]; exact HO2.out, HB2.out⟩
            case measure => simp [intOf]; omega
          | false =>
            rw [hq] at HK HH
            clear HH
            go_wp2_with fail
            go_roundw
            case rel => exact ⟨k + 1, by omega, by go_num, by rw [HK.out, if_neg (by decide), ← HM.out]; exact HO.out, HBk.out⟩
            case measure => simp [intOf]; omega
        · have hki : ¬ (k : Int) < (σ.length : Int) := by omega
          obtain rfl : k = σ.length := by omega
          rw [List.take_length] at HM
          rw [← HM.out] at HCAT
          have hF := HF.out.keep (.of_below hb)
          have HGY := Lib.hid (HG.out.keep (.of_below hb))
          have HOY := Lib.hid HO.out.strs
          have HBY := Lib.hid (HBZ.out.trans (hb.mono HBZ.out.size))
          have hMl2 := HBL.out σ.length
          rw [List.take_length] at hMl2
          have hl3 := HLEN.out
          have hM97 : M.length ≤ 1048576 := by rw [HM.out, List.length_append]; omega
          rename World => Y
          clear ho hb hF hMl hMl2 hl3 HM HO HBk HBL HPT HLEN HBT HAL HAT HF HN HB HG HBZ
          clear hk hlt HO HBk
          go_wp2
          go_loopw [15] (fun i wq => ∃ j : Nat, j ≤ G.length ∧ i = .int .i64 j ∧ Below Y.heap.size Y wq) (fun i _ => G.length - (intOf i).toNat)
          case atStart => exact ⟨0, Nat.zero_le _, rfl, Below.refl _ _⟩
          case round =>
            obtain ⟨j, hj, rfl, hb⟩ := hrel
            have HBq := Lib.hid hb
            by_cases hlt : j < G.length
            · obtain ⟨gg, og, rfl, hgg, k0⟩ := (HGY.out.keep (.of_below hb)).at j hlt
              have hji : (j : Int) < (G.length : Int) := by omega
              have hj0 : (0 : Int) ≤ (j : Int) := by omega
              have hh := has_any _ M G[j] _ wr (HOY.out.keep (.of_below hb))
              rw [hasB_mem.2 ((HCAT.out _).1 (List.getElem_mem hlt))] at hh
              have HH := Lib.hid hh
              generalize G[j] = s at *
              clear hb hh
              go_wp2_with fail
              (with_reducible refine HH.out.mono ?_)
              rintro e wq ⟨rfl, rfl⟩
              go_wp2_with fail
              go_roundw
              case rel => exact ⟨j + 1, by omega, by go_num, HBq.out⟩
              case measure => simp [intOf]; omega
            · have hji : ¬ (j : Int) < (G.length : Int) := by omega
              clear hb
              go_wp2
              go_loopw [16] (fun i wq => ∃ j : Nat, j ≤ M.length ∧ i = .int .i64 j ∧ Below Y.heap.size Y wq) (fun i _ => M.length - (intOf i).toNat)
              case atStart => exact ⟨0, Nat.zero_le _, rfl, HBq.out⟩
              case round =>
                obtain ⟨i, hi, rfl, hb⟩ := hrel
                have HBr := Lib.hid hb
                by_cases hlt : i < M.length
                · obtain ⟨gg, og, rfl, hgg, k0⟩ := (HOY.out.keep (.of_below hb)).at i hlt
                  have hji : (i : Int) < (M.length : Int) := by omega
                  have hj0 : (0 : Int) ≤ (i : Int) := by omega
                  have hh := has_any _ G M[i] _ wr (HGY.out.keep (.of_below hb))
                  rw [hasB_mem.2 ((HCAT.out _).2 (List.getElem_mem hlt))] at hh
                  have HH := Lib.hid hh
                  generalize M[i] = s at *
                  clear hb hh
                  go_wp2_with fail
                  (with_reducible refine HH.out.mono ?_)
                  rintro e wq ⟨rfl, rfl⟩
                  go_wp2_with fail
                  go_roundw
                  case rel => exact ⟨i + 1, by omega, by go_num, HBr.out⟩
                  case measure => simp [intOf]; omega
                · have hji : ¬ (i : Int) < (M.length : Int) := by omega
                  clear hb
                  go_wp2_with (go_at_call 21; refine (lives_any _).mono ?_; rintro e q ⟨rfl, hq⟩)
                  go_ret
                  exact ⟨rfl, HBY.out.trans ((HBr.out.trans (hq.mono HBr.out.size)).mono HBY.out.size)⟩
theorem typesCatches_walk (a : Option Addr) (len cap : Nat) (n : Int) (b : Option Addr) (len2 cap2 : Nat) (w : World) (h1 : SomeInts w (.slice a len cap)) (hn1 : -9223372036854775808 ≤ n) (hn2 : n ≤ 9223372036854775807) (h2 : SomeMat w (.slice b len2 cap2)) (htab : TabW w) : Calls Tryd.prog 6 #[.slice a len cap, .int .i64 n, .slice b len2 cap2] w (TrueB w) := by
  obtain ⟨zs, h1⟩ := h1
  obtain ⟨zss, h2⟩ := h2
  exact typesCatches_law _ _ _ zs zss n w h1 h2 hn1 hn2 htab
end Go.Proofs.YtbdfjboojokgdaaDoor
