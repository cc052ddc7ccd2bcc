/- The contract of the document's vars (chapter 5), and what a scheme's variables are. Condition: at most 2^40 names. -/
import Derived.Test.YtbdfjboojokgdaaDoorJP33
import Derived.Test.YtbdfjboojokgdaaDoorJP25
namespace Go.Proofs.YtbdfjboojokgdaaDoor
open Go.RowKit Lx

/-- Names, each once, behind those that were met. -/
def add1 (out : List ByteArray) (x : ByteArray) : List ByteArray := if hasB out x = true then out else out ++ [x]
def addS (out l : List ByteArray) : List ByteArray := l.foldl add1 out
theorem addS_take {out l : List ByteArray} {k : Nat} (h : k < l.length) : addS out (l.take (k + 1)) = add1 (addS out (l.take k)) l[k] := by
  unfold addS; rw [List.take_succ_eq_append_getElem h, List.foldl_append]; rfl
theorem add1_len (out : List ByteArray) (x : ByteArray) : (add1 out x).length ≤ out.length + 1 := by unfold add1; split <;> simp
theorem addS_len (l : List ByteArray) : ∀ (out : List ByteArray), (addS out l).length ≤ out.length + l.length := by
  induction l with
  | nil => intro out; simp [addS]
  | cons a r ih =>
    intro out
    have := ih (add1 out a)
    have h1 := add1_len out a
    unfold addS at this ⊢
    simp only [List.foldl_cons, List.length_cons]
    omega
theorem add1_mem {out : List ByteArray} {x y : ByteArray} (h : y ∈ out) : y ∈ add1 out x := by unfold add1; split; exact h; exact List.mem_append_left _ h
theorem addS_mem {l : List ByteArray} : ∀ {out : List ByteArray} {y : ByteArray}, y ∈ out ∨ y ∈ l → y ∈ addS out l := by
  induction l with
  | nil => intro out y h; rcases h with h | h; exact h; cases h
  | cons a r ih =>
    intro out y h
    show y ∈ addS (add1 out a) r
    rcases h with h | h
    · exact ih (.inl (add1_mem h))
    · rcases List.mem_cons.1 h with rfl | h
      · refine ih (.inl ?_)
        unfold add1
        split
        · rename_i hh; exact hasB_mem.1 hh
        · simp
      · exact ih (.inr h)
theorem addS_snoc (out m : List ByteArray) (x : ByteArray) : addS out (m ++ [x]) = add1 (addS out m) x := by unfold addS; rw [List.foldl_append]; rfl
theorem foldS (V : List (ByteArray × Int)) (out : List ByteArray) : ∀ (m : List ByteArray), V.foldl freeS (addS out m) = addS out (V.foldl freeS m) := by
  induction V with
  | nil => intro m; rfl
  | cons p V ih =>
    intro m
    simp only [List.foldl_cons]
    rw [← ih]
    congr 1
    unfold freeS
    by_cases hp : p.2 = 0
    · cases hm : hasB m p.1 with
      | true =>
        have h1 : hasB (addS out m) p.1 = true := hasB_mem.2 (addS_mem (.inr (hasB_mem.1 hm)))
        rw [if_neg (c := p.2 = 0 ∧ hasB (addS out m) p.1 = false) (by rw [h1]; simp), if_neg (by simp)]
      | false =>
        rw [if_pos (c := p.2 = 0 ∧ false = false) ⟨hp, rfl⟩, addS_snoc]
        unfold add1
        cases h1 : hasB (addS out m) p.1 with
        | true => rw [if_neg (by simp), if_pos rfl]
        | false => rw [if_pos ⟨hp, rfl⟩, if_neg (by simp)]
    · rw [if_neg (fun h => hp h.1), if_neg (fun h => hp h.1)]
theorem freeD_addS (out : List ByteArray) (t : Ty) : freeD [] out t = addS out t.free := by
  rw [freeD_is [] out t (fun _ => 0) 0 (Int.le_refl _) (fun s => by simp)]
  exact foldS (layV (fun _ => 0) 0 t) out []
theorem freeD_fn (out : List ByteArray) (a b : Ty) : freeD [] out (Ty.fn a b) = freeD [] (freeD [] out a) b := by
  simp [Ty.fn, freeD]
/-- The variables of so many predicates, behind one another. -/
def varsK (ps : List (ByteArray × Ty)) : List ByteArray := ps.foldl (fun o p => addS o p.2.free) []
theorem varsK_take {ps : List (ByteArray × Ty)} {k : Nat} (h : k < ps.length) : varsK (ps.take (k + 1)) = addS (varsK (ps.take k)) ps[k].2.free := by
  unfold varsK; rw [List.take_succ_eq_append_getElem h, List.foldl_append]; rfl
theorem varsK_funs (ps : List (ByteArray × Ty)) (t : Ty) : ∀ (out : List ByteArray), freeD [] out (funs (ps.map (·.2)) t) = addS (ps.foldl (fun o p => addS o p.2.free) out) t.free := by
  induction ps with
  | nil => intro out; exact freeD_addS out t
  | cons p r ih =>
    intro out
    simp only [List.map_cons, funs, List.foldl_cons]
    rw [freeD_fn, ih, freeD_addS]
theorem scheme_vars (ps : List (ByteArray × Ty)) (t : Ty) : addS (varsK ps) t.free = (funs (ps.map (·.2)) t).free := by
  have h := varsK_funs ps t []
  rw [free_is] at h
  exact h.symm
theorem free_len (t : Ty) : t.free.length ≤ t.sz := by
  rw [← free_is]; have := freeD_len [] [] t; simpa using this
theorem varsK_len (ps : List (ByteArray × Ty)) : (varsK ps).length ≤ (ps.map (fun p => p.2.sz + 3)).sum := by
  have h : ∀ (ps : List (ByteArray × Ty)) (out : List ByteArray), (ps.foldl (fun o p => addS o p.2.free) out).length ≤ out.length + (ps.map (fun p => p.2.sz + 3)).sum := by
    intro ps
    induction ps with
    | nil => intro out; simp
    | cons p r ih =>
      intro out
      simp only [List.foldl_cons, List.map_cons, List.sum_cons]
      have h1 := ih (addS out p.2.free)
      have h2 := addS_len p.2.free out
      have h3 := free_len p.2
      omega
  have := h ps []
  simpa [varsK] using this
set_option maxRecDepth 100000 in
set_option maxHeartbeats 1000000 in
theorem varsX_any (base : Nat) (out l : List ByteArray) (ov lv : Value) (w : World) (ho : OwnS base w ov out) (hl : StrsAt (fun b => b < w.heap.size ∧ ov.ownBlock ≠ some b) w lv l) (hba : base ≤ w.heap.size) (hz : out.length + l.length ≤ 1099511627776) :
    Calls Tryd.prog 95 #[ov, lv] w (GrewS base w ov (addS out l)) := by
  obtain ⟨A1, c1, rfl, hc1, hm1⟩ := hl.shape
  have HL := Lib.hid hl
  have hoI := own_form ho
  obtain ⟨A2, c2, rfl⟩ := hoI
  have HO := Lib.hid ho
  obtain ⟨i0, hi, hz0, hzs, hzb⟩ := info_parts' Tryd.info9
  have HKEEP : Hid (∀ wr, w.grownBy wr (Value.slice A2 out.length c2).ownBlock → StrsAt (fun b => b < w.heap.size ∧ (Value.slice A2 out.length c2).ownBlock ≠ some b) wr (.slice A1 l.length c1) l) := fun wr hg =>
    HL.out.keep ⟨hg.size, fun b off hp hlt => World.cell?_of_block (a := ⟨b, off, none⟩) (hg.block b hlt (fun e => hp.2 e.symm))⟩
  clear hl ho
  go_enter Tryd.func95, Tryd.ntmps95
  go_wp2_with fail
  go_loopw [0, 5] (fun o i wr => ∃ k : Nat, k ≤ l.length ∧ i = .int .i64 k ∧ OwnS base wr o (addS out (l.take k)) ∧ w.grownBy wr (Value.slice A2 out.length c2).ownBlock ∧ (o.ownBlock = (Value.slice A2 out.length c2).ownBlock ∨ ∃ g, o.ownBlock = some g ∧ w.heap.size ≤ g)) (fun _ i _ => l.length - (intOf i).toNat)
  case atStart => exact ⟨0, Nat.zero_le _, rfl, HO.out, World.grownBy.refl _ _, .inl rfl⟩
  case round =>
    obtain ⟨k, hk, rfl, hok, hgk, hak⟩ := hrel
    obtain ⟨A5, c5, rfl⟩ := own_form hok
    have hgs := hgk.size
    by_cases hlt : k < l.length
    · have hsk := (HKEEP.out wr hgk)
      obtain ⟨b, off, e9, hbl, hcell⟩ := hsk.at k hlt
      subst e9
      have HTK := Lib.hid (addS_take (out := out) hlt)
      have hlen := addS_len (l.take k) out
      have hlen2 : (addS out (l.take k)).length ≤ 1099511627776 := by rw [List.length_take] at hlen; omega
      have HH := Lib.hid (has_any _ (addS out (l.take k)) l[k] _ wr (OwnS.strs hok))
      have HOK := Lib.hid hok
      have HGK := Lib.hid hgk
      have HAK := Lib.hid hak
      have HOWN := Lib.hid (own_below hok (below_new wr (.cells #[.string l[k]] 9)))
      have HNEW := Lib.hid (news_one wr (.string l[k]) 9)
      have HONE := Lib.hid (one_str l[k])
      have hki : (k : Int) < (l.length : Int) := by omega
      have hk0 : (0 : Int) ≤ (k : Int) := by omega
      clear hok hgk hak hsk
      generalize hx : l[k] = x at *
      cases hq : hasB (addS out (l.take k)) x with
      | true =>
        rw [hq] at HH
        have HSAME : Hid (addS out (l.take (k + 1)) = addS out (l.take k)) := by show _ = _; rw [HTK.out]; unfold add1; rw [if_pos hq]
        clear hq
        go_wp2_with fail
        refine HH.out.mono ?_
        rintro e w' ⟨rfl, rfl⟩
        go_wp2
        go_roundw
        case rel => exact ⟨k + 1, by omega, by go_num, by rw [HSAME.out]; exact HOK.out, HGK.out, HAK.out⟩
        case measure => simp [intOf]; omega
      | false =>
        rw [hq] at HH
        have HNX : Hid (addS out (l.take (k + 1)) = addS out (l.take k) ++ [x]) := by show _ = _; rw [HTK.out]; unfold add1; rw [if_neg (by rw [hq]; simp)]
        clear hq
        generalize addS out (l.take k) = cur at *
        generalize hnx : addS out (l.take (k + 1)) = nxt at *
        have HNXE := Lib.hid hnx
        clear hnx
        have HRES : Hid (∀ (g cap : Nat) (w2 : World), w2.ownsRow base 9 1 (.slice (some ⟨g, 0, none⟩) (cur.length + 1) cap) (cur.length + 1) (cur.map Value.string ++ [.string x]) → (wr.alloc (.cells #[.string x] 9)).grownBy w2 (Value.slice A5 cur.length c5).ownBlock → ((Value.slice A5 cur.length c5).ownBlock = some g ∨ g = wr.heap.size + 1) → OwnS base w2 (.slice (some ⟨g, 0, none⟩) (cur.length + 1) cap) nxt ∧ w.grownBy w2 (Value.slice A2 out.length c2).ownBlock ∧ ((Value.slice (some ⟨g, 0, none⟩) (cur.length + 1) cap).ownBlock = (Value.slice A2 out.length c2).ownBlock ∨ ∃ g', (Value.slice (some ⟨g, 0, none⟩) (cur.length + 1) cap).ownBlock = some g' ∧ w.heap.size ≤ g')) := fun g cap w2 h2 g2 hat => by
          refine ⟨by rw [HNX.out]; unfold OwnS; rw [List.map_append, List.length_append]; exact h2, ?_, ?_⟩
          · have h3 := (grown_of_below (below_new wr (.cells #[.string x] 9)) (Value.slice A5 cur.length c5).ownBlock).trans g2
            exact HGK.out.andThen h3 (fun j hj => by
              rcases HAK.out with h | ⟨g', h, h'⟩
              · right; rw [← h]; exact hj
              · left; rw [h] at hj; injection hj with hj; omega)
          · rcases hat with h9 | h9
            · rcases HAK.out with h | ⟨g', h, h'⟩
              · exact .inl (by rw [← h, h9]; rfl)
              · rw [h] at h9; injection h9 with h9; exact .inr ⟨g, rfl, by omega⟩
            · exact .inr ⟨g, rfl, by omega⟩
        generalize cur.map Value.string = mv at *
        go_wp2_with fail
        refine HH.out.mono ?_
        rintro e w' ⟨rfl, rfl⟩
        go_wp2_with (at_builtin; refine wpList_append_lies _ rfl (.tmp 19) (.tmp 24) 28 rfl base 9 i0 (.string ⟨#[]⟩) 1 16 Tryd.underlying28 hi hz0 hzs hzb rfl (by decide) (.slice A5 cur.length c5) cur.length mv rfl HOWN.out ⟨wr.heap.size, 0, none⟩ 1 1 [.string x] rfl rfl HNEW.out HONE.out (by omega) (by unfold maxLen; omega) (by omega) (by simp; omega) (wr.heap.size + 1) (by simp) ?_; intro g cap w2 h2 g2 hat _; have HP := Lib.hid (HRES.out g cap w2 h2 g2 hat); clear h2 g2 hat)
        go_roundw
        case rel => exact ⟨k + 1, by omega, by go_num, by rw [HNXE.out]; exact HP.out.1, HP.out.2⟩
        case measure => simp [intOf]; omega
    · have hd : decide (k < l.length) = false := by simpa using hlt
      have hkl : l.take k = l := List.take_of_length_le (by omega)
      rw [hkl] at hok hak ⊢
      have HRES : Hid (GrewS base w (.slice A2 out.length c2) (addS out l) (.returned (.slice A5 (addS out l).length c5)) wr) := ⟨_, rfl, hok, hgk, hak⟩
      clear hok hgk hak
      go_wp2
      go_ret
      exact HRES.out
end Go.Proofs.YtbdfjboojokgdaaDoor
