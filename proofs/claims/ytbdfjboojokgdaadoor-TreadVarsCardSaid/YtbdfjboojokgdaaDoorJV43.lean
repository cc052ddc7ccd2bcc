/- What a scheme's variables are (chapter 5): plain mathematics. No conditions but those that each theorem names. Plain mathematics and small contracts for TreadVars (chapter 5): a scheme's source is read back; its variables; an append of nothing. The contracts of the document's bracket, Decimal (of one digit) and Print of types (chapter 4): the small cases. Conditions: the print has at most 2^40 bytes; numbers of what is not known are 0 to 9. The contract of the document's Print of types (chapter 4). Conditions: the print has at most 2^40 bytes; numbers of what is not known are 0 to 9. -/
import Derived.Test.YtbdfjboojokgdaaDoorJV28
import Derived.Test.YtbdfjboojokgdaaDoorJV24
import Derived.Test.YtbdfjboojokgdaaDoorJV42
import Derived.Test.YtbdfjboojokgdaaDoorJV40
import Derived.Test.YtbdfjboojokgdaaDoorJV38
import Derived.Test.YtbdfjboojokgdaaDoorJV06
import Derived.Deep.RegionHeld3
namespace Go.Proofs.YtbdfjboojokgdaaDoor
open Go.RowKit Lx

/-- Names, each once, behind those that were met. -/
def add1 (out : List ByteArray) (x : ByteArray) : List ByteArray := if hasB out x = true then out else out ++ [x]
def addS (out l : List ByteArray) : List ByteArray := l.foldl add1 out
theorem addS_take {out l : List ByteArray} {k : Nat} (h : k < l.length) : addS out (l.take (k + 1)) = add1 (addS out (l.take k)) l[k] := by
  unfold addS; rw [List.take_succ_eq_append_getElem h, List.foldl_append]; rfl
theorem add1_len (out : List ByteArray) (x : ByteArray) : (add1 out x).length ≤ out.length + 1 := by unfold add1; split <;> simp
theorem addS_len (l : List ByteArray) : ∀ (out : List ByteArray), (addS out l).length ≤ out.length + l.length := by
  induction l with
  | nil => intro out; simp [addS]
  | cons a r ih =>
    intro out
    have := ih (add1 out a)
    have h1 := add1_len out a
    unfold addS at this ⊢
    simp only [List.foldl_cons, List.length_cons]
    omega
theorem add1_mem {out : List ByteArray} {x y : ByteArray} (h : y ∈ out) : y ∈ add1 out x := by unfold add1; split; exact h; exact List.mem_append_left _ h
theorem addS_mem {l : List ByteArray} : ∀ {out : List ByteArray} {y : ByteArray}, y ∈ out ∨ y ∈ l → y ∈ addS out l := by
  induction l with
  | nil => intro out y h; rcases h with h | h; exact h; cases h
  | cons a r ih =>
    intro out y h
    show y ∈ addS (add1 out a) r
    rcases h with h | h
    · exact ih (.inl (add1_mem h))
    · rcases List.mem_cons.1 h with rfl | h
      · refine ih (.inl ?_)
        unfold add1
        split
        · rename_i hh; exact hasB_mem.1 hh
        · simp
      · exact ih (.inr h)
theorem addS_snoc (out m : List ByteArray) (x : ByteArray) : addS out (m ++ [x]) = add1 (addS out m) x := by unfold addS; rw [List.foldl_append]; rfl
theorem foldS (V : List (ByteArray × Int)) (out : List ByteArray) : ∀ (m : List ByteArray), V.foldl freeS (addS out m) = addS out (V.foldl freeS m) := by
  induction V with
  | nil => intro m; rfl
  | cons p V ih =>
    intro m
    simp only [List.foldl_cons]
    rw [← ih]
    congr 1
    unfold freeS
    by_cases hp : p.2 = 0
    · cases hm : hasB m p.1 with
      | true =>
        have h1 : hasB (addS out m) p.1 = true := hasB_mem.2 (addS_mem (.inr (hasB_mem.1 hm)))
        rw [if_neg (c := p.2 = 0 ∧ hasB (addS out m) p.1 = false) (by rw [h1]; simp), if_neg (by simp)]
      | false =>
        rw [if_pos (c := p.2 = 0 ∧ false = false) ⟨hp, rfl⟩, addS_snoc]
        unfold add1
        cases h1 : hasB (addS out m) p.1 with
        | true => rw [if_neg (by simp), if_pos rfl]
        | false => rw [if_pos ⟨hp, rfl⟩, if_neg (by simp)]
    · rw [if_neg (fun h => hp h.1), if_neg (fun h => hp h.1)]
theorem freeD_addS (out : List ByteArray) (t : Ty) : freeD [] out t = addS out t.free := by
  rw [freeD_is [] out t (fun _ => 0) 0 (Int.le_refl _) (fun s => by simp)]
  exact foldS (layV (fun _ => 0) 0 t) out []
theorem freeD_fn (out : List ByteArray) (a b : Ty) : freeD [] out (Ty.fn a b) = freeD [] (freeD [] out a) b := by
  simp [Ty.fn, freeD]
/-- The variables of so many predicates, behind one another. -/
def varsK (ps : List (ByteArray × Ty)) : List ByteArray := ps.foldl (fun o p => addS o p.2.free) []
theorem varsK_take {ps : List (ByteArray × Ty)} {k : Nat} (h : k < ps.length) : varsK (ps.take (k + 1)) = addS (varsK (ps.take k)) ps[k].2.free := by
  unfold varsK; rw [List.take_succ_eq_append_getElem h, List.foldl_append]; rfl
theorem varsK_funs (ps : List (ByteArray × Ty)) (t : Ty) : ∀ (out : List ByteArray), freeD [] out (funs (ps.map (·.2)) t) = addS (ps.foldl (fun o p => addS o p.2.free) out) t.free := by
  induction ps with
  | nil => intro out; exact freeD_addS out t
  | cons p r ih =>
    intro out
    simp only [List.map_cons, funs, List.foldl_cons]
    rw [freeD_fn, ih, freeD_addS]
theorem scheme_vars (ps : List (ByteArray × Ty)) (t : Ty) : addS (varsK ps) t.free = (funs (ps.map (·.2)) t).free := by
  have h := varsK_funs ps t []
  rw [free_is] at h
  exact h.symm
theorem free_len (t : Ty) : t.free.length ≤ t.sz := by
  rw [← free_is]; have := freeD_len [] [] t; simpa using this
theorem varsK_len (ps : List (ByteArray × Ty)) : (varsK ps).length ≤ (ps.map (fun p => p.2.sz + 3)).sum := by
  have h : ∀ (ps : List (ByteArray × Ty)) (out : List ByteArray), (ps.foldl (fun o p => addS o p.2.free) out).length ≤ out.length + (ps.map (fun p => p.2.sz + 3)).sum := by
    intro ps
    induction ps with
    | nil => intro out; simp
    | cons p r ih =>
      intro out
      simp only [List.foldl_cons, List.map_cons, List.sum_cons]
      have h1 := ih (addS out p.2.free)
      have h2 := addS_len p.2.free out
      have h3 := free_len p.2
      omega
  have := h ps []
  simpa [varsK] using this
end Go.Proofs.YtbdfjboojokgdaaDoor
namespace Go.Proofs.YtbdfjboojokgdaaDoor
open Go.RowKit Lx

theorem run_append_zero (y : World) (ty : TypeId) (A A2 : Option Addr) (n c c2 : Nat) (hn : n ≤ c) : (Builtin.append_ #[28, 28] ty #[.slice A n c, .slice A2 0 c2]).run Tryd.prog y = .ok (.slice A n c) y := by
  obtain ⟨i0, hi, hz0, hzs, hzb⟩ := info_parts' Tryd.info9
  rcases A with _ | a <;> rcases A2 with _ | a2 <;> simp [Builtin.append_, run_underlying Tryd.underlying28, sizeOf, typeInfo, hi, Builtin.lenOf, Builtin.firstCells, hn, loadCells, loadCellsFrom, storeCells]
theorem readS_of {l : List UInt8} {toks : List Tok} {ps : List (ByteArray × Ty)} {t : Ty} {e : Tok} (hlex : lexL l = .ok toks) (hs : schemeRaw toks = .ok ps t [e]) (he : e.kind = 6) : readS l = .ok ps t [e] := by
  unfold readS
  rw [hlex]
  simp only
  rw [hs]
  simp only
  rw [if_pos he]
theorem psL_len (L : List (List UInt8 × List UInt8)) : (psL L).length = L.length := by simp [psL]
/-- Predicates ahead of a good type's print are read back. -/
theorem read_ctx {t : Ty} (zs : List Int) (k : Nat) (h : GoodT t) (hl : (ctxS zs k).data.toList.length + t.pr.length ≤ 4000) (hd : t.dep ≤ 40) (hk : k ≤ 16) : ∃ e, readS ((ctxS zs k).data.toList ++ t.pr) = .ok (psL (pairsZ zs k)) t [e] := by
  obtain ⟨ks, hlt, hpc, hn⟩ := h.rn.c
  have h0 := hlt [] (.inl rfl)
  have key : ∀ (KC : List (Nat × List UInt8)) (hC : LT (ctxS zs k).data.toList (t.pr ++ []) KC), (∀ tsC tsT e, tsC.map kt = KC → tsT.map kt = ks → e.kind = 6 → Txt (tsT ++ [e]) → schemeRaw (tsC ++ (tsT ++ [e])) = withP (psL (pairsZ zs k)) (typeL (tsT ++ [e]) 0)) → ∃ e, readS ((ctxS zs k).data.toList ++ t.pr) = .ok (psL (pairsZ zs k)) t [e] := fun KC hC hP => by
    obtain ⟨ts, e1, e2⟩ := LT.trans hC h0 0 _ (lexA_nil _)
    rw [List.append_nil] at e1
    generalize hlast : ({ kind := 6, text := [], num := 0, place := 0 + ((ctxS zs k).data.toList ++ t.pr).length } : Tok) = lt at *
    have hk6 : lt.kind = 6 := by rw [← hlast]
    have hs : isSym lt [45, 62] = false := by rw [← hlast]; rfl
    have hb : begT lt = false := by rw [← hlast]; rfl
    have hlex : lexL ((ctxS zs k).data.toList ++ t.pr) = .ok (ts ++ [lt]) := by unfold lexL; rw [if_neg (by rw [List.length_append]; omega)]; exact e1
    obtain ⟨tsC, tsT, rfl, e3, e4⟩ := List.map_eq_append_iff.1 e2
    have hty : typeL (tsT ++ [lt]) 0 = .ok t [lt] := typeL_ev ⟨tsT, lt, rfl, hk6⟩ (hpc tsT [lt] 0 e4 (by omega) ⟨lt, [], rfl, hb, hs⟩)
    have htx : Txt (tsT ++ [lt]) := fun x hx => lexL_texts hlex x (by rw [List.append_assoc]; exact List.mem_append_right _ hx)
    have hsc := hP tsC tsT lt e3 e4 hk6 htx
    rw [hty] at hsc
    rw [List.append_assoc] at hlex
    exact ⟨lt, readS_of hlex hsc hk6⟩
  have hsome : ∀ {l q : List Tok}, predsRaw l = some (psL (pairsZ zs k), q) → schemeRaw l = withP (psL (pairsZ zs k)) (typeL q 0) := fun {l q} hp => by
    unfold schemeRaw
    rw [hp]
    simp only
    rw [if_neg (by rw [psL_len, pairsZ_len]; omega)]
  by_cases hk0 : k = 0
  · subst hk0
    have e0 : (ctxS zs 0).data.toList = [] := rfl
    refine key [] (by rw [e0]; exact fun i r hr => ⟨[], by simpa using hr, rfl⟩) (fun tsC tsT e hC hT he hx => ?_)
    obtain rfl : tsC = [] := by simpa using hC
    unfold schemeRaw
    rw [List.nil_append, preds_none hT hn he hx]
    rfl
  by_cases hk1 : k = 1 ∧ zs.length % 2 = 0
  · obtain ⟨rfl, hz⟩ := hk1
    have hbytes : (ctxS zs 1).data.toList = (ctxB zs 1).data.toList ++ ([32] ++ ([61, 62] ++ [32])) := by
      unfold ctxS; rw [if_neg (by decide), if_pos ⟨rfl, hz⟩]; simp
    refine key (ksL (pairsZ zs 1) ++ [(4, [61, 62])]) ?_ (fun tsC tsT e hC hT he hx => ?_)
    · rw [hbytes]
      have h3 := LT.trans (LT.blank (([61, 62] ++ [32]) ++ (t.pr ++ []))) (LT.trans (LT.imp ([32] ++ (t.pr ++ []))) (LT.blank (t.pr ++ [])))
      have h4 := LT.trans (ctx_lt zs 1 (by decide) _ (end2_blank _)) h3
      simpa using h4
    · refine hsome ?_
      match tsC, hC with
      | [a, b, c], hC =>
        simp only [pairsZ, List.nil_append, ksL, List.cons_append, List.map_cons, List.map_nil, List.cons.injEq, and_true] at hC
        exact preds_one (p := (clsL (zs.getD 0 0), nmL (zs.getD 0 0))) hC.1 hC.2.1 hC.2.2
      | [], hC => simp [pairsZ, ksL] at hC
      | [_], hC => simp [pairsZ, ksL] at hC
      | [_, _], hC => simp [pairsZ, ksL] at hC
      | _ :: _ :: _ :: _ :: _, hC => simp [pairsZ, ksL] at hC
  · have hbytes : (ctxS zs k).data.toList = [40] ++ ((ctxB zs k).data.toList ++ ([41] ++ ([32] ++ ([61, 62] ++ [32])))) := by
      unfold ctxS; rw [if_neg hk0, if_neg hk1]; simp
    refine key ((4, [40]) :: (ksL (pairsZ zs k) ++ [(4, [41]), (4, [61, 62])])) ?_ (fun tsC tsT e hC hT he hx => ?_)
    · rw [hbytes]
      have h3 := LT.trans (LT.close (([32] ++ ([61, 62] ++ [32])) ++ (t.pr ++ []))) (LT.trans (LT.blank (([61, 62] ++ [32]) ++ (t.pr ++ []))) (LT.trans (LT.imp ([32] ++ (t.pr ++ []))) (LT.blank (t.pr ++ []))))
      have h4 := LT.trans (LT.open (((ctxB zs k).data.toList ++ ([41] ++ ([32] ++ ([61, 62] ++ [32])))) ++ (t.pr ++ []))) (LT.trans (ctx_lt zs k (by omega) _ (end2_close _)) h3)
      simpa using h4
    · refine hsome ?_
      match tsC, hC with
      | [], hC => simp at hC
      | a :: tsC, hC =>
        simp only [List.map_cons, List.cons.injEq] at hC
        obtain ⟨ha, hC⟩ := hC
        obtain ⟨tsL, tsE, rfl, e3, e4⟩ := List.map_eq_append_iff.1 hC
        match tsE, e4 with
        | [b, c], e4 =>
          simp only [List.map_cons, List.map_nil, List.cons.injEq, and_true] at e4
          have hne : pairsZ zs k ≠ [] := fun h => by have := pairsZ_len zs k; rw [h] at this; simp at this; omega
          have h9 := preds_brk (q := tsT ++ [e]) hne e3 ha e4.1 e4.2
          simpa using h9
        | [], e4 => simp at e4
        | [_], e4 => simp at e4
        | _ :: _ :: _ :: _, e4 => simp at e4
/-! ### Variables -/
theorem free_var (s : ByteArray) : (Ty.var s).free = [s] := by
  simp [Ty.free, layV, freeL, freeS, hasB]
theorem pairs_var (zs : List Int) : ∀ m, ∀ p ∈ psL (pairsZ zs m), ∃ s : ByteArray, s.size ≤ 8 ∧ p.2 = .var s
  | 0, p, h => by simp [pairsZ, psL] at h
  | i + 1, p, h => by
    have e : psL (pairsZ zs (i + 1)) = psL (pairsZ zs i) ++ psL [(clsL (zs.getD i 0), nmL (zs.getD i 0))] := by simp [psL, pairsZ]
    rw [e] at h
    rcases List.mem_append.1 h with h | h
    · exact pairs_var zs i p h
    · simp only [psL, List.map_cons, List.map_nil, List.mem_singleton] at h
      subst h
      refine ⟨_, ?_, rfl⟩
      rw [mkB_size]
      have h9 : ∀ x ∈ lowsL, x.length ≤ 8 := by decide
      exact h9 _ (nmL_low _)
theorem good_short {t : Ty} (h : GoodT t) : t.short := by
  have hl : ∀ x ∈ lowsL, x.length ≤ 8 := by decide
  have hu : ∀ x ∈ upsL, x.length ≤ 8 := by decide
  induction h with
  | var s h => have := hl _ h; show s.size ≤ _; have h2 : s.data.toList.length = s.size := rfl; omega
  | con s h => have := hu _ h; show s.size ≤ _; have h2 : s.data.toList.length = s.size := rfl; omega
  | fn a b ha hb iha ihb => exact ⟨⟨by show (⟨#[45, 62]⟩ : ByteArray).size ≤ _; decide, iha⟩, ihb⟩
  | app a b ha hb iha ihb => exact ⟨iha, ihb⟩
/-- What is asked for, behind so many predicates. -/
def wantK (ps : List (ByteArray × Ty)) : List ByteArray := ps.flatMap (fun p => p.2.free)
theorem wantK_take {ps : List (ByteArray × Ty)} {k : Nat} (h : k < ps.length) : wantK (ps.take (k + 1)) = wantK (ps.take k) ++ ps[k].2.free := by
  unfold wantK; rw [List.take_succ_eq_append_getElem h, List.flatMap_append]; simp
theorem mem_add1 {out : List ByteArray} {x y : ByteArray} : y ∈ add1 out x ↔ y ∈ out ∨ y = x := by
  unfold add1
  split
  · rename_i h
    exact ⟨.inl, fun h9 => by rcases h9 with h9 | rfl; exact h9; exact hasB_mem.1 h⟩
  · simp
theorem mem_addS {l : List ByteArray} : ∀ {out : List ByteArray} {y : ByteArray}, y ∈ addS out l ↔ y ∈ out ∨ y ∈ l := by
  induction l with
  | nil => intro out y; simp [addS]
  | cons a r ih =>
    intro out y
    show y ∈ addS (add1 out a) r ↔ _
    rw [ih, mem_add1]; simp [or_assoc]
theorem nodup_add1 {out : List ByteArray} {x : ByteArray} (h : out.Nodup) : (add1 out x).Nodup := by
  unfold add1
  split
  · exact h
  · rename_i hx
    rw [List.nodup_append]
    refine ⟨h, by simp, fun a ha b hb => ?_⟩
    rw [List.mem_singleton.1 hb]
    rintro rfl
    exact hx (hasB_mem.2 ha)
theorem nodup_addS {l : List ByteArray} : ∀ {out : List ByteArray}, out.Nodup → (addS out l).Nodup := by
  induction l with
  | nil => intro out h; exact h
  | cons a r ih => intro out h; exact ih (nodup_add1 h)
theorem mem_varsF {ps : List (ByteArray × Ty)} : ∀ {out : List ByteArray} {y : ByteArray}, y ∈ ps.foldl (fun o p => addS o p.2.free) out ↔ y ∈ out ∨ y ∈ wantK ps := by
  induction ps with
  | nil => intro out y; simp [wantK]
  | cons p r ih =>
    intro out y
    rw [List.foldl_cons, ih, mem_addS]
    simp [wantK, or_assoc]
theorem nodup_varsF {ps : List (ByteArray × Ty)} : ∀ {out : List ByteArray}, out.Nodup → (ps.foldl (fun o p => addS o p.2.free) out).Nodup := by
  induction ps with
  | nil => intro out h; exact h
  | cons p r ih => intro out h; exact ih (nodup_addS h)
theorem vars_mem (ps : List (ByteArray × Ty)) (t : Ty) (y : ByteArray) : y ∈ (funs (ps.map (·.2)) t).free ↔ y ∈ wantK ps ++ t.free := by
  rw [← scheme_vars, mem_addS]
  unfold varsK
  rw [mem_varsF]
  simp
theorem vars_nodup (ps : List (ByteArray × Ty)) (t : Ty) : (funs (ps.map (·.2)) t).free.Nodup := by
  rw [← scheme_vars]
  exact nodup_addS (nodup_varsF List.nodup_nil)
theorem nodup_take {l : List ByteArray} (h : l.Nodup) (i : Nat) (hi : i < l.length) : l[i] ∉ l.take i := by
  intro h9
  obtain ⟨j, hj, he⟩ := List.mem_iff_getElem.1 h9
  rw [List.getElem_take] at he
  rw [List.length_take] at hj
  exact List.pairwise_iff_getElem.1 h j i (by omega) hi (by omega) he
end Go.Proofs.YtbdfjboojokgdaaDoor
namespace Go.Proofs.YtbdfjboojokgdaaDoor
open Go.RowKit

theorem mk_size (x : List UInt8) : (⟨x.toArray⟩ : ByteArray).size = x.length := by show x.toArray.size = _; simp
theorem append_mk2 (a b : List UInt8) : (⟨a.toArray⟩ : ByteArray) ++ ⟨b.toArray⟩ = ⟨(a ++ b).toArray⟩ := by
  apply ByteArray.ext
  simp [ByteArray.data_append]
theorem ofNat_toNat (n : Nat) (h : n < 256) : (UInt8.ofNat n).toNat = n := by simp [UInt8.toNat_ofNat']; omega
/-- string([]byte{x}). -/
theorem convert_one (w : World) (x : Int) (h0 : 0 ≤ x) (h1 : x < 256) :
    (convert 123 9 (.slice (some ⟨w.heap.size, 0, none⟩) 1 1)).run Tryd.prog (w.alloc (.cells #[.int .u8 x] 5)) = .ok (.string ⟨#[UInt8.ofNat x.toNat]⟩) (w.alloc (.cells #[.int .u8 x] 5)) := by
  have hx : (((UInt8.ofNat x.toNat).toNat : Nat) : Int) = x := by rw [ofNat_toNat _ (by omega)]; omega
  refine run_convert_bytes_back (w.alloc (.cells #[.int .u8 x] 5)) 123 9 5 ⟨w.heap.size, 0, none⟩ 1 [UInt8.ofNat x.toNat] Tryd.underlying123 Tryd.underlying5 Tryd.underlying9 fun j hj => ?_
  obtain rfl : j = 0 := by simpa using hj
  simp only [List.getElem_cons_zero]
  rw [hx]
  simp [Addr.add, go_sem]
set_option maxRecDepth 100000 in
set_option maxHeartbeats 1000000 in
theorem decimal_one (n : Int) (w : World) (h0 : 0 ≤ n) (h1 : n < 10) : Calls Tryd.prog 77 #[.int .i64 n] w fun e w' => e = .returned (.string ⟨(Lib.decDigits n.toNat).toArray⟩) ∧ Below w.heap.size w w' := by
  have hcv := convert_one w (48 + n % 10) (by omega) (by omega)
  have b1 : decide (n < 10) = true := by simp; omega
  have HD : Hid (UInt8.ofNat (48 + n % 10).toNat = 48 + UInt8.ofNat (n.toNat) ∧ Lib.decDigits n.toNat = [UInt8.ofNat (48 + n % 10).toNat]) := by
    have hn : n = 0 ∨ n = 1 ∨ n = 2 ∨ n = 3 ∨ n = 4 ∨ n = 5 ∨ n = 6 ∨ n = 7 ∨ n = 8 ∨ n = 9 := by omega
    rcases hn with rfl | rfl | rfl | rfl | rfl | rfl | rfl | rfl | rfl | rfl <;> exact ⟨by decide, by rw [Lib.decDigits]; rfl⟩
  have HD2 := Lib.hid HD.out.2
  clear HD
  generalize UInt8.ofNat (48 + n % 10).toNat = c at *
  go_enter Tryd.func77, Tryd.ntmps77
  go_wp2
  go_ret
  exact ⟨by rw [HD2.out]; rfl, below_new w _⟩
set_option maxRecDepth 100000 in
set_option maxHeartbeats 1000000 in
theorem bracket_any (s : List UInt8) (c : Bool) (w : World) (h : s.length ≤ 1099511627776) : Calls Tryd.prog 76 #[.string ⟨s.toArray⟩, .bool c] w fun e w' => e = .returned (.string ⟨(if c then [40] ++ s ++ [41] else s).toArray⟩) ∧ w' = w := by
  have hs := mk_size s
  cases c with
  | false =>
    go_enter Tryd.func76, Tryd.ntmps76
    go_wp2
    go_ret
    exact ⟨rfl, rfl⟩
  | true =>
    have HE : Hid ((⟨#[40]⟩ : ByteArray) ++ ⟨s.toArray⟩ ++ ⟨#[41]⟩ = ⟨([40] ++ s ++ [41]).toArray⟩) := by
      show _ = _
      rw [← append_mk2, ← append_mk2]
    go_enter Tryd.func76, Tryd.ntmps76
    go_wp2
    go_ret
    exact ⟨by rw [HE.out]; rfl, rfl⟩
end Go.Proofs.YtbdfjboojokgdaaDoor
namespace Go.Proofs.YtbdfjboojokgdaaDoor
open Go.RowKit

/-- What the document's Print tells of a type. -/
def RefPr (P : Nat → Prop) (t : Ty) : Prop := ∀ (v : Value) (w : World), TyAt P w t v → Calls Tryd.prog 32 #[v] w fun e w' => e = .returned (.string ⟨t.pr.toArray⟩) ∧ Below w.heap.size w w'
/-- Numbers of one digit. -/
def Ty.ten : Ty → Prop
  | .hole n => 0 ≤ n ∧ n < 10
  | .app a b => a.ten ∧ b.ten
  | .all _ a => a.ten
  | _ => True
theorem bare_first (t : Ty) : (t.sides.isSome || (t.form == 5)) = decide (t.bare < 2) := by
  cases t with
  | app x b => cases hs : (Ty.app x b).sides <;> simp [Ty.bare, hs, Ty.form]
  | _ => simp [Ty.bare, Ty.form, Ty.sides]
theorem bare_right (t : Ty) : (t.form == 5) = decide (t.bare < 1) := by
  cases t with
  | app x b => cases hs : (Ty.app x b).sides <;> simp [Ty.bare, hs, Ty.form]
  | _ => simp [Ty.bare, Ty.form]
theorem bare_second (t : Ty) : ((t.form == 4) || (t.form == 5)) = decide (t.bare < 3) := by
  cases t with
  | app x b => cases hs : (Ty.app x b).sides <;> simp [Ty.bare, hs, Ty.form]
  | _ => simp [Ty.bare, Ty.form]
theorem brk_if (p : Nat) (t : Ty) (s : List UInt8) : (if decide (t.bare < p) = true then [40] ++ s ++ [41] else s) = brk p t s := by
  unfold brk; by_cases h : t.bare < p <;> simp [h]
set_option maxRecDepth 100000 in
set_option maxHeartbeats 1000000 in
theorem refprint_hole (P : Nat → Prop) (n : Int) (h0 : 0 ≤ n) (h1 : n < 10) : RefPr P (.hole n) := by
  intro v w h
  obtain ⟨A, c, rfl, _, _⟩ := h.form
  simp only [Ty.form, Ty.num, Ty.name, Ty.args, List.length_nil] at h ⊢
  have HF := Lib.hid (fun (w' : World) (hb : Below w.heap.size w w') => function_any P _ _ w' (h.on hb))
  have HD := Lib.hid (fun (w' : World) => decimal_one n w' h0 h1)
  have hl : (Lib.decDigits n.toNat).length ≤ 1 := by
    have hn : n = 0 ∨ n = 1 ∨ n = 2 ∨ n = 3 ∨ n = 4 ∨ n = 5 ∨ n = 6 ∨ n = 7 ∨ n = 8 ∨ n = 9 := by omega
    rcases hn with rfl | rfl | rfl | rfl | rfl | rfl | rfl | rfl | rfl | rfl <;> (rw [Lib.decDigits]; decide)
  have hz := mk_size (Lib.decDigits n.toNat)
  have HE : Hid ((⟨#[63]⟩ : ByteArray) ++ ⟨(Lib.decDigits n.toNat).toArray⟩ = ⟨(Ty.hole n).pr.toArray⟩) := by
    show _ = _
    rw [Ty.pr, ← append_mk2]
  obtain ⟨W, eW, q1, b1, z1⟩ := one_box w (.int .i64 1) (.int .i64 n) (.string ⟨#[]⟩) (.slice A 0 c) 25
  have HEW := Lib.hid eW
  have HQ := Lib.hid q1
  have HB := Lib.hid b1
  obtain ⟨x0, x1, x2, x3, x4, _⟩ := q1
  clear eW b1 h
  generalize Lib.decDigits n.toNat = D at *
  go_enter Tryd.func32, Tryd.ntmps32
  go_wp2_with fail
  rw [HEW.out]
  go_wp2_with fail
  refine (HF.out W HB.out).mono ?_
  rintro e y ⟨rfl, hb1⟩
  obtain ⟨y0, y1, y2, y3, y4, _⟩ := HQ.out.on hb1
  have hsd : (Ty.hole n).sides.isSome = false := rfl
  rw [hsd]
  go_wp2_with fail
  refine (HD.out _).mono ?_
  rintro e y2 ⟨rfl, hb2⟩
  go_wp2
  go_ret
  exact ⟨by rw [HE.out]; rfl, (HB.out.trans (hb1.mono HB.out.size)).trans (hb2.mono (by have := hb1.size; have := HB.out.size; omega))⟩
set_option maxRecDepth 100000 in
set_option maxHeartbeats 1000000 in
theorem refprint_name (P : Nat → Prop) (t : Ty) (s : ByteArray) (ht : t = .var s ∨ t = .con s) (hlen : t.pr.length ≤ 1099511627776) : RefPr P t := by
  intro v w h
  obtain ⟨A, c, rfl, _, _⟩ := h.form
  have hs : t.name = s ∧ t.num = 0 ∧ t.args = [] ∧ (t.form = 2 ∨ t.form = 3) ∧ t.sides.isSome = false := by
    rcases ht with rfl | rfl <;> simp [Ty.name, Ty.num, Ty.args, Ty.form, Ty.sides]
  have hsl : s.data.toList.length ≤ 1099511627776 := by
    rcases ht with rfl | rfl
    · exact hlen
    · rw [Ty.pr] at hlen
      split at hlen
      · rename_i ha
        have := (arrow_eq s).1 ha
        subst this
        decide
      · exact hlen
  have HE : Hid (t.pr = if ((t.form == 3) && (s.toList == [45, 62])) = true then [40] ++ s.data.toList ++ [41] else s.data.toList) := by
    show _ = _
    rcases ht with rfl | rfl
    · rfl
    · rw [Ty.pr, ← list_arrow]
      simp only [Ty.form, Ty.isArrow, beq_self_eq_true, Bool.true_and]
      split
      · rename_i ha
        have := (arrow_eq s).1 ha
        subst this; rfl
      · rename_i ha
        exact if_neg ha
  have HF := Lib.hid (fun (w' : World) (hb : Below w.heap.size w w') => function_any P _ _ w' (h.on hb))
  have HBR := Lib.hid (fun (c : Bool) (w' : World) => bracket_any s.data.toList c w' hsl)
  obtain ⟨e1, e2, e3, hf, e5⟩ := hs
  rw [e3, e1, e2] at HF
  rw [e3, e1, e2]
  rw [e5] at HF
  obtain ⟨W, eW, q1, b1, z1⟩ := one_box w (.int .i64 t.form) (.int .i64 0) (.string s) (.slice A 0 c) 25
  have HEW := Lib.hid eW
  have HQ := Lib.hid q1
  have HB := Lib.hid b1
  clear eW b1 h hlen q1 e1 e2 e3 e5 ht
  generalize t.pr = D at *
  generalize t.form = ff at *
  rcases hf with rfl | rfl
  · go_enter Tryd.func32, Tryd.ntmps32
    go_wp2_with fail
    rw [HEW.out]
    go_wp2_with fail
    refine (HF.out W HB.out).mono ?_
    rintro e y ⟨rfl, hb1⟩
    obtain ⟨y0, y1, y2, y3, y4, _⟩ := HQ.out.on hb1
    go_wp2_with fail
    refine (HBR.out false _).mono ?_
    rintro e y2 ⟨rfl, rfl⟩
    go_wp2
    go_ret
    exact ⟨by rw [HE.out]; rfl, HB.out.trans (hb1.mono HB.out.size)⟩
  · cases ha : s.toList == [45, 62]
    all_goals
      go_enter Tryd.func32, Tryd.ntmps32
      go_wp2_with fail
      rw [HEW.out]
      go_wp2_with fail
      refine (HF.out W HB.out).mono ?_
      rintro e y ⟨rfl, hb1⟩
      obtain ⟨y0, y1, y2, y3, y4, _⟩ := HQ.out.on hb1
      go_wp2_with fail
      refine (HBR.out _ _).mono ?_
      rintro e y2 ⟨rfl, rfl⟩
      go_wp2
      go_ret
      exact ⟨by rw [HE.out, ha]; rfl, HB.out.trans (hb1.mono HB.out.size)⟩
set_option maxRecDepth 100000 in
set_option maxHeartbeats 1000000 in
theorem refprint_all (P : Nat → Prop) (s : ByteArray) (a : Ty) (ih : RefPr P a) (hlen : (Ty.all s a).pr.length ≤ 1099511627776) : RefPr P (.all s a) := by
  intro v w h
  obtain ⟨sv, rfl, hs⟩ := h.tys
  have HF := Lib.hid (fun (w' : World) (hb : Below w.heap.size w w') => function_any P _ _ w' (h.on hb))
  simp only [Ty.form, Ty.num, Ty.name, Ty.args] at hs HF ⊢
  obtain ⟨A, c, rfl, _, _⟩ := hs.form
  obtain ⟨g, off, A3, c3, rfl, hPg, hgl, k0, k1, k2, k3, hx⟩ := hs.at 0 (by simp)
  simp only [List.getElem_cons_zero, Nat.zero_mul, Nat.add_zero, List.length_cons, List.length_nil, Nat.zero_add] at k0 k1 k2 k3 hx HF ⊢
  have HX := Lib.hid hx
  have HA := Lib.hid (fun (w' : World) (hb : Below w.heap.size w w') => ih _ w' (hx.on hb))
  rw [Ty.pr] at hlen
  simp only [List.length_append, List.length_cons, List.length_nil] at hlen
  have hz1 := mk_size a.pr
  have hz2 : s.size = s.data.toList.length := by show s.data.size = _; simp
  have HE : Hid ((⟨#[102, 111, 114, 97, 108, 108, 32]⟩ : ByteArray) ++ s ++ ⟨#[46, 32]⟩ ++ ⟨a.pr.toArray⟩ = ⟨(Ty.all s a).pr.toArray⟩) := by
    show _ = _
    rw [Ty.pr, ← append_mk2, ← append_mk2, ← append_mk2]
  have hsd : (Ty.all s a).sides.isSome = false := rfl
  rw [hsd] at HF
  obtain ⟨W, eW, q1, b1, z1⟩ := one_box w (.int .i64 5) (.int .i64 0) (.string s) (.slice (some ⟨g, off, none⟩) 1 c) 25
  have HEW := Lib.hid eW
  have HQ := Lib.hid q1
  have HB := Lib.hid b1
  clear eW b1 h hs hx q1 ih hsd
  have HK : Hid (∀ q : World, Below w.heap.size w q → q.cell? ⟨g, off, none⟩ = some (.int .i64 a.form) ∧ q.cell? ⟨g, off + 1, none⟩ = some (.int .i64 a.num) ∧ q.cell? ⟨g, off + 2, none⟩ = some (.string a.name) ∧ q.cell? ⟨g, off + 3, none⟩ = some (.slice A3 a.args.length c3)) := fun q hb =>
    ⟨(hb.cell (p := ⟨g, _, none⟩) hgl).trans k0, (hb.cell (p := ⟨g, _, none⟩) hgl).trans k1, (hb.cell (p := ⟨g, _, none⟩) hgl).trans k2, (hb.cell (p := ⟨g, _, none⟩) hgl).trans k3⟩
  generalize (Ty.all s a).pr = D at *
  generalize a.pr = E at *
  have ha1 : (⟨#[102, 111, 114, 97, 108, 108, 32]⟩ : ByteArray).size = 7 := rfl
  have ha2 : (⟨#[46, 32]⟩ : ByteArray).size = 2 := rfl
  have hd1 : ∀ q : World, (Op.stringOp .add ⟨#[102, 111, 114, 97, 108, 108, 32]⟩ s).run Tryd.prog q = .ok (.string (⟨#[102, 111, 114, 97, 108, 108, 32]⟩ ++ s)) q := fun q => run_string_add_sum q _ _ (by omega)
  have hd2 : ∀ q : World, (Op.stringOp .add (⟨#[102, 111, 114, 97, 108, 108, 32]⟩ ++ s) ⟨#[46, 32]⟩).run Tryd.prog q = .ok (.string (⟨#[102, 111, 114, 97, 108, 108, 32]⟩ ++ s ++ ⟨#[46, 32]⟩)) q := fun q => run_string_add_sum q _ _ (by rw [ByteArray.size_append]; omega)
  have hd3 : ∀ q : World, (Op.stringOp .add (⟨#[102, 111, 114, 97, 108, 108, 32]⟩ ++ s ++ ⟨#[46, 32]⟩) ⟨E.toArray⟩).run Tryd.prog q = .ok (.string (⟨#[102, 111, 114, 97, 108, 108, 32]⟩ ++ s ++ ⟨#[46, 32]⟩ ++ ⟨E.toArray⟩)) q := fun q => run_string_add_sum q _ _ (by rw [ByteArray.size_append, ByteArray.size_append]; omega)
  clear ha1 ha2
  generalize a.form = f1, a.num = n1, a.name = s1, a.args.length = l1 at *
  generalize s.data.toList.length = L at *
  clear k0 k1 k2 k3
  go_enter Tryd.func32, Tryd.ntmps32
  go_wp2_with fail
  rw [HEW.out]
  refine (HF.out W HB.out).mono ?_
  rintro e y ⟨rfl, hb1⟩
  have HB1 : Hid (Below w.heap.size w y) := HB.out.trans (hb1.mono HB.out.size)
  have HQ1 := Lib.hid (HQ.out.on hb1)
  clear hb1
  obtain ⟨y0, y1, y2, y3, y4, _⟩ := HQ1.out
  obtain ⟨k0, k1, k2, k3⟩ := HK.out y HB1.out
  have hyd : Below w.heap.size w y.drew := HB1.out.drew
  have keep : Hid (∀ q : World, Below y.heap.size y q → (q.cell? ⟨w.heap.size, 2, none⟩ = some (.string s) ∧ q.cell? ⟨w.heap.size, 3, none⟩ = some (.slice (some ⟨g, off, none⟩) 1 c)) ∧ (q.cell? ⟨g, off, none⟩ = some (.int .i64 f1) ∧ q.cell? ⟨g, off + 1, none⟩ = some (.int .i64 n1) ∧ q.cell? ⟨g, off + 2, none⟩ = some (.string s1) ∧ q.cell? ⟨g, off + 3, none⟩ = some (.slice A3 l1 c3))) := fun q hb => by
    obtain ⟨_, _, _, z3, z4, _⟩ := HQ1.out.on hb
    exact ⟨⟨z3, z4⟩, HK.out q (HB1.out.trans (hb.mono HB1.out.size))⟩
  have hS0 := keep.out y.drew (Below.refl _ y).drew
  go_wp2_with fail
  go_region_held3 (fun q => (q.cell? ⟨w.heap.size, 2, none⟩ = some (.string s) ∧ q.cell? ⟨w.heap.size, 3, none⟩ = some (.slice (some ⟨g, off, none⟩) 1 c)) ∧ (q.cell? ⟨g, off, none⟩ = some (.int .i64 f1) ∧ q.cell? ⟨g, off + 1, none⟩ = some (.int .i64 n1) ∧ q.cell? ⟨g, off + 2, none⟩ = some (.string s1) ∧ q.cell? ⟨g, off + 3, none⟩ = some (.slice A3 l1 c3))) (first | with_reducible exact hS0 | with_reducible exact hS1)
    (first | (go_at_call 32; (with_reducible refine (HA.out _ hyd).mono ?_); rintro e q1 ⟨rfl, hb1⟩; have hb2 : Below y.heap.size y q1 := (Below.refl _ y).drew.trans (hb1.mono (by simp)); have hS1 := keep.out q1 hb2))
  go_wp2
  go_ret
  exact ⟨by rw [HE.out]; rfl, HB1.out.trans (hb2.mono HB1.out.size)⟩
end Go.Proofs.YtbdfjboojokgdaaDoor
