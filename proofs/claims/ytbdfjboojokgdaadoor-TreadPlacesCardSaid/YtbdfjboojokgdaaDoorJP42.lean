/- The exact contract of the document's Texts (chapter 2): the texts are told by the numbers alone. Condition: the slice reads as numbers. Sources made of numbers (chapter 5's laws): what they are, that they are tokens, and the contract of source; what is read of tokens is not too great. Condition: the slice reads as numbers. -/
import Derived.Test.YtbdfjboojokgdaaDoorJP41
import Derived.Test.YtbdfjboojokgdaaDoorJP40
namespace Go.Proofs.YtbdfjboojokgdaaDoor.Lx
open Go.RowKit

def aroundI (n m : Int) : Int := if n < 0 then -((n + 1).tmod m) else n % m
theorem aroundI_bd (n m : Int) (hm : 0 < m) : 0 ≤ aroundI n m ∧ aroundI n m < m := by
  unfold aroundI
  split
  · constructor
    · have h := Int.tmod_nonneg (a := -(n + 1)) m (by omega)
      rw [Int.neg_tmod] at h; exact h
    · have h := Int.tmod_lt_of_pos (-(n + 1)) hm
      rw [Int.neg_tmod] at h; exact h
  · exact ⟨Int.emod_nonneg _ (by omega), Int.emod_lt_of_pos _ hm⟩
theorem ret_i64 {a b : Int} (h : a = b) : Ending.returned (.int .i64 a) = .returned (.int .i64 b) := by rw [h]
set_option maxHeartbeats 400000 in
theorem around_is (n m : Int) (w : World) (h1 : -9223372036854775808 ≤ n) (h2 : n ≤ 9223372036854775807) (hm : 0 < m) (hm' : m ≤ 9223372036854775807) :
    Calls Tryd.prog 36 #[.int .i64 n, .int .i64 m] w fun e w' => e = .returned (.int .i64 (aroundI n m)) ∧ w = w' := by
  by_cases hn : n < 0
  · have HE : Hid (aroundI n m = -((n + 1).tmod m)) := by show _ = _; unfold aroundI; rw [if_pos hn]
    go_enter Tryd.func36, Tryd.ntmps36
    go_wp2
    go_ret
    exact ⟨ret_i64 HE.out.symm, rfl⟩
  · have HE : Hid (aroundI n m = n % m) := by show _ = _; unfold aroundI; rw [if_neg hn]
    have hn0 : 0 ≤ n := by omega
    go_enter Tryd.func36, Tryd.ntmps36
    go_wp2
    go_ret
    exact ⟨ret_i64 HE.out.symm, rfl⟩

/-- A slice of numbers, told by a function. -/
def IntRowF (B : Nat) (w : World) (A : Option Addr) (len : Nat) (f : Nat → Int) : Prop :=
  len = 0 ∨ ∃ b off, A = some ⟨b, off, none⟩ ∧ b < B ∧ ∀ i, i < len → -9223372036854775808 ≤ f i ∧ f i ≤ 9223372036854775807 ∧ w.cell? ⟨b, off + i, none⟩ = some (.int .i64 (f i))
theorem intRowF_of {B : Nat} {w : World} {A : Option Addr} {len : Nat} (h : IntRow B w A len) : ∃ f, IntRowF B w A len f := by
  rcases h with h | ⟨b, off, e, hb, hc⟩
  · exact ⟨fun _ => 0, .inl h⟩
  · have hx : ∀ i, ∃ z : Int, i < len → -9223372036854775808 ≤ z ∧ z ≤ 9223372036854775807 ∧ w.cell? ⟨b, off + i, none⟩ = some (.int .i64 z) := by
      intro i
      by_cases hi : i < len
      · obtain ⟨z, hz⟩ := hc i hi; exact ⟨z, fun _ => hz⟩
      · exact ⟨0, fun h9 => absurd h9 hi⟩
    obtain ⟨f, hf⟩ := Classical.axiomOfChoice hx
    exact ⟨f, .inr ⟨b, off, e, hb, fun i hi => hf i hi⟩⟩
theorem IntRowF.row {B : Nat} {w : World} {A : Option Addr} {len : Nat} {f : Nat → Int} (h : IntRowF B w A len f) : IntRow B w A len := by
  rcases h with h | ⟨b, off, e, hb, hc⟩
  · exact .inl h
  · exact .inr ⟨b, off, e, hb, fun i hi => ⟨f i, hc i hi⟩⟩
theorem IntRowF.below {B X : Nat} {A : Option Addr} {len : Nat} {f : Nat → Int} {w w' : World} (h : IntRowF B w A len f) (hb : Below X w w') (hB : B ≤ X) : IntRowF B w' A len f := by
  rcases h with h | ⟨b, off, e, hlt, hc⟩
  · exact .inl h
  · exact .inr ⟨b, off, e, hlt, fun i hi => ⟨(hc i hi).1, (hc i hi).2.1, (hb.cell (p := ⟨b, off + i, none⟩) (by show b < X; omega)).trans (hc i hi).2.2⟩⟩
theorem IntRowF.mono {B B2 len : Nat} {A : Option Addr} {f : Nat → Int} {w : World} (h : IntRowF B w A len f) (hB : B ≤ B2) : IntRowF B2 w A len f := by
  rcases h with h | ⟨b, off, e, hlt, hc⟩
  · exact .inl h
  · exact .inr ⟨b, off, e, by omega, hc⟩

def textI (z : Int) : List UInt8 := (textsL[(aroundI z 34).toNat]?).getD []
def textsF (f : Nat → Int) (n : Nat) : List (List UInt8) := (List.range n).map (fun i => textI (f i))
theorem textI_mem (z : Int) : textI z ∈ textsL := by
  have hb := aroundI_bd z 34 (by omega)
  have hl : (aroundI z 34).toNat < textsL.length := by show _ < 34; omega
  unfold textI
  rw [List.getElem?_eq_getElem hl]
  exact List.getElem_mem hl
theorem textsF_mem (f : Nat → Int) (n : Nat) : ∀ x ∈ textsF f n, x ∈ textsL := by
  intro x hx
  obtain ⟨i, _, rfl⟩ := List.mem_map.1 hx
  exact textI_mem _
theorem textsF_len (f : Nat → Int) (n : Nat) : (textsF f n).length = n := by simp [textsF]
theorem textsF_succ (f : Nat → Int) (n : Nat) : textsF f (n + 1) = textsF f n ++ [textI (f n)] := by simp [textsF, List.range_succ]

/-- What Texts made. -/
def TextsMade (w : World) (strs : List (List UInt8)) (e : Ending) (w' : World) : Prop := ∃ v : Value, e = .returned v ∧ w'.ownsRow (w.heap.size + 1) 9 1 v strs.length (strs.map SV) ∧ Below w.heap.size w w'

set_option maxRecDepth 100000 in
set_option maxHeartbeats 1000000 in
theorem texts_is (A : Option Addr) (len cap : Nat) (f : Nat → Int) (w : World) (hr : IntRowF w.heap.size w A len f) (hlen : len ≤ 9223372036854775807) :
    Calls Tryd.prog 81 #[.slice A len cap] w (TextsMade w (textsF f (min len 30))) := by
  have HR := Lib.hid hr
  clear hr
  obtain ⟨j0, hj, hy0, hy1, hy2⟩ := info_parts Tryd.info9
  go_enter Tryd.func81, Tryd.ntmps81
  go_wp2
  have hN : Texts w.heap.size textsL (w.alloc (.cells (textsL.map (fun l => Value.string ⟨l.toArray⟩)).toArray 9)) := texts_new w textsL 9
  go_loopw [4, 5] (fun v i wr => ∃ k : Nat, k ≤ len ∧ k ≤ 30 ∧ i = .int .i64 k ∧ wr.ownsRow (w.heap.size + 1) 9 1 v (textsF f k).length ((textsF f k).map SV) ∧ Below (w.heap.size + 1) (w.alloc (.cells (textsL.map (fun l => Value.string ⟨l.toArray⟩)).toArray 9)) wr) (fun _ i _ => 30 - (intOf i).toNat)
  case atStart => exact ⟨0, Nat.zero_le _, by omega, rfl, World.ownsRow_nil _ _ _ _, Below.refl _ _⟩
  case round =>
    obtain ⟨k, hk, hk30, rfl, hown, hb⟩ := hrel
    have hsz : w.heap.size + 1 ≤ wr.heap.size := by have := hb.size; simpa using this
    have HBW : Hid (Below w.heap.size w wr) := ((Below.refl _ _).alloc (Nat.le_refl _) _).trans (hb.mono (by omega))
    have HT := Lib.hid (hN.below (w' := wr) (X := w.heap.size + 1) hb (Nat.lt_succ_self _))
    have HB := Lib.hid hb
    have hs30 : (textsF f k).length ≤ 30 := by rw [textsF_len]; exact hk30
    clear hN hb
    by_cases hlt : k < len
    · by_cases h30 : k < 30
      · obtain ⟨b, off, rfl, hbB, hc⟩ : ∃ b off, A = some ⟨b, off, none⟩ ∧ b < w.heap.size ∧ ∀ i, i < len → -9223372036854775808 ≤ f i ∧ f i ≤ 9223372036854775807 ∧ w.cell? ⟨b, off + i, none⟩ = some (.int .i64 (f i)) := by
          rcases HR.out with h0 | h0
          · omega
          · exact h0
        obtain ⟨z1, z2, hz⟩ := hc k hlt
        have hsn := textsF_succ f k
        have HSN := Lib.hid hsn
        have htI : textI (f k) = (textsL[(aroundI (f k) 34).toNat]?).getD [] := rfl
        have HTI := Lib.hid htI
        clear hsn htI
        generalize f k = z at *
        have hzr : wr.cell? ⟨b, off + k, none⟩ = some (.int .i64 z) := (HBW.out.cell (p := ⟨b, off + k, none⟩) hbB).trans hz
        clear hc hz
        have h30' : decide ((k : Int) < 30) = true := by simp; omega
        have hki : (k : Int) < (len : Int) := by omega
        have hk0 : (0 : Int) ≤ (k : Int) := by omega
        have hbd := aroundI_bd z 34 (by omega)
        go_wp2_with fail
        refine (around_is z 34 _ z1 z2 (by omega) (by omega)).mono ?_
        rintro e w' ⟨rfl, rfl⟩
        obtain ⟨q, hq⟩ := Int.eq_ofNat_of_zero_le hbd.1
        rw [hq] at hbd ⊢
        have hql : q < textsL.length := by show q < 34; omega
        have hcq := HT.out q hql
        have HT9 : Hid (textI z = textsL[q]) := by
          show _ = _
          rw [HTI.out, hq, show ((q : Int)).toNat = q from rfl, List.getElem?_eq_getElem hql]; rfl
        clear hq HTI
        generalize textsL[q] = t at *
        have hq0 : (0 : Int) ≤ (q : Int) := by omega
        have hq34 : (q : Int) < 34 := by omega
        clear hbd
        go_wp2_with (at_builtin; refine wpList_append_own _ rfl (.tmp 17) (.tmp 28) 28 rfl (w.heap.size + 1) 9 j0 (.string ⟨#[]⟩) 1 16 Tryd.underlying28 hj hy0 hy1 hy2 rfl (by decide) _ _ _ rfl (hown.alloc _) ⟨wr.heap.size, 0, none⟩ 1 1 [.string ⟨t.toArray⟩] rfl rfl (cell_one_new _ _ _) (one_str _) (by unfold maxLen; omega) (by omega) (by simp; omega) ?_; intro v' w2 hown2 hg2 _)
        have HB3 : Below (w.heap.size + 1) (w.alloc (.cells (textsL.map (fun l => Value.string ⟨l.toArray⟩)).toArray 9)) w2 := (HB.out.alloc hsz _).grown (row := u4.ownBlock) hg2 (by simp; omega) (fun x hx => (hown.lt x hx).1)
        have hown3 : w2.ownsRow (w.heap.size + 1) 9 1 v' (textsF f (k + 1)).length ((textsF f (k + 1)).map SV) := by
          rw [HSN.out, HT9.out, List.map_append, List.length_append]; exact hown2
        clear hown2 hg2
        go_roundw
        case rel => exact ⟨k + 1, by omega, by omega, by go_num, hown3, HB3⟩
        case measure => simp [intOf]; omega
      · have h30' : decide ((k : Int) < 30) = false := by simp; omega
        have hkm : min len 30 = k := by omega
        have HK := Lib.hid hkm
        clear hkm
        go_wp2
        go_ret
        exact ⟨_, rfl, by rw [HK.out]; exact hown, HBW.out⟩
    · have hd : decide (k < len) = false := by simpa using hlt
      have hkm : min len 30 = k := by omega
      have HK := Lib.hid hkm
      clear hkm
      go_wp2
      go_ret
      exact ⟨_, rfl, by rw [HK.out]; exact hown, HBW.out⟩
end Go.Proofs.YtbdfjboojokgdaaDoor.Lx
namespace Go.Proofs.YtbdfjboojokgdaaDoor
open Go.RowKit Lx

/-- Texts, a blank behind each. -/
def srcT (strs : List (List UInt8)) : List UInt8 := strs.flatMap (fun t => t ++ [32])
theorem srcT_cons (t : List UInt8) (r : List (List UInt8)) : srcT (t :: r) = t ++ ([32] ++ srcT r) := by simp [srcT]
theorem srcT_snoc (r : List (List UInt8)) (t : List UInt8) : srcT (r ++ [t]) = srcT r ++ t ++ [32] := by simp [srcT]
theorem srcT_len : ∀ (strs : List (List UInt8)), (∀ x ∈ strs, x ∈ textsL) → (srcT strs).length ≤ 11 * strs.length
  | [], _ => by simp [srcT]
  | t :: r, h => by
    have ih := srcT_len r (fun q hq => h q (List.mem_cons_of_mem _ hq))
    have h1 := texts_len t (h t (List.mem_cons_self ..))
    rw [srcT_cons]; simp; omega
theorem lexA_srcT : ∀ (strs : List (List UInt8)), (∀ x ∈ strs, x ∈ textsL) → ∀ i, ∃ L, lexA (srcT strs) i = .ok L
  | [], _, i => ⟨_, rfl⟩
  | t :: r, h, i => by
    obtain ⟨L, hL⟩ := lexA_srcT r (fun q hq => h q (List.mem_cons_of_mem _ hq)) (i + t.length + 1)
    rw [srcT_cons]
    have hb : lexA ([32] ++ srcT r) (i + t.length) = .ok L := (lexA_gap [32] (srcT r) (by simp [gapsL]) (i + t.length)).trans hL
    exact ⟨_, lexA_text t ([32] ++ srcT r) (h t (List.mem_cons_self ..)) (.inr ⟨32, srcT r, rfl, .inl rfl⟩) i L hb⟩
theorem lexL_srcT {strs : List (List UInt8)} (h : ∀ x ∈ strs, x ∈ textsL) (hn : strs.length ≤ 30) : ∃ L, lexL (srcT strs) = .ok L := by
  obtain ⟨L, hL⟩ := lexA_srcT strs h 0
  have := srcT_len strs h
  exact ⟨L, by unfold lexL; rw [if_neg (by omega)]; exact hL⟩
/-! ### What is read is not too great -/
theorem lexF_texts : ∀ (f : Nat) (l : List UInt8) (i : Nat) (r : List Tok), lexF f l i = .ok r → ∀ t ∈ r, t.text.length ≤ l.length
  | 0, l, i, r, h => by
    simp only [lexF, Except.ok.injEq] at h
    subst h
    intro t ht; simp at ht; subst ht; exact Nat.zero_le _
  | f + 1, l, i, r, h => by
    simp only [lexF] at h
    split at h
    · simp only [Except.ok.injEq] at h
      subst h
      intro t ht; simp at ht; subst ht; exact Nat.zero_le _
    · split at h
      · intro t ht
        have := lexF_texts f _ _ _ h t ht
        rw [List.length_drop] at this; omega
      · split at h
        · cases h
        · rename_i k x n ho
          cases hr : lexF f (l.drop x.length) (i + x.length) with
          | error e => rw [hr] at h; cases h
          | ok q =>
            rw [hr] at h
            simp only [Except.map, Except.ok.injEq] at h
            subst h
            intro t ht
            rcases List.mem_cons.1 ht with rfl | ht
            · exact (oneT_len ho).2
            · have := lexF_texts f _ _ _ hr t ht
              rw [List.length_drop] at this; omega
theorem lexL_texts {l : List UInt8} {r : List Tok} (h : lexL l = .ok r) : ∀ t ∈ r, t.text.length ≤ 4000 := by
  unfold lexL at h
  split at h
  · cases h
  · intro t ht
    have := lexF_texts _ _ _ _ h t ht
    omega
def Txt (l : List Tok) : Prop := ∀ t ∈ l, t.text.length ≤ 4000
theorem Txt.suf {l q : List Tok} (h : Txt l) (hs : q <:+ l) : Txt q := fun t ht => h t (hs.subset ht)
theorem mkB_size (l : List UInt8) : (mkB l).size = l.length := by unfold mkB; simp [ByteArray.size]
theorem short_all : ∀ n : Nat, (∀ l o t q, Txt l → atomN n l o = some (.ok t q) → t.short) ∧ (∀ x l o t q, Txt l → x.short → appsN n x l o = some (.ok t q) → t.short) ∧ (∀ l o t q, Txt l → typeN n l o = some (.ok t q) → t.short)
  | 0 => ⟨fun _ _ _ _ _ h => by simp [atomN] at h, fun _ _ _ _ _ _ _ h => by simp [appsN] at h, fun _ _ _ _ _ h => by simp [typeN] at h⟩
  | n + 1 => by
    obtain ⟨iha, ihp, iht⟩ := short_all n
    have sf := suff_all n
    refine ⟨fun l o t q hx h => ?_, fun x l o t q hx hs h => ?_, fun l o t q hx h => ?_⟩
    · match l, hx, h with
      | [], hx, h => simp [atomN] at h
      | c :: r, hx, h =>
        have hc := hx c (List.mem_cons_self ..)
        have hr : Txt r := hx.suf (List.suffix_cons _ _)
        simp only [atomN] at h
        split at h
        · injection h with h; injection h with h1 h2; subst h1; show (mkB c.text).size ≤ _; rw [mkB_size]; omega
        · split at h
          · injection h with h; injection h with h1 h2; subst h1; show (mkB c.text).size ≤ _; rw [mkB_size]; omega
          · split at h
            · injection h with h; cases h
            · split at h
              · injection h with h; cases h
              · split at h
                · rename_i x d s he
                  split at h
                  · injection h with h; injection h with h1 h2; subst h1; exact iht _ _ _ _ hr he
                  · injection h with h; cases h
                · cases h
                · injection h with h; cases h
                · cases h
    · match l, hx, h with
      | [], hx, h => simp [appsN] at h
      | c :: r, hx, h =>
        simp only [appsN] at h
        split at h
        · split at h
          · rename_i a s he
            exact ihp (.app x a) s o t q (hx.suf (sf.1 _ _ _ _ he).1) ⟨hs, iha _ _ _ _ hx he⟩ h
          · injection h with h; cases h
          · cases h
        · injection h with h; injection h with h1 h2; subst h1; exact hs
    · simp only [typeN] at h
      split at h
      · rename_i x s he
        have h1 := iha _ _ _ _ hx he
        have hs := hx.suf (sf.1 _ _ _ _ he).1
        split at h
        · rename_i y d u hp
          have h2 := ihp _ _ _ _ _ hs h1 hp
          have hu : Txt u := (hs.suf (sf.2.1 _ _ _ _ _ hp).1).suf (List.suffix_cons _ _)
          split at h
          · split at h
            · rename_i z u' ht
              injection h with h; injection h with h3 h4; subst h3
              exact ⟨⟨by show (⟨#[45, 62]⟩ : ByteArray).size ≤ _; decide, h2⟩, iht _ _ _ _ hu ht⟩
            · injection h with h; cases h
            · cases h
          · injection h with h; injection h with h3 h4; subst h3; exact h2
        · cases h
        · injection h with h; cases h
        · cases h
      · injection h with h; cases h
      · cases h
theorem atomL_short {l q : List Tok} {o : Nat} {t : Ty} (hE : EndsT l) (hx : Txt l) (h : atomL l o = .ok t q) : t.short := (short_all _).1 l o t q hx ((atomL_is hE o).trans (by rw [h]))
theorem typeL_short {l q : List Tok} {o : Nat} {t : Ty} (hE : EndsT l) (hx : Txt l) (h : typeL l o = .ok t q) : t.short := (short_all _).2.2 l o t q hx ((typeL_is hE o).trans (by rw [h]))
theorem predL_fit (M : Nat) : ∀ (n : Nat) (l : List Tok) (o : Nat) (acc ps : List (ByteArray × Ty)) (q : List Tok), EndsT l → Txt l → l.length ≤ M → predL n l o acc = some (ps, q) → (∀ p ∈ acc, p.2.short ∧ p.2.sz ≤ 4 * M) → (∀ p ∈ ps, p.2.short ∧ p.2.sz ≤ 4 * M) ∧ q <:+ l
  | 0, _, _, _, _, _, _, _, _, h, _ => by simp [predL] at h
  | n + 1, [], _, _, _, _, _, _, _, h, _ => by simp [predL] at h
  | n + 1, t :: r, o, acc, ps, q, hE, hx, hl, h, ha => by
    simp only [predL] at h
    split at h
    · rename_i hk
      have hEr : EndsT r := hE.tail (by omega)
      have hxr : Txt r := hx.suf (List.suffix_cons _ _)
      split at h
      · rename_i x c s he
        have hok := atomL_ok hEr he
        have hacc : ∀ p ∈ acc ++ [(mkB t.text, x)], p.2.short ∧ p.2.sz ≤ 4 * M := fun p hp => by
          rcases List.mem_append.1 hp with hp | hp
          · exact ha p hp
          · rw [List.mem_singleton.1 hp]
            simp only [List.length_cons] at hl
            exact ⟨atomL_short hEr hxr he, by have := hok.2.2.2; simp only; omega⟩
        have hsx : (c :: s) <:+ t :: r := hok.2.1.trans (List.suffix_cons _ _)
        split at h
        · injection h with h; injection h with h1 h2; subst h1 h2
          exact ⟨hacc, hsx⟩
        · rename_i hcm
          have hc : isSym c [44] = true := by
            cases hq : isSym c [44] with
            | true => rfl
            | false => exact absurd (.inr hq) hcm
          have h9 := predL_fit M n s o _ ps q (hok.1.tail (sym_kind hc)) ((hx.suf hsx).suf (List.suffix_cons _ _)) (by have := hok.2.1.length_le; simp only [List.length_cons] at this hl; omega) h hacc
          exact ⟨h9.1, (h9.2.trans (List.suffix_cons _ _)).trans hsx⟩
      · cases h
    · cases h
theorem predsRaw_fit {l : List Tok} {ps : List (ByteArray × Ty)} {q : List Tok} (hE : EndsT l) (hx : Txt l) (h : predsRaw l = some (ps, q)) : (∀ p ∈ ps, p.2.short ∧ p.2.sz ≤ 4 * l.length) ∧ q <:+ l := by
  unfold predsRaw at h
  match l, hE, hx, h with
  | [], hE, _, _ => exact absurd rfl hE.ne
  | t :: r, hE, hx, h =>
    simp only at h
    split at h
    · rename_i hs
      cases hp : predL r.length r 1 [] with
      | none => rw [hp] at h; cases h
      | some o =>
        obtain ⟨ps', q'⟩ := o
        rw [hp] at h
        have h9 := predL_fit (t :: r).length _ _ _ _ ps' q' (hE.tail (sym_kind hs)) (hx.suf (List.suffix_cons _ _)) (by simp) hp (fun p hp => by cases hp)
        match q', h, h9 with
        | [], h, _ => simp [tailP] at h
        | [c], h, _ => simp [tailP] at h
        | c :: d :: q2, h, h9 =>
          simp only [tailP, if_true] at h
          split at h
          · injection h with h; injection h with h1 h2; subst h1 h2
            exact ⟨h9.1, (((List.suffix_cons _ _).trans (List.suffix_cons _ _)).trans h9.2).trans (List.suffix_cons _ _)⟩
          · cases h
    · cases hp : predL (r.length + 1) (t :: r) 0 [] with
      | none => rw [hp] at h; cases h
      | some o =>
        obtain ⟨ps', q'⟩ := o
        rw [hp] at h
        have h9 := predL_fit (t :: r).length _ _ _ _ ps' q' hE hx (Nat.le_refl _) hp (fun p hp => by cases hp)
        match q', h, h9 with
        | [], h, _ => simp [tailP] at h
        | c :: q2, h, h9 =>
          simp only [tailP, Bool.false_eq_true, if_false] at h
          split at h
          · injection h with h; injection h with h1 h2; subst h1 h2
            exact ⟨h9.1, (List.suffix_cons _ _).trans h9.2⟩
          · cases h
theorem sum_fit (M : Nat) : ∀ (ps : List (ByteArray × Ty)), (∀ p ∈ ps, p.2.sz ≤ M) → (ps.map (fun p => p.2.sz + 3)).sum ≤ ps.length * (M + 3)
  | [], _ => by simp
  | p :: r, h => by
    have ih := sum_fit M r (fun q hq => h q (List.mem_cons_of_mem _ hq))
    have h1 := h p (List.mem_cons_self ..)
    simp only [List.map_cons, List.sum_cons, List.length_cons, Nat.add_mul, Nat.one_mul]
    omega
/-- What is read of a scheme is not too great. -/
theorem scheme_fit {l : List Tok} (hE : EndsT l) (hx : Txt l) (hl : l.length ≤ 4001) (ps : List (ByteArray × Ty)) (t : Ty) (r : List Tok) (h : schemeRaw l = .ok ps t r) : ((∀ p ∈ ps, p.2.short) ∧ t.short ∧ (funs (ps.map (·.2)) t).sz ≤ 274877906944) ∧ ps.length ≤ 16 := by
  unfold schemeRaw at h
  have key : ∀ (q : List Tok), q <:+ l → EndsT q → (∀ p ∈ ps, p.2.short ∧ p.2.sz ≤ 4 * l.length) → ps.length ≤ 16 → typeL q 0 = .ok t r → ((∀ p ∈ ps, p.2.short) ∧ t.short ∧ (funs (ps.map (·.2)) t).sz ≤ 274877906944) ∧ ps.length ≤ 16 := fun q hq hEq hp h16 ht => by
    have h1 := (typeL_ok hEq ht).2.2.2
    have h2 := hq.length_le
    have h3 := sum_fit (4 * l.length) ps (fun p hp' => (hp p hp').2)
    have h4 : ps.length * (4 * l.length + 3) ≤ 16 * (4 * 4001 + 3) := Nat.mul_le_mul h16 (by omega)
    refine ⟨⟨fun p hp' => (hp p hp').1, typeL_short hEq (hx.suf hq) ht, ?_⟩, h16⟩
    rw [sum_psz]; omega
  cases ho : predsRaw l with
  | none =>
    rw [ho] at h
    simp only at h
    cases ht : typeL l 0 with
    | no e p => rw [ht] at h; cases h
    | ok x s =>
      rw [ht] at h
      injection h with h1 h2 h3
      subst h1 h2 h3
      exact key l (List.suffix_refl _) hE (fun p hp => by cases hp) (by simp) ht
  | some o =>
    obtain ⟨ps', q⟩ := o
    rw [ho] at h
    simp only at h
    split at h
    · cases h
    · rename_i h16
      cases ht : typeL q 0 with
      | no e p => rw [ht] at h; cases h
      | ok x s =>
        rw [ht] at h
        injection h with h1 h2 h3
        subst h1 h2 h3
        have hf := predsRaw_fit hE hx ho
        exact key q hf.2 (predsRaw_ends hE ho).2 hf.1 (by omega) ht
theorem append_mkS (a b : List UInt8) : (⟨a.toArray⟩ : ByteArray) ++ ⟨b.toArray⟩ = ⟨(a ++ b).toArray⟩ := by
  apply ByteArray.ext
  simp [ByteArray.data_append]
theorem mkS_size (x : List UInt8) : (⟨x.toArray⟩ : ByteArray).size = x.length := by show x.toArray.size = _; simp
theorem srcT_take {strs : List (List UInt8)} {k : Nat} (h : k < strs.length) : srcT (strs.take (k + 1)) = srcT (strs.take k) ++ strs[k] ++ [32] := by
  rw [List.take_succ_eq_append_getElem h, srcT_snoc]
set_option maxRecDepth 100000 in
set_option maxHeartbeats 1000000 in
theorem sourceT_any (A : Option Addr) (len cap : Nat) (f : Nat → Int) (w : World) (hr : IntRowF w.heap.size w A len f) (hlen : len ≤ 9223372036854775807) :
    Calls Tryd.prog 34 #[.slice A len cap] w fun e w' => e = .returned (.string ⟨(srcT (textsF f (min len 30))).toArray⟩) ∧ Below w.heap.size w w' := by
  have HTX := Lib.hid (texts_is A len cap f w hr hlen)
  have hmem := textsF_mem f (min len 30)
  have hln : (textsF f (min len 30)).length ≤ 30 := by rw [textsF_len]; omega
  have HMEM := Lib.hid hmem
  clear hr hmem
  generalize textsF f (min len 30) = strs at *
  go_enter Tryd.func34, Tryd.ntmps34
  go_wp2_with fail
  refine HTX.out.mono ?_
  rintro e y ⟨v, rfl, ho, hb⟩
  obtain ⟨As, cs, rfl, hrow⟩ := strRow_of_own ho
  have HROW := Lib.hid hrow
  have HB := Lib.hid hb
  clear ho hrow hb
  go_wp2_with fail
  go_loopw [4, 5] (fun o i wr => ∃ k : Nat, k ≤ strs.length ∧ i = .int .i64 k ∧ o = .string ⟨(srcT (strs.take k)).toArray⟩ ∧ wr = y) (fun _ i _ => strs.length - (intOf i).toNat)
  case atStart => exact ⟨0, Nat.zero_le _, rfl, rfl, rfl⟩
  case round =>
    obtain ⟨k, hk, rfl, rfl, rfl⟩ := hrel
    by_cases hlt : k < strs.length
    · rcases HROW.out with h9 | ⟨g, rfl, hg, hc⟩
      · rw [h9] at hlt; simp at hlt
      have h9 := hc k hlt
      unfold SV at h9
      have htl := texts_len _ (HMEM.out _ (List.getElem_mem hlt))
      have hsl := srcT_len (strs.take k) (fun x hx => HMEM.out x (List.mem_of_mem_take hx))
      rw [List.length_take] at hsl
      have hst := srcT_take hlt
      have hNX : (⟨(srcT (strs.take (k + 1))).toArray⟩ : ByteArray) = ⟨(srcT (strs.take k)).toArray⟩ ++ ⟨strs[k].toArray⟩ ++ ⟨#[32]⟩ := by
        rw [hst, append_mkS]
        exact (append_mkS _ [32]).symm
      have HNX := Lib.hid hNX
      have hz1 := mkS_size (srcT (strs.take k))
      have hz2 := mkS_size strs[k]
      generalize (⟨(srcT (strs.take k)).toArray⟩ : ByteArray) = S1 at *
      generalize (⟨strs[k].toArray⟩ : ByteArray) = S2 at *
      have hs1 : S1.size ≤ 330 := by omega
      have hs2 : S2.size ≤ 10 := by omega
      have hd1 : ∀ q : World, (Op.stringOp .add S1 S2).run Tryd.prog q = .ok (.string (S1 ++ S2)) q := fun q => run_string_add_sum q _ _ (by omega)
      have hd2 : ∀ q : World, (Op.stringOp .add (S1 ++ S2) ⟨#[32]⟩).run Tryd.prog q = .ok (.string (S1 ++ S2 ++ ⟨#[32]⟩)) q := fun q => run_string_add_sum q _ _ (by rw [ByteArray.size_append]; show _ + 1 ≤ _; omega)
      have hki : (k : Int) < (strs.length : Int) := by omega
      have hk0 : (0 : Int) ≤ (k : Int) := by omega
      clear hst hNX hz1 hz2 htl hsl hc
      go_wp2
      go_roundw
      case rel => exact ⟨k + 1, by omega, by go_num, by rw [HNX.out], by first | rfl | trivial⟩
      case measure => simp [intOf]; omega
    · have hd : decide (k < strs.length) = false := by simpa using hlt
      have hkl : strs.take k = strs := List.take_of_length_le (by omega)
      have HKL := Lib.hid hkl
      clear hkl
      go_wp2
      go_ret
      exact ⟨by show Ending.returned (Value.string ⟨(srcT (strs.take k)).toArray⟩) = _; rw [HKL.out], HB.out⟩
end Go.Proofs.YtbdfjboojokgdaaDoor
