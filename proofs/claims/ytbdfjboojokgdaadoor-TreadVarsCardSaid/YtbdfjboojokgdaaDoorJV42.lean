/- Sources made of numbers (chapter 5's laws): what they are, that they are tokens, and the contract of source; what is read of tokens is not too great. Condition: the slice reads as numbers. Plain mathematics of chapter 5 (P5.1): predicates made of numbers, ahead of a good type's print, are read back as they were made. No program, no world. -/
import Derived.Test.YtbdfjboojokgdaaDoorJV32
import Derived.Test.YtbdfjboojokgdaaDoorJV41
import Derived.Test.YtbdfjboojokgdaaDoorJV39
import Derived.Test.YtbdfjboojokgdaaDoorJV40
namespace Go.Proofs.YtbdfjboojokgdaaDoor
open Go.RowKit Lx

/-- Texts, a blank behind each. -/
def srcT (strs : List (List UInt8)) : List UInt8 := strs.flatMap (fun t => t ++ [32])
theorem srcT_cons (t : List UInt8) (r : List (List UInt8)) : srcT (t :: r) = t ++ ([32] ++ srcT r) := by simp [srcT]
theorem srcT_snoc (r : List (List UInt8)) (t : List UInt8) : srcT (r ++ [t]) = srcT r ++ t ++ [32] := by simp [srcT]
theorem srcT_len : ∀ (strs : List (List UInt8)), (∀ x ∈ strs, x ∈ textsL) → (srcT strs).length ≤ 11 * strs.length
  | [], _ => by simp [srcT]
  | t :: r, h => by
    have ih := srcT_len r (fun q hq => h q (List.mem_cons_of_mem _ hq))
    have h1 := texts_len t (h t (List.mem_cons_self ..))
    rw [srcT_cons]; simp; omega
theorem lexA_srcT : ∀ (strs : List (List UInt8)), (∀ x ∈ strs, x ∈ textsL) → ∀ i, ∃ L, lexA (srcT strs) i = .ok L
  | [], _, i => ⟨_, rfl⟩
  | t :: r, h, i => by
    obtain ⟨L, hL⟩ := lexA_srcT r (fun q hq => h q (List.mem_cons_of_mem _ hq)) (i + t.length + 1)
    rw [srcT_cons]
    have hb : lexA ([32] ++ srcT r) (i + t.length) = .ok L := (lexA_gap [32] (srcT r) (by simp [gapsL]) (i + t.length)).trans hL
    exact ⟨_, lexA_text t ([32] ++ srcT r) (h t (List.mem_cons_self ..)) (.inr ⟨32, srcT r, rfl, .inl rfl⟩) i L hb⟩
theorem lexL_srcT {strs : List (List UInt8)} (h : ∀ x ∈ strs, x ∈ textsL) (hn : strs.length ≤ 30) : ∃ L, lexL (srcT strs) = .ok L := by
  obtain ⟨L, hL⟩ := lexA_srcT strs h 0
  have := srcT_len strs h
  exact ⟨L, by unfold lexL; rw [if_neg (by omega)]; exact hL⟩
/-! ### What is read is not too great -/
theorem lexF_texts : ∀ (f : Nat) (l : List UInt8) (i : Nat) (r : List Tok), lexF f l i = .ok r → ∀ t ∈ r, t.text.length ≤ l.length
  | 0, l, i, r, h => by
    simp only [lexF, Except.ok.injEq] at h
    subst h
    intro t ht; simp at ht; subst ht; exact Nat.zero_le _
  | f + 1, l, i, r, h => by
    simp only [lexF] at h
    split at h
    · simp only [Except.ok.injEq] at h
      subst h
      intro t ht; simp at ht; subst ht; exact Nat.zero_le _
    · split at h
      · intro t ht
        have := lexF_texts f _ _ _ h t ht
        rw [List.length_drop] at this; omega
      · split at h
        · cases h
        · rename_i k x n ho
          cases hr : lexF f (l.drop x.length) (i + x.length) with
          | error e => rw [hr] at h; cases h
          | ok q =>
            rw [hr] at h
            simp only [Except.map, Except.ok.injEq] at h
            subst h
            intro t ht
            rcases List.mem_cons.1 ht with rfl | ht
            · exact (oneT_len ho).2
            · have := lexF_texts f _ _ _ hr t ht
              rw [List.length_drop] at this; omega
theorem lexL_texts {l : List UInt8} {r : List Tok} (h : lexL l = .ok r) : ∀ t ∈ r, t.text.length ≤ 4000 := by
  unfold lexL at h
  split at h
  · cases h
  · intro t ht
    have := lexF_texts _ _ _ _ h t ht
    omega
def Txt (l : List Tok) : Prop := ∀ t ∈ l, t.text.length ≤ 4000
theorem Txt.suf {l q : List Tok} (h : Txt l) (hs : q <:+ l) : Txt q := fun t ht => h t (hs.subset ht)
theorem mkB_size (l : List UInt8) : (mkB l).size = l.length := by unfold mkB; simp [ByteArray.size]
theorem short_all : ∀ n : Nat, (∀ l o t q, Txt l → atomN n l o = some (.ok t q) → t.short) ∧ (∀ x l o t q, Txt l → x.short → appsN n x l o = some (.ok t q) → t.short) ∧ (∀ l o t q, Txt l → typeN n l o = some (.ok t q) → t.short)
  | 0 => ⟨fun _ _ _ _ _ h => by simp [atomN] at h, fun _ _ _ _ _ _ _ h => by simp [appsN] at h, fun _ _ _ _ _ h => by simp [typeN] at h⟩
  | n + 1 => by
    obtain ⟨iha, ihp, iht⟩ := short_all n
    have sf := suff_all n
    refine ⟨fun l o t q hx h => ?_, fun x l o t q hx hs h => ?_, fun l o t q hx h => ?_⟩
    · match l, hx, h with
      | [], hx, h => simp [atomN] at h
      | c :: r, hx, h =>
        have hc := hx c (List.mem_cons_self ..)
        have hr : Txt r := hx.suf (List.suffix_cons _ _)
        simp only [atomN] at h
        split at h
        · injection h with h; injection h with h1 h2; subst h1; show (mkB c.text).size ≤ _; rw [mkB_size]; omega
        · split at h
          · injection h with h; injection h with h1 h2; subst h1; show (mkB c.text).size ≤ _; rw [mkB_size]; omega
          · split at h
            · injection h with h; cases h
            · split at h
              · injection h with h; cases h
              · split at h
                · rename_i x d s he
                  split at h
                  · injection h with h; injection h with h1 h2; subst h1; exact iht _ _ _ _ hr he
                  · injection h with h; cases h
                · cases h
                · injection h with h; cases h
                · cases h
    · match l, hx, h with
      | [], hx, h => simp [appsN] at h
      | c :: r, hx, h =>
        simp only [appsN] at h
        split at h
        · split at h
          · rename_i a s he
            exact ihp (.app x a) s o t q (hx.suf (sf.1 _ _ _ _ he).1) ⟨hs, iha _ _ _ _ hx he⟩ h
          · injection h with h; cases h
          · cases h
        · injection h with h; injection h with h1 h2; subst h1; exact hs
    · simp only [typeN] at h
      split at h
      · rename_i x s he
        have h1 := iha _ _ _ _ hx he
        have hs := hx.suf (sf.1 _ _ _ _ he).1
        split at h
        · rename_i y d u hp
          have h2 := ihp _ _ _ _ _ hs h1 hp
          have hu : Txt u := (hs.suf (sf.2.1 _ _ _ _ _ hp).1).suf (List.suffix_cons _ _)
          split at h
          · split at h
            · rename_i z u' ht
              injection h with h; injection h with h3 h4; subst h3
              exact ⟨⟨by show (⟨#[45, 62]⟩ : ByteArray).size ≤ _; decide, h2⟩, iht _ _ _ _ hu ht⟩
            · injection h with h; cases h
            · cases h
          · injection h with h; injection h with h3 h4; subst h3; exact h2
        · cases h
        · injection h with h; cases h
        · cases h
      · injection h with h; cases h
      · cases h
theorem atomL_short {l q : List Tok} {o : Nat} {t : Ty} (hE : EndsT l) (hx : Txt l) (h : atomL l o = .ok t q) : t.short := (short_all _).1 l o t q hx ((atomL_is hE o).trans (by rw [h]))
theorem typeL_short {l q : List Tok} {o : Nat} {t : Ty} (hE : EndsT l) (hx : Txt l) (h : typeL l o = .ok t q) : t.short := (short_all _).2.2 l o t q hx ((typeL_is hE o).trans (by rw [h]))
theorem predL_fit (M : Nat) : ∀ (n : Nat) (l : List Tok) (o : Nat) (acc ps : List (ByteArray × Ty)) (q : List Tok), EndsT l → Txt l → l.length ≤ M → predL n l o acc = some (ps, q) → (∀ p ∈ acc, p.2.short ∧ p.2.sz ≤ 4 * M) → (∀ p ∈ ps, p.2.short ∧ p.2.sz ≤ 4 * M) ∧ q <:+ l
  | 0, _, _, _, _, _, _, _, _, h, _ => by simp [predL] at h
  | n + 1, [], _, _, _, _, _, _, _, h, _ => by simp [predL] at h
  | n + 1, t :: r, o, acc, ps, q, hE, hx, hl, h, ha => by
    simp only [predL] at h
    split at h
    · rename_i hk
      have hEr : EndsT r := hE.tail (by omega)
      have hxr : Txt r := hx.suf (List.suffix_cons _ _)
      split at h
      · rename_i x c s he
        have hok := atomL_ok hEr he
        have hacc : ∀ p ∈ acc ++ [(mkB t.text, x)], p.2.short ∧ p.2.sz ≤ 4 * M := fun p hp => by
          rcases List.mem_append.1 hp with hp | hp
          · exact ha p hp
          · rw [List.mem_singleton.1 hp]
            simp only [List.length_cons] at hl
            exact ⟨atomL_short hEr hxr he, by have := hok.2.2.2; simp only; omega⟩
        have hsx : (c :: s) <:+ t :: r := hok.2.1.trans (List.suffix_cons _ _)
        split at h
        · injection h with h; injection h with h1 h2; subst h1 h2
          exact ⟨hacc, hsx⟩
        · rename_i hcm
          have hc : isSym c [44] = true := by
            cases hq : isSym c [44] with
            | true => rfl
            | false => exact absurd (.inr hq) hcm
          have h9 := predL_fit M n s o _ ps q (hok.1.tail (sym_kind hc)) ((hx.suf hsx).suf (List.suffix_cons _ _)) (by have := hok.2.1.length_le; simp only [List.length_cons] at this hl; omega) h hacc
          exact ⟨h9.1, (h9.2.trans (List.suffix_cons _ _)).trans hsx⟩
      · cases h
    · cases h
theorem predsRaw_fit {l : List Tok} {ps : List (ByteArray × Ty)} {q : List Tok} (hE : EndsT l) (hx : Txt l) (h : predsRaw l = some (ps, q)) : (∀ p ∈ ps, p.2.short ∧ p.2.sz ≤ 4 * l.length) ∧ q <:+ l := by
  unfold predsRaw at h
  match l, hE, hx, h with
  | [], hE, _, _ => exact absurd rfl hE.ne
  | t :: r, hE, hx, h =>
    simp only at h
    split at h
    · rename_i hs
      cases hp : predL r.length r 1 [] with
      | none => rw [hp] at h; cases h
      | some o =>
        obtain ⟨ps', q'⟩ := o
        rw [hp] at h
        have h9 := predL_fit (t :: r).length _ _ _ _ ps' q' (hE.tail (sym_kind hs)) (hx.suf (List.suffix_cons _ _)) (by simp) hp (fun p hp => by cases hp)
        match q', h, h9 with
        | [], h, _ => simp [tailP] at h
        | [c], h, _ => simp [tailP] at h
        | c :: d :: q2, h, h9 =>
          simp only [tailP, if_true] at h
          split at h
          · injection h with h; injection h with h1 h2; subst h1 h2
            exact ⟨h9.1, (((List.suffix_cons _ _).trans (List.suffix_cons _ _)).trans h9.2).trans (List.suffix_cons _ _)⟩
          · cases h
    · cases hp : predL (r.length + 1) (t :: r) 0 [] with
      | none => rw [hp] at h; cases h
      | some o =>
        obtain ⟨ps', q'⟩ := o
        rw [hp] at h
        have h9 := predL_fit (t :: r).length _ _ _ _ ps' q' hE hx (Nat.le_refl _) hp (fun p hp => by cases hp)
        match q', h, h9 with
        | [], h, _ => simp [tailP] at h
        | c :: q2, h, h9 =>
          simp only [tailP, Bool.false_eq_true, if_false] at h
          split at h
          · injection h with h; injection h with h1 h2; subst h1 h2
            exact ⟨h9.1, (List.suffix_cons _ _).trans h9.2⟩
          · cases h
theorem sum_fit (M : Nat) : ∀ (ps : List (ByteArray × Ty)), (∀ p ∈ ps, p.2.sz ≤ M) → (ps.map (fun p => p.2.sz + 3)).sum ≤ ps.length * (M + 3)
  | [], _ => by simp
  | p :: r, h => by
    have ih := sum_fit M r (fun q hq => h q (List.mem_cons_of_mem _ hq))
    have h1 := h p (List.mem_cons_self ..)
    simp only [List.map_cons, List.sum_cons, List.length_cons, Nat.add_mul, Nat.one_mul]
    omega
/-- What is read of a scheme is not too great. -/
theorem scheme_fit {l : List Tok} (hE : EndsT l) (hx : Txt l) (hl : l.length ≤ 4001) (ps : List (ByteArray × Ty)) (t : Ty) (r : List Tok) (h : schemeRaw l = .ok ps t r) : ((∀ p ∈ ps, p.2.short) ∧ t.short ∧ (funs (ps.map (·.2)) t).sz ≤ 274877906944) ∧ ps.length ≤ 16 := by
  unfold schemeRaw at h
  have key : ∀ (q : List Tok), q <:+ l → EndsT q → (∀ p ∈ ps, p.2.short ∧ p.2.sz ≤ 4 * l.length) → ps.length ≤ 16 → typeL q 0 = .ok t r → ((∀ p ∈ ps, p.2.short) ∧ t.short ∧ (funs (ps.map (·.2)) t).sz ≤ 274877906944) ∧ ps.length ≤ 16 := fun q hq hEq hp h16 ht => by
    have h1 := (typeL_ok hEq ht).2.2.2
    have h2 := hq.length_le
    have h3 := sum_fit (4 * l.length) ps (fun p hp' => (hp p hp').2)
    have h4 : ps.length * (4 * l.length + 3) ≤ 16 * (4 * 4001 + 3) := Nat.mul_le_mul h16 (by omega)
    refine ⟨⟨fun p hp' => (hp p hp').1, typeL_short hEq (hx.suf hq) ht, ?_⟩, h16⟩
    rw [sum_psz]; omega
  cases ho : predsRaw l with
  | none =>
    rw [ho] at h
    simp only at h
    cases ht : typeL l 0 with
    | no e p => rw [ht] at h; cases h
    | ok x s =>
      rw [ht] at h
      injection h with h1 h2 h3
      subst h1 h2 h3
      exact key l (List.suffix_refl _) hE (fun p hp => by cases hp) (by simp) ht
  | some o =>
    obtain ⟨ps', q⟩ := o
    rw [ho] at h
    simp only at h
    split at h
    · cases h
    · rename_i h16
      cases ht : typeL q 0 with
      | no e p => rw [ht] at h; cases h
      | ok x s =>
        rw [ht] at h
        injection h with h1 h2 h3
        subst h1 h2 h3
        have hf := predsRaw_fit hE hx ho
        exact key q hf.2 (predsRaw_ends hE ho).2 hf.1 (by omega) ht
theorem append_mkS (a b : List UInt8) : (⟨a.toArray⟩ : ByteArray) ++ ⟨b.toArray⟩ = ⟨(a ++ b).toArray⟩ := by
  apply ByteArray.ext
  simp [ByteArray.data_append]
theorem mkS_size (x : List UInt8) : (⟨x.toArray⟩ : ByteArray).size = x.length := by show x.toArray.size = _; simp
theorem srcT_take {strs : List (List UInt8)} {k : Nat} (h : k < strs.length) : srcT (strs.take (k + 1)) = srcT (strs.take k) ++ strs[k] ++ [32] := by
  rw [List.take_succ_eq_append_getElem h, srcT_snoc]
set_option maxRecDepth 100000 in
set_option maxHeartbeats 1000000 in
theorem sourceT_any (A : Option Addr) (len cap : Nat) (f : Nat → Int) (w : World) (hr : IntRowF w.heap.size w A len f) (hlen : len ≤ 9223372036854775807) :
    Calls Tryd.prog 34 #[.slice A len cap] w fun e w' => e = .returned (.string ⟨(srcT (textsF f (min len 30))).toArray⟩) ∧ Below w.heap.size w w' := by
  have HTX := Lib.hid (texts_is A len cap f w hr hlen)
  have hmem := textsF_mem f (min len 30)
  have hln : (textsF f (min len 30)).length ≤ 30 := by rw [textsF_len]; omega
  have HMEM := Lib.hid hmem
  clear hr hmem
  generalize textsF f (min len 30) = strs at *
  go_enter Tryd.func34, Tryd.ntmps34
  go_wp2_with fail
  refine HTX.out.mono ?_
  rintro e y ⟨v, rfl, ho, hb⟩
  obtain ⟨As, cs, rfl, hrow⟩ := strRow_of_own ho
  have HROW := Lib.hid hrow
  have HB := Lib.hid hb
  clear ho hrow hb
  go_wp2_with fail
  go_loopw [4, 5] (fun o i wr => ∃ k : Nat, k ≤ strs.length ∧ i = .int .i64 k ∧ o = .string ⟨(srcT (strs.take k)).toArray⟩ ∧ wr = y) (fun _ i _ => strs.length - (intOf i).toNat)
  case atStart => exact ⟨0, Nat.zero_le _, rfl, rfl, rfl⟩
  case round =>
    obtain ⟨k, hk, rfl, rfl, rfl⟩ := hrel
    by_cases hlt : k < strs.length
    · rcases HROW.out with h9 | ⟨g, rfl, hg, hc⟩
      · rw [h9] at hlt; simp at hlt
      have h9 := hc k hlt
      unfold SV at h9
      have htl := texts_len _ (HMEM.out _ (List.getElem_mem hlt))
      have hsl := srcT_len (strs.take k) (fun x hx => HMEM.out x (List.mem_of_mem_take hx))
      rw [List.length_take] at hsl
      have hst := srcT_take hlt
      have hNX : (⟨(srcT (strs.take (k + 1))).toArray⟩ : ByteArray) = ⟨(srcT (strs.take k)).toArray⟩ ++ ⟨strs[k].toArray⟩ ++ ⟨#[32]⟩ := by
        rw [hst, append_mkS]
        exact (append_mkS _ [32]).symm
      have HNX := Lib.hid hNX
      have hz1 := mkS_size (srcT (strs.take k))
      have hz2 := mkS_size strs[k]
      generalize (⟨(srcT (strs.take k)).toArray⟩ : ByteArray) = S1 at *
      generalize (⟨strs[k].toArray⟩ : ByteArray) = S2 at *
      have hs1 : S1.size ≤ 330 := by omega
      have hs2 : S2.size ≤ 10 := by omega
      have hd1 : ∀ q : World, (Op.stringOp .add S1 S2).run Tryd.prog q = .ok (.string (S1 ++ S2)) q := fun q => run_string_add_sum q _ _ (by omega)
      have hd2 : ∀ q : World, (Op.stringOp .add (S1 ++ S2) ⟨#[32]⟩).run Tryd.prog q = .ok (.string (S1 ++ S2 ++ ⟨#[32]⟩)) q := fun q => run_string_add_sum q _ _ (by rw [ByteArray.size_append]; show _ + 1 ≤ _; omega)
      have hki : (k : Int) < (strs.length : Int) := by omega
      have hk0 : (0 : Int) ≤ (k : Int) := by omega
      clear hst hNX hz1 hz2 htl hsl hc
      go_wp2
      go_roundw
      case rel => exact ⟨k + 1, by omega, by go_num, by rw [HNX.out], by first | rfl | trivial⟩
      case measure => simp [intOf]; omega
    · have hd : decide (k < strs.length) = false := by simpa using hlt
      have hkl : strs.take k = strs := List.take_of_length_le (by omega)
      have HKL := Lib.hid hkl
      clear hkl
      go_wp2
      go_ret
      exact ⟨by show Ending.returned (Value.string ⟨(srcT (strs.take k)).toArray⟩) = _; rw [HKL.out], HB.out⟩
end Go.Proofs.YtbdfjboojokgdaaDoor
namespace Go.Proofs.YtbdfjboojokgdaaDoor
open Go.RowKit Lx

/-- No token is the arrow behind predicates. -/
def NI (ks : List (Nat × List UInt8)) : Prop := (4, [61, 62]) ∉ ks
theorem ni_leaf {k : Nat} {x : List UInt8} (hk : k = 1 ∨ k = 2) : NI [(k, x)] := by
  unfold NI
  rcases hk with rfl | rfl <;> simp
theorem ni_app {a b : List (Nat × List UInt8)} (ha : NI a) (hb : NI b) : NI (a ++ b) := by
  unfold NI at *
  simp only [List.mem_append, not_or]
  exact ⟨ha, hb⟩
theorem ni_sym {x : List UInt8} {a : List (Nat × List UInt8)} (hx : x ≠ [61, 62]) (ha : NI a) : NI ((4, x) :: a) := by
  unfold NI at *
  simp only [List.mem_cons, not_or]
  exact ⟨fun h => hx (by injection h with _ h2; exact h2.symm), ha⟩
theorem ni_brk {a : List (Nat × List UInt8)} (ha : NI a) : NI ((4, [40]) :: a ++ [(4, [41])]) := ni_app (ni_sym (by decide) ha) (ni_sym (by decide) (by simp [NI]))
structure RN (t : Ty) : Prop where
  a : ∃ ks, (∀ x, End2 x → LT (t.prAt 3) x ks) ∧ PA t ks (t.dep + 1) ∧ NI ks
  b : ∃ ks, (∀ x, End2 x → LT (t.prAt 2) x ks) ∧ PB t ks (t.dep + 1) ∧ NI ks
  c : ∃ ks, (∀ x, End2 x → LT t.pr x ks) ∧ PC t ks t.dep ∧ NI ks
theorem rn_leaf {t : Ty} {k : Nat} (hb : t.bare = 3) (hk : k = 1 ∨ k = 2) (hl : ∀ x, End2 x → LT t.pr x [(k, t.pr)]) (ht : t = if k = 1 then .var (mkB t.pr) else .con (mkB t.pr)) : RN t := by
  have hpa : PA t [(k, t.pr)] t.dep := by
    intro ts r o hm ho
    match ts, hm with
    | [c], hm =>
      simp only [List.map_cons, List.map_nil, List.cons.injEq, and_true] at hm
      unfold kt at hm
      injection hm with h1 h2
      refine ⟨1, fun f hf => ?_⟩
      obtain ⟨f, rfl⟩ : ∃ g, f = g + 1 := ⟨f - 1, by omega⟩
      show atomN (f + 1) (c :: r) o = _
      simp only [atomN]
      rcases hk with rfl | rfl
      · rw [if_neg (by omega), if_pos h1, h2]
        rw [if_pos rfl] at ht
        rw [← ht]
      · rw [if_pos h1, h2]
        rw [if_neg (by decide)] at ht
        rw [← ht]
    | [], hm => cases hm
    | _ :: _ :: _, hm => simp at hm
  have e3 : t.prAt 3 = t.pr := prAt_neg (by omega)
  have e2 : t.prAt 2 = t.pr := prAt_neg (by omega)
  have hn : NI [(k, t.pr)] := ni_leaf hk
  exact ⟨⟨_, by rw [e3]; exact hl, hpa.mono (Nat.le_succ _), hn⟩, ⟨_, by rw [e2]; exact hl, hpa.pb.mono (Nat.le_succ _), hn⟩, ⟨_, hl, hpa.pb.pc, hn⟩⟩
theorem GoodT.rn {t : Ty} (h : GoodT t) : RN t := by
  induction h with
  | var s h => exact rn_leaf (k := 1) rfl (.inl rfl) (fun x hx => LT.low h hx) (by rw [if_pos rfl]; show _ = Ty.var (mkB s.data.toList); rw [mkB_pr])
  | con s h =>
    have hp : (Ty.con s).pr = s.data.toList := by rw [Ty.pr, up_not_arrow h]; rfl
    refine rn_leaf (k := 2) rfl (.inr rfl) (fun x hx => by rw [hp]; exact LT.up h hx) (by rw [if_neg (by decide), hp, mkB_pr])
  | fn a b ha hb iha ihb =>
    have hsd : (Ty.fn a b).sides = some (a, b) := by
      show (if Ty.isArrow (.con ⟨#[45, 62]⟩) = true then some (a, b) else none) = some (a, b)
      rw [if_pos (by decide)]
    have hp := Ty.pr_fun hsd
    obtain ⟨k1, l1, p1, n1⟩ := iha.b
    obtain ⟨k2, l2, p2, n2⟩ := ihb.c
    have hbare : (Ty.fn a b).bare = 1 := by
      show (if (Ty.fn a b).sides.isSome then 1 else 2) = 1
      rw [hsd]; rfl
    have hb1 : b.prAt 1 = b.pr := by
      refine prAt_neg ?_
      cases hb with
      | var s h => simp [Ty.bare]
      | con s h => simp [Ty.bare]
      | fn a b ha hb => simp only [Ty.fn, Ty.bare]; split <;> omega
      | app a b ha hb => simp only [Ty.bare]; split <;> omega
    rw [hb1] at hp
    have hd : (Ty.fn a b).dep = max (max 0 a.dep + 1) b.dep + 1 := rfl
    have hlt : ∀ x, End2 x → LT (Ty.fn a b).pr x (k1 ++ ((4, [45, 62]) :: k2)) := fun x hx => by
      rw [hp]
      have h1 := LT.trans (LT.blank (([45, 62] ++ ([32] ++ b.pr)) ++ x)) (LT.trans (LT.arrow (([32] ++ b.pr) ++ x)) (LT.trans (LT.blank (b.pr ++ x)) (l2 x hx)))
      have h2 := LT.trans (l1 _ (end2_blank _)) h1
      simpa using h2
    have hpc : PC (Ty.fn a b) (k1 ++ ((4, [45, 62]) :: k2)) (Ty.fn a b).dep := PC.fn (p1.mono (by omega)) (p2.mono (by omega))
    have e3 : (Ty.fn a b).prAt 3 = 40 :: ((Ty.fn a b).pr ++ [41]) := prAt_pos (by omega)
    have e2 : (Ty.fn a b).prAt 2 = 40 :: ((Ty.fn a b).pr ++ [41]) := prAt_pos (by omega)
    have hn : NI (k1 ++ ((4, [45, 62]) :: k2)) := ni_app n1 (ni_sym (by decide) n2)
    exact ⟨⟨_, by rw [e3]; exact fun x _ => brk_lt hlt x, hpc.brk, ni_brk hn⟩, ⟨_, by rw [e2]; exact fun x _ => brk_lt hlt x, hpc.brk.pb, ni_brk hn⟩, ⟨_, hlt, hpc, hn⟩⟩
  | app a b ha hb iha ihb =>
    have hsd : (Ty.app a b).sides = none := ha.sides_app
    have hp := Ty.pr_app hsd
    obtain ⟨k1, l1, p1, n1⟩ := iha.b
    obtain ⟨k2, l2, p2, n2⟩ := ihb.a
    have hbare : (Ty.app a b).bare = 2 := by
      show (if (Ty.app a b).sides.isSome then 1 else 2) = 2
      rw [hsd]; rfl
    have hd : (Ty.app a b).dep = max a.dep b.dep + 1 := rfl
    have hlt : ∀ x, End2 x → LT (Ty.app a b).pr x (k1 ++ k2) := fun x hx => by
      rw [hp]
      have h2 := LT.trans (l1 _ (end2_blank _)) (LT.trans (LT.blank (b.prAt 3 ++ x)) (l2 x hx))
      simpa using h2
    have hpb : PB (Ty.app a b) (k1 ++ k2) (Ty.app a b).dep := PB.app (p1.mono (by omega)) (p2.mono (by omega))
    have e3 : (Ty.app a b).prAt 3 = 40 :: ((Ty.app a b).pr ++ [41]) := prAt_pos (by omega)
    have e2 : (Ty.app a b).prAt 2 = (Ty.app a b).pr := prAt_neg (by omega)
    have hn : NI (k1 ++ k2) := ni_app n1 n2
    exact ⟨⟨_, by rw [e3]; exact fun x _ => brk_lt hlt x, hpb.pc.brk, ni_brk hn⟩, ⟨_, by rw [e2]; exact hlt, hpb.mono (Nat.le_succ _), hn⟩, ⟨_, hlt, hpb.pc, hn⟩⟩
/-! ### Predicates -/
/-- The tokens of predicates, commas between. -/
def ksL : List (List UInt8 × List UInt8) → List (Nat × List UInt8)
  | [] => []
  | [p] => [(2, p.1), (1, p.2)]
  | p :: q :: r => (2, p.1) :: (1, p.2) :: (4, [44]) :: ksL (q :: r)
theorem ksL_snoc (p : List UInt8 × List UInt8) : ∀ (L : List (List UInt8 × List UInt8)), L ≠ [] → ksL (L ++ [p]) = ksL L ++ [(4, [44]), (2, p.1), (1, p.2)]
  | [], h => absurd rfl h
  | [q], _ => rfl
  | q :: q2 :: r, _ => by
    have ih := ksL_snoc p (q2 :: r) (by simp)
    show (2, q.1) :: (1, q.2) :: (4, [44]) :: ksL ((q2 :: r) ++ [p]) = _
    rw [ih]
    simp [ksL]
def clsL (z : Int) : List UInt8 := (clsK (aroundI z 3)).data.toList
def nmL (z : Int) : List UInt8 := (nameS z).data.toList
def pairsZ (zs : List Int) : Nat → List (List UInt8 × List UInt8)
  | 0 => []
  | i + 1 => pairsZ zs i ++ [(clsL (zs.getD i 0), nmL (zs.getD i 0))]
theorem pairsZ_len (zs : List Int) : ∀ m, (pairsZ zs m).length = m
  | 0 => rfl
  | i + 1 => by simp [pairsZ, pairsZ_len zs i]
theorem clsL_up (z : Int) : clsL z ∈ upsL := by
  unfold clsL clsK
  split
  · decide
  · split <;> decide
theorem nmL_low (z : Int) : nmL z ∈ lowsL := by
  unfold nmL nameS nameK
  split
  · decide
  · split
    · decide
    · split <;> decide
theorem ctx_lt (zs : List Int) : ∀ (m : Nat), 0 < m → ∀ x, End2 x → LT (ctxB zs m).data.toList x (ksL (pairsZ zs m))
  | 0, h, _, _ => absurd h (by omega)
  | i + 1, _, x, hx => by
    have hone : LT (clsL (zs.getD i 0) ++ ([32] ++ nmL (zs.getD i 0))) x [(2, clsL (zs.getD i 0)), (1, nmL (zs.getD i 0))] := by
      have h2 := LT.trans (LT.up (x := ([32] ++ nmL (zs.getD i 0)) ++ x) (clsL_up (zs.getD i 0)) (end2_blank _)) (LT.trans (LT.blank (nmL (zs.getD i 0) ++ x)) (LT.low (nmL_low (zs.getD i 0)) hx))
      simpa using h2
    have hb : (ctxB zs (i + 1)).data.toList = (if 0 < i then (ctxB zs i).data.toList ++ [44, 32] else (ctxB zs i).data.toList) ++ (clsL (zs.getD i 0) ++ ([32] ++ nmL (zs.getD i 0))) := by
      simp only [ctxB]
      by_cases hi : 0 < i
      · rw [if_pos hi, if_pos hi]; simp [clsL, nmL]
      · rw [if_neg hi, if_neg hi]; simp [clsL, nmL]
    rw [hb]
    by_cases hi : 0 < i
    · rw [if_pos hi]
      have hne : pairsZ zs i ≠ [] := fun h => by have := pairsZ_len zs i; rw [h] at this; simp at this; omega
      show LT _ x (ksL (pairsZ zs i ++ [_]))
      rw [ksL_snoc _ _ hne]
      have h3 := LT.trans (LT.comma (([32] ++ (clsL (zs.getD i 0) ++ ([32] ++ nmL (zs.getD i 0)))) ++ x)) (LT.trans (LT.blank ((clsL (zs.getD i 0) ++ ([32] ++ nmL (zs.getD i 0))) ++ x)) hone)
      have h4 := LT.trans (ctx_lt zs i hi _ (.inr ⟨44, _, rfl, .inr (.inr rfl)⟩)) h3
      simpa using h4
    · rw [if_neg hi]
      have h0 : i = 0 := by omega
      subst h0
      exact hone
def psL (L : List (List UInt8 × List UInt8)) : List (ByteArray × Ty) := L.map (fun p => (mkB p.1, Ty.var (mkB p.2)))
theorem atomL_var {v : Tok} {r : List Tok} {o : Nat} (hv : v.kind = 1) : atomL (v :: r) o = .ok (.var (mkB v.text)) r := by
  unfold atomL
  have h3 : 3 * (v :: r).length = (3 * r.length + 2) + 1 := by simp only [List.length_cons]; omega
  rw [h3, atomN, if_neg (by omega), if_pos hv]
  rfl
theorem predL_ks (s : Tok) (q : List Tok) (hs : isSym s [44] = false) : ∀ (L : List (List UInt8 × List UInt8)) (ts : List Tok) (n : Nat) (acc : List (ByteArray × Ty)), L ≠ [] → ts.map kt = ksL L → L.length ≤ n → predL n (ts ++ s :: q) 1 acc = some (acc ++ psL L, s :: q)
  | [], _, _, _, h, _, _ => absurd rfl h
  | [p], ts, n, acc, _, hk, hn => by
    obtain ⟨n, rfl⟩ : ∃ g, n = g + 1 := ⟨n - 1, by simp at hn; omega⟩
    match ts, hk with
    | [c, v], hk =>
      simp only [ksL, List.map_cons, List.map_nil, List.cons.injEq, and_true, kt, Prod.mk.injEq] at hk
      obtain ⟨⟨h1, h2⟩, h3, h4⟩ := hk
      show predL (n + 1) (c :: v :: s :: q) 1 acc = _
      rw [predL, if_pos h1, atomL_var h3]
      simp only [hs, or_true, if_true, h2, h4]
      rfl
    | [], hk => simp [ksL] at hk
    | [_], hk => simp [ksL] at hk
    | _ :: _ :: _ :: _, hk => simp [ksL] at hk
  | p :: p2 :: r, ts, n, acc, _, hk, hn => by
    obtain ⟨n, rfl⟩ : ∃ g, n = g + 1 := ⟨n - 1, by simp at hn; omega⟩
    match ts, hk with
    | c :: v :: m :: ts, hk =>
      simp only [ksL, List.map_cons, List.cons.injEq, kt, Prod.mk.injEq] at hk
      obtain ⟨⟨h1, h2⟩, ⟨h3, h4⟩, ⟨h5, h6⟩, hk⟩ := hk
      have hm : isSym m [44] = true := by unfold isSym; rw [h5, h6]; rfl
      show predL (n + 1) (c :: v :: m :: (ts ++ s :: q)) 1 acc = _
      rw [predL, if_pos h1, atomL_var h3]
      simp only
      rw [if_neg (by rw [hm]; simp)]
      rw [predL_ks s q hs (p2 :: r) ts n _ (by simp) hk (by simp only [List.length_cons] at hn ⊢; omega), h2, h4]
      simp [psL]
    | [], hk => simp [ksL] at hk
    | [_], hk => simp [ksL] at hk
    | [_, _], hk => simp [ksL] at hk
theorem kt_sym2 {c : Tok} {x : List UInt8} (h : kt c = (4, x)) : isSym c x = true := by rw [kt_sym h]; simp
/-- Predicates in brackets. -/
theorem preds_brk {L : List (List UInt8 × List UInt8)} {ts : List Tok} {a b c : Tok} {q : List Tok} (hL : L ≠ []) (hk : ts.map kt = ksL L) (ha : kt a = (4, [40])) (hb : kt b = (4, [41])) (hc : kt c = (4, [61, 62])) : predsRaw (a :: (ts ++ b :: c :: q)) = some (psL L, q) := by
  have hlen : L.length ≤ (ts ++ b :: c :: q).length := by
    have h1 : ∀ (L : List (List UInt8 × List UInt8)), L.length ≤ (ksL L).length := fun L => by
      induction L with
      | nil => simp [ksL]
      | cons p r ih => cases r with
        | nil => simp [ksL]
        | cons p2 r => simp only [ksL, List.length_cons] at ih ⊢; omega
    have h2 := h1 L
    rw [← hk, List.length_map] at h2
    simp only [List.length_append]; omega
  unfold predsRaw
  simp only
  rw [if_pos (kt_sym2 ha), predL_ks b (c :: q) (by rw [kt_sym hb]; rfl) L ts _ [] hL hk hlen]
  simp only [tailP, List.nil_append, if_true]
  rw [if_pos ⟨kt_sym2 hb, kt_sym2 hc⟩]
/-- One predicate without brackets. -/
theorem preds_one {p : List UInt8 × List UInt8} {a b c : Tok} {q : List Tok} (ha : kt a = (2, p.1)) (hb : kt b = (1, p.2)) (hc : kt c = (4, [61, 62])) : predsRaw (a :: b :: c :: q) = some (psL [p], q) := by
  have ha' : isSym a [40] = false := by
    unfold kt at ha; injection ha with h1 h2; unfold isSym; rw [h1]; rfl
  unfold kt at ha hb
  injection ha with h1 h2
  injection hb with h3 h4
  unfold predsRaw
  simp only
  rw [if_neg (by rw [ha']; simp), predL, if_pos h1, atomL_var h3]
  simp only [true_or, if_true, List.nil_append, tailP, Bool.false_eq_true, if_false]
  rw [if_pos (kt_sym2 hc), h2, h4]
  rfl
/-- A good type's tokens are no predicates. -/
theorem preds_none {ts : List Tok} {e : Tok} {ks : List (Nat × List UInt8)} (hk : ts.map kt = ks) (hn : NI ks) (he : e.kind = 6) (hx : Txt (ts ++ [e])) : predsRaw (ts ++ [e]) = none := by
  have hE : EndsT (ts ++ [e]) := ⟨ts, e, rfl, he⟩
  have hno : ∀ d ∈ ts ++ [e], isSym d [61, 62] = false := fun d hd => by
    rcases List.mem_append.1 hd with h | h
    · cases hq : isSym d [61, 62] with
      | false => rfl
      | true =>
        refine absurd ?_ hn
        rw [← hk]
        unfold isSym at hq
        simp only [Bool.and_eq_true, beq_iff_eq] at hq
        exact List.mem_map.2 ⟨d, h, by unfold kt; rw [hq.1, hq.2]⟩
    · rw [List.mem_singleton.1 h]; unfold isSym; rw [he]; rfl
  generalize hl : ts ++ [e] = l at *
  cases l with
  | nil => rfl
  | cons t r =>
    have ht6 : ∀ {n o acc ps q}, predL n (t :: r) o acc = some (ps, q) → (∀ p ∈ acc, p.2.short ∧ p.2.sz ≤ 4 * (t :: r).length) → q <:+ t :: r := fun h ha => (predL_fit _ _ _ _ _ _ _ hE hx (Nat.le_refl _) h ha).2
    unfold predsRaw
    simp only
    split
    · rename_i hq
      cases hp : predL r.length r 1 [] with
      | none => rfl
      | some x =>
        obtain ⟨ps, q⟩ := x
        have hEr : EndsT r := hE.tail (sym_kind hq)
        have hs := (predL_fit _ _ _ _ _ _ _ hEr (hx.suf (List.suffix_cons _ _)) (Nat.le_refl _) hp (fun p hp => by cases hp)).2
        match q, hs with
        | [], _ => rfl
        | [c], _ => rfl
        | c :: d :: q, hs =>
          have hd := hno d (List.mem_cons_of_mem _ (hs.subset (by simp)))
          simp only [tailP, if_true]
          rw [if_neg (by rw [hd]; simp)]
    · cases hp : predL (r.length + 1) (t :: r) 0 [] with
      | none => rfl
      | some x =>
        obtain ⟨ps, q⟩ := x
        have hs := ht6 hp (fun p hp => by cases hp)
        match q, hs with
        | [], _ => rfl
        | c :: q, hs =>
          have hd := hno c (hs.subset (by simp))
          simp only [tailP, Bool.false_eq_true, if_false]
          rw [if_neg (by rw [hd]; simp)]
end Go.Proofs.YtbdfjboojokgdaaDoor
