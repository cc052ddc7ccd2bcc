/- The contracts of the document's good and Good (chapter 5): a type made of numbers that is read of its print. Condition: the slice reads as numbers. Plain mathematics of chapter 5 (P5.3): what is read with more steps is the same; the print of a good type is read back whole. No program, no world. The contract of the document's Context (chapter 5): predicates made of numbers. Conditions: the slice reads as numbers; at most 2^20 predicates. -/
import Derived.Test.YtbdfjboojokgdaaDoorJV37
import Derived.Test.YtbdfjboojokgdaaDoorJV38
import Derived.Test.YtbdfjboojokgdaaDoorJV39
import Derived.Test.YtbdfjboojokgdaaDoorJV33
import Derived.Test.YtbdfjboojokgdaaDoorJV36
import Derived.Test.YtbdfjboojokgdaaDoorJV17
namespace Go.Proofs.YtbdfjboojokgdaaDoor
open Go.RowKit Lx

/-- The type that is read of its print. -/
def goodTy : Ty → Ty
  | .app (.app f a) b => if f.isArrow then Ty.fn (goodTy a) (goodTy b) else .app (goodTy (.app f a)) (goodTy b)
  | .app a b => .app (goodTy a) (goodTy b)
  | .hole _ => .var ⟨#[109]⟩
  | .con s => if (Ty.con s).isArrow then .con ⟨#[70, 117, 110]⟩ else .con s
  | .var s => .var s
  | .all s a => .all s a
theorem good_fn (a b : Ty) : goodTy (Ty.fn a b) = Ty.fn (goodTy a) (goodTy b) := by
  unfold Ty.fn
  rw [goodTy, if_pos (by decide)]; rfl
theorem good_app {a b : Ty} (h : (Ty.app a b).sides = none) : goodTy (.app a b) = .app (goodTy a) (goodTy b) := by
  cases a with
  | app f x =>
    have hf : ¬ (f.isArrow = true) := fun hf => by rw [Ty.sides, if_pos hf] at h; cases h
    rw [goodTy, if_neg hf]
  | _ => rfl
/-- No TAll. -/
def Ty.bareT : Ty → Prop
  | .app a b => a.bareT ∧ b.bareT
  | .all _ _ => False
  | _ => True
theorem leafZ_bare (n k : Int) : (leafZ n k).bareT := by
  unfold leafZ; repeat' split
  all_goals trivial
theorem builtP_bare : ∀ (f : Nat) (l : List Int), (builtP f l).1.bareT
  | 0, [] => trivial
  | _ + 1, [] => trivial
  | 0, z :: l => leafZ_bare _ _
  | f + 1, z :: l => by
    have i1 := builtP_bare f l
    have i2 := builtP_bare f (builtP f l).2
    rw [builtP]
    split
    · exact leafZ_bare _ _
    · dsimp only
      split
      · exact ⟨⟨trivial, i1⟩, i2⟩
      · exact ⟨i1, i2⟩
theorem builtP_world : ∀ (f : Nat) (l : List Int), (builtP f l).1.world
  | 0, [] => by simp [builtP, Ty.world]
  | f + 1, [] => by simp [builtP, Ty.world]
  | 0, z :: l => by
    have h := aroundI_bd z 40 (by omega)
    exact leafZ_world _ _ (by omega) (by omega)
  | f + 1, z :: l => by
    have h := aroundI_bd z 40 (by omega)
    have i1 := builtP_world f l
    have i2 := builtP_world f (builtP f l).2
    rw [builtP]
    split
    · exact leafZ_world _ _ (by omega) (by omega)
    · dsimp only
      split
      · exact ⟨⟨by simp [Ty.world], i1⟩, i2⟩
      · exact ⟨i1, i2⟩
theorem leafZ_sz (n k : Int) : (leafZ n k).sz = 1 ∧ (leafZ n k).dep = 0 := by
  unfold leafZ; repeat' split
  all_goals exact ⟨rfl, rfl⟩
theorem builtP_sz : ∀ (f : Nat) (l : List Int), (builtP f l).1.sz + 4 * (builtP f l).2.length ≤ 4 * l.length + 1 ∧ (builtP f l).1.dep ≤ 2 * f
  | 0, [] => by simp [builtP, Ty.sz, Ty.dep]
  | f + 1, [] => by simp [builtP, Ty.sz, Ty.dep]
  | 0, z :: l => by
    have h := leafZ_sz (aroundI z 40) (aroundI z 40 % 5)
    simp only [builtP, List.length_cons]; omega
  | f + 1, z :: l => by
    have i1 := builtP_sz f l
    have i2 := builtP_sz f (builtP f l).2
    rw [builtP]
    split
    · have h := leafZ_sz (aroundI z 40) (aroundI z 40 % 10)
      simp only [List.length_cons]; omega
    · dsimp only
      simp only [List.length_cons]
      split
      · rw [fn_sz]
        have hd : (Ty.fn (builtP f l).1 (builtP f (builtP f l).2).1).dep = max (max 0 (builtP f l).1.dep + 1) (builtP f (builtP f l).2).1.dep + 1 := rfl
        rw [hd]; omega
      · simp only [Ty.sz, Ty.dep]; omega
/-- The type that Good makes of numbers. -/
def goodZ (zs : List Int) : Ty := goodTy (plainZ zs)
theorem good_of : ∀ (n : Nat) (t : Ty), t.sz ≤ n → t.bareT → t.world → GoodT (goodTy t) ∧ (goodTy t).sz ≤ t.sz ∧ (goodTy t).dep ≤ t.dep
  | 0, t, h, _, _ => by cases t <;> simp [Ty.sz] at h
  | n + 1, t, h, hb, hw => by
    cases t with
    | hole k => exact ⟨.var _ (by decide), Nat.le_refl _, Nat.le_refl _⟩
    | var s =>
      refine ⟨.var s ?_, Nat.le_refl _, Nat.le_refl _⟩
      rcases hw with rfl | rfl | rfl | rfl <;> decide
    | con s =>
      rw [goodTy]
      split
      · exact ⟨.con _ (by decide), Nat.le_refl _, Nat.le_refl _⟩
      · rename_i ha
        refine ⟨.con s ?_, Nat.le_refl _, Nat.le_refl _⟩
        rcases hw with rfl | rfl | rfl | rfl | rfl | rfl
        all_goals first | decide | (exfalso; exact ha (by decide))
    | all s a => exact absurd hb (by simp [Ty.bareT])
    | app x b =>
      have hsz : x.sz + b.sz + 1 ≤ n + 1 := h
      obtain ⟨ib, ibs, ibd⟩ := good_of n b (by omega) hb.2 hw.2
      cases hs : (Ty.app x b).sides with
      | none =>
        obtain ⟨ix, ixs, ixd⟩ := good_of n x (by omega) hb.1 hw.1
        rw [good_app hs]
        refine ⟨.app _ _ ix ib, ?_, ?_⟩
        · simp only [Ty.sz]; omega
        · simp only [Ty.dep]; omega
      | some p =>
        obtain ⟨a, b'⟩ := p
        have e := sides_fn hs
        unfold Ty.fn at e
        injection e with e1 e2
        subst e1 e2
        have hx : (Ty.app (.con ⟨#[45, 62]⟩) a).sz = 1 + a.sz + 1 := rfl
        obtain ⟨ia, ias, iad⟩ := good_of n a (by omega) hb.1.2 hw.1.2
        have hg : goodTy ((Ty.app (.con ⟨#[45, 62]⟩) a).app b) = Ty.fn (goodTy a) (goodTy b) := good_fn a b
        rw [hg]
        refine ⟨.fn _ _ ia ib, ?_, ?_⟩
        · rw [fn_sz]; simp only [Ty.sz]; omega
        · have hd : (Ty.fn (goodTy a) (goodTy b)).dep = max (max 0 (goodTy a).dep + 1) (goodTy b).dep + 1 := rfl
          rw [hd]; simp only [Ty.dep]; omega
theorem goodZ_good (zs : List Int) : GoodT (goodZ zs) ∧ (goodZ zs).sz ≤ 97 ∧ (goodZ zs).dep ≤ 10 := by
  have h := good_of _ (plainZ zs) (Nat.le_refl _) (builtP_bare _ _) (builtP_world _ _)
  have h2 := builtP_sz 5 (zs.take 24)
  have h3 : (zs.take 24).length ≤ 24 := by rw [List.length_take]; omega
  unfold goodZ
  refine ⟨h.1, ?_, ?_⟩
  · have : (plainZ zs).sz ≤ 97 := by unfold plainZ; omega
    omega
  · have : (plainZ zs).dep ≤ 10 := by unfold plainZ; omega
    omega
/-- How long such a print is. -/
theorem GoodT.pr_len {t : Ty} (h : GoodT t) : t.pr.length ≤ 8 * t.sz := by
  have hp : ∀ (p : Nat) (t : Ty), (t.prAt p).length ≤ t.pr.length + 2 := fun p t => by
    unfold Ty.prAt brk
    split
    · simp
    · omega
  have hl : ∀ x ∈ lowsL, x.length ≤ 8 := by decide
  have hu : ∀ x ∈ upsL, x.length ≤ 8 := by decide
  induction h with
  | var s h => have := hl _ h; simp only [Ty.pr, Ty.sz]; omega
  | con s h => have := hu _ h; rw [Ty.pr, up_not_arrow h]; simp only [Bool.false_eq_true, if_false, Ty.sz]; omega
  | fn a b ha hb iha ihb =>
    have hsd : (Ty.fn a b).sides = some (a, b) := by
      show (if Ty.isArrow (.con ⟨#[45, 62]⟩) = true then some (a, b) else none) = some (a, b)
      rw [if_pos (by decide)]
    rw [Ty.pr_fun hsd, fn_sz]
    have h1 := hp 2 a
    have h2 := hp 1 b
    simp only [List.length_append, List.length_cons, List.length_nil]; omega
  | app a b ha hb iha ihb =>
    rw [Ty.pr_app ha.sides_app]
    have h1 := hp 2 a
    have h2 := hp 3 b
    simp only [List.length_append, List.length_cons, List.length_nil, Ty.sz]; omega
end Go.Proofs.YtbdfjboojokgdaaDoor
namespace Go.Proofs.YtbdfjboojokgdaaDoor
open Go.RowKit Lx

theorem more_all : ∀ n : Nat, (∀ l o r, atomN n l o = some r → atomN (n + 1) l o = some r) ∧ (∀ x l o r, appsN n x l o = some r → appsN (n + 1) x l o = some r) ∧ (∀ l o r, typeN n l o = some r → typeN (n + 1) l o = some r)
  | 0 => ⟨fun _ _ _ h => by simp [atomN] at h, fun _ _ _ _ h => by simp [appsN] at h, fun _ _ _ h => by simp [typeN] at h⟩
  | n + 1 => by
    obtain ⟨ia, ip, it⟩ := more_all n
    refine ⟨fun l o r h => ?_, fun x l o r h => ?_, fun l o r h => ?_⟩
    · match l, h with
      | [], h => simp [atomN] at h
      | t :: q, h =>
        rw [atomN] at h ⊢
        by_cases h2 : t.kind = 2
        · rw [if_pos h2] at h ⊢; exact h
        rw [if_neg h2] at h ⊢
        by_cases h1 : t.kind = 1
        · rw [if_pos h1] at h ⊢; exact h
        rw [if_neg h1] at h ⊢
        by_cases h4 : isSym t [40] = false
        · rw [if_pos h4] at h ⊢; exact h
        rw [if_neg h4] at h ⊢
        by_cases h5 : 40 ≤ o
        · rw [if_pos h5] at h ⊢; exact h
        rw [if_neg h5] at h ⊢
        cases ht : typeN n q (o + 1) with
        | none => rw [ht] at h; cases h
        | some g => rw [ht] at h; rw [it _ _ _ ht]; exact h
    · match l, h with
      | [], h => simp [appsN] at h
      | t :: q, h =>
        rw [appsN] at h ⊢
        by_cases hb : begT t = true
        · rw [if_pos hb] at h ⊢
          cases ha : atomN n (t :: q) o with
          | none => rw [ha] at h; cases h
          | some g =>
            rw [ha] at h
            rw [ia _ _ _ ha]
            cases g with
            | no e p => exact h
            | ok a s => exact ip _ _ _ _ h
        · rw [if_neg hb] at h ⊢; exact h
    · rw [typeN] at h ⊢
      cases ha : atomN n l o with
      | none => rw [ha] at h; cases h
      | some g =>
        rw [ha] at h
        rw [ia _ _ _ ha]
        cases g with
        | no e p => exact h
        | ok x q =>
          simp only at h ⊢
          cases hp : appsN n x q o with
          | none => rw [hp] at h; cases h
          | some g2 =>
            rw [hp] at h
            rw [ip _ _ _ _ hp]
            cases g2 with
            | no e p => exact h
            | ok y s =>
              cases s with
              | nil => exact h
              | cons c s =>
                simp only at h ⊢
                by_cases hc : isSym c [45, 62] = true
                · rw [if_pos hc] at h ⊢
                  cases ht : typeN n s o with
                  | none => rw [ht] at h; cases h
                  | some g3 => rw [ht] at h; rw [it _ _ _ ht]; exact h
                · rw [if_neg hc] at h ⊢; exact h
theorem typeN_le {n m : Nat} {l : List Tok} {o : Nat} {r : Got} (h : typeN n l o = some r) (hm : n ≤ m) : typeN m l o = some r := by
  induction hm with
  | refl => exact h
  | step _ ih => exact (more_all _).2.2 _ _ _ ih
theorem typeL_ev {l : List Tok} {o : Nat} {g : Got} (hE : EndsT l) (h : Ev (fun n => typeN n l o) g) : typeL l o = g := by
  obtain ⟨M, hM⟩ := h
  have h1 := hM (max M (3 * l.length + 2)) (Nat.le_max_left _ _)
  have h2 := typeN_le (typeL_is hE o) (Nat.le_max_right M (3 * l.length + 2))
  simp only at h1
  rw [h1] at h2
  injection h2 with h2
  exact h2.symm
/-- The print of a good type is read back. -/
theorem read_round {t : Ty} (h : GoodT t) (hl : t.pr.length ≤ 4000) (hd : t.dep ≤ 40) : ∃ e, readT t.pr = .ok t [e] := by
  obtain ⟨ks, hlt, hpc⟩ := h.rt.c
  obtain ⟨ts, e1, e2⟩ := hlt [] (.inl rfl) 0 _ (lexA_nil _)
  rw [List.append_nil] at e1
  generalize hlast : ({ kind := 6, text := [], num := 0, place := 0 + t.pr.length } : Tok) = lt at *
  have hk : lt.kind = 6 := by rw [← hlast]
  have hs : isSym lt [45, 62] = false := by rw [← hlast]; rfl
  have hb : begT lt = false := by rw [← hlast]; rfl
  have hlex : lexL t.pr = .ok (ts ++ [lt]) := by unfold lexL; rw [if_neg (by omega)]; exact e1
  have hty : typeL (ts ++ [lt]) 0 = .ok t [lt] := typeL_ev ⟨ts, lt, rfl, hk⟩ (hpc ts [lt] 0 e2 (by omega) ⟨lt, [], rfl, hb, hs⟩)
  refine ⟨lt, ?_⟩
  unfold readT
  rw [hlex]
  simp only
  rw [hty]
  simp only
  rw [if_pos hk]
theorem good_small {t : Ty} (h : GoodT t) : t.small := by
  induction h with
  | var s h => trivial
  | con s h => trivial
  | fn a b ha hb iha ihb => exact ⟨⟨trivial, iha⟩, ihb⟩
  | app a b ha hb iha ihb => exact ⟨iha, ihb⟩
end Go.Proofs.YtbdfjboojokgdaaDoor
namespace Go.Proofs.YtbdfjboojokgdaaDoor
open Go.RowKit

def clsK (k : Int) : ByteArray := if k = 0 then ⟨#[69]⟩ else if k = 1 then ⟨#[79]⟩ else ⟨#[83]⟩
def ctxB (zs : List Int) : Nat → ByteArray
  | 0 => ⟨#[]⟩
  | i + 1 => (if 0 < i then ctxB zs i ++ ⟨#[44, 32]⟩ else ctxB zs i) ++ clsK (aroundI (zs.getD i 0) 3) ++ ⟨#[32]⟩ ++ nameS (zs.getD i 0)
def ctxS (zs : List Int) (m : Nat) : ByteArray :=
  if m = 0 then ⟨#[]⟩ else if m = 1 ∧ zs.length % 2 = 0 then ctxB zs m ++ ⟨#[32, 61, 62, 32]⟩ else ⟨#[40]⟩ ++ ctxB zs m ++ ⟨#[41, 32, 61, 62, 32]⟩
theorem clsK_size (k : Int) : (clsK k).size = 1 := by
  unfold clsK
  split
  · rfl
  · split <;> rfl
theorem nameK_size (k : Int) : (nameK k).size = 1 := by
  unfold nameK
  split
  · rfl
  · split
    · rfl
    · split <;> rfl
theorem ctxB_size (zs : List Int) : ∀ m, (ctxB zs m).size ≤ 5 * m
  | 0 => Nat.zero_le _
  | i + 1 => by
    have := ctxB_size zs i
    have h1 := clsK_size (aroundI (zs.getD i 0) 3)
    have h2 : (nameS (zs.getD i 0)).size = 1 := nameK_size _
    have h3 : (⟨#[32]⟩ : ByteArray).size = 1 := rfl
    have h4 : (⟨#[44, 32]⟩ : ByteArray).size = 2 := rfl
    simp only [ctxB]
    split <;> simp only [ByteArray.size_append] <;> omega
set_option maxRecDepth 100000 in
set_option maxHeartbeats 4000000 in
theorem context_any (P : Nat → Prop) (zs : List Int) (v : Value) (m : Nat) (w : World) (h : IntsAt P w v zs) (hm : m ≤ 1048576) :
    Calls Tryd.prog 50 #[v, .int .i64 m] w fun e w' => e = .returned (.string (ctxS zs m)) ∧ Below w.heap.size w w' := by
  obtain ⟨A, c, rfl, hc, hcm⟩ := h.shape
  unfold maxLen at hcm
  have H1 := Lib.hid h
  have hzl : zs.length ≤ 9223372036854775807 := by omega
  have HZ : Hid (∀ z ∈ zs, -9223372036854775808 ≤ z ∧ z ≤ 9223372036854775807) := by obtain ⟨_, _, _, _, _, h9, _⟩ := h; exact h9
  clear h
  by_cases hm0 : m = 0
  · subst hm0
    go_enter Tryd.func50, Tryd.ntmps50
    go_wp2_with fail
    go_ret
    exact ⟨rfl, Below.refl _ _⟩
  have hmf : ((m : Int) == 0) = false := by rw [beq_eq_false_iff_ne]; omega
  go_enter Tryd.func50, Tryd.ntmps50
  go_wp2_with fail
  go_loopw [5, 6] (fun o i wr => ∃ k : Nat, k ≤ m ∧ i = .int .i64 k ∧ o = .string (ctxB zs k) ∧ Below w.heap.size w wr) (fun _ i _ => m - (intOf i).toNat)
  case atStart => exact ⟨0, Nat.zero_le _, rfl, rfl, Below.refl _ _⟩
  case round =>
    obtain ⟨k, hk, rfl, rfl, hb⟩ := hrel
    have HB := Lib.hid hb
    by_cases hlt : k < m
    · have hki : (k : Int) < (m : Int) := by omega
      have hk0 : (0 : Int) ≤ (k : Int) := by omega
      have hz : -9223372036854775808 ≤ zs.getD k 0 ∧ zs.getD k 0 ≤ 9223372036854775807 := by
        by_cases hkz : k < zs.length
        · have h9 : zs.getD k 0 = zs[k] := by simp [List.getD, List.getElem?_eq_getElem hkz]
          rw [h9]; exact HZ.out _ (List.getElem_mem hkz)
        · have h9 : zs.getD k 0 = 0 := by simp [List.getD, List.getElem?_eq_none (Nat.le_of_not_lt hkz)]
          rw [h9]; omega
      have HOUT : Hid (ctxB zs (k + 1) = (if 0 < k then ctxB zs k ++ ⟨#[44, 32]⟩ else ctxB zs k) ++ clsK (aroundI (zs.getD k 0) 3) ++ ⟨#[32]⟩ ++ nameS (zs.getD k 0)) := rfl
      have HA := Lib.hid (fun W => around_is (zs.getD k 0) 3 W hz.1 hz.2 (by omega) (by omega))
      have HN := Lib.hid (fun W => name_any (zs.getD k 0) W hz.1 hz.2)
      have hbd := aroundI_bd (zs.getD k 0) 3 (by omega)
      have hs1 := ctxB_size zs k
      have hn1 : (nameS (zs.getD k 0)).size = 1 := nameK_size _
      have HC : Hid ((k < zs.length ∧ ∃ b off, A = some ⟨b, off, none⟩ ∧ wr.cell? ⟨b, off + k, none⟩ = some (.int .i64 (zs.getD k 0)) ∧ b < wr.heap.size) ∨ (¬ k < zs.length ∧ zs.getD k 0 = 0)) := by
        by_cases hkz : k < zs.length
        · obtain ⟨b1, o1, e1, l1, k1⟩ := (H1.out.on hb).at k hkz
          exact .inl ⟨hkz, b1, o1, e1, by simpa [List.getD, List.getElem?_eq_getElem hkz] using k1, l1⟩
        · exact .inr ⟨hkz, by simp [List.getD, List.getElem?_eq_none (Nat.le_of_not_lt hkz)]⟩
      generalize zs.getD k 0 = z at *
      generalize hout : ctxB zs k = B at *
      generalize nameS z = N at *
      generalize aroundI z 3 = a at *
      clear hb hz hout
      have HK : Hid (∀ (w' : World), Below wr.heap.size wr w' → Below w.heap.size w w') := fun w' h9 => HB.out.trans (h9.mono HB.out.size)
      obtain ⟨O, hO⟩ : ∃ O : ByteArray, O = (if 0 < k then B ++ ⟨#[44, 32]⟩ else B) := ⟨_, rfl⟩
      have hOs : O.size ≤ B.size + 2 := by
        have h2 : (⟨#[44, 32]⟩ : ByteArray).size = 2 := rfl
        rw [hO]; split
        · rw [ByteArray.size_append]; omega
        · omega
      have ha : (a = 0 ∧ clsK a = ⟨#[69]⟩) ∨ (a = 1 ∧ clsK a = ⟨#[79]⟩) ∨ (a = 2 ∧ clsK a = ⟨#[83]⟩) := by
        have h9 : a = 0 ∨ a = 1 ∨ a = 2 := by omega
        rcases h9 with rfl | rfl | rfl
        · exact .inl ⟨rfl, rfl⟩
        · exact .inr (.inl ⟨rfl, rfl⟩)
        · exact .inr (.inr ⟨rfl, rfl⟩)
      have HFIN : Hid (ctxB zs (k + 1) = O ++ clsK a ++ ⟨#[32]⟩ ++ N) := by show _ = _; rw [HOUT.out, hO]
      have hd1 : ∀ q : World, (Op.stringOp .add B ⟨#[44, 32]⟩).run Tryd.prog q = .ok (.string (B ++ ⟨#[44, 32]⟩)) q := fun q => run_string_add_sum q _ _ (by show _ + 2 ≤ _; omega)
      have hcs := clsK_size a
      generalize clsK a = C at *
      have hd2 : ∀ q : World, (Op.stringOp .add O C).run Tryd.prog q = .ok (.string (O ++ C)) q := fun q => run_string_add_sum q _ _ (by omega)
      have hd3 : ∀ q : World, (Op.stringOp .add (O ++ C) ⟨#[32]⟩).run Tryd.prog q = .ok (.string (O ++ C ++ ⟨#[32]⟩)) q := fun q => run_string_add_sum q _ _ (by rw [ByteArray.size_append]; show _ + 1 ≤ _; omega)
      have hd4 : ∀ q : World, (Op.stringOp .add (O ++ C ++ ⟨#[32]⟩) N).run Tryd.prog q = .ok (.string (O ++ C ++ ⟨#[32]⟩ ++ N)) q := fun q => run_string_add_sum q _ _ (by rw [ByteArray.size_append, ByteArray.size_append]; show _ + _ + 1 + _ ≤ _; omega)
      have HN0 : Hid (Calls Tryd.prog 23 #[.int .i64 z] wr.drew fun e u => e = .returned (.string N) ∧ Below wr.heap.size wr u) := (HN.out wr.drew).mono (fun e u h => ⟨h.1, (Below.refl _ wr).drew.trans h.2⟩)
      have HN1 : Hid (Calls Tryd.prog 23 #[.int .i64 z] (wr.alloc (.cells #[.string ⟨#[69]⟩, .string ⟨#[79]⟩, .string ⟨#[83]⟩] 9)).drew fun e u => e = .returned (.string N) ∧ Below wr.heap.size wr u ∧ u.cell? ⟨wr.heap.size, 0, none⟩ = some (.string ⟨#[69]⟩) ∧ u.cell? ⟨wr.heap.size, 1, none⟩ = some (.string ⟨#[79]⟩) ∧ u.cell? ⟨wr.heap.size, 2, none⟩ = some (.string ⟨#[83]⟩)) := by
        have h5 := (MapKept.heap_alloc wr (.cells #[.string ⟨#[69]⟩, .string ⟨#[79]⟩, .string ⟨#[83]⟩] 9)).1
        have h6 := below_new wr (.cells #[.string ⟨#[69]⟩, .string ⟨#[79]⟩, .string ⟨#[83]⟩] 9)
        refine (HN.out _).mono (fun e u h => ⟨h.1, ?_⟩)
        have h7 : u.heap[wr.heap.size]? = some (.cells #[.string ⟨#[69]⟩, .string ⟨#[79]⟩, .string ⟨#[83]⟩] 9) := (h.2.block wr.heap.size (by simp)).trans h5
        exact ⟨h6.trans (h6.drew.trans (h.2.mono (by simp)) |> fun h8 => (Below.refl _ _).drew.trans (h.2.mono (by simp))), by simp [World.cell?, h7], by simp [World.cell?, h7], by simp [World.cell?, h7]⟩
      clear HOUT hs1 hn1 hOs hbd hcs
      by_cases hk9 : 0 < k
      · have hk9i : (0 : Int) < (k : Int) := by omega
        rw [if_pos hk9] at hO
        subst hO
        rcases HC.out with ⟨hkz, b, off, rfl, hcell, hbl⟩ | ⟨hkz, rfl⟩
        · have hkzi : (k : Int) < (zs.length : Int) := by omega
          clear HC
          rcases ha with ⟨rfl, rfl⟩ | ⟨rfl, rfl⟩ | ⟨rfl, rfl⟩
          all_goals
            go_upto_region 12 with (fail)
            go_region_law (first | (go_simp; go_at_call 36; (with_reducible refine (HA.out _).mono ?_); rintro e3 v ⟨rfl, rfl⟩) | (go_simp; go_at_call 23; (with_reducible refine HN0.out.mono ?_); rintro e4 u ⟨rfl, hu⟩) | (go_simp; go_at_call 23; (with_reducible refine HN1.out.mono ?_); rintro e4 u ⟨rfl, hu, hu0, hu1, hu2⟩))
            all_goals
              go_wp2
              go_roundw
              case rel => first | exact ⟨k + 1, by omega, by go_num, by rw [HFIN.out], by first | exact HK.out _ hu | exact HK.out _ (hu.trans ((below_new _ _).mono hu.size))⟩ | exact ⟨0 + 1, by omega, by go_num, by rw [HFIN.out], by first | exact HK.out _ hu | exact HK.out _ (hu.trans ((below_new _ _).mono hu.size))⟩
              case measure => simp [intOf]; omega
        · have hkzi : ¬ (k : Int) < (zs.length : Int) := by omega
          have hkzd : decide (k < zs.length) = false := by simpa using hkz
          clear HC
          rcases ha with ⟨rfl, rfl⟩ | ⟨rfl, rfl⟩ | ⟨rfl, rfl⟩
          all_goals
            go_upto_region 12 with (fail)
            go_region_law (first | (go_simp; go_at_call 36; (with_reducible refine (HA.out _).mono ?_); rintro e3 v ⟨rfl, rfl⟩) | (go_simp; go_at_call 23; (with_reducible refine HN0.out.mono ?_); rintro e4 u ⟨rfl, hu⟩) | (go_simp; go_at_call 23; (with_reducible refine HN1.out.mono ?_); rintro e4 u ⟨rfl, hu, hu0, hu1, hu2⟩))
            all_goals
              go_wp2
              go_roundw
              case rel => first | exact ⟨k + 1, by omega, by go_num, by rw [HFIN.out], by first | exact HK.out _ hu | exact HK.out _ (hu.trans ((below_new _ _).mono hu.size))⟩ | exact ⟨0 + 1, by omega, by go_num, by rw [HFIN.out], by first | exact HK.out _ hu | exact HK.out _ (hu.trans ((below_new _ _).mono hu.size))⟩
              case measure => simp [intOf]; omega
      · have hk9i : ¬ (0 : Int) < (k : Int) := by omega
        obtain rfl : k = 0 := by omega
        rw [if_neg (by omega)] at hO
        subst hO
        rcases HC.out with ⟨hkz, b, off, rfl, hcell, hbl⟩ | ⟨hkz, rfl⟩
        · have hkzi : (0 : Int) < (zs.length : Int) := by omega
          rw [Nat.add_zero] at hcell
          clear HC
          rcases ha with ⟨rfl, rfl⟩ | ⟨rfl, rfl⟩ | ⟨rfl, rfl⟩
          all_goals
            go_upto_region 12 with (fail)
            go_region_law (first | (go_simp; go_at_call 36; (with_reducible refine (HA.out _).mono ?_); rintro e3 v ⟨rfl, rfl⟩) | (go_simp; go_at_call 23; (with_reducible refine HN0.out.mono ?_); rintro e4 u ⟨rfl, hu⟩) | (go_simp; go_at_call 23; (with_reducible refine HN1.out.mono ?_); rintro e4 u ⟨rfl, hu, hu0, hu1, hu2⟩))
            all_goals
              go_wp2
              go_roundw
              case rel => first | exact ⟨k + 1, by omega, by go_num, by rw [HFIN.out], by first | exact HK.out _ hu | exact HK.out _ (hu.trans ((below_new _ _).mono hu.size))⟩ | exact ⟨0 + 1, by omega, by go_num, by rw [HFIN.out], by first | exact HK.out _ hu | exact HK.out _ (hu.trans ((below_new _ _).mono hu.size))⟩
              case measure => simp [intOf]; omega
        · have hkzi : ¬ (0 : Int) < (zs.length : Int) := by omega
          have hkzd : decide (0 < zs.length) = false := by simpa using hkz
          clear HC
          rcases ha with ⟨rfl, rfl⟩ | ⟨rfl, rfl⟩ | ⟨rfl, rfl⟩
          all_goals
            go_upto_region 12 with (fail)
            go_region_law (first | (go_simp; go_at_call 36; (with_reducible refine (HA.out _).mono ?_); rintro e3 v ⟨rfl, rfl⟩) | (go_simp; go_at_call 23; (with_reducible refine HN0.out.mono ?_); rintro e4 u ⟨rfl, hu⟩) | (go_simp; go_at_call 23; (with_reducible refine HN1.out.mono ?_); rintro e4 u ⟨rfl, hu, hu0, hu1, hu2⟩))
            all_goals
              go_wp2
              go_roundw
              case rel => first | exact ⟨k + 1, by omega, by go_num, by rw [HFIN.out], by first | exact HK.out _ hu | exact HK.out _ (hu.trans ((below_new _ _).mono hu.size))⟩ | exact ⟨0 + 1, by omega, by go_num, by rw [HFIN.out], by first | exact HK.out _ hu | exact HK.out _ (hu.trans ((below_new _ _).mono hu.size))⟩
              case measure => simp [intOf]; omega
    · have hd : decide (k < m) = false := by simpa using hlt
      obtain rfl : k = m := by omega
      clear hb
      have hs1 := ctxB_size zs k
      have he1 : ∀ q : World, (Op.stringOp .add (ctxB zs k) ⟨#[32, 61, 62, 32]⟩).run Tryd.prog q = .ok (.string (ctxB zs k ++ ⟨#[32, 61, 62, 32]⟩)) q := fun q => run_string_add_sum q _ _ (by show _ + 4 ≤ _; omega)
      have he2 : ∀ q : World, (Op.stringOp .add ⟨#[40]⟩ (ctxB zs k)).run Tryd.prog q = .ok (.string (⟨#[40]⟩ ++ ctxB zs k)) q := fun q => run_string_add_sum q _ _ (by show 1 + _ ≤ _; omega)
      have he3 : ∀ q : World, (Op.stringOp .add (⟨#[40]⟩ ++ ctxB zs k) ⟨#[41, 32, 61, 62, 32]⟩).run Tryd.prog q = .ok (.string (⟨#[40]⟩ ++ ctxB zs k ++ ⟨#[41, 32, 61, 62, 32]⟩)) q := fun q => run_string_add_sum q _ _ (by rw [ByteArray.size_append]; show 1 + _ + 5 ≤ _; omega)
      have hm2 : (zs.length : Int).tmod 2 = ((zs.length % 2 : Nat) : Int) := by rw [Int.tmod_eq_emod_of_nonneg (by omega)]; omega
      have hm3 : (zs.length : Int) % 2 = ((zs.length % 2 : Nat) : Int) := by omega
      have hl0 : (0 : Int) ≤ (zs.length : Int) := by omega
      have hl1 : (zs.length : Int) ≤ 9223372036854775807 := by omega
      have HR : Hid (ctxS zs k = if k = 0 then ⟨#[]⟩ else if k = 1 ∧ zs.length % 2 = 0 then ctxB zs k ++ ⟨#[32, 61, 62, 32]⟩ else ⟨#[40]⟩ ++ ctxB zs k ++ ⟨#[41, 32, 61, 62, 32]⟩) := rfl
      generalize ctxB zs k = B at *
      by_cases h1 : k = 1
      · have h1i : ((k : Int) == 1) = true := by rw [h1]; rfl
        by_cases h2 : zs.length % 2 = 0
        · have h2i : (((zs.length % 2 : Nat) : Int) == 0) = true := by rw [h2]; rfl
          have HE : Hid (B ++ ⟨#[32, 61, 62, 32]⟩ = ctxS zs k) := by show _ = _; rw [HR.out, if_neg (by omega), if_pos ⟨h1, h2⟩]
          have h2j : ((zs.length : Int).tmod 2 == 0) = true := by rw [hm2]; exact h2i
          have h2k : ((zs.length : Int) % 2 == 0) = true := by rw [hm3]; exact h2i
          clear h2 HR h1 hm2 hm3
          go_wp2
          go_ret
          exact ⟨by rw [← HE.out]; rfl, HB.out⟩
        · have h2i : (((zs.length % 2 : Nat) : Int) == 0) = false := by rw [beq_eq_false_iff_ne]; omega
          have HE : Hid (⟨#[40]⟩ ++ B ++ ⟨#[41, 32, 61, 62, 32]⟩ = ctxS zs k) := by show _ = _; rw [HR.out, if_neg (by omega), if_neg (by rintro ⟨_, h⟩; exact h2 h)]
          have h2j : ((zs.length : Int).tmod 2 == 0) = false := by rw [hm2]; exact h2i
          have h2k : ((zs.length : Int) % 2 == 0) = false := by rw [hm3]; exact h2i
          clear h2 HR h1 hm2 hm3
          go_wp2
          go_ret
          exact ⟨by rw [← HE.out]; rfl, HB.out⟩
      · have h1i : ((k : Int) == 1) = false := by rw [beq_eq_false_iff_ne]; omega
        have HE : Hid (⟨#[40]⟩ ++ B ++ ⟨#[41, 32, 61, 62, 32]⟩ = ctxS zs k) := by show _ = _; rw [HR.out, if_neg hm0, if_neg (by rintro ⟨h, _⟩; exact h1 h)]
        clear HR h1
        go_wp2
        go_ret
        exact ⟨by rw [← HE.out]; rfl, HB.out⟩
end Go.Proofs.YtbdfjboojokgdaaDoor
