/- The contracts of tread.ReadType and tread.ReadScheme (chapter 5). Conditions: those of whole. The contract of the document's Print of types (chapter 4). Conditions: the print has at most 2^40 bytes; numbers of what is not known are 0 to 9. Sources made of numbers (chapter 5's laws): what they are, that they are tokens, and the contract of source; what is read of tokens is not too great. Condition: the slice reads as numbers. fuguelaw05's lives tells true (chapter 5). Condition: the list of symbols stands in memory as the program's text lays it. The walk of TreadRound (chapter 5): it tells true for every slice of numbers. Condition: the list of symbols stands in memory as the program's text lays it. -/
import Derived.Test.YtbdfjboojokgdaaGreatDoorM37
import Derived.Test.YtbdfjboojokgdaaGreatDoorM40
import Derived.Test.YtbdfjboojokgdaaGreatDoorM09
import Derived.Test.YtbdfjboojokgdaaGreatDoorM18
import Derived.Test.YtbdfjboojokgdaaGreatDoorM15
import Derived.Test.YtbdfjboojokgdaaGreatDoorM22
import Derived.Test.YtbdfjboojokgdaaGreatDoorM17
import Derived.Test.YtbdfjboojokgdaaGreatDoorM36
import Derived.Test.YtbdfjboojokgdaaGreatDoorM38
import Derived.Test.YtbdfjboojokgdaaGreatDoorM06
import Derived.Test.YtbdfjboojokgdaaGreatDoorM41
import Derived.Test.YtbdfjboojokgdaaGreatDoorM42
namespace Go.Proofs.YtbdfjboojokgdaaGreatDoor
open Go.RowKit Lx

set_option maxRecDepth 100000 in
set_option maxHeartbeats 1000000 in
theorem readType_any (s0 : ByteArray) (w : World) (hS : SymsIn w) (hm : s0.size ≤ 1099511627776) :
    Calls Tryz.prog 7 #[.string s0] w (ReadTRes (readT s0.data.toList) w) := by
  obtain ⟨W, eW, k0, k1, b1, z1⟩ := nil2 w
  have HC := Lib.hid (wholeT_any s0 W (hS.on b1) hm)
  have HEW := Lib.hid eW
  have HB := Lib.hid b1
  have HK0 := Lib.hid k0
  have HK1 := Lib.hid k1
  have hWs : w.heap.size + 2 ≤ W.heap.size := by omega
  clear eW b1 k0 k1 z1 hS
  go_enter Tryz.func7, Tryz.ntmps7
  go_upto_region 1 with (fail)
  rw [HEW.out]
  go_wp2_with fail
  (with_reducible refine HC.out.mono ?_)
  intro e1 y hy
  cases hrd : readT s0.data.toList with
  | no e p =>
    rw [hrd] at hy
    obtain ⟨rfl, hb⟩ := hy
    obtain ⟨u0, u1, u2, u3, u4, u5, u6, u7, u8⟩ := four_cells ((hb.block w.heap.size (by omega)).trans HK0.out)
    obtain ⟨v0, v1, v2, v3, v4⟩ := pair_cells ((hb.block (w.heap.size + 1) (by omega)).trans HK1.out)
    have HE := Lib.hid (HB.out.trans (hb.mono HB.out.size))
    clear hb
    go_wp2_with fail
    refine bodyPost_ret (v := .tuple #[.agg #[.int .i64 0, .int .i64 0, .string ⟨#[]⟩, .slice none 0 0], .agg #[.int .i64 e, .int .i64 p]]) (by simp [results, Tryz.results7, go_sem, u0, u1, u2, u3, v0, v1]) rfl ?_
    show ReadTRes (readT s0.data.toList) w _ _
    rw [hrd]
    exact ⟨rfl, below6 HE.out (Nat.le_refl _) (.int .i64 0) (.int .i64 0) (.string ⟨#[]⟩) (.slice none 0 0) (.int .i64 e) (.int .i64 p)⟩
  | ok t q =>
    rw [hrd] at hy
    obtain ⟨f, n, s, A, l9, c, rfl, htt, hb⟩ := hy
    obtain ⟨u0, u1, u2, u3, u4, u5, u6, u7, u8⟩ := four_cells ((hb.block w.heap.size (by omega)).trans HK0.out)
    obtain ⟨v0, v1, v2, v3, v4⟩ := pair_cells ((hb.block (w.heap.size + 1) (by omega)).trans HK1.out)
    have HE := Lib.hid (HB.out.trans (hb.mono HB.out.size))
    have HTT : Hid (TyAt (fun b => w.heap.size + 2 ≤ b) y t (.agg #[.int .i64 f, .int .i64 n, .string s, .slice A l9 c])) := htt.mono (fun b (hb : W.heap.size ≤ b) => (by omega : w.heap.size + 2 ≤ b))
    clear hb htt
    go_wp2_with fail
    refine bodyPost_ret (v := .tuple #[.agg #[.int .i64 f, .int .i64 n, .string s, .slice A l9 c], .agg #[.int .i64 0, .int .i64 0]]) (by simp [results, Tryz.results7, go_sem, u0, u1, u2, u3, v0, v1]) rfl ?_
    show ReadTRes (readT s0.data.toList) w _ _
    rw [hrd]
    exact ⟨f, n, s, A, l9, c, rfl, (put6_ty HTT.out (k := w.heap.size) (by omega) (.int .i64 f) (.int .i64 n) (.string s) (.slice A l9 c) (.int .i64 0) (.int .i64 0)).mono (fun b (hb : w.heap.size + 2 ≤ b) => (by omega : w.heap.size ≤ b)), below6 HE.out (Nat.le_refl _) (.int .i64 f) (.int .i64 n) (.string s) (.slice A l9 c) (.int .i64 0) (.int .i64 0)⟩
set_option maxRecDepth 100000 in
set_option maxHeartbeats 1000000 in
theorem readScheme_any (s0 : ByteArray) (w : World) (hS : SymsIn w) (hm : s0.size ≤ 1099511627776)
    (hsz : ∀ l, lexL s0.data.toList = .ok l → ∀ ps t r, schemeRaw l = .ok ps t r → (∀ p ∈ ps, p.2.short) ∧ t.short ∧ (funs (ps.map (·.2)) t).sz ≤ 274877906944) :
    Calls Tryz.prog 11 #[.string s0] w (ReadSRes (readS s0.data.toList) w) := by
  obtain ⟨W, eW, k0, k1, b1, z1⟩ := scheme_boxes w
  have HC := Lib.hid (wholeS_any s0 W (hS.on b1) hm hsz)
  have HEW := Lib.hid eW
  have HB := Lib.hid b1
  have HK0 := Lib.hid k0
  have HK1 := Lib.hid k1
  have hWs : w.heap.size + 2 ≤ W.heap.size := by omega
  clear eW b1 k0 k1 z1 hS hsz
  go_enter Tryz.func11, Tryz.ntmps11
  go_upto_region 1 with (fail)
  rw [HEW.out]
  go_wp2_with fail
  (with_reducible refine HC.out.mono ?_)
  intro e1 y hy
  cases hrd : readS s0.data.toList with
  | no e p =>
    rw [hrd] at hy
    obtain ⟨rfl, hb⟩ := hy
    obtain ⟨u0, u1, u2, u3, u4, u5, u6, u7, u8, u9, u10, u11, u12, u13, u14⟩ := seven_cells ((hb.block w.heap.size (by omega)).trans HK0.out)
    obtain ⟨v0, v1, v2, v3, v4⟩ := pair_cells ((hb.block (w.heap.size + 1) (by omega)).trans HK1.out)
    have HE := Lib.hid (HB.out.trans (hb.mono HB.out.size))
    clear hb
    go_wp2_with fail
    refine bodyPost_ret (v := .tuple #[.agg #[.slice none 0 0, .slice none 0 0, .slice none 0 0, .int .i64 0, .int .i64 0, .string ⟨#[]⟩, .slice none 0 0], .agg #[.int .i64 e, .int .i64 p]]) (by simp [results, Tryz.results11, go_sem, u0, u1, u2, u3, u4, u5, u6, v0, v1]) rfl ?_
    show ReadSRes (readS s0.data.toList) w _ _
    rw [hrd]
    exact ⟨rfl, put9_below HE.out (Nat.le_refl _) (.slice none 0 0) (.slice none 0 0) (.slice none 0 0) (.int .i64 0) (.int .i64 0) (.string ⟨#[]⟩) (.slice none 0 0) (.int .i64 e) (.int .i64 p)⟩
  | ok ps t q =>
    rw [hrd] at hy
    obtain ⟨Av, nv, cv, Ap, cp, f, n, s, A, l9, c, rfl, hou, hpr, htt, hb⟩ := hy
    obtain ⟨u0, u1, u2, u3, u4, u5, u6, u7, u8, u9, u10, u11, u12, u13, u14⟩ := seven_cells ((hb.block w.heap.size (by omega)).trans HK0.out)
    obtain ⟨v0, v1, v2, v3, v4⟩ := pair_cells ((hb.block (w.heap.size + 1) (by omega)).trans HK1.out)
    have HE := Lib.hid (HB.out.trans (hb.mono HB.out.size))
    have HTT : Hid (TyAt (fun b => w.heap.size + 2 ≤ b) y t (.agg #[.int .i64 f, .int .i64 n, .string s, .slice A l9 c])) := htt.mono (fun b (hb : W.heap.size ≤ b) => (by omega : w.heap.size + 2 ≤ b))
    have HOU := Lib.hid hou
    have HPU := Lib.hid hpr
    clear hb htt hou hpr
    go_wp2_with fail
    refine bodyPost_ret (v := .tuple #[.agg #[.slice Av nv cv, .slice none 0 0, .slice Ap ps.length cp, .int .i64 f, .int .i64 n, .string s, .slice A l9 c], .agg #[.int .i64 0, .int .i64 0]]) (by simp [results, Tryz.results11, go_sem, u0, u1, u2, u3, u4, u5, u6, v0, v1]) rfl ?_
    show ReadSRes (readS s0.data.toList) w _ _
    rw [hrd]
    have h9 := put9_block y w.heap.size (.slice Av nv cv) (.slice none 0 0) (.slice Ap ps.length cp) (.int .i64 f) (.int .i64 n) (.string s) (.slice A l9 c) (.int .i64 0) (.int .i64 0)
    have h8 := put9_size y w.heap.size (.slice Av nv cv) (.slice none 0 0) (.slice Ap ps.length cp) (.int .i64 f) (.int .i64 n) (.string s) (.slice A l9 c) (.int .i64 0) (.int .i64 0)
    have h7 := put9_below HE.out (Nat.le_refl _) (.slice Av nv cv) (.slice none 0 0) (.slice Ap ps.length cp) (.int .i64 f) (.int .i64 n) (.string s) (.slice A l9 c) (.int .i64 0) (.int .i64 0)
    show ReadSRes _ w _ (put9 y w.heap.size (.slice Av nv cv) (.slice none 0 0) (.slice Ap ps.length cp) (.int .i64 f) (.int .i64 n) (.string s) (.slice A l9 c) (.int .i64 0) (.int .i64 0))
    generalize put9 y w.heap.size (.slice Av nv cv) (.slice none 0 0) (.slice Ap ps.length cp) (.int .i64 f) (.int .i64 n) (.string s) (.slice A l9 c) (.int .i64 0) (.int .i64 0) = Z at *
    refine ⟨Av, nv, cv, Ap, cp, f, n, s, A, l9, c, rfl, ?_, ?_, ?_, h7⟩
    · exact own_lower (own_keep HOU.out (fun k hk => h9 k (by have := (World.ownsRow.lt HOU.out k hk).1; omega) (by have := (World.ownsRow.lt HOU.out k hk).1; omega))) (by omega)
    · exact (HPU.out.keepH (w' := Z) (by omega) (fun k h1 h2 => h9 k (by omega) (by omega))).lower (by omega)
    · exact (HTT.out.keep (w' := Z) ⟨by omega, fun b off (hp : w.heap.size + 2 ≤ b) _ => World.cell?_of_block (a := ⟨b, off, none⟩) (h9 b (by omega) (by omega))⟩).mono (fun b hb => by have h5 : w.heap.size + 2 ≤ b := hb; omega)
end Go.Proofs.YtbdfjboojokgdaaGreatDoor
namespace Go.Proofs.YtbdfjboojokgdaaGreatDoor
open Go.RowKit

theorem prAt_le (p : Nat) (t : Ty) : t.pr.length ≤ (t.prAt p).length := by
  unfold Ty.prAt brk; split <;> simp; omega
theorem refprint_of (P : Nat → Prop) : ∀ (n : Nat) (t : Ty), t.sz ≤ n → t.ten → t.pr.length ≤ 1099511627776 → RefPr P t
  | 0, t, h, _, _ => by cases t <;> simp [Ty.sz] at h
  | n + 1, t, h, ht, hl => by
    cases t with
    | hole k => exact refprint_hole P k ht.1 ht.2
    | var s => exact refprint_name P _ s (.inl rfl) hl
    | con s => exact refprint_name P _ s (.inr rfl) hl
    | all s a =>
      refine refprint_all P s a (refprint_of P n a (by simp [Ty.sz] at h; omega) ht ?_) hl
      rw [Ty.pr] at hl; simp at hl; omega
    | app x b =>
      simp only [Ty.sz] at h
      cases hs : (Ty.app x b).sides with
      | none =>
        have h1 := prAt_le 2 x
        have h2 := prAt_le 3 b
        have hl' := hl
        rw [Ty.pr_app hs] at hl'
        simp only [List.length_append] at hl'
        exact refprint_app P x b hs (refprint_of P n x (by omega) ht.1 (by omega)) (refprint_of P n b (by omega) ht.2 (by omega)) hl
      | some p =>
        obtain ⟨a, b'⟩ := p
        have hl' := hl
        rw [Ty.pr_fun hs] at hl'
        have h1 := prAt_le 2 a
        have h2 := prAt_le 1 b'
        simp only [List.length_append] at hl'
        obtain ⟨f, e, hf⟩ := sides_shape hs
        injection e with e1 e2
        subst e1; subst e2
        simp only [Ty.sz] at h
        exact refprint_fun P _ a b hs (refprint_of P n a (by omega) ht.1.2 (by omega)) (refprint_of P n b (by omega) ht.2 (by omega)) hl
theorem refprint_any (P : Nat → Prop) (t : Ty) (ht : t.ten) (hl : t.pr.length ≤ 1099511627776) : RefPr P t := refprint_of P _ t (Nat.le_refl _) ht hl
theorem world_ten : ∀ (t : Ty), t.world → t.ten
  | .hole _, h => by rcases h with rfl | rfl | rfl | rfl <;> exact ⟨by omega, by omega⟩
  | .var _, _ => trivial
  | .con _, _ => trivial
  | .app a b, h => ⟨world_ten a h.1, world_ten b h.2⟩
  | .all _ a, h => world_ten a h.2
theorem world_small : ∀ (t : Ty), t.world → t.small
  | .hole _, h => by rcases h with rfl | rfl | rfl | rfl <;> exact ⟨by omega, by omega⟩
  | .var _, _ => trivial
  | .con _, _ => trivial
  | .app a b, h => ⟨world_small a h.1, world_small b h.2⟩
  | .all _ a, h => world_small a h.2
theorem world_short : ∀ (t : Ty), t.world → t.short
  | .hole _, _ => trivial
  | .var _, h => by rcases h with rfl | rfl | rfl | rfl <;> (show ByteArray.size _ ≤ _; decide)
  | .con _, h => by rcases h with rfl | rfl | rfl | rfl | rfl | rfl <;> (show ByteArray.size _ ≤ _; decide)
  | .app a b, h => ⟨world_short a h.1, world_short b h.2⟩
  | .all _ a, h => ⟨by rcases h.1 with rfl | rfl | rfl | rfl <;> decide, world_short a h.2⟩
/-- A print is not longer than this. -/
theorem world_pr : ∀ (t : Ty), t.world → t.pr.length ≤ 14 * t.sz
  | .hole n, h => by rcases h with rfl | rfl | rfl | rfl <;> (rw [Ty.pr]; simp [Ty.sz, Lib.decDigits])
  | .var s, h => by rcases h with rfl | rfl | rfl | rfl <;> simp [Ty.pr, Ty.sz]
  | .con s, h => by rcases h with rfl | rfl | rfl | rfl | rfl | rfl <;> simp [Ty.pr, Ty.sz, Ty.isArrow] <;> decide
  | .all s a, h => by
    have := world_pr a h.2
    rw [Ty.pr]
    rcases h.1 with rfl | rfl | rfl | rfl <;> simp [Ty.sz] <;> omega
  | .app x b, h => by
    have h1 := world_pr x h.1
    have h2 := world_pr b h.2
    have hb : ∀ (p : Nat) (t : Ty), (t.prAt p).length ≤ t.pr.length + 2 := fun p t => by unfold Ty.prAt brk; split <;> simp
    cases hs : (Ty.app x b).sides with
    | none =>
      have := hb 2 x
      have := hb 3 b
      rw [Ty.pr_app hs]; simp only [List.length_append, List.length_cons, List.length_nil, Ty.sz]; omega
    | some p =>
      obtain ⟨a, b'⟩ := p
      rw [Ty.pr_fun hs]
      obtain ⟨f, e, hf⟩ := sides_shape hs
      injection e with e1 e2
      subst e1; subst e2
      have := hb 2 a
      have := hb 1 b
      have h3 := world_pr a h.1.2
      simp only [List.length_append, List.length_cons, List.length_nil, Ty.sz] at h1 ⊢; omega
theorem sameT_refl : ∀ (t : Ty) (f : ByteArray → Int) (d : Int), sameT f f d t t = true
  | .hole n, _, _ => by simp [sameT]
  | .var s, f, _ => by simp [sameT]
  | .con s, _, _ => by simp [sameT]
  | .app a b, f, d => by simp [sameT, sameT_refl a f d, sameT_refl b f d]
  | .all s a, f, d => by simp [sameT, sameT_refl a]
end Go.Proofs.YtbdfjboojokgdaaGreatDoor
namespace Go.Proofs.YtbdfjboojokgdaaGreatDoor
open Go.RowKit Lx

/-- Texts, a blank behind each. -/
def srcT (strs : List (List UInt8)) : List UInt8 := strs.flatMap (fun t => t ++ [32])
theorem srcT_cons (t : List UInt8) (r : List (List UInt8)) : srcT (t :: r) = t ++ ([32] ++ srcT r) := by simp [srcT]
theorem srcT_snoc (r : List (List UInt8)) (t : List UInt8) : srcT (r ++ [t]) = srcT r ++ t ++ [32] := by simp [srcT]
theorem srcT_len : ∀ (strs : List (List UInt8)), (∀ x ∈ strs, x ∈ textsL) → (srcT strs).length ≤ 11 * strs.length
  | [], _ => by simp [srcT]
  | t :: r, h => by
    have ih := srcT_len r (fun q hq => h q (List.mem_cons_of_mem _ hq))
    have h1 := texts_len t (h t (List.mem_cons_self ..))
    rw [srcT_cons]; simp; omega
theorem lexA_srcT : ∀ (strs : List (List UInt8)), (∀ x ∈ strs, x ∈ textsL) → ∀ i, ∃ L, lexA (srcT strs) i = .ok L
  | [], _, i => ⟨_, rfl⟩
  | t :: r, h, i => by
    obtain ⟨L, hL⟩ := lexA_srcT r (fun q hq => h q (List.mem_cons_of_mem _ hq)) (i + t.length + 1)
    rw [srcT_cons]
    have hb : lexA ([32] ++ srcT r) (i + t.length) = .ok L := (lexA_gap [32] (srcT r) (by simp [gapsL]) (i + t.length)).trans hL
    exact ⟨_, lexA_text t ([32] ++ srcT r) (h t (List.mem_cons_self ..)) (.inr ⟨32, srcT r, rfl, .inl rfl⟩) i L hb⟩
theorem lexL_srcT {strs : List (List UInt8)} (h : ∀ x ∈ strs, x ∈ textsL) (hn : strs.length ≤ 30) : ∃ L, lexL (srcT strs) = .ok L := by
  obtain ⟨L, hL⟩ := lexA_srcT strs h 0
  have := srcT_len strs h
  exact ⟨L, by unfold lexL; rw [if_neg (by omega)]; exact hL⟩
/-! ### What is read is not too great -/
theorem lexF_texts : ∀ (f : Nat) (l : List UInt8) (i : Nat) (r : List Tok), lexF f l i = .ok r → ∀ t ∈ r, t.text.length ≤ l.length
  | 0, l, i, r, h => by
    simp only [lexF, Except.ok.injEq] at h
    subst h
    intro t ht; simp at ht; subst ht; exact Nat.zero_le _
  | f + 1, l, i, r, h => by
    simp only [lexF] at h
    split at h
    · simp only [Except.ok.injEq] at h
      subst h
      intro t ht; simp at ht; subst ht; exact Nat.zero_le _
    · split at h
      · intro t ht
        have := lexF_texts f _ _ _ h t ht
        rw [List.length_drop] at this; omega
      · split at h
        · cases h
        · rename_i k x n ho
          cases hr : lexF f (l.drop x.length) (i + x.length) with
          | error e => rw [hr] at h; cases h
          | ok q =>
            rw [hr] at h
            simp only [Except.map, Except.ok.injEq] at h
            subst h
            intro t ht
            rcases List.mem_cons.1 ht with rfl | ht
            · exact (oneT_len ho).2
            · have := lexF_texts f _ _ _ hr t ht
              rw [List.length_drop] at this; omega
theorem lexL_texts {l : List UInt8} {r : List Tok} (h : lexL l = .ok r) : ∀ t ∈ r, t.text.length ≤ 4000 := by
  unfold lexL at h
  split at h
  · cases h
  · intro t ht
    have := lexF_texts _ _ _ _ h t ht
    omega
def Txt (l : List Tok) : Prop := ∀ t ∈ l, t.text.length ≤ 4000
theorem Txt.suf {l q : List Tok} (h : Txt l) (hs : q <:+ l) : Txt q := fun t ht => h t (hs.subset ht)
theorem mkB_size (l : List UInt8) : (mkB l).size = l.length := by unfold mkB; simp [ByteArray.size]
theorem short_all : ∀ n : Nat, (∀ l o t q, Txt l → atomN n l o = some (.ok t q) → t.short) ∧ (∀ x l o t q, Txt l → x.short → appsN n x l o = some (.ok t q) → t.short) ∧ (∀ l o t q, Txt l → typeN n l o = some (.ok t q) → t.short)
  | 0 => ⟨fun _ _ _ _ _ h => by simp [atomN] at h, fun _ _ _ _ _ _ _ h => by simp [appsN] at h, fun _ _ _ _ _ h => by simp [typeN] at h⟩
  | n + 1 => by
    obtain ⟨iha, ihp, iht⟩ := short_all n
    have sf := suff_all n
    refine ⟨fun l o t q hx h => ?_, fun x l o t q hx hs h => ?_, fun l o t q hx h => ?_⟩
    · match l, hx, h with
      | [], hx, h => simp [atomN] at h
      | c :: r, hx, h =>
        have hc := hx c (List.mem_cons_self ..)
        have hr : Txt r := hx.suf (List.suffix_cons _ _)
        simp only [atomN] at h
        split at h
        · injection h with h; injection h with h1 h2; subst h1; show (mkB c.text).size ≤ _; rw [mkB_size]; omega
        · split at h
          · injection h with h; injection h with h1 h2; subst h1; show (mkB c.text).size ≤ _; rw [mkB_size]; omega
          · split at h
            · injection h with h; cases h
            · split at h
              · injection h with h; cases h
              · split at h
                · rename_i x d s he
                  split at h
                  · injection h with h; injection h with h1 h2; subst h1; exact iht _ _ _ _ hr he
                  · injection h with h; cases h
                · cases h
                · injection h with h; cases h
                · cases h
    · match l, hx, h with
      | [], hx, h => simp [appsN] at h
      | c :: r, hx, h =>
        simp only [appsN] at h
        split at h
        · split at h
          · rename_i a s he
            exact ihp (.app x a) s o t q (hx.suf (sf.1 _ _ _ _ he).1) ⟨hs, iha _ _ _ _ hx he⟩ h
          · injection h with h; cases h
          · cases h
        · injection h with h; injection h with h1 h2; subst h1; exact hs
    · simp only [typeN] at h
      split at h
      · rename_i x s he
        have h1 := iha _ _ _ _ hx he
        have hs := hx.suf (sf.1 _ _ _ _ he).1
        split at h
        · rename_i y d u hp
          have h2 := ihp _ _ _ _ _ hs h1 hp
          have hu : Txt u := (hs.suf (sf.2.1 _ _ _ _ _ hp).1).suf (List.suffix_cons _ _)
          split at h
          · split at h
            · rename_i z u' ht
              injection h with h; injection h with h3 h4; subst h3
              exact ⟨⟨by show (⟨#[45, 62]⟩ : ByteArray).size ≤ _; decide, h2⟩, iht _ _ _ _ hu ht⟩
            · injection h with h; cases h
            · cases h
          · injection h with h; injection h with h3 h4; subst h3; exact h2
        · cases h
        · injection h with h; cases h
        · cases h
      · injection h with h; cases h
      · cases h
theorem atomL_short {l q : List Tok} {o : Nat} {t : Ty} (hE : EndsT l) (hx : Txt l) (h : atomL l o = .ok t q) : t.short := (short_all _).1 l o t q hx ((atomL_is hE o).trans (by rw [h]))
theorem typeL_short {l q : List Tok} {o : Nat} {t : Ty} (hE : EndsT l) (hx : Txt l) (h : typeL l o = .ok t q) : t.short := (short_all _).2.2 l o t q hx ((typeL_is hE o).trans (by rw [h]))
theorem predL_fit (M : Nat) : ∀ (n : Nat) (l : List Tok) (o : Nat) (acc ps : List (ByteArray × Ty)) (q : List Tok), EndsT l → Txt l → l.length ≤ M → predL n l o acc = some (ps, q) → (∀ p ∈ acc, p.2.short ∧ p.2.sz ≤ 4 * M) → (∀ p ∈ ps, p.2.short ∧ p.2.sz ≤ 4 * M) ∧ q <:+ l
  | 0, _, _, _, _, _, _, _, _, h, _ => by simp [predL] at h
  | n + 1, [], _, _, _, _, _, _, _, h, _ => by simp [predL] at h
  | n + 1, t :: r, o, acc, ps, q, hE, hx, hl, h, ha => by
    simp only [predL] at h
    split at h
    · rename_i hk
      have hEr : EndsT r := hE.tail (by omega)
      have hxr : Txt r := hx.suf (List.suffix_cons _ _)
      split at h
      · rename_i x c s he
        have hok := atomL_ok hEr he
        have hacc : ∀ p ∈ acc ++ [(mkB t.text, x)], p.2.short ∧ p.2.sz ≤ 4 * M := fun p hp => by
          rcases List.mem_append.1 hp with hp | hp
          · exact ha p hp
          · rw [List.mem_singleton.1 hp]
            simp only [List.length_cons] at hl
            exact ⟨atomL_short hEr hxr he, by have := hok.2.2.2; simp only; omega⟩
        have hsx : (c :: s) <:+ t :: r := hok.2.1.trans (List.suffix_cons _ _)
        split at h
        · injection h with h; injection h with h1 h2; subst h1 h2
          exact ⟨hacc, hsx⟩
        · rename_i hcm
          have hc : isSym c [44] = true := by
            cases hq : isSym c [44] with
            | true => rfl
            | false => exact absurd (.inr hq) hcm
          have h9 := predL_fit M n s o _ ps q (hok.1.tail (sym_kind hc)) ((hx.suf hsx).suf (List.suffix_cons _ _)) (by have := hok.2.1.length_le; simp only [List.length_cons] at this hl; omega) h hacc
          exact ⟨h9.1, (h9.2.trans (List.suffix_cons _ _)).trans hsx⟩
      · cases h
    · cases h
theorem predsRaw_fit {l : List Tok} {ps : List (ByteArray × Ty)} {q : List Tok} (hE : EndsT l) (hx : Txt l) (h : predsRaw l = some (ps, q)) : (∀ p ∈ ps, p.2.short ∧ p.2.sz ≤ 4 * l.length) ∧ q <:+ l := by
  unfold predsRaw at h
  match l, hE, hx, h with
  | [], hE, _, _ => exact absurd rfl hE.ne
  | t :: r, hE, hx, h =>
    simp only at h
    split at h
    · rename_i hs
      cases hp : predL r.length r 1 [] with
      | none => rw [hp] at h; cases h
      | some o =>
        obtain ⟨ps', q'⟩ := o
        rw [hp] at h
        have h9 := predL_fit (t :: r).length _ _ _ _ ps' q' (hE.tail (sym_kind hs)) (hx.suf (List.suffix_cons _ _)) (by simp) hp (fun p hp => by cases hp)
        match q', h, h9 with
        | [], h, _ => simp [tailP] at h
        | [c], h, _ => simp [tailP] at h
        | c :: d :: q2, h, h9 =>
          simp only [tailP, if_true] at h
          split at h
          · injection h with h; injection h with h1 h2; subst h1 h2
            exact ⟨h9.1, (((List.suffix_cons _ _).trans (List.suffix_cons _ _)).trans h9.2).trans (List.suffix_cons _ _)⟩
          · cases h
    · cases hp : predL (r.length + 1) (t :: r) 0 [] with
      | none => rw [hp] at h; cases h
      | some o =>
        obtain ⟨ps', q'⟩ := o
        rw [hp] at h
        have h9 := predL_fit (t :: r).length _ _ _ _ ps' q' hE hx (Nat.le_refl _) hp (fun p hp => by cases hp)
        match q', h, h9 with
        | [], h, _ => simp [tailP] at h
        | c :: q2, h, h9 =>
          simp only [tailP, Bool.false_eq_true, if_false] at h
          split at h
          · injection h with h; injection h with h1 h2; subst h1 h2
            exact ⟨h9.1, (List.suffix_cons _ _).trans h9.2⟩
          · cases h
theorem sum_fit (M : Nat) : ∀ (ps : List (ByteArray × Ty)), (∀ p ∈ ps, p.2.sz ≤ M) → (ps.map (fun p => p.2.sz + 3)).sum ≤ ps.length * (M + 3)
  | [], _ => by simp
  | p :: r, h => by
    have ih := sum_fit M r (fun q hq => h q (List.mem_cons_of_mem _ hq))
    have h1 := h p (List.mem_cons_self ..)
    simp only [List.map_cons, List.sum_cons, List.length_cons, Nat.add_mul, Nat.one_mul]
    omega
/-- What is read of a scheme is not too great. -/
theorem scheme_fit {l : List Tok} (hE : EndsT l) (hx : Txt l) (hl : l.length ≤ 4001) (ps : List (ByteArray × Ty)) (t : Ty) (r : List Tok) (h : schemeRaw l = .ok ps t r) : ((∀ p ∈ ps, p.2.short) ∧ t.short ∧ (funs (ps.map (·.2)) t).sz ≤ 274877906944) ∧ ps.length ≤ 16 := by
  unfold schemeRaw at h
  have key : ∀ (q : List Tok), q <:+ l → EndsT q → (∀ p ∈ ps, p.2.short ∧ p.2.sz ≤ 4 * l.length) → ps.length ≤ 16 → typeL q 0 = .ok t r → ((∀ p ∈ ps, p.2.short) ∧ t.short ∧ (funs (ps.map (·.2)) t).sz ≤ 274877906944) ∧ ps.length ≤ 16 := fun q hq hEq hp h16 ht => by
    have h1 := (typeL_ok hEq ht).2.2.2
    have h2 := hq.length_le
    have h3 := sum_fit (4 * l.length) ps (fun p hp' => (hp p hp').2)
    have h4 : ps.length * (4 * l.length + 3) ≤ 16 * (4 * 4001 + 3) := Nat.mul_le_mul h16 (by omega)
    refine ⟨⟨fun p hp' => (hp p hp').1, typeL_short hEq (hx.suf hq) ht, ?_⟩, h16⟩
    rw [sum_psz]; omega
  cases ho : predsRaw l with
  | none =>
    rw [ho] at h
    simp only at h
    cases ht : typeL l 0 with
    | no e p => rw [ht] at h; cases h
    | ok x s =>
      rw [ht] at h
      injection h with h1 h2 h3
      subst h1 h2 h3
      exact key l (List.suffix_refl _) hE (fun p hp => by cases hp) (by simp) ht
  | some o =>
    obtain ⟨ps', q⟩ := o
    rw [ho] at h
    simp only at h
    split at h
    · cases h
    · rename_i h16
      cases ht : typeL q 0 with
      | no e p => rw [ht] at h; cases h
      | ok x s =>
        rw [ht] at h
        injection h with h1 h2 h3
        subst h1 h2 h3
        have hf := predsRaw_fit hE hx ho
        exact key q hf.2 (predsRaw_ends hE ho).2 hf.1 (by omega) ht
theorem append_mkS (a b : List UInt8) : (⟨a.toArray⟩ : ByteArray) ++ ⟨b.toArray⟩ = ⟨(a ++ b).toArray⟩ := by
  apply ByteArray.ext
  simp [ByteArray.data_append]
theorem mkS_size (x : List UInt8) : (⟨x.toArray⟩ : ByteArray).size = x.length := by show x.toArray.size = _; simp
theorem srcT_take {strs : List (List UInt8)} {k : Nat} (h : k < strs.length) : srcT (strs.take (k + 1)) = srcT (strs.take k) ++ strs[k] ++ [32] := by
  rw [List.take_succ_eq_append_getElem h, srcT_snoc]
set_option maxRecDepth 100000 in
set_option maxHeartbeats 1000000 in
theorem sourceT_any (A : Option Addr) (len cap : Nat) (f : Nat → Int) (w : World) (hr : IntRowF w.heap.size w A len f) (hlen : len ≤ 9223372036854775807) :
    Calls Tryz.prog 19 #[.slice A len cap] w fun e w' => e = .returned (.string ⟨(srcT (textsF f (min len 30))).toArray⟩) ∧ Below w.heap.size w w' := by
  have HTX := Lib.hid (texts_is A len cap f w hr hlen)
  have hmem := textsF_mem f (min len 30)
  have hln : (textsF f (min len 30)).length ≤ 30 := by rw [textsF_len]; omega
  have HMEM := Lib.hid hmem
  clear hr hmem
  generalize textsF f (min len 30) = strs at *
  go_enter Tryz.func19, Tryz.ntmps19
  go_wp2_with fail
  refine HTX.out.mono ?_
  rintro e y ⟨v, rfl, ho, hb⟩
  obtain ⟨As, cs, rfl, hrow⟩ := strRow_of_own ho
  have HROW := Lib.hid hrow
  have HB := Lib.hid hb
  clear ho hrow hb
  go_wp2_with fail
  go_loopw [4, 5] (fun o i wr => ∃ k : Nat, k ≤ strs.length ∧ i = .int .i64 k ∧ o = .string ⟨(srcT (strs.take k)).toArray⟩ ∧ wr = y) (fun _ i _ => strs.length - (intOf i).toNat)
  case atStart => exact ⟨0, Nat.zero_le _, rfl, rfl, rfl⟩
  case round =>
    obtain ⟨k, hk, rfl, rfl, rfl⟩ := hrel
    by_cases hlt : k < strs.length
    · rcases HROW.out with h9 | ⟨g, rfl, hg, hc⟩
      · rw [h9] at hlt; simp at hlt
      have h9 := hc k hlt
      unfold SV at h9
      have htl := texts_len _ (HMEM.out _ (List.getElem_mem hlt))
      have hsl := srcT_len (strs.take k) (fun x hx => HMEM.out x (List.mem_of_mem_take hx))
      rw [List.length_take] at hsl
      have hst := srcT_take hlt
      have hNX : (⟨(srcT (strs.take (k + 1))).toArray⟩ : ByteArray) = ⟨(srcT (strs.take k)).toArray⟩ ++ ⟨strs[k].toArray⟩ ++ ⟨#[32]⟩ := by
        rw [hst, append_mkS]
        exact (append_mkS _ [32]).symm
      have HNX := Lib.hid hNX
      have hz1 := mkS_size (srcT (strs.take k))
      have hz2 := mkS_size strs[k]
      generalize (⟨(srcT (strs.take k)).toArray⟩ : ByteArray) = S1 at *
      generalize (⟨strs[k].toArray⟩ : ByteArray) = S2 at *
      have hs1 : S1.size ≤ 330 := by omega
      have hs2 : S2.size ≤ 10 := by omega
      have hd1 : ∀ q : World, (Op.stringOp .add S1 S2).run Tryz.prog q = .ok (.string (S1 ++ S2)) q := fun q => run_string_add_sum q _ _ (by omega)
      have hd2 : ∀ q : World, (Op.stringOp .add (S1 ++ S2) ⟨#[32]⟩).run Tryz.prog q = .ok (.string (S1 ++ S2 ++ ⟨#[32]⟩)) q := fun q => run_string_add_sum q _ _ (by rw [ByteArray.size_append]; show _ + 1 ≤ _; omega)
      have hki : (k : Int) < (strs.length : Int) := by omega
      have hk0 : (0 : Int) ≤ (k : Int) := by omega
      clear hst hNX hz1 hz2 htl hsl hc
      go_wp2
      go_roundw
      case rel => exact ⟨k + 1, by omega, by go_num, by rw [HNX.out], by first | rfl | trivial⟩
      case measure => simp [intOf]; omega
    · have hd : decide (k < strs.length) = false := by simpa using hlt
      have hkl : strs.take k = strs := List.take_of_length_le (by omega)
      have HKL := Lib.hid hkl
      clear hkl
      go_wp2
      go_ret
      exact ⟨by show Ending.returned (Value.string ⟨(srcT (strs.take k)).toArray⟩) = _; rw [HKL.out], HB.out⟩
end Go.Proofs.YtbdfjboojokgdaaGreatDoor
namespace Go.Proofs.YtbdfjboojokgdaaGreatDoor
open Go.RowKit Lx

def liveSrc : ByteArray := ⟨#[40, 69, 32, 97, 44, 32, 79, 32, 98, 41, 32, 61, 62, 32, 97, 32, 45, 62, 32, 76, 32, 98]⟩
def livePs : List (ByteArray × Ty) := [(⟨#[69]⟩, .var ⟨#[97]⟩), (⟨#[79]⟩, .var ⟨#[98]⟩)]
def liveT : Ty := .fn (.var ⟨#[97]⟩) (.app (.con ⟨#[76]⟩) (.var ⟨#[98]⟩))
theorem liveT_pr : liveT.pr = [97, 32, 45, 62, 32, 76, 32, 98] := by decide
def liveToks : List Tok := match lexL liveSrc.data.toList with | .ok l => l | .error _ => []
theorem live_lex : lexL liveSrc.data.toList = .ok liveToks := by kernel_rfl
def liveRest : List Tok := match schemeRaw liveToks with | .ok _ _ r => r | .no _ _ => []
theorem live_raw : schemeRaw liveToks = .ok livePs liveT liveRest := by kernel_rfl
theorem live_read : readS liveSrc.data.toList = .ok livePs liveT liveRest := by kernel_rfl
theorem live_free : (funs (livePs.map (·.2)) liveT).free = [⟨#[97]⟩, ⟨#[98]⟩] := by kernel_rfl
theorem live_sz : (funs (livePs.map (·.2)) liveT).sz ≤ 274877906944 := of_decide_eq_true (by kernel_rfl)
theorem live_ok (l : List Tok) (hl : lexL liveSrc.data.toList = .ok l) (ps : List (ByteArray × Ty)) (t : Ty) (r : List Tok) (h : schemeRaw l = .ok ps t r) : (∀ p ∈ ps, p.2.short) ∧ t.short ∧ (funs (ps.map (·.2)) t).sz ≤ 274877906944 := by
  rw [live_lex] at hl
  injection hl with hl
  subst hl
  rw [live_raw] at h
  injection h with h1 h2 h3
  subst h1; subst h2
  exact ⟨fun p hp => by simp [livePs] at hp; rcases hp with rfl | rfl <;> simp [Ty.short] <;> decide, by simp [liveT, Ty.fn, Ty.short]; decide, live_sz⟩
theorem live_len : livePs.length = 2 := rfl
theorem box_scheme (w : World) (x0 x1 x2 x3 x4 x5 x6 y0 y1 : Value) : ∃ W, (w.alloc (.cells #[x0, x1, x2, x3, x4, x5, x6] 42)).alloc (.cells #[y0, y1] 30) = W ∧
    W.heap[w.heap.size]? = some (.cells #[x0, x1, x2, x3, x4, x5, x6] 42) ∧ W.heap[w.heap.size + 1]? = some (.cells #[y0, y1] 30) ∧ Below w.heap.size w W ∧ W.heap.size = w.heap.size + 2 := by
  refine ⟨_, rfl, ?_, ?_, below2 w _ _, by simp⟩
  · exact ((below_new _ _).block _ (by simp)).trans (MapKept.heap_alloc w (.cells #[x0, x1, x2, x3, x4, x5, x6] 42)).1
  · simpa using (MapKept.heap_alloc (w.alloc (.cells #[x0, x1, x2, x3, x4, x5, x6] 42)) (.cells #[y0, y1] 30)).1
theorem two_strs (w : World) (s1 s2 : ByteArray) : StrsAt (fun _ => True) (w.alloc (.cells #[.string s1, .string s2] 9)) (.slice (some ⟨w.heap.size, 0, none⟩) 2 2) [s1, s2] := by
  have h := (MapKept.heap_alloc w (.cells #[.string s1, .string s2] 9)).1
  refine ⟨_, _, rfl, Nat.le_refl _, by unfold maxLen; decide, .inr ⟨_, _, rfl, trivial, by simp, fun i hi => ?_⟩⟩
  have h2 : i = 0 ∨ i = 1 := by simp at hi; omega
  rcases h2 with rfl | rfl
  · simp only [World.cell?, h]; rfl
  · simp only [World.cell?, h]; rfl
theorem live_calls (w : World) (hS : SymsIn w) : Calls Tryz.prog 11 #[.string liveSrc] w (ReadSRes (.ok livePs liveT liveRest) w) :=
  live_read ▸ readScheme_any liveSrc w hS (of_decide_eq_true (by kernel_rfl)) live_ok
set_option maxRecDepth 100000 in
set_option maxHeartbeats 1000000 in
theorem livesT_any (w : World) (hS : SymsIn w) : Calls Tryz.prog 10 #[] w (TrueB w) := by
  have HC := Lib.hid (live_calls w hS)
  have HP := Lib.hid (fun (P : Nat → Prop) (v : Value) (w : World) (h : TyAt P w liveT v) => refprint_any P liveT (by simp [liveT, Ty.fn, Ty.ten]) (by rw [liveT_pr]; decide) v w h)
  rw [liveT_pr] at HP
  have heq := eq_at
  have hgd := guard_at
  unfold liveSrc at HC
  clear hS
  go_enter Tryz.func10, Tryz.ntmps10
  go_wp2_with fail
  (with_reducible refine HC.out.mono ?_)
  rintro e1 y ⟨Av, nv, cv, Ap, cp, f, n, s, A, l9, c, rfl, hou, hpr, htt, hb⟩
  rw [live_len]
  rw [live_free] at hou
  obtain ⟨Av9, cv9, hv9, _⟩ := hou.strs.shape
  injection hv9 with e1 e2 e3
  subst e1; subst e2; subst e3
  obtain ⟨Y, eY, k0, k1, b1, z1⟩ := box_scheme y (.slice Av 2 cv) (.slice none 0 0) (.slice Ap 2 cp) (.int .i64 f) (.int .i64 n) (.string s) (.slice A l9 c) (.int .i64 0) (.int .i64 0)
  have hbY := hb.trans (b1.mono hb.size)
  obtain ⟨u0, u1, u2, u3, u4, u5, u6, u7, u8, u9, u10, u11, u12, u13, u14⟩ := seven_cells k0
  obtain ⟨v0, v1, v2, v3, v4⟩ := pair_cells k1
  have HST : Hid (StrsAt (fun b => w.heap.size ≤ b ∧ (Value.slice Av 2 cv).ownBlock = some b) Y (.slice Av 2 cv) [⟨#[97]⟩, ⟨#[98]⟩]) := hou.strs.on b1
  have HTT := Lib.hid (htt.on b1)
  have HEY := Lib.hid eY
  have HBY := Lib.hid hbY
  have HZ := Lib.hid z1
  have HK0 := Lib.hid k0
  have HK1 := Lib.hid k1
  have hyY : y.heap.size + 1 < Y.heap.size := by omega
  have hwY : w.heap.size ≤ Y.heap.size := hbY.size
  clear eY hou hpr htt hb b1 z1 hbY k0 k1
  go_upto_region 2 with (fail)
  rw [HEY.out]
  have hn := below_new Y (.cells #[.string ⟨#[97]⟩, .string ⟨#[98]⟩] 9)
  have HSM := Lib.hid (sameTexts_any _ _ _ _ _ _ (HST.out.on hn) (two_strs Y ⟨#[97]⟩ ⟨#[98]⟩))
  have HN := Lib.hid hn
  clear hn
  go_wp2_with fail
  (with_reducible refine HSM.out.mono ?_)
  rintro e2 z ⟨rfl, hbz⟩
  have hbz2 := HN.out.trans (hbz.mono HN.out.size)
  obtain ⟨p0, p1, p2, p3, p4, p5, p6, p7, p8, p9, p10, p11, p12, p13, p14⟩ := seven_cells ((hbz2.block y.heap.size (by omega)).trans HK0.out)
  have HPR := Lib.hid (HP.out _ _ z (HTT.out.on hbz2))
  have HBZ := Lib.hid (HBY.out.trans (hbz2.mono HBY.out.size))
  clear hbz hbz2
  go_wp2_with fail
  (with_reducible refine HPR.out.mono ?_)
  rintro e3 z3 ⟨rfl, hb3⟩
  have HB3 := Lib.hid (HBZ.out.trans (hb3.mono HBZ.out.size))
  clear hb3
  go_wp2
  go_ret
  exact ⟨rfl, HB3.out⟩
end Go.Proofs.YtbdfjboojokgdaaGreatDoor
namespace Go.Proofs.YtbdfjboojokgdaaGreatDoor
open Go.RowKit Lx

theorem box_typeR (w : World) (x0 x1 x2 x3 y0 y1 : Value) : ∃ W, (w.alloc (.cells #[x0, x1, x2, x3] 27)).alloc (.cells #[y0, y1] 30) = W ∧
    W.heap[w.heap.size]? = some (.cells #[x0, x1, x2, x3] 27) ∧ W.heap[w.heap.size + 1]? = some (.cells #[y0, y1] 30) ∧ Below w.heap.size w W ∧ W.heap.size = w.heap.size + 2 := by
  refine ⟨_, rfl, ?_, ?_, below2 w _ _, by simp⟩
  · exact ((below_new _ _).block _ (by simp)).trans (MapKept.heap_alloc w (.cells #[x0, x1, x2, x3] 27)).1
  · simpa using (MapKept.heap_alloc (w.alloc (.cells #[x0, x1, x2, x3] 27)) (.cells #[y0, y1] 30)).1
theorem one_boxR (w : World) (x0 x1 x2 x3 : Value) : ∃ W, w.alloc (.cells #[x0, x1, x2, x3] 27) = W ∧ W.heap[w.heap.size]? = some (.cells #[x0, x1, x2, x3] 27) ∧ Below w.heap.size w W ∧ W.heap.size = w.heap.size + 1 :=
  ⟨_, rfl, (MapKept.heap_alloc w _).1, below_new w _, by simp⟩
theorem ret_trueR {w X Y : World} (h : Below w.heap.size w X) (h2 : Below X.heap.size X Y) : TrueB w (.returned (.bool true)) Y := ⟨rfl, h.trans (h2.mono h.size)⟩
set_option maxRecDepth 100000 in
set_option maxHeartbeats 4000000 in
theorem treadRound_law (A : Option Addr) (len cap : Nat) (w : World) (hl : SomeInts w (.slice A len cap)) (hS : SymsIn w) : Calls Tryz.prog 5 #[.slice A len cap] w (TrueB w) := by
  obtain ⟨zs, hz⟩ := hl
  have HG := Lib.hid (goodT_any _ _ zs w hz)
  obtain ⟨hG, hGs, hGd⟩ := goodZ_good zs
  have hpl := hG.pr_len
  obtain ⟨e9, hr9⟩ := read_round hG (by omega) (by omega)
  have HS := Lib.hid hS
  have heq := eq_at
  have hgd := guard_at
  have HPR : Hid (∀ (Q : Nat → Prop) (v : Value) (X : World), TyAt Q X (goodZ zs) v → Calls Tryz.prog 14 #[v] X fun e w' => e = .returned (.string ⟨(goodZ zs).pr.toArray⟩) ∧ Below X.heap.size X w') := fun Q v X ht => print_any Q _ v X ht (good_small hG) (by omega)
  have HRT : Hid (∀ (X : World), Below w.heap.size w X → Calls Tryz.prog 7 #[.string ⟨(goodZ zs).pr.toArray⟩] X (ReadTRes (.ok (goodZ zs) [e9]) X)) := fun X hb => by
    have h := readType_any ⟨(goodZ zs).pr.toArray⟩ X (hS.on hb) (by rw [mkS_size]; omega)
    have hby : (⟨(goodZ zs).pr.toArray⟩ : ByteArray).data.toList = (goodZ zs).pr := by simp
    rw [hby, hr9] at h
    exact h
  clear hz hS hpl hr9 hG hGs hGd
  generalize goodZ zs = t at *
  generalize t.pr = p at *
  go_enter Tryz.func5, Tryz.ntmps5
  go_wp2_with fail
  (with_reducible refine HG.out.mono ?_)
  rintro e1 x1 ⟨tv, rfl, ht1, hb1⟩
  obtain ⟨f1, n1, s1, A1, l1, c1, rfl⟩ := ht1.flat
  obtain ⟨X, eX, k0, b1, z1⟩ := one_boxR x1 (.int .i64 f1) (.int .i64 n1) (.string s1) (.slice A1 l1 c1)
  have hbX := hb1.trans (b1.mono hb1.size)
  have HTX := Lib.hid (ht1.bound'.on b1)
  have HP1 := Lib.hid (HPR.out _ _ X HTX.out)
  have HEX := Lib.hid eX
  have HK0 := Lib.hid k0
  have HBX := Lib.hid hbX
  have hxX : x1.heap.size < X.heap.size := by omega
  obtain ⟨a0, a1, a2, a3, a4, a5, a6, a7, a8⟩ := four_cells k0
  clear hb1 ht1 eX k0 b1 hbX HPR
  go_upto_region 2 with (fail)
  rw [HEX.out]
  go_wp2_with fail
  (with_reducible refine HP1.out.mono ?_)
  rintro e2 x2 ⟨rfl, hb2⟩
  have HB2 := Lib.hid (HBX.out.trans (hb2.mono HBX.out.size))
  have HR := Lib.hid (HRT.out x2 HB2.out)
  have HX2 := Lib.hid hb2
  clear hb2 a0 a1 a2 a3 a4 a5 a6 a7 a8
  go_wp2_with fail
  (with_reducible refine HR.out.mono ?_)
  rintro e3 y ⟨f2, n2, s2, A2, l2, c2, rfl, ht2, hb3⟩
  obtain ⟨Y, eY, k1, k2, b4, z4⟩ := box_typeR y (.int .i64 f2) (.int .i64 n2) (.string s2) (.slice A2 l2 c2) (.int .i64 0) (.int .i64 0)
  have hbY := hb3.trans (b4.mono hb3.size)
  have hXY := HX2.out.trans (hbY.mono HX2.out.size)
  have HEQ := Lib.hid (equal_any _ _ _ t t _ _ Y (Nat.le_refl _) (ht2.bound'.on b4) (HTX.out.on hXY))
  have HBY := Lib.hid (HBX.out.trans (hXY.mono HBX.out.size))
  obtain ⟨a0, a1, a2, a3, a4, a5, a6, a7, a8⟩ := four_cells ((hXY.block x1.heap.size hxX).trans HK0.out)
  obtain ⟨c0, c1', c2', c3, c4, c5, c6, c7, c8⟩ := four_cells k1
  obtain ⟨d0, d1, d2, d3, d4⟩ := pair_cells k2
  have HEY := Lib.hid eY
  clear hb3 ht2 eY k1 k2 b4 hbY hXY
  go_upto_region 3 with (fail)
  rw [HEY.out]
  go_wp2_with fail
  (with_reducible refine HEQ.out.mono ?_)
  rintro e4 x4 ⟨rfl, hb4⟩
  rw [eqT_true rfl]
  have HB4 := Lib.hid (HBY.out.trans (hb4.mono HBY.out.size))
  have HLV := Lib.hid (livesT_any x4 (HS.out.on HB4.out))
  clear hb4
  go_wp2_with fail
  (with_reducible refine HLV.out.mono ?_)
  rintro e9 x9 ⟨rfl, hb9⟩
  have HE := Lib.hid (ret_trueR HB4.out hb9)
  clear hb9
  go_wp2
  go_ret
  exact HE.out
theorem treadRound_walk (A : Option Addr) (len cap : Nat) (w : World) (hl : SomeInts w (.slice A len cap)) (hS : SymsIn w) : Calls Tryz.prog 5 #[.slice A len cap] w (TrueB w) := treadRound_law A len cap w hl hS
end Go.Proofs.YtbdfjboojokgdaaGreatDoor
