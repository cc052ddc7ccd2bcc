/- The contract of the document's Function (chapter 4): is a type a function's? No conditions but those that each theorem names. The contracts of the document's bracket, Decimal (of one digit) and Print of types (chapter 4): the small cases. Conditions: the print has at most 2^40 bytes; numbers of what is not known are 0 to 9. The contracts of the document's Decimal and Letters (numbers from 0 on). Condition: the number is below 2^62. The contracts of chars.Letters and of maps.Copy at maps of texts that were met (types.Subst, chapter 4). Conditions: the library's table of powers of ten reads as the program's text lays it; the number is below 2^62. -/
import Derived.Test.YtbdfjboojokgdaaDoorJU04
import Derived.Test.YtbdfjboojokgdaaDoorJU28
import Derived.Test.YtbdfjboojokgdaaDoorJU06
import Derived.Deep.RegionHeld3
import Derived.Test.YtbdfjboojokgdaaDoorJU11
import Derived.Test.YtbdfjboojokgdaaDoorJU26
import Derived.Maps.RangeWalk
import Derived.Sort.MapsRangeIn
import Derived.Maps.Ext
import Derived.Laws.IdiomRangeMap
import Derived.Lib.AppendIntMem
namespace Go.Proofs.YtbdfjboojokgdaaDoor
open Go.RowKit

theorem isArrow_con {f : Ty} (h : f.isArrow = true) : f = .con ⟨#[45, 62]⟩ := by
  cases f with
  | con s => rw [(arrow_eq s).1 h]
  | _ => cases h
theorem sides_fn {t a b : Ty} (h : t.sides = some (a, b)) : t = Ty.fn a b := by
  unfold Ty.sides at h
  split at h
  · split at h
    · rename_i hf
      simp only [Option.some.injEq, Prod.mk.injEq] at h
      obtain ⟨rfl, rfl⟩ := h
      rw [isArrow_con hf]; rfl
    · cases h
  · cases h
set_option maxRecDepth 100000 in
set_option maxHeartbeats 1000000 in
theorem function_any (P : Nat → Prop) (t : Ty) (v : Value) (w : World) (h : TyAt P w t v) : Calls Tryd.prog 75 #[v] w fun e w' => e = .returned (.bool t.sides.isSome) ∧ Below w.heap.size w w' := by
  by_cases hap : t.isApp = true
  · obtain ⟨x, b, rfl⟩ : ∃ x b, t = .app x b := by cases t <;> first | exact ⟨_, _, rfl⟩ | cases hap
    obtain ⟨sv, rfl, hs⟩ := h.tys
    simp only [Ty.form, Ty.num, Ty.name, Ty.args] at hs ⊢
    obtain ⟨A, c, rfl, _, _⟩ := hs.form
    obtain ⟨g, off, A3, c3, rfl, hPg, hgl, k0, k1, k2, k3, hx⟩ := hs.at 0 (by simp)
    simp only [List.getElem_cons_zero, Nat.zero_mul, Nat.add_zero, List.length_cons, List.length_nil, Nat.zero_add, Nat.reduceAdd] at k0 k1 k2 k3 hx ⊢
    clear h hs hap
    by_cases hax : x.isApp = true
    · obtain ⟨f, a, rfl⟩ : ∃ f a, x = .app f a := by cases x <;> first | exact ⟨_, _, rfl⟩ | cases hax
      obtain ⟨sv, esv, hs⟩ := hx.tys
      simp only [Ty.form, Ty.num, Ty.name, Ty.args, Value.agg.injEq, Array.mk.injEq, List.cons.injEq, true_and, and_true, List.length_cons, List.length_nil, Nat.zero_add, Nat.reduceAdd] at esv hs k0 k1 k2 k3
      subst esv
      obtain ⟨g3, off3, A5, c5, e5, hP3, hg3, m0, m1, m2, m3, hf⟩ := hs.at 0 (by simp)
      subst e5
      simp only [List.getElem_cons_zero, Nat.zero_mul, Nat.add_zero] at m0 m1 m2 m3 hf
      clear hs hx hf hax
      have hcase : (f.form == 3) = false ∨ ∃ s, f = .con s := by cases f <;> first | exact .inl rfl | exact .inr ⟨_, rfl⟩
      rcases hcase with h3 | ⟨s, rfl⟩
      · have HE : Hid ((Ty.app (.app f a) b).sides.isSome = false) := by
          show (if f.isArrow then some (a, b) else none).isSome = false
          rw [if_neg (fun h => by rw [isArrow_con h] at h3; cases h3)]; rfl
        generalize f.form = ff, f.num = fn', f.name = fs, f.args.length = fl at *
        go_enter Tryd.func75, Tryd.ntmps75
        go_wp2
        go_ret
        exact ⟨ret_bool HE.out.symm, below2 w _ _⟩
      · have HE : Hid ((Ty.app (.app (.con s) a) b).sides.isSome = (s.toList == [45, 62])) := by
          show (if (Ty.con s).isArrow then some (a, b) else none).isSome = _
          rw [← list_arrow]
          cases hq : (s == (⟨#[45, 62]⟩ : ByteArray)) with
          | true => rw [if_pos (show (Ty.con s).isArrow = true from hq)]; rfl
          | false => rw [if_neg (show ¬ (Ty.con s).isArrow = true from fun h => by have h' : (s == (⟨#[45, 62]⟩ : ByteArray)) = true := h; rw [hq] at h'; cases h')]; rfl
        simp only [Ty.form, Ty.num, Ty.name, Ty.args, List.length_nil] at m0 m1 m2 m3
        go_enter Tryd.func75, Tryd.ntmps75
        go_wp2
        go_ret
        exact ⟨ret_bool HE.out.symm, below2 w _ _⟩
    · have HE : Hid ((Ty.app x b).sides.isSome = false) := by show _ = _; cases x <;> first | rfl | exact absurd rfl hax
      have h4 : (x.form != 4) = true := by cases x <;> first | rfl | exact absurd rfl hax
      clear hx hax
      generalize x.form = xf, x.num = xn, x.name = xs, x.args.length = xl at *
      go_enter Tryd.func75, Tryd.ntmps75
      go_wp2
      go_ret
      exact ⟨ret_bool HE.out.symm, below_new w _⟩
  · have hap' : t.isApp = false := by simpa using hap
    have HE : Hid (t.sides.isSome = false) := by show _ = _; rw [sides_leaf hap']; rfl
    obtain ⟨A, c, rfl, _, _⟩ := h.form
    have h4 : (t.form != 4) = true := by cases t <;> first | rfl | cases hap'
    clear h hap hap'
    generalize t.form = xf, t.num = xn, t.name = xs, t.args.length = xl at *
    go_enter Tryd.func75, Tryd.ntmps75
    go_wp2
    go_ret
    exact ⟨ret_bool HE.out.symm, below_new w _⟩
end Go.Proofs.YtbdfjboojokgdaaDoor
namespace Go.Proofs.YtbdfjboojokgdaaDoor
open Go.RowKit

theorem mk_size (x : List UInt8) : (⟨x.toArray⟩ : ByteArray).size = x.length := by show x.toArray.size = _; simp
theorem append_mk2 (a b : List UInt8) : (⟨a.toArray⟩ : ByteArray) ++ ⟨b.toArray⟩ = ⟨(a ++ b).toArray⟩ := by
  apply ByteArray.ext
  simp [ByteArray.data_append]
theorem ofNat_toNat (n : Nat) (h : n < 256) : (UInt8.ofNat n).toNat = n := by simp [UInt8.toNat_ofNat']; omega
/-- string([]byte{x}). -/
theorem convert_one (w : World) (x : Int) (h0 : 0 ≤ x) (h1 : x < 256) :
    (convert 123 9 (.slice (some ⟨w.heap.size, 0, none⟩) 1 1)).run Tryd.prog (w.alloc (.cells #[.int .u8 x] 5)) = .ok (.string ⟨#[UInt8.ofNat x.toNat]⟩) (w.alloc (.cells #[.int .u8 x] 5)) := by
  have hx : (((UInt8.ofNat x.toNat).toNat : Nat) : Int) = x := by rw [ofNat_toNat _ (by omega)]; omega
  refine run_convert_bytes_back (w.alloc (.cells #[.int .u8 x] 5)) 123 9 5 ⟨w.heap.size, 0, none⟩ 1 [UInt8.ofNat x.toNat] Tryd.underlying123 Tryd.underlying5 Tryd.underlying9 fun j hj => ?_
  obtain rfl : j = 0 := by simpa using hj
  simp only [List.getElem_cons_zero]
  rw [hx]
  simp [Addr.add, go_sem]
set_option maxRecDepth 100000 in
set_option maxHeartbeats 1000000 in
theorem decimal_one (n : Int) (w : World) (h0 : 0 ≤ n) (h1 : n < 10) : Calls Tryd.prog 77 #[.int .i64 n] w fun e w' => e = .returned (.string ⟨(Lib.decDigits n.toNat).toArray⟩) ∧ Below w.heap.size w w' := by
  have hcv := convert_one w (48 + n % 10) (by omega) (by omega)
  have b1 : decide (n < 10) = true := by simp; omega
  have HD : Hid (UInt8.ofNat (48 + n % 10).toNat = 48 + UInt8.ofNat (n.toNat) ∧ Lib.decDigits n.toNat = [UInt8.ofNat (48 + n % 10).toNat]) := by
    have hn : n = 0 ∨ n = 1 ∨ n = 2 ∨ n = 3 ∨ n = 4 ∨ n = 5 ∨ n = 6 ∨ n = 7 ∨ n = 8 ∨ n = 9 := by omega
    rcases hn with rfl | rfl | rfl | rfl | rfl | rfl | rfl | rfl | rfl | rfl <;> exact ⟨by decide, by rw [Lib.decDigits]; rfl⟩
  have HD2 := Lib.hid HD.out.2
  clear HD
  generalize UInt8.ofNat (48 + n % 10).toNat = c at *
  go_enter Tryd.func77, Tryd.ntmps77
  go_wp2
  go_ret
  exact ⟨by rw [HD2.out]; rfl, below_new w _⟩
set_option maxRecDepth 100000 in
set_option maxHeartbeats 1000000 in
theorem bracket_any (s : List UInt8) (c : Bool) (w : World) (h : s.length ≤ 1099511627776) : Calls Tryd.prog 76 #[.string ⟨s.toArray⟩, .bool c] w fun e w' => e = .returned (.string ⟨(if c then [40] ++ s ++ [41] else s).toArray⟩) ∧ w' = w := by
  have hs := mk_size s
  cases c with
  | false =>
    go_enter Tryd.func76, Tryd.ntmps76
    go_wp2
    go_ret
    exact ⟨rfl, rfl⟩
  | true =>
    have HE : Hid ((⟨#[40]⟩ : ByteArray) ++ ⟨s.toArray⟩ ++ ⟨#[41]⟩ = ⟨([40] ++ s ++ [41]).toArray⟩) := by
      show _ = _
      rw [← append_mk2, ← append_mk2]
    go_enter Tryd.func76, Tryd.ntmps76
    go_wp2
    go_ret
    exact ⟨by rw [HE.out]; rfl, rfl⟩
end Go.Proofs.YtbdfjboojokgdaaDoor
namespace Go.Proofs.YtbdfjboojokgdaaDoor
open Go.RowKit

theorem nDigits_le : ∀ (k u : Nat), u < 10 ^ (k + 1) → Lib.nDigits u ≤ k + 1
  | 0, u, h => by rw [Lib.nDigits_small (by simpa using h)]; omega
  | k + 1, u, h => by
    by_cases h10 : u < 10
    · rw [Lib.nDigits_small h10]; omega
    · rw [Lib.nDigits_big h10]
      have := nDigits_le k (u / 10) (by rw [Nat.pow_succ] at h; omega)
      omega

theorem letters_len (n : Nat) (h : n < 4611686018427387904) : (lettersL n).length ≤ 20 := by
  unfold lettersL
  by_cases hx : n < 26
  · simp [hx]
  · simp only [hx, if_false, List.length_cons, Lib.decDigits_length]
    have := nDigits_le 18 (n / 26) (by omega)
    omega

set_option maxRecDepth 100000 in
set_option maxHeartbeats 1000000 in
theorem decimal_any : ∀ (f n : Nat), n < f → n < 4611686018427387904 → ∀ (w : World), 
    Calls Tryd.prog 77 #[.int .i64 n] w fun e w' => e = .returned (.string ⟨(Lib.decDigits n).toArray⟩) ∧ Below w.heap.size w w'
  | 0, _, h, _, _ => absurd h (Nat.not_lt_zero _)
  | f + 1, n, hf, h, w => by
    have IH := Lib.hid (decimal_any f)
    have hcv := convert_one w (48 + (n : Int) % 10) (by omega) (by omega)
    have hof : (48 + (n : Int) % 10).toNat = 48 + n % 10 := by omega
    rw [hof] at hcv
    clear hof
    by_cases h10 : n < 10
    · have b1 : decide ((n : Int) < 10) = true := by simp; omega
      have HE : Hid (Lib.decDigits n = [UInt8.ofNat (48 + n % 10)]) := by rw [Lib.decDigits, dif_pos h10, Nat.mod_eq_of_lt h10]; exact rfl
      generalize UInt8.ofNat (48 + n % 10) = c at *
      go_enter Tryd.func77, Tryd.ntmps77
      go_wp2
      go_ret
      exact ⟨by rw [HE.out]; rfl, (Below.refl _ _).alloc (Nat.le_refl _) _⟩
    · have b1 : decide ((n : Int) < 10) = false := by simp; omega
      have HE : Hid (Lib.decDigits n = Lib.decDigits (n / 10) ++ [UInt8.ofNat (48 + n % 10)]) := by rw [Lib.decDigits, dif_neg h10]; exact rfl
      have hD : (Lib.decDigits (n / 10)).length ≤ 19 := by
        rw [Lib.decDigits_length]; exact nDigits_le 18 (n / 10) (by omega)
      generalize UInt8.ofNat (48 + n % 10) = c at *
      go_enter Tryd.func77, Tryd.ntmps77
      go_wp2_with fail
      rw [show ((n : Int) / 10) = ((n / 10 : Nat) : Int) by simp]
      refine (IH.out (n / 10) (by omega) (by omega) _).mono ?_
      rintro e w1 ⟨rfl, hb⟩
      generalize Lib.decDigits (n / 10) = D at *
      go_wp2
      go_ret
      refine ⟨?_, ((Below.refl _ _).alloc (Nat.le_refl _) _).trans (hb.mono (by simp))⟩
      rw [HE.out, ← append_mk2]
      rfl

set_option maxRecDepth 100000 in
set_option maxHeartbeats 1000000 in
theorem refletters_any (n : Nat) (h : n < 4611686018427387904) (w : World) :
    Calls Tryd.prog 67 #[.int .i64 n] w fun e w' => e = .returned (.string ⟨(lettersL n).toArray⟩) ∧ Below w.heap.size w w' := by
  have hcv := convert_one w (97 + (n : Int) % 26) (by omega) (by omega)
  have hof : (97 + (n : Int) % 26).toNat = 97 + n % 26 := by omega
  rw [hof] at hcv
  clear hof
  by_cases hx : n < 26
  · have h0 : decide ((n : Int) < 26) = true := by simp; omega
    have HE : Hid (lettersL n = [UInt8.ofNat (97 + n % 26)]) := by unfold lettersL; rw [if_pos hx]; exact rfl
    generalize UInt8.ofNat (97 + n % 26) = c at *
    go_enter Tryd.func67, Tryd.ntmps67
    go_wp2
    go_ret
    exact ⟨by rw [HE.out]; rfl, (Below.refl _ _).alloc (Nat.le_refl _) _⟩
  · have h0 : decide ((n : Int) < 26) = false := by simp; omega
    have HE : Hid (lettersL n = [UInt8.ofNat (97 + n % 26)] ++ Lib.decDigits (n / 26)) := by unfold lettersL; rw [if_neg hx]; exact rfl
    have hD : (Lib.decDigits (n / 26)).length ≤ 19 := by
      rw [Lib.decDigits_length]; exact nDigits_le 18 (n / 26) (by omega)
    generalize UInt8.ofNat (97 + n % 26) = c at *
    go_enter Tryd.func67, Tryd.ntmps67
    go_wp2_with fail
    rw [show ((n : Int) / 26) = ((n / 26 : Nat) : Int) by simp]
    refine (decimal_any (n / 26 + 1) (n / 26) (Nat.lt_succ_self _) (by omega) _).mono ?_
    rintro e w1 ⟨rfl, hb⟩
    generalize Lib.decDigits (n / 26) = D at *
    go_wp2
    go_ret
    refine ⟨?_, ((Below.refl _ _).alloc (Nat.le_refl _) _).trans (hb.mono (by simp))⟩
    rw [HE.out, ← append_mk2]
    rfl

end Go.Proofs.YtbdfjboojokgdaaDoor
namespace Go.Proofs.YtbdfjboojokgdaaDoor
open Go.RowKit Go.Maps

def TabW (w : World) : Prop := Lib.TabIs Tryd.prog w "internal/strconv.uint64pow10" .u64 Lib.pow10Tab
theorem TabW.on {w w' : World} (h : TabW w) (hb : Below w.heap.size w w') : TabW w' := Lib.tabBelow_of_tabIs h w' hb
theorem alpha_fin : ∀ i : Fin 26, ((⟨#[97, 98, 99, 100, 101, 102, 103, 104, 105, 106, 107, 108, 109, 110, 111, 112, 113, 114, 115, 116, 117, 118, 119, 120, 121, 122]⟩ : ByteArray).extract i.val (i.val + 1)).data = #[UInt8.ofNat (97 + i.val)] := by decide +kernel
theorem alpha_piece (i : Nat) (h : i < 26) : (⟨#[97, 98, 99, 100, 101, 102, 103, 104, 105, 106, 107, 108, 109, 110, 111, 112, 113, 114, 115, 116, 117, 118, 119, 120, 121, 122]⟩ : ByteArray).extract i (i + 1) = ⟨#[UInt8.ofNat (97 + i)]⟩ :=
  congrArg ByteArray.mk (alpha_fin ⟨i, h⟩)
theorem itoa_nat (n k : Nat) : Lib.itoa ((n : Int) / (k : Int)) = Lib.decDigits (n / k) := by
  have : ((n : Int) / (k : Int)) = ((n / k : Nat) : Int) := by simp
  rw [this]
  unfold Lib.itoa
  rw [if_neg (by have := Int.natCast_nonneg (n / k); omega)]
  rfl
set_option maxRecDepth 100000 in
set_option maxHeartbeats 1000000 in
theorem letters_any (n : Nat) (h : n < 4611686018427387904) (w : World) (htab : TabW w) :
    Calls Tryd.prog 157 #[.int .i64 n] w fun e w' => e = .returned (.string (letB n)) ∧ Below w.heap.size w w' := by
  have HT := Lib.hid htab
  clear htab
  have hal := alpha_piece (n % 26) (by omega)
  unfold letB
  by_cases hx : n < 26
  · have h0 : ((n : Int) / 26 == 0) = true := by simp; omega
    have HE : Hid (lettersL n = [UInt8.ofNat (97 + n % 26)]) := by unfold lettersL; rw [if_pos hx]; exact rfl
    generalize UInt8.ofNat (97 + n % 26) = c at *
    go_enter Tryd.func157, Tryd.ntmps157
    go_wp2
    go_ret
    exact ⟨by rw [HE.out]; first | rfl | (simp only [hal]; rfl), Below.refl _ _⟩
  · have h0 : ((n : Int) / 26 == 0) = false := by simp; omega
    have HE : Hid (lettersL n = [UInt8.ofNat (97 + n % 26)] ++ Lib.decDigits (n / 26)) := by unfold lettersL; rw [if_neg hx]; exact rfl
    have hD : (Lib.decDigits (n / 26)).length ≤ 19 := by
      rw [Lib.decDigits_length]; exact nDigits_le 18 (n / 26) (by omega)
    generalize UInt8.ofNat (97 + n % 26) = c at *
    go_enter Tryd.func157, Tryd.ntmps157
    go_wp2_with fail
    refine (Tryd.strconv_Itoa _ (by omega) (by omega) _ HT.out).mono ?_
    rintro e w1 ⟨rfl, hw⟩
    have hb : Below w.heap.size w w1 := by obtain ⟨k, os, rfl⟩ := hw; exact Lib.below_grow _ _ (Nat.le_refl _) _ _
    clear hw
    rw [show Lib.itoa ((n : Int) / 26) = Lib.decDigits (n / 26) from itoa_nat n 26]
    generalize Lib.decDigits (n / 26) = D at *
    go_wp2
    go_ret
    refine ⟨?_, hb⟩
    rw [HE.out, ← append_mk2]
    rfl
/-! ### maps.Copy -/
/-- What is known of which texts were met: a function, and at most so many. -/
def KnowsF (w : World) (mb : Nat) (q : ByteArray → Bool) (N : Nat) : Prop := ∃ sz f, MapS Tryd.prog 9 w mb sz f ∧ sz ≤ N ∧ ∀ x, f x = if q x = true then some (.bool true) else none
theorem KnowsF.kept {w w' : World} {mb : Nat} {q : ByteArray → Bool} {N : Nat} {row : Option Nat} (h : KnowsF w mb q N) (hg : w.grownBy w' row) (hne : some mb ≠ row) : KnowsF w' mb q N := by
  obtain ⟨sz, f, h, r⟩ := h; exact ⟨sz, f, h.kept hg hne, r⟩
theorem KnowsF.lt {w : World} {mb : Nat} {q : ByteArray → Bool} {N : Nat} (h : KnowsF w mb q N) : mb < w.heap.size := by obtain ⟨sz, f, h, r⟩ := h; exact h.lt
theorem KnowsF.put {w : World} {mb : Nat} {q : ByteArray → Bool} {N : Nat} (h : KnowsF w mb q N) {x : ByteArray} (hx : x.size ≤ maxLen) (hN : N ≤ 1099511627776) :
    ∃ w', (Instr.mapUpdate 86 (.map (some mb)) (.string x) (.bool true)).run Tryd.prog w = .ok () w' ∧ KnowsF w' mb (fun y => q y || decide (y = x)) (N + 1) ∧ w.grownBy w' (some mb) := by
  obtain ⟨sz, f, h, hs, hf⟩ := h
  obtain ⟨w', r1, r2, r3⟩ := h.store (t := 86) (e := 4) Tryd.underlying9 Tryd.underlying86 (by unfold maxLen; omega) (.bool true) (x := x) hx
  refine ⟨w', r1, ⟨_, _, r2, by split <;> omega, fun y => ?_⟩, r3⟩
  unfold setS
  by_cases e : y = x
  · subst e; simp
  · rw [if_neg e, hf y]; simp [e]
theorem KnowsF.congr {w : World} {mb : Nat} {q q' : ByteArray → Bool} {N N' : Nat} (h : KnowsF w mb q N) (hq : ∀ x, q x = q' x) (hN : N ≤ N') : KnowsF w mb q' N' := by
  obtain ⟨sz, f, h, hs, hf⟩ := h
  exact ⟨sz, f, h, by omega, fun x => by rw [hf x, hq x]⟩
theorem keyS_same (x y : ByteArray) : (keyS x).sameKey (keyS y) = decide (x = y) := by
  by_cases h : x = y
  · subst h; simp [keyS, Lit.sameKey]
  · rw [decide_eq_false h]
    cases hq : (keyS x).sameKey (keyS y) with
    | false => rfl
    | true => exact absurd (by simpa [keyS, Lit.sameKey] using hq) (fun e => keyS_ne h (by unfold keyS; rw [e]))
set_option maxRecDepth 100000 in
set_option maxHeartbeats 2000000 in
theorem copy_any {w : World} {db mb : Nat} {q : ByteArray → Bool} {N : Nat} {zs : List ByteArray} (hd : KnowsF w db q N) (hs : KnowsS w mb zs) (hne : db ≠ mb) (hN : N + zs.length ≤ 1099511627776) :
    Calls Tryd.prog 156 #[.map (some db), .map (some mb)] w fun e w' => e = .returned (.tuple #[]) ∧ KnowsF w' db (fun x => q x || hasB zs x) (N + zs.length) ∧ w.grownBy w' (some db) := by
  have hbd := hd.lt
  have hbs := hs.lt
  obtain ⟨sz, f, ⟨D, hown, hsz, hf, _⟩, hsl, hff⟩ := hs
  have HD : Hid (∀ x : ByteArray, (∀ zd, ∃ v, D.atKey (keyS x) zd = .held v ∧ (∀ zd', D.atKey (keyS x) zd' = .held v)) → hasB zs x = true ∧ ∀ zd, D.atKey (keyS x) zd = .held (.bool true)) := fun x hx => by
    have h1 := hf x
    cases hfx : f x with
    | none =>
      rw [hfx] at h1
      obtain ⟨v, h2, h3⟩ := hx (.held (.bool true))
      have h4 := atKey_of_not_has h1 (.held (.bool true))
      have h5 := atKey_of_not_has h1 (.held (.bool false))
      have h6 := h3 (.held (.bool true))
      have h7 := h3 (.held (.bool false))
      rw [h4] at h6; rw [h5] at h7
      rw [← h7] at h6
      injection h6 with h6; cases h6
    | some v =>
      rw [hfx] at h1
      have h2 := hff x
      rw [hfx] at h2
      split at h2
      · rename_i hz
        injection h2 with h2
        subst h2
        exact ⟨hz, h1.2⟩
      · cases h2
  have HHAS : Hid (∀ x : ByteArray, hasB zs x = true → Maps.has D (keyS x) = true) := fun x hx => by
    have h1 := hf x
    rw [hff x, if_pos hx] at h1
    exact h1.1
  have HNO : Hid (∀ x : ByteArray, hasB zs x = false → Maps.has D (keyS x) = false) := fun x hx => by
    have h1 := hf x
    rw [hff x, if_neg (by rw [hx]; simp)] at h1
    exact h1
  have hsz2 : Maps.size D ≤ zs.length := by omega
  clear hf hff
  have K : Keyed Tryd.prog 9 := string_keyed Tryd.underlying9
  go_enter Tryd.func156, Tryd.ntmps156
  go_wp2_with (first
    | (at_range; refine wpList_range_own _ rfl _ 86 rfl 9 4 K Tryd.underlying86 rawS mb sz _ rfl hown ?_; intro w0 hrg0 hg0 hs0)
    | go_in)
  go_frame
  go_loopw [8] (fun _ wr => ∃ (left : Lit → Bool) (cnt : Nat), wr.ranges Tryd.prog 9 rawS mb w.heap.size sz D left cnt ∧ cnt ≤ Maps.size D ∧
      KnowsF wr db (fun x => q x || (hasB zs x && !left (keyS x))) (N + (Maps.size D - cnt)) ∧ w.grownBy wr (some db))
    (fun _ wr => wr.rangeLeft mb w.heap.size)
  case atStart =>
    exact ⟨_, _, hrg0, Nat.le_refl _, (hd.kept hg0 (by simp)).congr (fun x => by
      cases hz : hasB zs x with
      | true => rw [HHAS.out x hz]; simp
      | false => simp) (by omega), hg0.but _⟩
  case round =>
    obtain ⟨left, cnt, hrg, hcs, hout, hgw⟩ := hrel
    go_wp2_with (first
      | (at_next; refine wpList_next_ranges _ rfl _ rfl 9 K rawS Value.string id (fun key _ h => Maps.keyOf_string_inv Tryd.underlying9 h) (fun v _ _ => ⟨v, rfl⟩) mb w.heap.size sz _ _ _ rfl hrg ?_ ?_)
      | go_in)
    · intro hc0 hl0
      go_wp2
      go_end0
      subst hc0
      exact ⟨rfl, hout.congr (fun x => by rw [hl0]; simp) (by omega), hgw⟩
    · intro x c kl yd yp w1 cnt1 hkey hlx hv hat hrg1 hlt hg1 hs1 hen
      obtain ⟨hxs, rfl⟩ : x.size ≤ maxLen ∧ kl = keyS x := by
        rw [keyOf_string Tryd.underlying9] at hkey
        simp only [mapKey, Tryd.underlying9] at hkey
        split at hkey
        · rename_i h9
          injection hkey with hkey
          exact ⟨h9, hkey.symm⟩
        · cases hkey
      obtain rfl : yd = .held c := by
        unfold rawS at hv
        injection hv with hv
        injection hv with hv
        exact hv.symm
      obtain ⟨hz, hb⟩ := HD.out x (fun zd => ⟨c, hat zd, hat⟩)
      obtain rfl : c = .bool true := by
        have h1 := hb (.held c)
        rw [hat] at h1
        injection h1
      have hout1 := hout.kept hg1 (fun e => by have := Option.some.inj e; omega)
      obtain ⟨w2, hr2, hout2, hg2⟩ := hout1.put hxs (by omega)
      have HO2 := Lib.hid hout2
      have HG2 := Lib.hid hg2
      have hrg2 := Lib.hid (hrg1.kept hg2 (fun e => hne (Option.some.inj e).symm) (fun e => by have := Option.some.inj e; omega))
      have HRG := Lib.hid hrg
      have HGW := Lib.hid hgw
      have HG1 := Lib.hid hg1
      have HZ := Lib.hid hz
      clear hout2 hg2 hrg1 hrg hgw hg1 hat hv hb hz hout hout1 hs1
      go_wp2
      go_roundw
      case rel =>
        refine ⟨_, cnt1, hrg2.out, by omega, HO2.out.congr (fun y => ?_) (by omega), (HGW.out.andThen HG1.out (fun j hj => .inl (by cases hj; exact Nat.le_refl _))).andThen HG2.out (fun j hj => .inr hj)⟩
        rw [keyS_same]
        by_cases e : y = x
        · subst e; simp [HZ.out]
        · simp [e]
      case measure => rw [hrg2.out.left_eq, HRG.out.left_eq]; exact hlt
end Go.Proofs.YtbdfjboojokgdaaDoor
