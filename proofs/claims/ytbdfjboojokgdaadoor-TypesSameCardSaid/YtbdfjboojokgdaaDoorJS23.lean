/- The contract of the document's Function (chapter 4): is a type a function's? No conditions but those that each theorem names. The contracts of the document's bracket, Decimal (of one digit) and Print of types (chapter 4): the small cases. Conditions: the print has at most 2^40 bytes; numbers of what is not known are 0 to 9. -/
import Derived.Test.YtbdfjboojokgdaaDoorJS06
import Derived.Test.YtbdfjboojokgdaaDoorJS22
import Derived.Test.YtbdfjboojokgdaaDoorJS10
import Derived.Deep.RegionHeld3
namespace Go.Proofs.YtbdfjboojokgdaaDoor
open Go.RowKit

theorem isArrow_con {f : Ty} (h : f.isArrow = true) : f = .con ⟨#[45, 62]⟩ := by
  cases f with
  | con s => rw [(arrow_eq s).1 h]
  | _ => cases h
theorem sides_fn {t a b : Ty} (h : t.sides = some (a, b)) : t = Ty.fn a b := by
  unfold Ty.sides at h
  split at h
  · split at h
    · rename_i hf
      simp only [Option.some.injEq, Prod.mk.injEq] at h
      obtain ⟨rfl, rfl⟩ := h
      rw [isArrow_con hf]; rfl
    · cases h
  · cases h
set_option maxRecDepth 100000 in
set_option maxHeartbeats 1000000 in
theorem function_any (P : Nat → Prop) (t : Ty) (v : Value) (w : World) (h : TyAt P w t v) : Calls Tryd.prog 75 #[v] w fun e w' => e = .returned (.bool t.sides.isSome) ∧ Below w.heap.size w w' := by
  by_cases hap : t.isApp = true
  · obtain ⟨x, b, rfl⟩ : ∃ x b, t = .app x b := by cases t <;> first | exact ⟨_, _, rfl⟩ | cases hap
    obtain ⟨sv, rfl, hs⟩ := h.tys
    simp only [Ty.form, Ty.num, Ty.name, Ty.args] at hs ⊢
    obtain ⟨A, c, rfl, _, _⟩ := hs.form
    obtain ⟨g, off, A3, c3, rfl, hPg, hgl, k0, k1, k2, k3, hx⟩ := hs.at 0 (by simp)
    simp only [List.getElem_cons_zero, Nat.zero_mul, Nat.add_zero, List.length_cons, List.length_nil, Nat.zero_add, Nat.reduceAdd] at k0 k1 k2 k3 hx ⊢
    clear h hs hap
    by_cases hax : x.isApp = true
    · obtain ⟨f, a, rfl⟩ : ∃ f a, x = .app f a := by cases x <;> first | exact ⟨_, _, rfl⟩ | cases hax
      obtain ⟨sv, esv, hs⟩ := hx.tys
      simp only [Ty.form, Ty.num, Ty.name, Ty.args, Value.agg.injEq, Array.mk.injEq, List.cons.injEq, true_and, and_true, List.length_cons, List.length_nil, Nat.zero_add, Nat.reduceAdd] at esv hs k0 k1 k2 k3
      subst esv
      obtain ⟨g3, off3, A5, c5, e5, hP3, hg3, m0, m1, m2, m3, hf⟩ := hs.at 0 (by simp)
      subst e5
      simp only [List.getElem_cons_zero, Nat.zero_mul, Nat.add_zero] at m0 m1 m2 m3 hf
      clear hs hx hf hax
      have hcase : (f.form == 3) = false ∨ ∃ s, f = .con s := by cases f <;> first | exact .inl rfl | exact .inr ⟨_, rfl⟩
      rcases hcase with h3 | ⟨s, rfl⟩
      · have HE : Hid ((Ty.app (.app f a) b).sides.isSome = false) := by
          show (if f.isArrow then some (a, b) else none).isSome = false
          rw [if_neg (fun h => by rw [isArrow_con h] at h3; cases h3)]; rfl
        generalize f.form = ff, f.num = fn', f.name = fs, f.args.length = fl at *
        go_enter Tryd.func75, Tryd.ntmps75
        go_wp2
        go_ret
        exact ⟨ret_bool HE.out.symm, below2 w _ _⟩
      · have HE : Hid ((Ty.app (.app (.con s) a) b).sides.isSome = (s.toList == [45, 62])) := by
          show (if (Ty.con s).isArrow then some (a, b) else none).isSome = _
          rw [← list_arrow]
          cases hq : (s == (⟨#[45, 62]⟩ : ByteArray)) with
          | true => rw [if_pos (show (Ty.con s).isArrow = true from hq)]; rfl
          | false => rw [if_neg (show ¬ (Ty.con s).isArrow = true from fun h => by have h' : (s == (⟨#[45, 62]⟩ : ByteArray)) = true := h; rw [hq] at h'; cases h')]; rfl
        simp only [Ty.form, Ty.num, Ty.name, Ty.args, List.length_nil] at m0 m1 m2 m3
        go_enter Tryd.func75, Tryd.ntmps75
        go_wp2
        go_ret
        exact ⟨ret_bool HE.out.symm, below2 w _ _⟩
    · have HE : Hid ((Ty.app x b).sides.isSome = false) := by show _ = _; cases x <;> first | rfl | exact absurd rfl hax
      have h4 : (x.form != 4) = true := by cases x <;> first | rfl | exact absurd rfl hax
      clear hx hax
      generalize x.form = xf, x.num = xn, x.name = xs, x.args.length = xl at *
      go_enter Tryd.func75, Tryd.ntmps75
      go_wp2
      go_ret
      exact ⟨ret_bool HE.out.symm, below_new w _⟩
  · have hap' : t.isApp = false := by simpa using hap
    have HE : Hid (t.sides.isSome = false) := by show _ = _; rw [sides_leaf hap']; rfl
    obtain ⟨A, c, rfl, _, _⟩ := h.form
    have h4 : (t.form != 4) = true := by cases t <;> first | rfl | cases hap'
    clear h hap hap'
    generalize t.form = xf, t.num = xn, t.name = xs, t.args.length = xl at *
    go_enter Tryd.func75, Tryd.ntmps75
    go_wp2
    go_ret
    exact ⟨ret_bool HE.out.symm, below_new w _⟩
end Go.Proofs.YtbdfjboojokgdaaDoor
namespace Go.Proofs.YtbdfjboojokgdaaDoor
open Go.RowKit

theorem mk_size (x : List UInt8) : (⟨x.toArray⟩ : ByteArray).size = x.length := by show x.toArray.size = _; simp
theorem append_mk2 (a b : List UInt8) : (⟨a.toArray⟩ : ByteArray) ++ ⟨b.toArray⟩ = ⟨(a ++ b).toArray⟩ := by
  apply ByteArray.ext
  simp [ByteArray.data_append]
theorem ofNat_toNat (n : Nat) (h : n < 256) : (UInt8.ofNat n).toNat = n := by simp [UInt8.toNat_ofNat']; omega
/-- string([]byte{x}). -/
theorem convert_one (w : World) (x : Int) (h0 : 0 ≤ x) (h1 : x < 256) :
    (convert 123 9 (.slice (some ⟨w.heap.size, 0, none⟩) 1 1)).run Tryd.prog (w.alloc (.cells #[.int .u8 x] 5)) = .ok (.string ⟨#[UInt8.ofNat x.toNat]⟩) (w.alloc (.cells #[.int .u8 x] 5)) := by
  have hx : (((UInt8.ofNat x.toNat).toNat : Nat) : Int) = x := by rw [ofNat_toNat _ (by omega)]; omega
  refine run_convert_bytes_back (w.alloc (.cells #[.int .u8 x] 5)) 123 9 5 ⟨w.heap.size, 0, none⟩ 1 [UInt8.ofNat x.toNat] Tryd.underlying123 Tryd.underlying5 Tryd.underlying9 fun j hj => ?_
  obtain rfl : j = 0 := by simpa using hj
  simp only [List.getElem_cons_zero]
  rw [hx]
  simp [Addr.add, go_sem]
set_option maxRecDepth 100000 in
set_option maxHeartbeats 1000000 in
theorem decimal_one (n : Int) (w : World) (h0 : 0 ≤ n) (h1 : n < 10) : Calls Tryd.prog 77 #[.int .i64 n] w fun e w' => e = .returned (.string ⟨(Lib.decDigits n.toNat).toArray⟩) ∧ Below w.heap.size w w' := by
  have hcv := convert_one w (48 + n % 10) (by omega) (by omega)
  have b1 : decide (n < 10) = true := by simp; omega
  have HD : Hid (UInt8.ofNat (48 + n % 10).toNat = 48 + UInt8.ofNat (n.toNat) ∧ Lib.decDigits n.toNat = [UInt8.ofNat (48 + n % 10).toNat]) := by
    have hn : n = 0 ∨ n = 1 ∨ n = 2 ∨ n = 3 ∨ n = 4 ∨ n = 5 ∨ n = 6 ∨ n = 7 ∨ n = 8 ∨ n = 9 := by omega
    rcases hn with rfl | rfl | rfl | rfl | rfl | rfl | rfl | rfl | rfl | rfl <;> exact ⟨by decide, by rw [Lib.decDigits]; rfl⟩
  have HD2 := Lib.hid HD.out.2
  clear HD
  generalize UInt8.ofNat (48 + n % 10).toNat = c at *
  go_enter Tryd.func77, Tryd.ntmps77
  go_wp2
  go_ret
  exact ⟨by rw [HD2.out]; rfl, below_new w _⟩
set_option maxRecDepth 100000 in
set_option maxHeartbeats 1000000 in
theorem bracket_any (s : List UInt8) (c : Bool) (w : World) (h : s.length ≤ 1099511627776) : Calls Tryd.prog 76 #[.string ⟨s.toArray⟩, .bool c] w fun e w' => e = .returned (.string ⟨(if c then [40] ++ s ++ [41] else s).toArray⟩) ∧ w' = w := by
  have hs := mk_size s
  cases c with
  | false =>
    go_enter Tryd.func76, Tryd.ntmps76
    go_wp2
    go_ret
    exact ⟨rfl, rfl⟩
  | true =>
    have HE : Hid ((⟨#[40]⟩ : ByteArray) ++ ⟨s.toArray⟩ ++ ⟨#[41]⟩ = ⟨([40] ++ s ++ [41]).toArray⟩) := by
      show _ = _
      rw [← append_mk2, ← append_mk2]
    go_enter Tryd.func76, Tryd.ntmps76
    go_wp2
    go_ret
    exact ⟨by rw [HE.out]; rfl, rfl⟩
end Go.Proofs.YtbdfjboojokgdaaDoor
