/- The contracts of the document's bracket, Decimal (of one digit) and Print of types (chapter 4): the small cases. Conditions: the print has at most 2^40 bytes; numbers of what is not known are 0 to 9. -/
import Derived.Test.YtbdfjboojokgdaaDoorPrInj
import Derived.Test.YtbdfjboojokgdaaDoorFunction
import Derived.Test.YtbdfjboojokgdaaDoorWrite
import Derived.Deep.RegionHeld3
namespace Go.Proofs.YtbdfjboojokgdaaDoor
open Go.RowKit

theorem mk_size (x : List UInt8) : (⟨x.toArray⟩ : ByteArray).size = x.length := by show x.toArray.size = _; simp
theorem append_mk2 (a b : List UInt8) : (⟨a.toArray⟩ : ByteArray) ++ ⟨b.toArray⟩ = ⟨(a ++ b).toArray⟩ := by
  apply ByteArray.ext
  simp [ByteArray.data_append]
theorem ofNat_toNat (n : Nat) (h : n < 256) : (UInt8.ofNat n).toNat = n := by simp [UInt8.toNat_ofNat']; omega
/-- string([]byte{x}). -/
theorem convert_one (w : World) (x : Int) (h0 : 0 ≤ x) (h1 : x < 256) :
    (convert 123 9 (.slice (some ⟨w.heap.size, 0, none⟩) 1 1)).run Tryd.prog (w.alloc (.cells #[.int .u8 x] 5)) = .ok (.string ⟨#[UInt8.ofNat x.toNat]⟩) (w.alloc (.cells #[.int .u8 x] 5)) := by
  have hx : (((UInt8.ofNat x.toNat).toNat : Nat) : Int) = x := by rw [ofNat_toNat _ (by omega)]; omega
  refine run_convert_bytes_back (w.alloc (.cells #[.int .u8 x] 5)) 123 9 5 ⟨w.heap.size, 0, none⟩ 1 [UInt8.ofNat x.toNat] Tryd.underlying123 Tryd.underlying5 Tryd.underlying9 fun j hj => ?_
  obtain rfl : j = 0 := by simpa using hj
  simp only [List.getElem_cons_zero]
  rw [hx]
  simp [Addr.add, go_sem]
set_option maxRecDepth 100000 in
set_option maxHeartbeats 1000000 in
theorem decimal_one (n : Int) (w : World) (h0 : 0 ≤ n) (h1 : n < 10) : Calls Tryd.prog 77 #[.int .i64 n] w fun e w' => e = .returned (.string ⟨(Lib.decDigits n.toNat).toArray⟩) ∧ Below w.heap.size w w' := by
  have hcv := convert_one w (48 + n % 10) (by omega) (by omega)
  have b1 : decide (n < 10) = true := by simp; omega
  have HD : Hid (UInt8.ofNat (48 + n % 10).toNat = 48 + UInt8.ofNat (n.toNat) ∧ Lib.decDigits n.toNat = [UInt8.ofNat (48 + n % 10).toNat]) := by
    have hn : n = 0 ∨ n = 1 ∨ n = 2 ∨ n = 3 ∨ n = 4 ∨ n = 5 ∨ n = 6 ∨ n = 7 ∨ n = 8 ∨ n = 9 := by omega
    rcases hn with rfl | rfl | rfl | rfl | rfl | rfl | rfl | rfl | rfl | rfl <;> exact ⟨by decide, by rw [Lib.decDigits]; rfl⟩
  have HD2 := Lib.hid HD.out.2
  clear HD
  generalize UInt8.ofNat (48 + n % 10).toNat = c at *
  go_enter Tryd.func77, Tryd.ntmps77
  go_wp2
  go_ret
  exact ⟨by rw [HD2.out]; rfl, below_new w _⟩
set_option maxRecDepth 100000 in
set_option maxHeartbeats 1000000 in
theorem bracket_any (s : List UInt8) (c : Bool) (w : World) (h : s.length ≤ 1099511627776) : Calls Tryd.prog 76 #[.string ⟨s.toArray⟩, .bool c] w fun e w' => e = .returned (.string ⟨(if c then [40] ++ s ++ [41] else s).toArray⟩) ∧ w' = w := by
  have hs := mk_size s
  cases c with
  | false =>
    go_enter Tryd.func76, Tryd.ntmps76
    go_wp2
    go_ret
    exact ⟨rfl, rfl⟩
  | true =>
    have HE : Hid ((⟨#[40]⟩ : ByteArray) ++ ⟨s.toArray⟩ ++ ⟨#[41]⟩ = ⟨([40] ++ s ++ [41]).toArray⟩) := by
      show _ = _
      rw [← append_mk2, ← append_mk2]
    go_enter Tryd.func76, Tryd.ntmps76
    go_wp2
    go_ret
    exact ⟨by rw [HE.out]; rfl, rfl⟩
end Go.Proofs.YtbdfjboojokgdaaDoor
