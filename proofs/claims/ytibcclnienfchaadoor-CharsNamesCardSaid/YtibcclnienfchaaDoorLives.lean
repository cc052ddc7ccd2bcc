/- The contract of the law's own examples ('lives'): they are answered as the document says. No conditions. -/
import Derived.Test.YtibcclnienfchaaDoorPrint
import Derived.Test.YtibcclnienfchaaDoorShelf
namespace Go.Proofs.YtibcclnienfchaaDoor
open Go.RowKit

set_option maxHeartbeats 400000 in
theorem letters27 (w : World) : Calls Tryd.prog 23 #[.int .i64 27] w fun e w' => e = .returned (.string ⟨#[98, 49]⟩) ∧ w = w' := by
  have hd : Lib.decDigits 1 = [49] := by decide +kernel
  go_enter Tryd.func23, Tryd.ntmps23
  go_wp2_with (go_at_call 34; refine (Tryd.strconv_Itoa_small 1 (by decide) _).mono ?_; rintro e w' ⟨rfl, hw⟩; subst hw)
  go_ret
  exact ⟨rfl, rfl⟩

theorem print_ex : printL [97, 45, 98] = [97, 39, 50, 100, 98] := by decide +kernel
theorem lower_ex : nameB 97 122 ⟨#[120, 39, 49]⟩ = true := by decide +kernel
theorem upper_ex : nameB 65 90 ⟨#[120]⟩ = false := by decide +kernel

set_option maxHeartbeats 400000 in
theorem lives_any (w : World) : Calls Tryd.prog 15 #[] w fun e w' => e = .returned (.bool true) ∧ Below w.heap.size w w' := by
  have h1 := print_ex
  have h2 := lower_ex
  have h3 := upper_ex
  go_enter Tryd.func15, Tryd.ntmps15
  go_wp2_with fail
  refine (print_any _ _ (by decide)).mono ?_
  rintro e w1 ⟨rfl, hb1⟩
  go_wp2_with fail
  refine (letters27 _).mono ?_
  rintro e w2 ⟨rfl, rfl⟩
  go_wp2_with fail
  refine (lower_any _ _ (by decide)).mono ?_
  rintro e w2 ⟨rfl, hb2⟩
  go_wp2_with fail
  refine (upper_any _ _ (by decide)).mono ?_
  rintro e w3 ⟨rfl, hb3⟩
  go_wp2
  go_ret
  exact ⟨rfl, (hb1.trans (hb2.mono hb1.size)).trans (hb3.mono (Nat.le_trans hb1.size hb2.size))⟩
end Go.Proofs.YtibcclnienfchaaDoor
