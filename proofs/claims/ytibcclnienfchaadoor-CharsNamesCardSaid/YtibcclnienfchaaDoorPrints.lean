/- The contracts of the document's Byte and Print, and the walk of the law CharsPrints. Condition: the text has at most 2^40 bytes. -/
import Derived.Test.YtibcclnienfchaaDoorScan
import Derived.Deep.RegionWith
namespace Go.Proofs.YtibcclnienfchaaDoor
open Go.RowKit

theorem digit_fin : ∀ i : Fin 16, ((⟨#[48, 49, 50, 51, 52, 53, 54, 55, 56, 57, 97, 98, 99, 100, 101, 102]⟩ : ByteArray).extract i.val (i.val + 1)).data = #[hexD i.val] := by decide +kernel
theorem digit_piece (i : Nat) (h : i < 16) : (⟨#[48, 49, 50, 51, 52, 53, 54, 55, 56, 57, 97, 98, 99, 100, 101, 102]⟩ : ByteArray).extract i (i + 1) = ⟨#[hexD i]⟩ :=
  congrArg ByteArray.mk (digit_fin ⟨i, h⟩)

set_option maxHeartbeats 400000 in
theorem byte_any (c : UInt8) (w : World) :
    Calls Tryd.prog 33 #[.int .u8 (c.toNat : Int)] w fun e w' => e = .returned (.string ⟨(byteP c).toArray⟩) ∧ Below w.heap.size w w' := by
  have hc := c.toNat_lt
  by_cases hpl : plainB (c.toNat : Int) = true
  · have HB : Hid (byteP c = [c]) := by unfold byteP; rw [if_pos hpl]; exact rfl
    have hcv := convert_one w (c.toNat : Int) (by omega) (by omega)
    rw [show UInt8.ofNat (c.toNat : Int).toNat = c by simp] at hcv
    go_enter Tryd.func33, Tryd.ntmps33
    go_wp2_with (go_at_call 37; refine (refplain_any _ _).mono ?_; rintro e w' ⟨rfl, rfl⟩)
    go_ret
    exact ⟨by rw [HB.out]; rfl, (Below.refl _ _).alloc (Nat.le_refl _) _⟩
  · have hpl' : plainB (c.toNat : Int) = false := by simpa using hpl
    have HB : Hid (byteP c = [39] ++ [hexD (c.toNat / 16)] ++ [hexD (c.toNat % 16)]) := by unfold byteP; rw [if_neg hpl]; exact rfl
    have d1 := digit_piece (c.toNat / 16) (by omega)
    have d2 := digit_piece (c.toNat % 16) (by omega)
    have n0 : 0 ≤ (c.toNat : Int) / 16 := by omega
    have n1 : (c.toNat : Int) / 16 < 16 := by omega
    have n2 : 0 ≤ (c.toNat : Int) % 16 := by omega
    have n3 : (c.toNat : Int) % 16 < 16 := by omega
    clear hpl
    go_enter Tryd.func33, Tryd.ntmps33
    go_wp2_with (go_at_call 37; refine (refplain_any _ _).mono ?_; rintro e w' ⟨rfl, rfl⟩)
    go_quiet (fail)
    go_wp2
    go_ret
    exact ⟨by rw [HB.out, ← append_mk, ← append_mk]; rfl, below_drewN (Below.refl _ _) _⟩

set_option maxHeartbeats 400000 in
theorem refprint_any (s : ByteArray) (w : World) (hs : s.size ≤ 1099511627776) :
    Calls Tryd.prog 21 #[.string s] w fun e w' => e = .returned (.string ⟨(printL s.data.toList).toArray⟩) ∧ Below w.heap.size w w' := by
  by_cases h0 : s.size = 0
  · have e0 := toList_nil s h0
    have e1 : printL s.data.toList = [95] := by rw [← Lib.toList_data, e0]; rfl
    rw [e1]; clear e1 h0
    go_enter Tryd.func21, Tryd.ntmps21
    go_wp2
    go_ret
    exact ⟨rfl, Below.refl _ _⟩
  have e0 := toList_ne s (by omega)
  have hp0 : (0 : Int) < s.size := by omega
  have HE : Hid (printL s.data.toList = printM s.data.toList) := by
    unfold printL; rw [if_neg (by intro h; rw [Lib.size_eq, h] at h0; exact h0 rfl)]; exact rfl
  go_enter Tryd.func21, Tryd.ntmps21
  go_wp2
  go_loopw [3, 4] (fun v i wr => ∃ k : Nat, k ≤ s.size ∧ i = .int .i64 k ∧ v = .string ⟨(printM (s.data.toList.take k)).toArray⟩ ∧ Below w.heap.size w wr) (fun _ i _ => s.size - (intOf i).toNat)
  case atStart => exact ⟨0, Nat.zero_le _, rfl, rfl, Below.refl _ _⟩
  case round =>
    obtain ⟨k, hk, rfl, rfl, hb⟩ := hrel
    have hlen := printM_len (s.data.toList.take k)
    have hlen2 : (s.data.toList.take k).length ≤ k := List.length_take_le _ _
    by_cases hlt : k < s.size
    · have hts := take_snoc s k hlt
      have HT : Hid (printM (s.data.toList.take (k + 1)) = printM (s.data.toList.take k) ++ byteP s[k]) := by rw [hts]; exact printM_snoc _ _
      clear hts
      have hl3 := byteP_len s[k]
      generalize printM (s.data.toList.take k) = A at *
      go_wp2_with fail
      refine (byte_any s[k] _).mono ?_
      rintro e w1 ⟨rfl, hb1⟩
      generalize byteP s[k] = C at *
      go_wp2
      go_roundw
      case rel => exact ⟨k + 1, by omega, by go_num, by rw [HT.out, ← append_mk], hb.trans (hb1.mono hb.size)⟩
      case measure => simp [intOf]; omega
    · have hk' : s.data.toList.take k = s.data.toList := List.take_of_length_le (by rw [← Lib.size_eq]; omega)
      have HK : Hid (printM (s.data.toList.take k) = printL s.data.toList) := by rw [hk', HE.out]; exact rfl
      clear hk'
      have hd : decide (k < s.size) = false := by simpa using hlt
      go_wp2
      go_ret
      exact ⟨by rw [HK.out]; rfl, hb⟩

/-- A block that holds these texts, cell by cell. -/
def Texts (B : Nat) (strs : List ByteArray) (w : World) : Prop := ∀ n, n < strs.length → w.cell? ⟨B, n, none⟩ = some (.string (strs.getD n ByteArray.empty))
theorem Texts.below {B X : Nat} {strs : List ByteArray} {w w' : World} (h : Texts B strs w) (hb : Below X w w') (hB : B < X) : Texts B strs w' :=
  fun n hn => (hb.cell (p := ⟨B, n, none⟩) hB).trans (h n hn)
theorem printL_size (l : List UInt8) (h : l.length ≤ 40) : (⟨(printL l).toArray⟩ : ByteArray).size ≤ 120 := by
  show (printL l).toArray.size ≤ 120
  have := printM_len l
  unfold printL
  split <;> simp <;> omega
theorem texts_new (w : World) (strs : List ByteArray) (t : TypeId) : Texts w.heap.size strs (w.alloc (.cells (strs.map Value.string).toArray t)) := fun n hn => by
  rw [World.cell?_alloc_at _ _ _ _ rfl]
  simp [hn]

set_option maxHeartbeats 2000000 in
theorem prints_walk (a0 : ByteArray) (a1 : Int) (w0 : a0.size ≤ maxLen) (h1 : 0 ≤ a1) (h2 : a1 ≤ 255) (w : World) :
    Calls Tryd.prog 5 #[.string a0, .int .u8 a1] w fun e w' => e = .returned (.bool true) ∧ Below w.heap.size w w' := by
  have hcv : (convert 23 9 (.slice (some ⟨w.heap.size, 0, none⟩) 1 1)).run Tryd.prog (w.alloc (.cells #[.int .u8 a1] 5)).drew = .ok (.string ⟨#[UInt8.ofNat a1.toNat]⟩) (w.alloc (.cells #[.int .u8 a1] 5)).drew := convert_one w.drew a1 h1 (by omega)
  generalize UInt8.ofNat a1.toNat = c at *
  go_enter Tryd.func5, Tryd.ntmps5
  go_wp2_with fail
  go_region_with (go_at_call 10; refine (short_any a0 40 _ w0 (by omega) (by omega)).mono ?_; rintro e w' ⟨t, ht, rfl, rfl⟩)
  all_goals
    clear hcv
    go_wp2_with fail
    have hN := texts_new (w.alloc (.cells #[.int .u8 a1] 5)).drew [t, ⟨#[c]⟩, ⟨#[]⟩, ⟨#[95]⟩, ⟨#[39]⟩, ⟨#[39, 53, 102]⟩] 9
    have hS : ∀ x ∈ [t, ⟨#[c]⟩, ⟨#[]⟩, ⟨#[95]⟩, ⟨#[39]⟩, ⟨#[39, 53, 102]⟩], x.size ≤ 40 := by
      intro x hx
      simp only [List.mem_cons, List.not_mem_nil, or_false] at hx
      rcases hx with rfl | rfl | rfl | rfl | rfl | rfl
      · omega
      all_goals (show Array.size _ ≤ _; simp)
    have hlen : [t, ⟨#[c]⟩, ⟨#[]⟩, ⟨#[95]⟩, ⟨#[39]⟩, (⟨#[39, 53, 102]⟩ : ByteArray)].length = 6 := rfl
    have hB : Below w.heap.size w ((w.alloc (.cells #[.int .u8 a1] 5)).alloc (.cells #[.string t, .string ⟨#[c]⟩, .string ⟨#[]⟩, .string ⟨#[95]⟩, .string ⟨#[39]⟩, .string ⟨#[39, 53, 102]⟩] 9)).drew := (((Below.refl _ _).alloc (Nat.le_refl _) _).alloc (by simp) _).drew
    have hZ : w.heap.size + 1 < ((w.alloc (.cells #[.int .u8 a1] 5)).alloc (.cells #[.string t, .string ⟨#[c]⟩, .string ⟨#[]⟩, .string ⟨#[95]⟩, .string ⟨#[39]⟩, .string ⟨#[39, 53, 102]⟩] 9)).drew.heap.size := by show _ < ((w.alloc _).alloc _).heap.size; simp
    have hN' : Texts (w.heap.size + 1) [t, ⟨#[c]⟩, ⟨#[]⟩, ⟨#[95]⟩, ⟨#[39]⟩, ⟨#[39, 53, 102]⟩] ((w.alloc (.cells #[.int .u8 a1] 5)).alloc (.cells #[.string t, .string ⟨#[c]⟩, .string ⟨#[]⟩, .string ⟨#[95]⟩, .string ⟨#[39]⟩, .string ⟨#[39, 53, 102]⟩] 9)).drew := by
      have e : (w.alloc (.cells #[.int .u8 a1] 5)).drew.heap.size = w.heap.size + 1 := by show (w.alloc _).heap.size = _; simp
      rw [e] at hN
      exact hN
    clear hN
    generalize ((w.alloc (.cells #[.int .u8 a1] 5)).alloc (.cells #[.string t, .string ⟨#[c]⟩, .string ⟨#[]⟩, .string ⟨#[95]⟩, .string ⟨#[39]⟩, .string ⟨#[39, 53, 102]⟩] 9)).drew = W at *
    generalize [t, ⟨#[c]⟩, ⟨#[]⟩, ⟨#[95]⟩, ⟨#[39]⟩, (⟨#[39, 53, 102]⟩ : ByteArray)] = strs at *
    clear ht
    have HL := Lib.hid hlen
    have HS := Lib.hid hS
    clear hlen hS
    go_loopw [6] (fun i wr => ∃ j : Nat, j ≤ 6 ∧ i = .int .i64 j ∧ Texts (w.heap.size + 1) strs wr ∧ Below w.heap.size w wr ∧ w.heap.size + 1 < wr.heap.size) (fun i _ => 6 - (intOf i).toNat)
    case atStart => exact ⟨0, by omega, rfl, hN', hB, hZ⟩
    case round =>
      clear hN' hB hZ
      obtain ⟨j, hj, rfl, hT, hb, hz⟩ := hrel
      by_cases hlt : j < 6
      · have hjs : j < strs.length := by rw [HL.out]; exact hlt
        have hc0 := hT j hjs
        have hsz := HS.out _ (show strs.getD j ByteArray.empty ∈ strs by simp [hjs])
        generalize strs.getD j ByteArray.empty = S at *
        have hsl : S.data.toList.length ≤ 40 := by rw [← Lib.size_eq]; exact hsz
        have hps := printL_size _ hsl
        have HT := Lib.hid hT
        have HSC : Hid (scanV (scanL (printL S.data.toList)) = .tuple #[.string S, .int .i64 0]) := by
          rw [scan_print]
          show Value.tuple #[.string ⟨S.data.toList.toArray⟩, .int .i64 0] = _
          rw [Lib.mk_data]
        clear hT hjs hsl
        have hj0 : (0 : Int) ≤ (j : Int) := by omega
        have hj6 : (j : Int) < 6 := by omega
        go_wp2_with fail
        refine (print_any S _ (by omega)).mono ?_
        rintro e w1 ⟨rfl, b1⟩
        have T1 := HT.out.below b1 hz
        have hc1 := (b1.cell (p := ⟨w.heap.size + 1, j, none⟩) hz).trans hc0
        have z1 : w.heap.size + 1 < w1.heap.size := Nat.lt_of_lt_of_le hz b1.size
        have B1 := hb.trans (b1.mono hb.size)
        have HT1 := Lib.hid T1
        clear T1 HT b1 hc0 hz hb
        go_wp2_with fail
        refine (scan_any _ _ (by omega)).mono ?_
        rintro e w2 ⟨rfl, b2⟩
        rw [show ((⟨(printL S.data.toList).toArray⟩ : ByteArray).data.toList) = printL S.data.toList by simp, HSC.out]
        have T2 := HT1.out.below b2 z1
        have hc2 := (b2.cell (p := ⟨w.heap.size + 1, j, none⟩) z1).trans hc1
        have z2 : w.heap.size + 1 < w2.heap.size := Nat.lt_of_lt_of_le z1 b2.size
        have B2 := B1.trans (b2.mono B1.size)
        have HT2 := Lib.hid T2
        clear T2 HT1 b2 hc1 z1 B1 hps
        go_wp2_with fail
        refine (refprint_any S _ (by omega)).mono ?_
        rintro e w3 ⟨rfl, b3⟩
        have T3 := HT2.out.below b3 z2
        have hc3 := (b3.cell (p := ⟨w.heap.size + 1, j, none⟩) z2).trans hc2
        have z3 : w.heap.size + 1 < w3.heap.size := Nat.lt_of_lt_of_le z2 b3.size
        have B3 := B2.trans (b3.mono B2.size)
        have HT3 := Lib.hid T3
        clear T3 HT2 b3 hc2 z2 B2 HSC
        generalize printL S.data.toList = PL at *
        go_wp2
        go_roundw
        case rel => exact ⟨j + 1, by omega, by go_num, HT3.out, B3, z3⟩
        case measure => simp [intOf]; omega
      · obtain rfl : j = 6 := by omega
        go_wp2_with (go_at_call 15; refine (lives_any _).mono ?_; rintro e w' ⟨rfl, hbl⟩)
        go_ret
        exact ⟨rfl, hb.trans (hbl.mono hb.size)⟩
end Go.Proofs.YtibcclnienfchaaDoor
