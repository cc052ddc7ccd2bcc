/- The law's own example (chapter 3): it holds. No conditions. -/
import Derived.Test.YtomhojpoaicioaaRead
import Derived.Test.YtomhojpoaicioaaSplit
namespace Go.Proofs.Ytomhojpoaicioaa
open Go.RowKit

/-- The example's kind. -/
def exK : K := .mk [.mk [.mk []]]
theorem exK_read : readS [] [] [40, 42, 32, 45, 62, 32, 42, 41, 32, 45, 62, 32, 42] = some exK := by
  have h := readS_print exK
  have e : printK exK = [40, 42, 32, 45, 62, 32, 42, 41, 32, 45, 62, 32, 42] := by
    unfold exK
    rw [printK_mk]
    simp [itemsK, itemK, wrapK, K.from, printK_mk]
  rw [e] at h; exact h
theorem exK_one : printK (.mk [.mk []]) = [42, 32, 45, 62, 32, 42] := by
  rw [printK_mk]
  simp [itemsK, itemK, wrapK, K.from, printK_mk]
/-- True, and nothing that was there has changed. -/
def TrueB (w : World) (e : Ending) (w' : World) : Prop := e = .returned (.bool true) ∧ Below w.heap.size w w'
set_option maxRecDepth 100000 in
set_option maxHeartbeats 1000000 in
theorem lives_any (w : World) : Calls Try.prog 15 #[] w (TrueB w) := by
  have hrd := read_any [40, 42, 32, 45, 62, 32, 42, 41, 32, 45, 62, 32, 42] w (by decide)
  rw [exK_read] at hrd
  have HRD := Lib.hid hrd
  have hs1 : K.sz exK ≤ 1099511627776 := by unfold exK; simp [K.sz_mk]
  have HS1 := Lib.hid hs1
  clear hrd hs1
  go_enter Try.func15, Try.ntmps15
  go_wp2_with fail
  refine HRD.out.mono ?_
  rintro e w1 ⟨hb1, h1⟩
  obtain ⟨k, v, hk, rfl, hkv⟩ : ∃ k v, some exK = some k ∧ e = .returned (.tuple #[.agg #[v], .int .i64 0]) ∧ KAt (fun b => w.heap.size ≤ b) w1 k v := by
    rcases h1 with h1 | ⟨h1, _⟩
    · exact h1
    · cases h1
  injection hk with hk
  subst hk
  obtain ⟨Av, nv, cv, rfl⟩ := kform hkv
  have hkv2 : KAt (fun b => w.heap.size ≤ b) (w1.alloc (.cells #[.slice Av nv cv] 25)) exK (.slice Av nv cv) := hkv.on (below_new _ _)
  have hsp := split_some _ (.mk [.mk []]) [] _ _ hkv2 HS1.out
  have HSP := Lib.hid hsp
  have HB1 := Lib.hid hb1
  clear hkv hkv2 h1 hsp hb1
  go_wp2_with fail
  refine HSP.out.mono ?_
  rintro e w2 ⟨v1, v2, rfl, hk1, hk2, hb2⟩
  obtain ⟨A1, n1, c1, rfl⟩ := kform hk1
  obtain ⟨A2, n2, c2, rfl⟩ := kform hk2
  have HB2 := Lib.hid ((HB1.out.trans ((below_new w1 (.cells #[.slice Av nv cv] 25)).mono HB1.out.size)).trans (hb2.mono (by have := HB1.out.size; simp; omega)))
  have HK1 := Lib.hid hk1
  have HK2 := Lib.hid hk2
  have hz2 := HB2.out.size
  clear hk1 hk2 hb2
  go_wp2_with fail
  have hb3 : Below w2.heap.size w2 ((w2.alloc (.cells #[.slice A1 n1 c1] 25)).alloc (.cells #[.slice A2 n2 c2] 25)) := (below_new w2 _).trans ((below_new _ _).mono (by simp))
  have hx3 : ((w2.alloc (.cells #[.slice A1 n1 c1] 25)).alloc (.cells #[.slice A2 n2 c2] 25)).cell? ⟨w2.heap.size + 1, 0, none⟩ = some (.slice A2 n2 c2) := by simp [go_sem]
  have hz3 : w2.heap.size + 1 < ((w2.alloc (.cells #[.slice A1 n1 c1] 25)).alloc (.cells #[.slice A2 n2 c2] 25)).heap.size := by simp
  generalize (w2.alloc (.cells #[.slice A1 n1 c1] 25)).alloc (.cells #[.slice A2 n2 c2] 25) = w3 at *
  have hp1 := print_any _ _ _ w3 (HK1.out.on hb3) (by rw [exK_one]; decide)
  rw [exK_one] at hp1
  refine hp1.mono ?_
  rintro e w4 ⟨rfl, hb4⟩
  have y4 := (hb4.cell (p := ⟨w2.heap.size + 1, 0, none⟩) hz3).trans hx3
  have hz34 := hb3.size
  have hp2 := print_any _ _ _ w4 ((HK2.out.on hb3).on hb4) (by rw [printK_nil]; decide)
  rw [printK_nil] at hp2
  have HP2 := Lib.hid hp2
  have HB4 := Lib.hid ((HB2.out.trans (hb3.mono hz2)).trans (hb4.mono (by omega)))
  clear hp1 hp2 hb3 hb4 hx3
  go_wp2_with fail
  refine HP2.out.mono ?_
  rintro e w5 ⟨rfl, hb5⟩
  have HB5 := Lib.hid (HB4.out.trans (hb5.mono HB4.out.size))
  clear hb5
  go_wp2
  go_ret
  exact ⟨rfl, HB5.out⟩
end Go.Proofs.Ytomhojpoaicioaa
