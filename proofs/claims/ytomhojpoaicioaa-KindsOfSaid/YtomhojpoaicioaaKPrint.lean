/- The contract of the document's Print of kinds (chapter 3). Condition: the print has at most 2^40 bytes. -/
import Derived.Test.YtomhojpoaicioaaKAt
import Derived.Test.YtomhojpoaicioaaKindsP
namespace Go.Proofs.Ytomhojpoaicioaa
open Go.RowKit

theorem mk_size (x : List UInt8) : (⟨x.toArray⟩ : ByteArray).size = x.length := by show x.toArray.size = _; simp
theorem mk_list (x : List UInt8) : (⟨x.toArray⟩ : ByteArray).data.toList = x := by simp
theorem append_mk2 (a b : List UInt8) : (⟨a.toArray⟩ : ByteArray) ++ ⟨b.toArray⟩ = ⟨(a ++ b).toArray⟩ := by
  apply ByteArray.ext
  simp [ByteArray.data_append]

set_option maxRecDepth 100000 in
set_option maxHeartbeats 1000000 in
theorem refprint_any (P : Nat → Prop) : ∀ (n : Nat) (k : K) (v : Value) (w : World), K.sz k ≤ n → KAt P w k v → (printK k).length ≤ 1099511627776 →
    Calls Try.prog 13 #[.agg #[v]] w fun e w' => e = .returned (.string ⟨(printK k).toArray⟩) ∧ Below w.heap.size w w'
  | 0, .mk l, _, _, hn, _, _ => by rw [K.sz_mk] at hn; omega
  | n + 1, .mk l, v1, w, hn, h1, hlen => by
    obtain ⟨A1, c1, rfl, hm1⟩ := h1.form
    unfold maxLen at hm1
    have H1 := Lib.hid h1
    have IH := Lib.hid (refprint_any P n)
    have HN := Lib.hid (fun i (h : i < l.length) => sz_get hn h)
    have HG := Lib.hid (fun i (h : i < l.length) => printK_get (l := l) (i := i) h)
    have HP := Lib.hid (printK_mk l)
    have hit : (itemsK l).length + 1 ≤ 1099511627776 := by rw [printK_mk] at hlen; simpa using hlen
    clear h1 hn
    go_enter Try.func13, Try.ntmps13
    go_wp2_with fail
    have hb0 : Below w.heap.size w (w.alloc (.cells #[.slice A1 l.length c1] 25)) := below_new w _
    have hz0 : (w.alloc (.cells #[.slice A1 l.length c1] 25)).heap.size = w.heap.size + 1 := by simp
    have hx0 : (w.alloc (.cells #[.slice A1 l.length c1] 25)).cell? ⟨w.heap.size, 0, none⟩ = some (.slice A1 l.length c1) := by simp [go_sem]
    generalize w.alloc (.cells #[.slice A1 l.length c1] 25) = w0 at *
    have HB0 := Lib.hid hb0
    have HZ0 := Lib.hid hz0
    have HX0 := Lib.hid hx0
    clear hb0 hz0 hx0
    go_loopw [3, 4] (fun o i wr => ∃ k : Nat, k ≤ l.length ∧ i = .int .i64 k ∧ o = .string ⟨(itemsK (l.take k)).toArray⟩ ∧ Below w0.heap.size w0 wr) (fun _ i _ => l.length - (intOf i).toNat)
    case atStart => exact ⟨0, Nat.zero_le _, rfl, rfl, Below.refl _ _⟩
    case round =>
      obtain ⟨k, hk, rfl, rfl, hb⟩ := hrel
      have hzr := hb.size
      have z0 : w.heap.size < w0.heap.size := by have := HZ0.out; omega
      have y0 := (hb.cell (p := ⟨w.heap.size, 0, none⟩) z0).trans HX0.out
      have HB := Lib.hid hb
      clear hb
      have htl := itemsK_take_le l k
      have hsz := mk_size (itemsK (l.take k))
      by_cases hlt : k < l.length
      · obtain ⟨b1, o1, u1, e1, hb1, cu1, ku1⟩ := ((H1.out.on HB0.out).on HB.out).at k hlt
        subst e1
        have KU1 := Lib.hid ku1
        have hki : (k : Int) < (l.length : Int) := by omega
        have hk0 : (0 : Int) ≤ (k : Int) := by omega
        have HSZ := Lib.hid (HN.out k hlt)
        have hpg := HG.out k hlt
        have hpl : (printK l[k]).length ≤ 1099511627776 := by omega
        have htk : l.take (k + 1) = l.take k ++ [l[k]] := List.take_succ_eq_append_getElem hlt
        have HTK : Hid (itemsK (l.take (k + 1)) = itemsK (l.take k) ++ itemK l[k]) := by show _ = _; rw [htk, itemsK_snoc]
        have hik := (itemK_len l[k]).2
        clear ku1 htk
        obtain ⟨A2, n2, c2, e2, hn2, hn3⟩ : ∃ A2 n2 c2, u1 = .slice A2 n2 c2 ∧ (l[k].from = [] ↔ n2 = 0) ∧ n2 ≤ 9223372036854775807 := by
          have kk := KU1.out
          generalize l[k] = q at kk
          cases q with
          | mk q =>
            obtain ⟨A2, c2, e2, hm2⟩ := kk.form
            exact ⟨A2, q.length, c2, e2, by constructor; (intro h; rw [show q = [] from h]; rfl); (intro h; exact List.eq_nil_of_length_eq_zero h), by unfold maxLen at hm2; omega⟩
        subst e2
        generalize hq : l[k] = q at *
        have HQ := Lib.hid hq
        clear hq
        go_wp2_with fail
        refine (IH.out q _ _ HSZ.out KU1.out hpl).mono ?_
        rintro e w1 ⟨rfl, b1'⟩
        have HB1 : Hid (Below w0.heap.size w0 w1) := HB.out.trans (b1'.mono hzr)
        have y1 := (HB1.out.cell (p := ⟨w.heap.size, 0, none⟩) z0).trans HX0.out
        have cu2 := (b1'.cell (p := ⟨b1, o1 + k, none⟩) hb1).trans cu1
        have hps := mk_size (printK q)
        clear b1' y0 cu1
        by_cases hf : q.from = []
        · have hn0 : n2 = 0 := hn2.1 hf
          subst hn0
          have HI : Hid (itemK q = printK q ++ [32, 45, 62, 32]) := by show _ = _; unfold itemK wrapK; rw [if_pos hf]
          clear hn2 hf
          generalize itemsK (l.take k) = S at *
          generalize printK q = Q at *
          go_wp2
          go_roundw
          case rel => exact ⟨k + 1, by omega, by go_num, by rw [HTK.out, HI.out, ← List.append_assoc, ← append_mk2, ← append_mk2], HB1.out⟩
          case measure => simp [intOf]; omega
        · have hn0 : (0 : Int) < (n2 : Int) := by have : n2 ≠ 0 := fun h => hf (hn2.2 h); omega
          have hn0' : 0 < n2 := by omega
          have HI : Hid (itemK q = [40] ++ printK q ++ [41] ++ [32, 45, 62, 32]) := by show _ = _; unfold itemK wrapK; rw [if_neg hf]
          clear hn2 hf
          generalize itemsK (l.take k) = S at *
          generalize printK q = Q at *
          go_wp2
          go_roundw
          case rel => exact ⟨k + 1, by omega, by go_num, by rw [HTK.out, HI.out, show S ++ ([40] ++ Q ++ [41] ++ [32, 45, 62, 32]) = S ++ ([40] ++ Q ++ [41]) ++ [32, 45, 62, 32] by simp, ← append_mk2, ← append_mk2, ← append_mk2, ← append_mk2], HB1.out⟩
          case measure => simp [intOf]; omega
      · have hd : decide (k < l.length) = false := by simpa using hlt
        have hkl : l.take k = l := List.take_of_length_le (by omega)
        have HKL : Hid (printK (.mk l) = itemsK (l.take k) ++ [42]) := by show _ = _; rw [HP.out, hkl]
        clear hkl
        generalize itemsK (l.take k) = S at *
        go_wp2
        go_ret
        exact ⟨by rw [HKL.out, ← append_mk2]; rfl, HB0.out.trans (HB.out.mono (by have := HZ0.out; omega))⟩
end Go.Proofs.Ytomhojpoaicioaa
