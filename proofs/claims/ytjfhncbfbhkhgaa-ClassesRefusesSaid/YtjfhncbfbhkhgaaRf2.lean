/- The document's Inst. Conditions: those that each theorem names. -/
import Derived.Test.YtjfhncbfbhkhgaaRf1
namespace Go.Proofs.Ytjfhncbfbhkhgaa
open Go.RowKit
theorem instF_append (a b : ByteArray) (R : List Ins) : ∀ (L : List Ins) (n : Nat), instF (L ++ R) n a b = match instF L n a b with | some d => some d | none => instF R (n + L.length) a b
  | [], n => rfl
  | y :: l, n => by
    show (if y.cls = a ∧ y.con = b then some n else instF (l ++ R) (n + 1) a b) = match (if y.cls = a ∧ y.con = b then some n else instF l (n + 1) a b) with | some d => some d | none => _
    by_cases e : y.cls = a ∧ y.con = b
    · rw [if_pos e, if_pos e]
    · rw [if_neg e, if_neg e, instF_append a b R l (n + 1)]
      simp only [List.length_cons]
      rw [show n + 1 + l.length = n + (l.length + 1) by omega]
theorem instF_at {I : List Ins} {a b : ByteArray} {k : Nat} {x : Ins} (hk : I[k]? = some x) (hn : instF (I.take k) 0 a b = none) (he : x.cls = a ∧ x.con = b) : instF I 0 a b = some k := by
  obtain ⟨hlt, hx⟩ := List.getElem?_eq_some_iff.1 hk
  have h1 : I = I.take k ++ x :: I.drop (k + 1) := by
    conv => lhs; rw [← List.take_append_drop k I]
    rw [List.drop_eq_getElem_cons hlt, hx]
  rw [h1, instF_append, hn]
  show instF (x :: I.drop (k + 1)) (0 + (I.take k).length) a b = some k
  unfold instF
  rw [if_pos he, List.length_take]
  congr 1; omega
set_option maxRecDepth 100000 in
set_option maxHeartbeats 2000000 in
theorem rinst_any {Q : Nat → Prop} {I : List Ins} {cv iv : Value} {w : World} (h : InstsAt Q w iv I) (hcl : ∃ A n c, cv = .slice A n c) (a b : ByteArray) :
    Calls Try.prog 22 #[.agg #[.slice none 0 0, cv, iv, .slice none 0 0], .string a, .string b] w fun e w' => e = .returned (.tuple #[.int .i64 (((instF I 0 a b).getD 0 : Nat) : Int), .bool (instF I 0 a b).isSome]) ∧ Below w.heap.size w w' := by
  obtain ⟨Ac, nc, cc, rfl⟩ := hcl
  obtain ⟨Ai, ci, rfl, hcc, hcm⟩ : ∃ A c, iv = .slice A I.length c ∧ I.length ≤ c ∧ c ≤ maxLen := by
    obtain ⟨A, c, e, h1, h2, _⟩ := h; exact ⟨A, c, e, h1, h2⟩
  unfold maxLen at hcm
  obtain ⟨V, eV⟩ : ∃ V, V = w.alloc (.cells #[.slice none 0 0, .slice Ac nc cc, .slice Ai I.length ci, .slice none 0 0] 28) := ⟨_, rfl⟩
  have hBV : Below w.heap.size w V := by rw [eV]; exact below_new _ _
  have v0 : V.heap[w.heap.size]? = some (.cells #[.slice none 0 0, .slice Ac nc cc, .slice Ai I.length ci, .slice none 0 0] 28) := by rw [eV, alloc_get, if_pos rfl]
  have HV := Lib.hid (h.keep hBV.size (fun b _ hl => hBV.block b hl))
  have HBV := Lib.hid hBV
  have HV0 := Lib.hid v0
  have HEV := Lib.hid eV
  obtain ⟨R, hR⟩ : ∃ R, instF I 0 a b = R := ⟨_, rfl⟩
  rw [hR]
  have HR := Lib.hid hR
  clear h hBV v0 eV hR
  go_enter Try.func22, Try.ntmps22
  go_upto_region 1 with (fail)
  rw [← HEV.out]
  clear HEV
  go_wp2_with fail
  go_loopw [8] (fun i wr => ∃ k : Nat, k ≤ I.length ∧ i = .int .i64 k ∧ instF (I.take k) 0 a b = none ∧ Below V.heap.size V wr) (fun i _ => I.length - (intOf i).toNat)
  case atStart => exact ⟨0, Nat.zero_le _, rfl, rfl, Below.refl _ _⟩
  case round =>
    obtain ⟨k, hk, rfl, hno, hb⟩ := hrel
    have b0 := (hb.block _ (lt_of_block HV0.out)).trans HV0.out
    have c0 : wr.cell? ⟨w.heap.size, 2, none⟩ = some (.slice Ai I.length ci) := by simp [World.cell?, b0]
    have HB := Lib.hid (HBV.out.trans (hb.mono HBV.out.size))
    have HBB := Lib.hid hb
    have HNO := Lib.hid hno
    by_cases hlt : k < I.length
    · obtain ⟨x, hx⟩ : ∃ x, I[k]? = some x := ⟨_, List.getElem?_eq_getElem hlt⟩
      obtain ⟨b1, e0, hbl, q0, q1, q2, q3, q4, q5⟩ := (HV.out.keep hb.size (fun b _ hl => hb.block b hl)).at hx
      subst e0
      have hki : (k : Int) < (I.length : Int) := by omega
      have hk0 : (0 : Int) ≤ (k : Int) := by omega
      have HX9 := Lib.hid hx
      have HNEXT : ¬ (x.cls = a ∧ x.con = b) → Hid (instF (I.take (k + 1)) 0 a b = none) := fun he => Lib.hid (by
        rw [List.take_add_one, HX9.out, Option.toList_some, instF_snoc, HNO.out]; simp [he])
      clear hx hno hb b0
      by_cases he : x.cls = a
      · subst he
        by_cases he2 : x.con = b
        · subst he2
          have HRR : Hid (R = some k) := Lib.hid (HR.out.symm.trans (instF_at HX9.out HNO.out ⟨rfl, rfl⟩))
          go_wp2_with fail
          go_ret2
          exact ⟨by rw [HRR.out]; rfl, HB.out⟩
        · have hne : (x.con.toList == b.toList) = false := by rw [← beq_toListBytes, beq_eq_false_iff_ne]; exact he2
          have HT := HNEXT (fun h => he2 h.2)
          go_wp2_with fail
          go_roundw
          case rel => exact ⟨k + 1, by omega, by go_num, HT.out, HBB.out⟩
          case measure => simp [intOf]; omega
      · have hne : (x.cls.toList == a.toList) = false := by rw [← beq_toListBytes, beq_eq_false_iff_ne]; exact he
        have HT := HNEXT (fun h => he h.1)
        go_wp2_with fail
        go_roundw
        case rel => exact ⟨k + 1, by omega, by go_num, HT.out, HBB.out⟩
        case measure => simp [intOf]; omega
    · have hke : k = I.length := by omega
      subst hke
      have hd : decide (I.length < I.length) = false := by simp
      have HRR : Hid (R = none) := Lib.hid (by rw [List.take_of_length_le (Nat.le_refl _)] at hno; exact HR.out.symm.trans hno)
      clear hb hno b0
      go_wp2_with fail
      go_ret2
      exact ⟨by rw [HRR.out]; rfl, HB.out⟩
end Go.Proofs.Ytjfhncbfbhkhgaa
