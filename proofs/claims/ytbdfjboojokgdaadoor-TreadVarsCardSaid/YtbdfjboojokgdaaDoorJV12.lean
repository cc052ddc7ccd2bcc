/- The contract of the document's 'one' (chapter 2): the token with which a text begins. Condition: the text is not empty, and has at most 2^40 bytes. -/
import Derived.Test.YtbdfjboojokgdaaDoorJV11
import Derived.Deep.RegionWith
namespace Go.Proofs.YtbdfjboojokgdaaDoor.Lx
open Go.RowKit

/-- A token as the cells of its struct. -/
def aggT (k : Nat) (x : List UInt8) (n i : Nat) : Value := .agg #[.int .i64 k, .string ⟨x.toArray⟩, .int .i64 n, .int .i64 i]
def oneV (r : Except Nat (Nat × List UInt8 × Nat)) : Value := match r with
  | .error e => .tuple #[.agg #[.int .i64 0, .string ⟨#[]⟩, .int .i64 0, .int .i64 0], .int .i64 e]
  | .ok (k, x, n) => .tuple #[aggT k x n 0, .int .i64 0]

theorem numV_snoc (l : List UInt8) (c : UInt8) : numV (l ++ [c]) = numV l * 10 + (c.toNat - 48) := by unfold numV; rw [List.foldl_append]; rfl
theorem fold_ge (b : List UInt8) : ∀ acc : Nat, acc ≤ b.foldl (fun k c => k * 10 + (c.toNat - 48)) acc := by
  induction b with
  | nil => intro acc; exact Nat.le_refl _
  | cons c r ih => intro acc; have := ih (acc * 10 + (c.toNat - 48)); simp only [List.foldl_cons]; omega
theorem numV_mono (a b : List UInt8) : numV a ≤ numV (a ++ b) := by unfold numV; rw [List.foldl_append]; exact fold_ge b _
theorem dig_val {c : UInt8} (h : digB c = true) : 48 ≤ c.toNat ∧ c.toNat ≤ 57 := by unfold digB rangeB at h; simp at h; omega

theorem take_get (s : ByteArray) (k : Nat) (h : k < s.size) : s.data.toList.take (k + 1) = s.data.toList.take k ++ [s[k]] := by
  rw [List.take_succ_eq_append_getElem (by rw [← Lib.size_eq]; exact h), get_data s k h]
theorem extract_take (s : ByteArray) (k : Nat) : s.extract 0 k = ⟨(s.data.toList.take k).toArray⟩ := by
  rw [← Lib.mk_data (s.extract 0 k), Lib.extract_data]; simp
theorem tw_digit (l : List UInt8) (j : Nat) (hj : j < (l.takeWhile digB).length) (hj' : j < l.length) : digB l[j] = true := by
  have h1 : (l.takeWhile digB)[j] ∈ l.takeWhile digB := List.getElem_mem hj
  have h2 := List.all_takeWhile (p := digB) (l := l)
  rw [List.all_eq_true] at h2
  have h3 := h2 _ h1
  have h4 : (l.takeWhile digB)[j] = l[j] := (List.takeWhile_prefix digB).getElem hj
  rw [← h4]; exact h3

set_option maxRecDepth 100000 in
set_option maxHeartbeats 1000000 in
theorem one_digit (s : ByteArray) (w : World) (hs : 0 < s.size) (hm : s.size ≤ 1099511627776) (hd : digB s[0] = true) :
    Calls Tryd.prog 83 #[.string s] w fun e w' => e = .returned (oneV (oneT s.data.toList)) ∧ Below w.heap.size w w' := by
  have hp0 : (0 : Int) < s.size := by omega
  have HO : Hid (oneT s.data.toList = if 2147483647 < numV (s.data.toList.takeWhile digB) then .error 11 else .ok (3, s.data.toList.takeWhile digB, numV (s.data.toList.takeWhile digB))) := by
    obtain ⟨r, e⟩ := head_of s hs
    rw [e]; simp only [oneT]; rw [if_pos hd]; exact rfl
  have hd' : rangeB 48 57 (s[0].toNat : Int) = true := hd
  have HTL : Hid ((s.data.toList.takeWhile digB).length ≤ s.size) := by show _ ≤ _; rw [Lib.size_eq]; exact tw_le _ _
  clear hd
  go_enter Tryd.func83, Tryd.ntmps83
  go_wp2_with (go_at_call 122; refine (refdigit_any _ _).mono ?_; rintro e w' ⟨rfl, rfl⟩)
  go_loop [4] (fun n => ∃ k : Nat, k ≤ s.size ∧ n = .int .i64 k ∧ Hid (k ≤ (s.data.toList.takeWhile digB).length)) (fun n => s.size - (intOf n).toNat)
  case atStart => exact ⟨0, by omega, rfl, Nat.zero_le _⟩
  case round =>
    obtain ⟨k, hk, rfl, hr⟩ := hrel
    have hfin : (s.data.toList.takeWhile digB).length = k ∨ (k < s.size ∧ (s.data.toList.takeWhile digB).length ≠ k) := by
      by_cases hlt : k < s.size
      · by_cases he : (s.data.toList.takeWhile digB).length = k
        · exact .inl he
        · exact .inr ⟨hlt, he⟩
      · have := HTL.out; have := hr.out; left; omega
    rcases hfin with he | ⟨hlt, hne⟩
    · have HTK : Hid (s.data.toList.takeWhile digB = s.data.toList.take k) := by show _ = _; rw [← he]; exact (tw_take _ _).symm
      have HD : Hid (∀ j (hj : j < s.size), j < k → digB s[j] = true) := by
        intro j hj hjk
        have h9 := tw_digit s.data.toList j (by omega) (by rw [← Lib.size_eq]; exact hj)
        rw [get_data s j hj] at h9
        exact h9
      have hcont : (∃ h : k < s.size, rangeB 48 57 (s[k].toNat : Int) = false) ∨ ¬ k < s.size := by
        by_cases hlt : k < s.size
        · refine .inl ⟨hlt, ?_⟩
          have hkl : k < s.data.toList.length := by rw [← Lib.size_eq]; exact hlt
          cases e9 : rangeB 48 57 (s[k].toNat : Int) with
          | false => rfl
          | true =>
            have := tw_step digB s.data.toList k (by omega) hkl (by rw [get_data s k hlt]; exact e9)
            omega
        · exact .inr hlt
      clear he
      rcases hcont with ⟨hlt, hst⟩ | hlt
      · have hmin : min (k : Int) ((s.size : Int) - 1) = k := by omega
        go_wp2_with (go_at_call 122; refine (refdigit_any _ _).mono ?_; rintro e w' ⟨rfl, rfl⟩)
        go_loop [5, 6] (fun v i => ∃ j : Nat, j ≤ k ∧ i = .int .i64 j ∧ v = .int .i64 (numV (s.data.toList.take j)) ∧ numV (s.data.toList.take j) < 40000000000) (fun _ i => k - (intOf i).toNat)
        case atStart => exact ⟨0, Nat.zero_le _, rfl, rfl, by simp [numV]⟩
        case round =>
          obtain ⟨j, hj, rfl, rfl, hV⟩ := hrel
          have hmono : numV (s.data.toList.take j) ≤ numV (s.data.toList.take k) := by
            have e9 : s.data.toList.take k = s.data.toList.take j ++ (s.data.toList.take k).drop j := by
              conv => lhs; rw [← List.take_append_drop j (s.data.toList.take k)]
              rw [List.take_take, Nat.min_eq_left hj]
            rw [e9]; exact numV_mono _ _
          by_cases hjk : j < k
          · have hjs : j < s.size := by omega
            have hdj := dig_val (HD.out j hjs hjk)
            have hnx := numV_snoc (s.data.toList.take j) s[j]
            rw [← take_get s j hjs] at hnx
            by_cases h3 : numV (s.data.toList.take j) < 3000000000
            · have h3' : decide (((numV (s.data.toList.take j) : Nat) : Int) < 3000000000) = true := by simp; omega
              have HNX : Hid (((numV (s.data.toList.take (j + 1)) : Nat) : Int) = ((numV (s.data.toList.take j) : Nat) : Int) * 10 + (s[j].toNat : Int) - 48) := by show _ = _; omega
              have HNB : Hid (numV (s.data.toList.take (j + 1)) < 40000000000) := by show _ < _; omega
              have hcj : s[j].toNat ≤ 57 := hdj.2
              have hw64 : wrap64 (s[j].toNat : Int) = (s[j].toNat : Int) := by unfold wrap64; omega
              have h3i : ((numV (s.data.toList.take j) : Nat) : Int) < 3000000000 := by omega
              clear hnx hmono h3 hdj hV
              generalize numV (s.data.toList.take j) = V at *
              go_wp2
              go_round
              case rel => exact ⟨j + 1, by omega, by go_num, by rw [HNX.out], HNB.out⟩
              case measure => simp [intOf]; omega
            · have h3' : decide (((numV (s.data.toList.take j) : Nat) : Int) < 3000000000) = false := by simp; omega
              have HE : Hid (oneT s.data.toList = .error 11) := by show _ = _; rw [HO.out, HTK.out, if_pos (by omega)]
              have h4 : (2147483647 : Int) < ((numV (s.data.toList.take j) : Nat) : Int) := by omega
              clear hnx hmono h3 hdj
              generalize numV (s.data.toList.take j) = V at *
              go_wp2
              exact bodyPost_ret (v := .tuple #[.agg #[.int .i64 0, .string ⟨#[]⟩, .int .i64 0, .int .i64 0], .int .i64 11]) (by simp [results, Tryd.results83, go_sem]) rfl ⟨by rw [HE.out]; rfl, (Below.refl _ _).alloc (Nat.le_refl _) _⟩
          · obtain rfl : j = k := by omega
            have hjd : decide (j < j) = false := by simp
            by_cases h4 : 2147483647 < numV (s.data.toList.take j)
            · have h4' : (2147483647 : Int) < ((numV (s.data.toList.take j) : Nat) : Int) := by omega
              have HE : Hid (oneT s.data.toList = .error 11) := by show _ = _; rw [HO.out, HTK.out, if_pos h4]
              clear hmono h4
              generalize numV (s.data.toList.take j) = V at *
              go_wp2
              exact bodyPost_ret (v := .tuple #[.agg #[.int .i64 0, .string ⟨#[]⟩, .int .i64 0, .int .i64 0], .int .i64 11]) (by simp [results, Tryd.results83, go_sem]) rfl ⟨by rw [HE.out]; rfl, (Below.refl _ _).alloc (Nat.le_refl _) _⟩
            · have h4' : ¬ (2147483647 : Int) < ((numV (s.data.toList.take j) : Nat) : Int) := by omega
              have HE : Hid (oneT s.data.toList = .ok (3, s.data.toList.take j, numV (s.data.toList.take j))) := by show _ = _; rw [HO.out, HTK.out, if_neg h4]
              have hxt := extract_take s j
              clear hmono h4
              generalize numV (s.data.toList.take j) = V at *
              go_wp2
              exact bodyPost_ret (v := .tuple #[.agg #[.int .i64 3, .string ⟨(s.data.toList.take j).toArray⟩, .int .i64 V, .int .i64 0], .int .i64 0]) (by simp [results, Tryd.results83, go_sem]) rfl ⟨by rw [HE.out]; rfl, (Below.refl _ _).alloc (Nat.le_refl _) _⟩
      · have hd : decide (k < s.size) = false := by simpa using hlt
        go_wp2_with (go_at_call 122; refine (refdigit_any _ _).mono ?_; rintro e w' ⟨rfl, rfl⟩)
        go_loop [5, 6] (fun v i => ∃ j : Nat, j ≤ k ∧ i = .int .i64 j ∧ v = .int .i64 (numV (s.data.toList.take j)) ∧ numV (s.data.toList.take j) < 40000000000) (fun _ i => k - (intOf i).toNat)
        case atStart => exact ⟨0, Nat.zero_le _, rfl, rfl, by simp [numV]⟩
        case round =>
          obtain ⟨j, hj, rfl, rfl, hV⟩ := hrel
          have hmono : numV (s.data.toList.take j) ≤ numV (s.data.toList.take k) := by
            have e9 : s.data.toList.take k = s.data.toList.take j ++ (s.data.toList.take k).drop j := by
              conv => lhs; rw [← List.take_append_drop j (s.data.toList.take k)]
              rw [List.take_take, Nat.min_eq_left hj]
            rw [e9]; exact numV_mono _ _
          by_cases hjk : j < k
          · have hjs : j < s.size := by omega
            have hdj := dig_val (HD.out j hjs hjk)
            have hnx := numV_snoc (s.data.toList.take j) s[j]
            rw [← take_get s j hjs] at hnx
            by_cases h3 : numV (s.data.toList.take j) < 3000000000
            · have h3' : decide (((numV (s.data.toList.take j) : Nat) : Int) < 3000000000) = true := by simp; omega
              have HNX : Hid (((numV (s.data.toList.take (j + 1)) : Nat) : Int) = ((numV (s.data.toList.take j) : Nat) : Int) * 10 + (s[j].toNat : Int) - 48) := by show _ = _; omega
              have HNB : Hid (numV (s.data.toList.take (j + 1)) < 40000000000) := by show _ < _; omega
              have hcj : s[j].toNat ≤ 57 := hdj.2
              have hw64 : wrap64 (s[j].toNat : Int) = (s[j].toNat : Int) := by unfold wrap64; omega
              have h3i : ((numV (s.data.toList.take j) : Nat) : Int) < 3000000000 := by omega
              clear hnx hmono h3 hdj hV
              generalize numV (s.data.toList.take j) = V at *
              go_wp2
              go_round
              case rel => exact ⟨j + 1, by omega, by go_num, by rw [HNX.out], HNB.out⟩
              case measure => simp [intOf]; omega
            · have h3' : decide (((numV (s.data.toList.take j) : Nat) : Int) < 3000000000) = false := by simp; omega
              have HE : Hid (oneT s.data.toList = .error 11) := by show _ = _; rw [HO.out, HTK.out, if_pos (by omega)]
              have h4 : (2147483647 : Int) < ((numV (s.data.toList.take j) : Nat) : Int) := by omega
              clear hnx hmono h3 hdj
              generalize numV (s.data.toList.take j) = V at *
              go_wp2
              exact bodyPost_ret (v := .tuple #[.agg #[.int .i64 0, .string ⟨#[]⟩, .int .i64 0, .int .i64 0], .int .i64 11]) (by simp [results, Tryd.results83, go_sem]) rfl ⟨by rw [HE.out]; rfl, (Below.refl _ _).alloc (Nat.le_refl _) _⟩
          · obtain rfl : j = k := by omega
            have hjd : decide (j < j) = false := by simp
            by_cases h4 : 2147483647 < numV (s.data.toList.take j)
            · have h4' : (2147483647 : Int) < ((numV (s.data.toList.take j) : Nat) : Int) := by omega
              have HE : Hid (oneT s.data.toList = .error 11) := by show _ = _; rw [HO.out, HTK.out, if_pos h4]
              clear hmono h4
              generalize numV (s.data.toList.take j) = V at *
              go_wp2
              exact bodyPost_ret (v := .tuple #[.agg #[.int .i64 0, .string ⟨#[]⟩, .int .i64 0, .int .i64 0], .int .i64 11]) (by simp [results, Tryd.results83, go_sem]) rfl ⟨by rw [HE.out]; rfl, (Below.refl _ _).alloc (Nat.le_refl _) _⟩
            · have h4' : ¬ (2147483647 : Int) < ((numV (s.data.toList.take j) : Nat) : Int) := by omega
              have HE : Hid (oneT s.data.toList = .ok (3, s.data.toList.take j, numV (s.data.toList.take j))) := by show _ = _; rw [HO.out, HTK.out, if_neg h4]
              have hxt := extract_take s j
              clear hmono h4
              generalize numV (s.data.toList.take j) = V at *
              go_wp2
              exact bodyPost_ret (v := .tuple #[.agg #[.int .i64 3, .string ⟨(s.data.toList.take j).toArray⟩, .int .i64 V, .int .i64 0], .int .i64 0]) (by simp [results, Tryd.results83, go_sem]) rfl ⟨by rw [HE.out]; rfl, (Below.refl _ _).alloc (Nat.le_refl _) _⟩
    · have hdk : digB s[k] = true := by
        have h9 := tw_digit s.data.toList k (by have := hr.out; omega) (by rw [← Lib.size_eq]; exact hlt)
        rw [get_data s k hlt] at h9
        exact h9
      have hdk' : rangeB 48 57 (s[k].toNat : Int) = true := hdk
      have HR : Hid (k + 1 ≤ (s.data.toList.takeWhile digB).length) := by show k + 1 ≤ _; have := hr.out; omega
      have hmin : min (k : Int) ((s.size : Int) - 1) = k := by omega
      clear hdk hne
      go_wp2_with (go_at_call 122; refine (refdigit_any _ _).mono ?_; rintro e w' ⟨rfl, rfl⟩)
      go_round
      case rel => exact ⟨k + 1, by omega, by go_num, HR⟩
      case measure => simp [intOf]; omega

theorem bcell {W w1 : World} (hb : Below W.heap.size W w1) : (∀ b o, b < W.heap.size → w1.cell? ⟨b, o, none⟩ = W.cell? ⟨b, o, none⟩) ∧ (∀ b o, b < W.heap.size → w1.frozen? ⟨b, o, none⟩ = W.frozen? ⟨b, o, none⟩) :=
  ⟨fun b o h => hb.cell (p := ⟨b, o, none⟩) h, fun b o h => hb.frozen (p := ⟨b, o, none⟩) h⟩
theorem name_one (lo hi : Int) (s : ByteArray) (hs : 0 < s.size) : nameB lo hi (s.extract 0 1) = rangeB lo hi (s[0].toNat : Int) := by
  have hsz : (s.extract 0 1).size = 1 := by rw [ByteArray.size_extract]; omega
  have hg : (s.extract 0 1)[0]'(by omega) = s[0] := by simp [ByteArray.getElem_extract]
  cases e : rangeB lo hi (s[0].toNat : Int) with
  | true =>
    refine nameB_true ⟨by omega, by omega, fun i h => ?_⟩
    obtain rfl : i = 0 := by omega
    rw [hg]; simpa [testB] using e
  | false =>
    refine nameB_false (fun h => ?_)
    have h9 := h.2.2 0 (by omega)
    rw [hg] at h9
    simp [testB, e] at h9
theorem tw_sign (l : List UInt8) (j : Nat) (hj : j < (l.takeWhile sgnB).length) (hj' : j < l.length) : sgnB l[j] = true := by
  have h1 : (l.takeWhile sgnB)[j] ∈ l.takeWhile sgnB := List.getElem_mem hj
  have h2 := List.all_takeWhile (p := sgnB) (l := l)
  rw [List.all_eq_true] at h2
  have h3 := h2 _ h1
  have h4 : (l.takeWhile sgnB)[j] = l[j] := (List.takeWhile_prefix sgnB).getElem hj
  rw [← h4]; exact h3

set_option maxRecDepth 100000 in
set_option maxHeartbeats 2000000 in
theorem one_name (s : ByteArray) (w : World) (hs : 0 < s.size) (hm : s.size ≤ 1099511627776) (hnd : digB s[0] = false) (hlet : (rangeB 97 122 (s[0].toNat : Int) || rangeB 65 90 (s[0].toNat : Int)) = true) :
    Calls Tryd.prog 83 #[.string s] w fun e w' => e = .returned (oneV (oneT s.data.toList)) ∧ Below w.heap.size w w' := by
  have hp0 : (0 : Int) < s.size := by omega
  have HO : Hid (oneT s.data.toList = if 32 < (s.data.toList.takeWhile sgnB).length then .error 2 else if rangeB 65 90 (s[0].toNat : Int) then .ok (2, s.data.toList.takeWhile sgnB, 0) else if s.data.toList.takeWhile sgnB ∈ keysL then .ok (5, s.data.toList.takeWhile sgnB, 0) else .ok (1, s.data.toList.takeWhile sgnB, 0)) := by
    obtain ⟨r, e⟩ := head_of s hs
    rw [e]; simp only [oneT]; rw [if_neg (by rw [hnd]; simp), if_pos hlet]; exact rfl
  have hd' : rangeB 48 57 (s[0].toNat : Int) = false := hnd
  have HTL : Hid ((s.data.toList.takeWhile sgnB).length ≤ s.size) := by show _ ≤ _; rw [Lib.size_eq]; exact tw_le _ _
  have n1 := name_one 97 122 s hs
  have n2 := name_one 65 90 s hs
  have hx1 : (s.extract 0 1).size ≤ maxLen := by rw [ByteArray.size_extract]; unfold maxLen; omega
  have hlu : (rangeB 97 122 (s[0].toNat : Int) = true ∧ rangeB 65 90 (s[0].toNat : Int) = false) ∨ (rangeB 97 122 (s[0].toNat : Int) = false ∧ rangeB 65 90 (s[0].toNat : Int) = true) := by
    unfold rangeB at *
    simp at hlet ⊢
    omega
  clear hnd hlet
  rcases hlu with ⟨hlo, hup⟩ | ⟨hlo, hup⟩
  · rw [hlo] at n1
    rw [hup] at n2
    go_enter Tryd.func83, Tryd.ntmps83
    go_wp2_with (first | (go_at_call 122; refine (refdigit_any _ _).mono ?_; rintro e w' ⟨rfl, rfl⟩) | (go_at_call 123; refine (reflower_any _ _ hx1).mono ?_; rintro e w' ⟨rfl, rfl⟩) | (go_at_call 124; refine (refupper_any _ _ hx1).mono ?_; rintro e w' ⟨rfl, rfl⟩))
    go_loop [4] (fun n => ∃ k : Nat, k ≤ s.size ∧ n = .int .i64 k ∧ Hid (k ≤ (s.data.toList.takeWhile sgnB).length)) (fun n => s.size - (intOf n).toNat)
    case atStart => exact ⟨0, by omega, rfl, Nat.zero_le _⟩
    case round =>
      obtain ⟨k, hk, rfl, hr⟩ := hrel
      have hfin : (s.data.toList.takeWhile sgnB).length = k ∨ (k < s.size ∧ (s.data.toList.takeWhile sgnB).length ≠ k) := by
        by_cases hlt : k < s.size
        · by_cases he : (s.data.toList.takeWhile sgnB).length = k
          · exact .inl he
          · exact .inr ⟨hlt, he⟩
        · have := HTL.out; have := hr.out; left; omega
      rcases hfin with he | ⟨hlt, hne⟩
      · have HTK : Hid (s.data.toList.takeWhile sgnB = s.data.toList.take k) := by show _ = _; rw [← he]; exact (tw_take _ _).symm
        have HTN : Hid ((s.data.toList.takeWhile sgnB).length = k) := he
        have hcont : (∃ h : k < s.size, signB (s[k].toNat : Int) = false) ∨ ¬ k < s.size := by
          by_cases hlt : k < s.size
          · refine .inl ⟨hlt, ?_⟩
            have hkl : k < s.data.toList.length := by rw [← Lib.size_eq]; exact hlt
            cases e9 : signB (s[k].toNat : Int) with
            | false => rfl
            | true =>
              have := tw_step sgnB s.data.toList k (by omega) hkl (by rw [get_data s k hlt]; exact e9)
              omega
          · exact .inr hlt
        clear he
        rcases hcont with ⟨hlt, hst⟩ | hlt
        · have hmin : min (k : Int) ((s.size : Int) - 1) = k := by omega
          by_cases h32 : 32 < k
          · have h32' : decide ((32 : Int) < (k : Int)) = true := by simp; omega
            have HE : Hid (oneT s.data.toList = .error 2) := by show _ = _; rw [HO.out, HTN.out, if_pos h32]
            go_wp2_with (go_at_call 125; refine (refsign_any _ _).mono ?_; rintro e w' ⟨rfl, rfl⟩)
            exact bodyPost_ret (v := .tuple #[.agg #[.int .i64 0, .string ⟨#[]⟩, .int .i64 0, .int .i64 0], .int .i64 2]) (by simp [results, Tryd.results83, go_sem]) rfl ⟨by rw [HE.out]; rfl, (Below.refl _ _).alloc (Nat.le_refl _) _⟩
          · have h32' : decide ((32 : Int) < (k : Int)) = false := by simp; omega
            have hxt := extract_take s k
            have HE0 : Hid (oneT s.data.toList = if rangeB 65 90 (s[0].toNat : Int) then .ok (2, s.data.toList.take k, 0) else if s.data.toList.take k ∈ keysL then .ok (5, s.data.toList.take k, 0) else .ok (1, s.data.toList.take k, 0)) := by show _ = _; rw [HO.out, HTN.out, if_neg h32, HTK.out]
            by_cases hkey : s.data.toList.take k ∈ keysL
            · have hkd : decide (s.data.toList.take k ∈ keysL) = true := by simpa using hkey
              have HE : Hid (oneT s.data.toList = .ok (5, s.data.toList.take k, 0)) := by show _ = _; rw [HE0.out, hup, if_neg (by simp), if_pos hkey]
              clear hkey
              generalize s.data.toList.take k = X at *
              go_wp2_with (go_at_call 125; refine (refsign_any _ _).mono ?_; rintro e w' ⟨rfl, rfl⟩)
              go_region_with (first | (go_at_call 126; refine (refkeys_any _).mono ?_; rintro e w2 ⟨rfl, hT2, hb2⟩; have hT3 : Texts (w.heap.size + 1) keysL w2 := (by simpa using hT2); obtain ⟨hc, hf⟩ := bcell hb2; have HW : Hid (Below w.heap.size w w2) := (((Below.refl _ _).alloc (Nat.le_refl _) _).drew).trans (hb2.mono (by show _ ≤ (w.alloc _).heap.size; simp)); clear hT2 hb2) | (go_at_call 30; refine (refhas_any (w.heap.size + 1) 7 7 keysL _ _ hT3 rfl (by decide)).mono ?_; rintro e w3 ⟨rfl, rfl⟩))
              all_goals
                go_wp2
                exact bodyPost_ret (v := .tuple #[.agg #[.int .i64 5, .string ⟨X.toArray⟩, .int .i64 0, .int .i64 0], .int .i64 0]) (by simp [results, Tryd.results83, go_sem, hc]) rfl ⟨by rw [HE.out]; rfl, ((((HW.out.setCell (Nat.le_refl _) _).setCell (Nat.le_refl _) _).setCell (Nat.le_refl _) _).setCell (Nat.le_refl _) _)⟩
            · have hkd : decide (s.data.toList.take k ∈ keysL) = false := by simpa using hkey
              have HE : Hid (oneT s.data.toList = .ok (1, s.data.toList.take k, 0)) := by show _ = _; rw [HE0.out, hup, if_neg (by simp), if_neg hkey]
              clear hkey
              generalize s.data.toList.take k = X at *
              go_wp2_with (go_at_call 125; refine (refsign_any _ _).mono ?_; rintro e w' ⟨rfl, rfl⟩)
              go_region_with (first | (go_at_call 126; refine (refkeys_any _).mono ?_; rintro e w2 ⟨rfl, hT2, hb2⟩; have hT3 : Texts (w.heap.size + 1) keysL w2 := (by simpa using hT2); obtain ⟨hc, hf⟩ := bcell hb2; have HW : Hid (Below w.heap.size w w2) := (((Below.refl _ _).alloc (Nat.le_refl _) _).drew).trans (hb2.mono (by show _ ≤ (w.alloc _).heap.size; simp)); clear hT2 hb2) | (go_at_call 30; refine (refhas_any (w.heap.size + 1) 7 7 keysL _ _ hT3 rfl (by decide)).mono ?_; rintro e w3 ⟨rfl, rfl⟩))
              all_goals
                go_wp2
                exact bodyPost_ret (v := .tuple #[.agg #[.int .i64 1, .string ⟨X.toArray⟩, .int .i64 0, .int .i64 0], .int .i64 0]) (by simp [results, Tryd.results83, go_sem, hc]) rfl ⟨by rw [HE.out]; rfl, ((((HW.out.setCell (Nat.le_refl _) _).setCell (Nat.le_refl _) _).setCell (Nat.le_refl _) _).setCell (Nat.le_refl _) _)⟩
        · have hd : decide (k < s.size) = false := by simpa using hlt
          by_cases h32 : 32 < k
          · have h32' : decide ((32 : Int) < (k : Int)) = true := by simp; omega
            have HE : Hid (oneT s.data.toList = .error 2) := by show _ = _; rw [HO.out, HTN.out, if_pos h32]
            go_wp2_with (go_at_call 125; refine (refsign_any _ _).mono ?_; rintro e w' ⟨rfl, rfl⟩)
            exact bodyPost_ret (v := .tuple #[.agg #[.int .i64 0, .string ⟨#[]⟩, .int .i64 0, .int .i64 0], .int .i64 2]) (by simp [results, Tryd.results83, go_sem]) rfl ⟨by rw [HE.out]; rfl, (Below.refl _ _).alloc (Nat.le_refl _) _⟩
          · have h32' : decide ((32 : Int) < (k : Int)) = false := by simp; omega
            have hxt := extract_take s k
            have HE0 : Hid (oneT s.data.toList = if rangeB 65 90 (s[0].toNat : Int) then .ok (2, s.data.toList.take k, 0) else if s.data.toList.take k ∈ keysL then .ok (5, s.data.toList.take k, 0) else .ok (1, s.data.toList.take k, 0)) := by show _ = _; rw [HO.out, HTN.out, if_neg h32, HTK.out]
            by_cases hkey : s.data.toList.take k ∈ keysL
            · have hkd : decide (s.data.toList.take k ∈ keysL) = true := by simpa using hkey
              have HE : Hid (oneT s.data.toList = .ok (5, s.data.toList.take k, 0)) := by show _ = _; rw [HE0.out, hup, if_neg (by simp), if_pos hkey]
              clear hkey
              generalize s.data.toList.take k = X at *
              go_wp2_with (go_at_call 125; refine (refsign_any _ _).mono ?_; rintro e w' ⟨rfl, rfl⟩)
              go_region_with (first | (go_at_call 126; refine (refkeys_any _).mono ?_; rintro e w2 ⟨rfl, hT2, hb2⟩; have hT3 : Texts (w.heap.size + 1) keysL w2 := (by simpa using hT2); obtain ⟨hc, hf⟩ := bcell hb2; have HW : Hid (Below w.heap.size w w2) := (((Below.refl _ _).alloc (Nat.le_refl _) _).drew).trans (hb2.mono (by show _ ≤ (w.alloc _).heap.size; simp)); clear hT2 hb2) | (go_at_call 30; refine (refhas_any (w.heap.size + 1) 7 7 keysL _ _ hT3 rfl (by decide)).mono ?_; rintro e w3 ⟨rfl, rfl⟩))
              all_goals
                go_wp2
                exact bodyPost_ret (v := .tuple #[.agg #[.int .i64 5, .string ⟨X.toArray⟩, .int .i64 0, .int .i64 0], .int .i64 0]) (by simp [results, Tryd.results83, go_sem, hc]) rfl ⟨by rw [HE.out]; rfl, ((((HW.out.setCell (Nat.le_refl _) _).setCell (Nat.le_refl _) _).setCell (Nat.le_refl _) _).setCell (Nat.le_refl _) _)⟩
            · have hkd : decide (s.data.toList.take k ∈ keysL) = false := by simpa using hkey
              have HE : Hid (oneT s.data.toList = .ok (1, s.data.toList.take k, 0)) := by show _ = _; rw [HE0.out, hup, if_neg (by simp), if_neg hkey]
              clear hkey
              generalize s.data.toList.take k = X at *
              go_wp2_with (go_at_call 125; refine (refsign_any _ _).mono ?_; rintro e w' ⟨rfl, rfl⟩)
              go_region_with (first | (go_at_call 126; refine (refkeys_any _).mono ?_; rintro e w2 ⟨rfl, hT2, hb2⟩; have hT3 : Texts (w.heap.size + 1) keysL w2 := (by simpa using hT2); obtain ⟨hc, hf⟩ := bcell hb2; have HW : Hid (Below w.heap.size w w2) := (((Below.refl _ _).alloc (Nat.le_refl _) _).drew).trans (hb2.mono (by show _ ≤ (w.alloc _).heap.size; simp)); clear hT2 hb2) | (go_at_call 30; refine (refhas_any (w.heap.size + 1) 7 7 keysL _ _ hT3 rfl (by decide)).mono ?_; rintro e w3 ⟨rfl, rfl⟩))
              all_goals
                go_wp2
                exact bodyPost_ret (v := .tuple #[.agg #[.int .i64 1, .string ⟨X.toArray⟩, .int .i64 0, .int .i64 0], .int .i64 0]) (by simp [results, Tryd.results83, go_sem, hc]) rfl ⟨by rw [HE.out]; rfl, ((((HW.out.setCell (Nat.le_refl _) _).setCell (Nat.le_refl _) _).setCell (Nat.le_refl _) _).setCell (Nat.le_refl _) _)⟩
      · have hdk : signB (s[k].toNat : Int) = true := by
          have h9 := tw_sign s.data.toList k (by have := hr.out; omega) (by rw [← Lib.size_eq]; exact hlt)
          rw [get_data s k hlt] at h9
          exact h9
        have HR : Hid (k + 1 ≤ (s.data.toList.takeWhile sgnB).length) := by show k + 1 ≤ _; have := hr.out; omega
        have hmin : min (k : Int) ((s.size : Int) - 1) = k := by omega
        clear hne
        go_wp2_with (go_at_call 125; refine (refsign_any _ _).mono ?_; rintro e w' ⟨rfl, rfl⟩)
        go_round
        case rel => exact ⟨k + 1, by omega, by go_num, HR⟩
        case measure => simp [intOf]; omega
  · rw [hlo] at n1
    rw [hup] at n2
    go_enter Tryd.func83, Tryd.ntmps83
    go_wp2_with (first | (go_at_call 122; refine (refdigit_any _ _).mono ?_; rintro e w' ⟨rfl, rfl⟩) | (go_at_call 123; refine (reflower_any _ _ hx1).mono ?_; rintro e w' ⟨rfl, rfl⟩) | (go_at_call 124; refine (refupper_any _ _ hx1).mono ?_; rintro e w' ⟨rfl, rfl⟩))
    go_loop [4] (fun n => ∃ k : Nat, k ≤ s.size ∧ n = .int .i64 k ∧ Hid (k ≤ (s.data.toList.takeWhile sgnB).length)) (fun n => s.size - (intOf n).toNat)
    case atStart => exact ⟨0, by omega, rfl, Nat.zero_le _⟩
    case round =>
      obtain ⟨k, hk, rfl, hr⟩ := hrel
      have hfin : (s.data.toList.takeWhile sgnB).length = k ∨ (k < s.size ∧ (s.data.toList.takeWhile sgnB).length ≠ k) := by
        by_cases hlt : k < s.size
        · by_cases he : (s.data.toList.takeWhile sgnB).length = k
          · exact .inl he
          · exact .inr ⟨hlt, he⟩
        · have := HTL.out; have := hr.out; left; omega
      rcases hfin with he | ⟨hlt, hne⟩
      · have HTK : Hid (s.data.toList.takeWhile sgnB = s.data.toList.take k) := by show _ = _; rw [← he]; exact (tw_take _ _).symm
        have HTN : Hid ((s.data.toList.takeWhile sgnB).length = k) := he
        have hcont : (∃ h : k < s.size, signB (s[k].toNat : Int) = false) ∨ ¬ k < s.size := by
          by_cases hlt : k < s.size
          · refine .inl ⟨hlt, ?_⟩
            have hkl : k < s.data.toList.length := by rw [← Lib.size_eq]; exact hlt
            cases e9 : signB (s[k].toNat : Int) with
            | false => rfl
            | true =>
              have := tw_step sgnB s.data.toList k (by omega) hkl (by rw [get_data s k hlt]; exact e9)
              omega
          · exact .inr hlt
        clear he
        rcases hcont with ⟨hlt, hst⟩ | hlt
        · have hmin : min (k : Int) ((s.size : Int) - 1) = k := by omega
          by_cases h32 : 32 < k
          · have h32' : decide ((32 : Int) < (k : Int)) = true := by simp; omega
            have HE : Hid (oneT s.data.toList = .error 2) := by show _ = _; rw [HO.out, HTN.out, if_pos h32]
            go_wp2_with (go_at_call 125; refine (refsign_any _ _).mono ?_; rintro e w' ⟨rfl, rfl⟩)
            exact bodyPost_ret (v := .tuple #[.agg #[.int .i64 0, .string ⟨#[]⟩, .int .i64 0, .int .i64 0], .int .i64 2]) (by simp [results, Tryd.results83, go_sem]) rfl ⟨by rw [HE.out]; rfl, (Below.refl _ _).alloc (Nat.le_refl _) _⟩
          · have h32' : decide ((32 : Int) < (k : Int)) = false := by simp; omega
            have hxt := extract_take s k
            have HE0 : Hid (oneT s.data.toList = if rangeB 65 90 (s[0].toNat : Int) then .ok (2, s.data.toList.take k, 0) else if s.data.toList.take k ∈ keysL then .ok (5, s.data.toList.take k, 0) else .ok (1, s.data.toList.take k, 0)) := by show _ = _; rw [HO.out, HTN.out, if_neg h32, HTK.out]
            have HE : Hid (oneT s.data.toList = .ok (2, s.data.toList.take k, 0)) := by show _ = _; rw [HE0.out, hup]; rfl
            go_wp2_with (go_at_call 125; refine (refsign_any _ _).mono ?_; rintro e w' ⟨rfl, rfl⟩)
            exact bodyPost_ret (v := .tuple #[.agg #[.int .i64 2, .string ⟨(s.data.toList.take k).toArray⟩, .int .i64 0, .int .i64 0], .int .i64 0]) (by simp [results, Tryd.results83, go_sem]) rfl ⟨by rw [HE.out]; rfl, (Below.refl _ _).alloc (Nat.le_refl _) _⟩
        · have hd : decide (k < s.size) = false := by simpa using hlt
          by_cases h32 : 32 < k
          · have h32' : decide ((32 : Int) < (k : Int)) = true := by simp; omega
            have HE : Hid (oneT s.data.toList = .error 2) := by show _ = _; rw [HO.out, HTN.out, if_pos h32]
            go_wp2_with (go_at_call 125; refine (refsign_any _ _).mono ?_; rintro e w' ⟨rfl, rfl⟩)
            exact bodyPost_ret (v := .tuple #[.agg #[.int .i64 0, .string ⟨#[]⟩, .int .i64 0, .int .i64 0], .int .i64 2]) (by simp [results, Tryd.results83, go_sem]) rfl ⟨by rw [HE.out]; rfl, (Below.refl _ _).alloc (Nat.le_refl _) _⟩
          · have h32' : decide ((32 : Int) < (k : Int)) = false := by simp; omega
            have hxt := extract_take s k
            have HE0 : Hid (oneT s.data.toList = if rangeB 65 90 (s[0].toNat : Int) then .ok (2, s.data.toList.take k, 0) else if s.data.toList.take k ∈ keysL then .ok (5, s.data.toList.take k, 0) else .ok (1, s.data.toList.take k, 0)) := by show _ = _; rw [HO.out, HTN.out, if_neg h32, HTK.out]
            have HE : Hid (oneT s.data.toList = .ok (2, s.data.toList.take k, 0)) := by show _ = _; rw [HE0.out, hup]; rfl
            go_wp2_with (go_at_call 125; refine (refsign_any _ _).mono ?_; rintro e w' ⟨rfl, rfl⟩)
            exact bodyPost_ret (v := .tuple #[.agg #[.int .i64 2, .string ⟨(s.data.toList.take k).toArray⟩, .int .i64 0, .int .i64 0], .int .i64 0]) (by simp [results, Tryd.results83, go_sem]) rfl ⟨by rw [HE.out]; rfl, (Below.refl _ _).alloc (Nat.le_refl _) _⟩
      · have hdk : signB (s[k].toNat : Int) = true := by
          have h9 := tw_sign s.data.toList k (by have := hr.out; omega) (by rw [← Lib.size_eq]; exact hlt)
          rw [get_data s k hlt] at h9
          exact h9
        have HR : Hid (k + 1 ≤ (s.data.toList.takeWhile sgnB).length) := by show k + 1 ≤ _; have := hr.out; omega
        have hmin : min (k : Int) ((s.size : Int) - 1) = k := by omega
        clear hne
        go_wp2_with (go_at_call 125; refine (refsign_any _ _).mono ?_; rintro e w' ⟨rfl, rfl⟩)
        go_round
        case rel => exact ⟨k + 1, by omega, by go_num, HR⟩
        case measure => simp [intOf]; omega

set_option maxRecDepth 100000 in
set_option maxHeartbeats 1000000 in
theorem one_symbol (s : ByteArray) (w : World) (hs : 0 < s.size) (hnd : digB s[0] = false) (hlet : (rangeB 97 122 (s[0].toNat : Int) || rangeB 65 90 (s[0].toNat : Int)) = false) :
    Calls Tryd.prog 83 #[.string s] w fun e w' => e = .returned (oneV (oneT s.data.toList)) ∧ Below w.heap.size w w' := by
  have hp0 : (0 : Int) < s.size := by omega
  have HO : Hid (oneT s.data.toList = if symL s.data.toList = [] then .error 10 else .ok (4, symL s.data.toList, 0)) := by
    obtain ⟨r, e⟩ := head_of s hs
    rw [e]; simp only [oneT]; rw [if_neg (by rw [hnd]; simp), if_neg (by rw [hlet]; simp)]; exact rfl
  have hd' : rangeB 48 57 (s[0].toNat : Int) = false := hnd
  have n1 := name_one 97 122 s hs
  have n2 := name_one 65 90 s hs
  have hx1 : (s.extract 0 1).size ≤ maxLen := by rw [ByteArray.size_extract]; unfold maxLen; omega
  have hl1 : rangeB 97 122 (s[0].toNat : Int) = false := by revert hlet; cases rangeB 97 122 (s[0].toNat : Int) <;> simp
  have hl2 : rangeB 65 90 (s[0].toNat : Int) = false := by revert hlet; cases rangeB 65 90 (s[0].toNat : Int) <;> simp
  rw [hl1] at n1
  rw [hl2] at n2
  clear hnd hlet
  go_enter Tryd.func83, Tryd.ntmps83
  go_wp2_with (first | (go_at_call 122; refine (refdigit_any _ _).mono ?_; rintro e w' ⟨rfl, rfl⟩) | (go_at_call 123; refine (reflower_any _ _ hx1).mono ?_; rintro e w' ⟨rfl, rfl⟩) | (go_at_call 124; refine (refupper_any _ _ hx1).mono ?_; rintro e w' ⟨rfl, rfl⟩))
  refine (refsymbol_any s _).mono ?_
  rintro e w1 ⟨rfl, hb⟩
  obtain ⟨hc, hf⟩ := bcell hb
  have hz : w.heap.size < w1.heap.size := by have := hb.size; simp at this; omega
  have HW : Hid (Below w.heap.size w w1) := ((Below.refl _ _).alloc (Nat.le_refl _) _).trans (hb.mono (by simp))
  clear hb
  by_cases hsy : symL s.data.toList = []
  · have HE : Hid (oneT s.data.toList = .error 10) := by show _ = _; rw [HO.out, if_pos hsy]
    rw [hsy]
    clear hsy
    go_wp2
    exact bodyPost_ret (v := .tuple #[.agg #[.int .i64 0, .string ⟨#[]⟩, .int .i64 0, .int .i64 0], .int .i64 10]) (by simp [results, Tryd.results83, go_sem, hc]) rfl ⟨by rw [HE.out]; rfl, ((((HW.out.setCell (Nat.le_refl _) _).setCell (Nat.le_refl _) _).setCell (Nat.le_refl _) _).setCell (Nat.le_refl _) _)⟩
  · have HE : Hid (oneT s.data.toList = .ok (4, symL s.data.toList, 0)) := by show _ = _; rw [HO.out, if_neg hsy]
    have hsb : (symL s.data.toList).isEmpty = false := by simpa using hsy
    generalize symL s.data.toList = X at *
    clear hsy
    go_wp2
    exact bodyPost_ret (v := .tuple #[.agg #[.int .i64 4, .string ⟨X.toArray⟩, .int .i64 0, .int .i64 0], .int .i64 0]) (by simp [results, Tryd.results83, go_sem, hc]) rfl ⟨by rw [HE.out]; rfl, ((((HW.out.setCell (Nat.le_refl _) _).setCell (Nat.le_refl _) _).setCell (Nat.le_refl _) _).setCell (Nat.le_refl _) _)⟩

theorem one_any (s : ByteArray) (w : World) (hs : 0 < s.size) (hm : s.size ≤ 1099511627776) :
    Calls Tryd.prog 83 #[.string s] w fun e w' => e = .returned (oneV (oneT s.data.toList)) ∧ Below w.heap.size w w' := by
  cases hd : digB s[0] with
  | true => exact one_digit s w hs hm hd
  | false =>
    cases hl : (rangeB 97 122 (s[0].toNat : Int) || rangeB 65 90 (s[0].toNat : Int)) with
    | true => exact one_name s w hs hm hd hl
    | false => exact one_symbol s w hs hd hl
end Go.Proofs.YtbdfjboojokgdaaDoor.Lx
