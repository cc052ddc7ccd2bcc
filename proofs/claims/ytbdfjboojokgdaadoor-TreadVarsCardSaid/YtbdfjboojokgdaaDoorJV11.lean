/- The contracts of the document's functions of chapter 2: digit, sign, blank, Keys, Has, symbol. No conditions but those that each theorem names. -/
import Derived.Test.YtbdfjboojokgdaaDoorJV01
import Derived.Test.YtbdfjboojokgdaaDoorJV10
import Derived.Lib.Strings
import Derived.Lib.IndexBytes
import Derived.Deep.QuietTactic
import Derived.BigQuiet
namespace Go.Proofs.YtbdfjboojokgdaaDoor.Lx
open Go.RowKit

set_option maxHeartbeats 400000 in
theorem refdigit_any (c : Int) (w : World) :
    Calls Tryd.prog 122 #[.int .u8 c] w fun e w' => e = .returned (.bool (rangeB 48 57 c)) ∧ w = w' := by
  go_enter Tryd.func122, Tryd.ntmps122
  go_wp2
  all_goals go_ret
  all_goals exact ⟨ret_bool (by simp [rangeB]; omega), rfl⟩

set_option maxHeartbeats 400000 in
theorem refsign_any (c : Int) (w : World) :
    Calls Tryd.prog 125 #[.int .u8 c] w fun e w' => e = .returned (.bool (signB c)) ∧ w = w' := by
  go_enter Tryd.func125, Tryd.ntmps125
  go_wp2_with (go_at_call 122; refine (refdigit_any _ _).mono ?_; rintro e w' ⟨rfl, rfl⟩)
  all_goals go_ret
  all_goals exact ⟨ret_bool (by rw [Bool.eq_iff_iff]; simp_all [signB, plainB, rangeB]; try omega), rfl⟩

theorem head_of (s : ByteArray) (h : 0 < s.size) : ∃ r, s.data.toList = s[0] :: r := by
  have h0 := Lib.data_getElem? s 0 h
  cases hl : s.data.toList with
  | nil => rw [hl] at h0; cases h0
  | cons a r => rw [hl] at h0; simp at h0; exact ⟨r, by rw [h0]⟩
theorem heads_of (s : ByteArray) (h : 1 < s.size) : ∃ r, s.data.toList = s[0] :: s[1] :: r := by
  have h0 := Lib.data_getElem? s 0 (by omega)
  have h1 := Lib.data_getElem? s 1 h
  match hl : s.data.toList, h0, h1 with
  | a :: b :: r, h0, h1 => simp at h0 h1; exact ⟨r, by rw [h0, h1]⟩
theorem extract_one (s : ByteArray) (k : Nat) (h : k < s.size) : (s.extract k (k + 1)).toList = [s[k]] := by
  rw [Lib.toList_data, Lib.extract_data]
  have := Lib.data_getElem? s k h
  rw [show k + 1 - k = 1 by omega]
  have hd := List.drop_eq_getElem_cons (l := s.data.toList) (i := k) (by rw [← Lib.size_eq]; exact h)
  rw [hd]
  rw [List.getElem?_eq_getElem (by rw [← Lib.size_eq]; exact h)] at this
  simp at this
  simp [this]
theorem extract_two (s : ByteArray) (h : 1 < s.size) : (s.extract 0 2).toList = [s[0], s[1]] := by
  obtain ⟨r, e⟩ := heads_of s h
  rw [Lib.toList_data, Lib.extract_data, e]
  rfl
theorem byte_ne {c : UInt8} {n : Nat} (_hn : n < 256) (h : c ≠ UInt8.ofNat n) : ((c.toNat : Int) == (n : Int)) = false := by
  rw [beq_eq_false_iff_ne]
  intro e
  apply h
  rw [show n = c.toNat by omega]
  simp
theorem get_data (s : ByteArray) (k : Nat) (h : k < s.size) (h' : k < s.data.toList.length) : s.data.toList[k] = s[k] := by
  have := Lib.data_getElem? s k h
  rw [List.getElem?_eq_getElem h'] at this
  exact Option.some.inj this

set_option maxHeartbeats 400000 in
theorem refblank_any (s : ByteArray) (w : World) (hs : 0 < s.size) (hm : s.size ≤ 1099511627776) :
    Calls Tryd.prog 82 #[.string s] w fun e w' => e = .returned (.int .i64 (blankN s.data.toList)) ∧ w = w' := by
  have hp0 : (0 : Int) < s.size := by omega
  by_cases hb : s[0] = 32 ∨ s[0] = 9 ∨ s[0] = 10
  · have HB : Hid (blankN s.data.toList = 1) := by obtain ⟨r, e⟩ := head_of s hs; rw [e]; simp only [blankN]; rw [if_pos hb]; exact rfl
    have hc : ((s[0].toNat : Int) == 32) = true ∨ (((s[0].toNat : Int) == 32) = false ∧ ((s[0].toNat : Int) == 9) = true) ∨ (((s[0].toNat : Int) == 32) = false ∧ ((s[0].toNat : Int) == 9) = false ∧ ((s[0].toNat : Int) == 10) = true) := by
      rcases hb with e | e | e <;> rw [e] <;> decide
    clear hb
    rcases hc with h | ⟨h, h'⟩ | ⟨h, h', h''⟩
    all_goals
      go_enter Tryd.func82, Tryd.ntmps82
      go_wp2
      go_ret
      exact ⟨by rw [HB.out]; rfl, rfl⟩
  have n32 : ((s[0].toNat : Int) == 32) = false := byte_ne (n := 32) (by decide) (fun e => hb (.inl e))
  have n9 : ((s[0].toNat : Int) == 9) = false := byte_ne (n := 9) (by decide) (fun e => hb (.inr (.inl e)))
  have n10 : ((s[0].toNat : Int) == 10) = false := byte_ne (n := 10) (by decide) (fun e => hb (.inr (.inr e)))
  by_cases h1 : 1 < s.size
  · have h1' : decide ((1 : Int) < s.size) = true := by simp; omega
    have hx := extract_two s h1
    obtain ⟨q, hq⟩ := heads_of s h1
    by_cases h45 : s[0] = 45 ∧ s[1] = 45
    · have HB : Hid (blankN s.data.toList = 2 + (q.takeWhile (fun c => c != 10)).length) := by rw [hq]; simp only [blankN]; rw [if_neg hb]; rw [if_pos h45]; exact rfl
      have hx' : (s.extract 0 2).toList = [45, 45] := by rw [hx, h45.1, h45.2]
      have HQ := Lib.hid hq
      have hql : q.length + 2 = s.size := by rw [Lib.size_eq, hq]; simp
      have HQL := Lib.hid hql
      clear hx hq hb h45 hql
      go_enter Tryd.func82, Tryd.ntmps82
      go_wp2
      go_loop [3] (fun n => ∃ k : Nat, 2 ≤ k ∧ k ≤ s.size ∧ n = .int .i64 k ∧ Hid (k - 2 ≤ (q.takeWhile (fun c => c != 10)).length)) (fun n => s.size - (intOf n).toNat)
      case atStart => exact ⟨2, by omega, by omega, rfl, Nat.zero_le _⟩
      case round =>
        obtain ⟨k, hk2, hk, rfl, hr⟩ := hrel
        by_cases hlt : k < s.size
        · have hx1 := extract_one s k hlt
          have hqk : k - 2 < q.length := by have := HQL.out; omega
          have hget : q[k - 2] = s[k] := by
            have h9 := get_data s k hlt (by rw [← Lib.size_eq]; exact hlt)
            rw [← h9]
            have e2 : s.data.toList = s[0] :: s[1] :: q := HQ.out
            obtain ⟨m, rfl⟩ : ∃ m, k = m + 2 := ⟨k - 2, by omega⟩
            simp only [e2]
            rfl
          by_cases h10 : s[k] = 10
          · have hx2 : (s.extract k (k + 1)).toList = [10] := by rw [hx1, h10]
            have HE : Hid (blankN s.data.toList = k) := by rw [HB.out, tw_stop _ q (k - 2) hr.out hqk (by rw [hget, h10]; rfl)]; show 2 + (k - 2) = k; omega
            clear hx1 hget h10
            go_wp2
            go_ret
            exact ⟨by rw [HE.out]; rfl, rfl⟩
          · have hx2 : ((s.extract k (k + 1)).toList == [10]) = false := by rw [hx1]; simpa using h10
            have HR : Hid (k + 1 - 2 ≤ (q.takeWhile (fun c => c != 10)).length) := by
              have := tw_step (fun c => c != 10) q (k - 2) hr.out hqk (by rw [hget]; simpa using h10)
              show k + 1 - 2 ≤ _; omega
            clear hx1 hget h10
            go_wp2
            go_round
            case rel => exact ⟨k + 1, by omega, by omega, by go_num, HR⟩
            case measure => simp [intOf]; omega
        · have hd : decide (k < s.size) = false := by simpa using hlt
          have HE : Hid (blankN s.data.toList = k) := by rw [HB.out, tw_end _ q (k - 2) hr.out (by have := HQL.out; omega)]; show 2 + (k - 2) = k; omega
          go_wp2
          go_ret
          exact ⟨by rw [HE.out]; rfl, rfl⟩
    · have HB : Hid (blankN s.data.toList = 0) := by rw [hq]; simp only [blankN]; rw [if_neg hb]; rw [if_neg h45]; exact rfl
      have hx' : ((s.extract 0 2).toList == [45, 45]) = false := by rw [hx]; simpa using h45
      clear hx hq hb h45
      go_enter Tryd.func82, Tryd.ntmps82
      go_wp2
      go_ret
      exact ⟨by rw [HB.out]; rfl, rfl⟩
  · have h1' : decide ((1 : Int) < s.size) = false := by simp; omega
    have HB : Hid (blankN s.data.toList = 0) := by
      obtain ⟨r, e⟩ := head_of s hs
      have hr : r = [] := by have := Lib.size_eq s; rw [e] at this; simp at this; exact List.eq_nil_of_length_eq_zero (by omega)
      rw [e, hr]; simp only [blankN]; rw [if_neg hb]; exact rfl
    clear hb
    go_enter Tryd.func82, Tryd.ntmps82
    go_wp2
    go_ret
    exact ⟨by rw [HB.out]; rfl, rfl⟩

theorem bytes_ext {a b : ByteArray} (h : a.data.toList = b.data.toList) : a = b := by
  rw [← Lib.mk_data a, ← Lib.mk_data b, h]

/-- A block that holds these texts, cell by cell. -/
def Texts (B : Nat) (strs : List (List UInt8)) (w : World) : Prop := ∀ n (h : n < strs.length), w.cell? ⟨B, n, none⟩ = some (.string ⟨strs[n].toArray⟩)
theorem Texts.below {B X : Nat} {strs : List (List UInt8)} {w w' : World} (h : Texts B strs w) (hb : Below X w w') (hB : B < X) : Texts B strs w' :=
  fun n hn => (hb.cell (p := ⟨B, n, none⟩) hB).trans (h n hn)
theorem texts_new (w : World) (strs : List (List UInt8)) (t : TypeId) : Texts w.heap.size strs (w.alloc (.cells (strs.map (fun l => Value.string ⟨l.toArray⟩)).toArray t)) := fun n hn => by
  rw [World.cell?_alloc_at _ _ _ _ rfl]
  simp [hn]

set_option maxHeartbeats 400000 in
theorem refkeys_any (w : World) :
    Calls Tryd.prog 126 #[] w fun e w' => e = .returned (.slice (some ⟨w.heap.size, 0, none⟩) 7 7) ∧ Texts w.heap.size keysL w' ∧ Below w.heap.size w w' := by
  go_enter Tryd.func126, Tryd.ntmps126
  go_wp2
  go_ret
  exact ⟨rfl, texts_new w keysL 9, (Below.refl _ _).alloc (Nat.le_refl _) _⟩

set_option maxHeartbeats 400000 in
theorem refhas_any (B n cap : Nat) (strs : List (List UInt8)) (x : ByteArray) (w : World) (hT : Texts B strs w) (hn : strs.length = n) (hm : n ≤ 4611686018427387904) :
    Calls Tryd.prog 30 #[.slice (some ⟨B, 0, none⟩) n cap, .string x] w fun e w' => e = .returned (.bool (decide (x.data.toList ∈ strs))) ∧ w = w' := by
  have HT := Lib.hid hT
  have HN := Lib.hid hn
  clear hT hn
  go_enter Tryd.func30, Tryd.ntmps30
  go_wp2
  go_loop [5] (fun i => ∃ k : Nat, k ≤ n ∧ i = .int .i64 k ∧ Hid (x.data.toList ∉ strs.take k)) (fun i => n - (intOf i).toNat)
  case atStart => exact ⟨0, Nat.zero_le _, rfl, by simp [Hid]⟩
  case round =>
    obtain ⟨k, hk, rfl, hno⟩ := hrel
    by_cases hlt : k < n
    · have hks : k < strs.length := by rw [HN.out]; exact hlt
      have hc := HT.out k hks
      have htk : strs.take (k + 1) = strs.take k ++ [strs[k]] := List.take_succ_eq_append_getElem hks
      have hv : (⟨strs[k].toArray⟩ : ByteArray).toList = strs[k] := by rw [Lib.toList_data]
      by_cases he : strs[k] = x.data.toList
      · have HE : Hid (decide (x.data.toList ∈ strs) = true) := by
          have : x.data.toList ∈ strs := by rw [← he]; exact List.getElem_mem hks
          exact decide_eq_true this
        have hb : ((⟨strs[k].toArray⟩ : ByteArray).toList == x.toList) = true := by rw [hv, he, Lib.toList_data]; simp
        generalize (⟨strs[k].toArray⟩ : ByteArray) = v at *
        clear htk hv he hks
        go_wp2
        go_ret
        exact ⟨ret_bool HE.out.symm, rfl⟩
      · have hb : ((⟨strs[k].toArray⟩ : ByteArray).toList == x.toList) = false := by rw [hv, Lib.toList_data]; simpa using he
        have HR : Hid (x.data.toList ∉ strs.take (k + 1)) := by
          show ¬ _
          rw [htk, List.mem_append, List.mem_singleton]
          rintro (h | h)
          · exact hno.out h
          · exact he h.symm
        generalize (⟨strs[k].toArray⟩ : ByteArray) = v at *
        clear htk hv he hks
        go_wp2
        go_round
        case rel => exact ⟨k + 1, by omega, by go_num, HR⟩
        case measure => simp [intOf]; omega
    · have hd : decide (k < n) = false := by simpa using hlt
      have HE : Hid (decide (x.data.toList ∈ strs) = false) := by
        have h9 := hno.out
        rw [List.take_of_length_le (by rw [HN.out]; omega)] at h9
        exact decide_eq_false h9
      go_wp2
      go_ret
      exact ⟨ret_bool HE.out.symm, rfl⟩

theorem find_from {l : List UInt8} {k : Nat} (hk : k < symsL.length) (h : symsL.find? (fun p => p.isPrefixOf l) = (symsL.drop k).find? (fun p => p.isPrefixOf l)) :
    (symsL[k].isPrefixOf l = true → symL l = symsL[k]) ∧ (symsL[k].isPrefixOf l = false → symsL.find? (fun p => p.isPrefixOf l) = (symsL.drop (k + 1)).find? (fun p => p.isPrefixOf l)) := by
  rw [List.drop_eq_getElem_cons hk, List.find?_cons] at h
  constructor
  · intro hp
    rw [hp] at h
    unfold symL
    rw [h]
    rfl
  · intro hp
    rw [hp] at h
    exact h
theorem prefix_extract (s : ByteArray) (x : List UInt8) : ((s.extract 0 x.length).toList == x) = x.isPrefixOf s.data.toList := by
  rw [Lib.toList_data, Lib.extract_data, Bool.eq_iff_iff, beq_iff_eq, List.isPrefixOf_iff_prefix, List.prefix_iff_eq_take]
  simp only [Nat.sub_zero, List.drop_zero]
  exact eq_comm
theorem prefix_long (s : ByteArray) (x : List UInt8) (h : ¬ x.length ≤ s.size) : x.isPrefixOf s.data.toList = false := by
  rw [← Bool.not_eq_true, List.isPrefixOf_iff_prefix]
  intro hp
  exact h (by rw [Lib.size_eq]; exact hp.length_le)

set_option maxHeartbeats 1000000 in
theorem refsymbol_any (s : ByteArray) (w : World) :
    Calls Tryd.prog 127 #[.string s] w fun e w' => e = .returned (.string ⟨(symL s.data.toList).toArray⟩) ∧ Below w.heap.size w w' := by
  go_enter Tryd.func127, Tryd.ntmps127
  go_wp2
  have hN := texts_new w symsL 9
  have hB : Below w.heap.size w (w.alloc (.cells (symsL.map (fun l => Value.string ⟨l.toArray⟩)).toArray 9)) := (Below.refl _ _).alloc (Nat.le_refl _) _
  have hZ : w.heap.size < (w.alloc (.cells (symsL.map (fun l => Value.string ⟨l.toArray⟩)).toArray 9)).heap.size := by simp
  go_loopw [4] (fun i wr => ∃ k : Nat, k ≤ 13 ∧ i = .int .i64 k ∧ Texts w.heap.size symsL wr ∧ Below w.heap.size w wr ∧ w.heap.size < wr.heap.size ∧ Hid (symsL.find? (fun p => p.isPrefixOf s.data.toList) = (symsL.drop k).find? (fun p => p.isPrefixOf s.data.toList))) (fun i _ => 13 - (intOf i).toNat)
  case atStart => exact ⟨0, by omega, rfl, hN, hB, hZ, rfl⟩
  case round =>
    clear hN hB hZ
    obtain ⟨k, hk, rfl, hT, hb, hz, hfi⟩ := hrel
    by_cases hlt : k < 13
    · have hks : k < symsL.length := hlt
      have hc := hT k hks
      have HF := Lib.hid (find_from hks hfi.out)
      have hpx := prefix_extract s symsL[k]
      have hpl := prefix_long s symsL[k]
      have hv1 : (⟨symsL[k].toArray⟩ : ByteArray).toList = symsL[k] := by rw [Lib.toList_data]
      have hv2 : (⟨symsL[k].toArray⟩ : ByteArray).size = symsL[k].length := by show symsL[k].toArray.size = _; simp
      rw [← hv2] at hpx hpl
      have HT := Lib.hid hT
      have HV : Hid ((⟨symsL[k].toArray⟩ : ByteArray) = ⟨symsL[k].toArray⟩) := rfl
      generalize hvv : (⟨symsL[k].toArray⟩ : ByteArray) = v at *
      have HVV : Hid (⟨symsL[k].toArray⟩ = v) := hvv
      generalize symsL[k] = x at *
      clear hT hvv hv2 HV hks hfi
      have hk0 : (0 : Int) ≤ (k : Int) := by omega
      have hk13 : (k : Int) < 13 := by omega
      by_cases hle : v.size ≤ s.size
      · have hle' : ((v.size : Nat) : Int) ≤ (s.size : Int) := by omega
        have hle2 : decide (v.size ≤ s.size) = true := by simpa using hle
        by_cases hp : x.isPrefixOf s.data.toList = true
        · have hb2 : ((s.extract 0 v.size).toList == v.toList) = true := by rw [hv1, hpx, hp]
          have HE : Hid (symL s.data.toList = x) := HF.out.1 hp
          clear hpx hpl hp HF hv1
          go_wp2_with fail
          go_quiet (fail)
          go_wp2
          go_ret
          exact ⟨by rw [HE.out, HVV.out]; rfl, below_drewN hb _⟩
        · have hp' : x.isPrefixOf s.data.toList = false := Bool.eq_false_iff.2 hp
          have hb2 : ((s.extract 0 v.size).toList == v.toList) = false := by rw [hv1, hpx, hp']
          have HR : Hid (symsL.find? (fun p => p.isPrefixOf s.data.toList) = (symsL.drop (k + 1)).find? (fun p => p.isPrefixOf s.data.toList)) := HF.out.2 hp'
          clear hpx hpl hp hp' HF hv1
          go_wp2_with fail
          go_quiet (fail)
          go_wp2
          go_roundw
          case rel => exact ⟨k + 1, by omega, by go_num, HT.out, below_drewN hb _, hz, HR⟩
          case measure => simp [intOf]; omega
      · have hle2 : decide (v.size ≤ s.size) = false := by simpa using hle
        have hle3 : decide (((v.size : Nat) : Int) ≤ (s.size : Int)) = false := by simp; omega
        have HR : Hid (symsL.find? (fun p => p.isPrefixOf s.data.toList) = (symsL.drop (k + 1)).find? (fun p => p.isPrefixOf s.data.toList)) := HF.out.2 (hpl hle)
        clear hpx hpl HF hv1
        go_wp2_with fail
        go_quiet (fail)
        go_wp2
        go_roundw
        case rel => exact ⟨k + 1, by omega, by go_num, HT.out, below_drewN hb _, hz, HR⟩
        case measure => simp [intOf]; omega
    · obtain rfl : k = 13 := by omega
      have HE : Hid (symL s.data.toList = []) := by show symL _ = []; unfold symL; rw [hfi.out]; rfl
      go_wp2
      go_ret
      exact ⟨by rw [HE.out]; rfl, hb⟩
end Go.Proofs.YtbdfjboojokgdaaDoor.Lx
