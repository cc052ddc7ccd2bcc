/- The contract of the document's Scan, and the walk of the law CharsScans. Condition: the text has at most 2^40 bytes. -/
import Derived.Test.YtibcclnienfchaaDoorPrints
import Derived.Lib.SmallJoins
namespace Go.Proofs.YtibcclnienfchaaDoor
open Go.RowKit

theorem byte_nat (m : Nat) (h : m < 256) (w : World) :
    Calls Tryd.prog 33 #[.int .u8 (m : Int)] w fun e w' => e = .returned (.string ⟨(byteP (UInt8.ofNat m)).toArray⟩) ∧ Below w.heap.size w w' := by
  have := byte_any (UInt8.ofNat m) w
  rw [ofNat_toNat m h] at this
  exact this

/-- What the inner loop knows: it has not found the byte, or it has. -/
def Inner (l out : List UInt8) (k m : Nat) (vo vi vf : Value) : Prop :=
  (vf = .bool false ∧ vo = .string ⟨out.toArray⟩ ∧ vi = .int .i64 k ∧ ∀ c n, scanStep (l.drop k) = some (c, n) → m ≤ c.toNat) ∨
  (vf = .bool true ∧ ∃ c n, scanStep (l.drop k) = some (c, n) ∧ vo = .string ⟨(out ++ [c]).toArray⟩ ∧ vi = .int .i64 ((k + n : Nat) : Int))

theorem extract_of (s : ByteArray) (k : Nat) (P r : List UInt8) (h : s.data.toList.drop k = P ++ r) : s.extract k (k + P.length) = ⟨P.toArray⟩ := by
  rw [← Lib.mk_data (s.extract k (k + P.length)), Lib.extract_data, h]
  simp
theorem extract_ne (s : ByteArray) (k : Nat) (P : List UInt8) (hn : ∀ r, s.data.toList.drop k ≠ P ++ r) : (s.extract k (k + P.length)).toList ≠ P := by
  intro h
  rw [Lib.toList_data, Lib.extract_data] at h
  refine hn ((s.data.toList.drop k).drop P.length) ?_
  conv => lhs; rw [← List.take_append_drop P.length (s.data.toList.drop k)]
  rw [show k + P.length - k = P.length by omega] at h
  rw [h]

set_option maxRecDepth 100000 in
set_option maxHeartbeats 2000000 in
theorem refscan_any (s : ByteArray) (w : World) (hs : s.size ≤ 1099511627776) :
    Calls Tryd.prog 22 #[.string s] w fun e w' => e = .returned (scanV (scanL s.data.toList)) ∧ Below w.heap.size w w' := by
  by_cases h95 : s.data.toList = [95]
  · have e1 : s.toList = [95] := by rw [Lib.toList_data]; exact h95
    have e2 : scanL s.data.toList = some [] := by rw [h95]; rfl
    rw [e2]; clear e2 h95
    go_enter Tryd.func22, Tryd.ntmps22
    go_wp2
    go_ret2
    exact ⟨rfl, Below.refl _ _⟩
  have e95 : (s.toList == [95]) = false := by rw [Lib.toList_data]; simpa using h95
  by_cases h0 : s.size = 0
  · have e0 := toList_nil s h0
    have e1 : scanL s.data.toList = none := by rw [← Lib.toList_data, e0]; rfl
    rw [e1]; clear e1 h0 h95 e95
    go_enter Tryd.func22, Tryd.ntmps22
    go_wp2
    go_ret2
    exact ⟨rfl, Below.refl _ _⟩
  have e0 := toList_ne s (by omega)
  have hp0 : (0 : Int) < s.size := by omega
  have hlen := Lib.size_eq s
  have HL : Hid (scanL s.data.toList = scanF s.data.toList.length s.data.toList) := by
    unfold scanL
    rw [if_neg h95, if_neg (by intro e; rw [hlen, e] at h0; exact h0 rfl)]
    exact rfl
  have HZ := Lib.hid hlen
  clear h95 hlen
  go_enter Tryd.func22, Tryd.ntmps22
  go_wp2
  go_loopw [4, 5] (fun v i wr => ∃ (k : Nat) (out : List UInt8), v = .string ⟨out.toArray⟩ ∧ i = .int .i64 k ∧ ScanInv s.data.toList out k ∧ Below w.heap.size w wr) (fun _ i _ => s.size - (intOf i).toNat)
  case atStart => exact ⟨0, [], rfl, rfl, scanInv_start _, Below.refl _ _⟩
  case round =>
    obtain ⟨k, out, rfl, rfl, hinv, hb⟩ := hrel
    have hk : k ≤ s.size := by have := hinv.1; rw [HZ.out]; exact this
    have hol := hinv.2.1
    by_cases hlt : k < s.size
    · have hklt : k < s.data.toList.length := by rw [← HZ.out]; exact hlt
      have HINV := Lib.hid hinv
      clear hinv
      go_wp2
      go_loopw [4, 5, 6, 7] (fun vo vi vf vc wr2 => ∃ m : Nat, m ≤ 256 ∧ vc = .int .i64 m ∧ Inner s.data.toList out k m vo vi vf ∧ Below w.heap.size w wr2) (fun _ _ _ vc _ => 256 - (intOf vc).toNat)
      case atStart => exact ⟨0, by omega, rfl, .inl ⟨rfl, rfl, rfl, fun _ _ _ => Nat.zero_le _⟩, hb⟩
      case round =>
        obtain ⟨m, hm, rfl, hin, hb2⟩ := hrel
        rcases hin with ⟨rfl, rfl, rfl, hno⟩ | ⟨rfl, c, n, hst, rfl, rfl⟩
        · by_cases hm6 : m < 256
          · have HNO := Lib.hid hno
            clear hno hb
            have hm' : (m : Int) < 256 := by omega
            have hm0 : (0 : Int) ≤ m := by omega
            have hPl := byteP_len (UInt8.ofNat m)
            have hPp := byteP_pos (UInt8.ofNat m)
            go_wp2_with fail
            refine (byte_nat m hm6 _).mono ?_
            rintro e w1 ⟨rfl, hb1⟩
            have B1 := hb2.trans (hb1.mono hb2.size)
            clear hb1 hb2
            by_cases hyes : ∃ r, s.data.toList.drop k = byteP (UInt8.ofNat m) ++ r
            · obtain ⟨r, hr⟩ := hyes
              have HST : Hid (scanStep (s.data.toList.drop k) = some (UInt8.ofNat m, (byteP (UInt8.ofNat m)).length)) := by rw [hr]; exact step_print _ _
              have hx := extract_of s k _ r hr
              have hle : (byteP (UInt8.ofNat m)).length ≤ s.size - k := by
                have := congrArg List.length hr
                rw [List.length_drop, ← HZ.out, List.length_append] at this
                omega
              have hle' : ((byteP (UInt8.ofNat m)).length : Int) ≤ (s.size : Int) - k := by omega
              clear hr
              have hcv := convert_one w1 (m : Int) hm0 hm'
              rw [Int.toNat_natCast] at hcv
              generalize byteP (UInt8.ofNat m) = P at *
              generalize UInt8.ofNat m = c at *
              go_wp2
              go_roundw
              case rel => exact ⟨m + 1, by omega, by go_num, .inr ⟨rfl, c, P.length, HST.out, by rw [← append_mk], by go_num⟩, B1.alloc B1.size _⟩
              case measure => simp [intOf]; omega
            · have hne := extract_ne s k (byteP (UInt8.ofNat m)) (fun r h => hyes ⟨r, h⟩)
              have HNO2 : Hid (∀ c n, scanStep (s.data.toList.drop k) = some (c, n) → m + 1 ≤ c.toNat) := by
                intro c n h
                have h9 := HNO.out c n h
                rcases Nat.lt_or_ge m c.toNat with h8 | h8
                · exact h8
                · exfalso
                  have e : c = UInt8.ofNat m := by rw [← ofNat_self c, show c.toNat = m by omega]
                  obtain ⟨_, r, hr⟩ := print_step _ _ _ h
                  exact hyes ⟨r, by rw [← e]; exact hr⟩
              clear hyes HNO
              generalize byteP (UInt8.ofNat m) = P at *
              have hne' : ((s.extract k (k + P.length)).toList == P) = false := by simpa using hne
              clear hne
              go_wp2
              all_goals
                go_roundw
                case rel => exact ⟨m + 1, by omega, by go_num, .inl ⟨rfl, rfl, rfl, HNO2.out⟩, B1⟩
                case measure => simp [intOf]; omega
          · obtain rfl : m = 256 := by omega
            have HF : Hid (scanL s.data.toList = none) := by
              have hn : scanStep (s.data.toList.drop k) = none := by
                cases e : scanStep (s.data.toList.drop k) with
                | none => rfl
                | some x => obtain ⟨c, n⟩ := x; have := hno c n e; have := c.toNat_lt; omega
              rw [HL.out, scanInv_none HINV.out hklt hn]; exact rfl
            clear hno hb
            go_wp2
            go_ret2
            exact ⟨by rw [HF.out]; rfl, hb2⟩
        · have hI := scanInv_some HINV.out hklt hst
          have hkn : k + n ≤ s.size := by have := hI.1; rw [HZ.out]; exact this
          have hn1 := (step_len hst).1
          have HI := Lib.hid hI
          clear hI hst hb
          by_cases hm6 : m < 256
          all_goals
            go_wp2
            go_roundw
            case rel => exact ⟨k + n, out ++ [c], rfl, rfl, HI.out, hb2⟩
            case measure => simp [intOf]; omega
    · have HF : Hid (scanL s.data.toList = some out) := by rw [HL.out, scanInv_end hinv (by rw [← HZ.out]; exact hlt)]; exact rfl
      have hd : decide (k < s.size) = false := by simpa using hlt
      clear hinv
      go_wp2
      go_ret2
      exact ⟨by rw [HF.out]; rfl, hb⟩

/-- A block whose first cells are these bytes, and may be written. -/
def Bytes (B : Nat) (l : List UInt8) (w : World) : Prop := ∀ j (h : j < l.length), w.cell? ⟨B, j, none⟩ = some (.int .u8 (l[j].toNat : Int)) ∧ w.frozen? ⟨B, j, none⟩ = false
theorem convert_cells {w : World} {B cap : Nat} {l : List UInt8} (n : Nat) (hn : l.length = n) (h : ∀ j (h : j < l.length), w.cell? ⟨B, j, none⟩ = some (.int .u8 (l[j].toNat : Int))) :
    (convert 23 9 (.slice (some ⟨B, 0, none⟩) n cap)).run Tryd.prog w = .ok (.string ⟨l.toArray⟩) w := by
  subst hn
  refine run_convert_bytes_back w 23 9 5 ⟨B, 0, none⟩ cap l Tryd.underlying23 Tryd.underlying5 Tryd.underlying9 fun j hj => ?_
  have hadd : (⟨B, 0, none⟩ : Addr).add j = ⟨B, j, none⟩ := by unfold Addr.add; split <;> simp_all
  rw [hadd]
  exact h j hj
theorem bytes_made (w : World) (l : List UInt8) : Bytes w.heap.size l (Lib.bytesWorld w 5 ⟨l.toArray⟩) := fun j h => by
  have hs : (⟨l.toArray⟩ : ByteArray).size = l.length := by show l.toArray.size = _; simp
  constructor
  · rw [Lib.bytesWorld_cell w 5 _ j (by omega)]
    simp [h]
  · have hc : j < (Lib.bytesCells w 5 ⟨l.toArray⟩).size := by simp [Lib.bytesCells]; omega
    have := Lib.bytesWorld_at_new w 5 ⟨l.toArray⟩
    simp [World.frozen?, this]
    omega

theorem printL_pos (l : List UInt8) : 0 < (printL l).length := by
  unfold printL
  split
  · simp
  · rename_i h
    cases l with
    | nil => exact absurd rfl h
    | cons c r => have := byteP_pos c; simp [printM]; omega

set_option maxRecDepth 100000 in
set_option maxHeartbeats 2000000 in
theorem scans_walk (a0 a1 : ByteArray) (a2 a3 : Int) (w0 : a0.size ≤ maxLen) (w1 : a1.size ≤ maxLen) (h1 : -9223372036854775808 ≤ a2) (h2 : a2 ≤ 9223372036854775807) (h3 : 0 ≤ a3) (h4 : a3 ≤ 255) (w : World) :
    Calls Tryd.prog 6 #[.string a0, .string a1, .int .i64 a2, .int .u8 a3] w fun e w' => e = .returned (.bool true) ∧ Below w.heap.size w w' := by
  go_enter Tryd.func6, Tryd.ntmps6
  go_wp2_with fail
  refine (short_any a1 15 _ w1 (by omega) (by omega)).mono ?_
  rintro e w' ⟨t, ht, rfl, rfl⟩
  go_wp2_with fail
  refine (refprint_any t _ (by omega)).mono ?_
  rintro e x1 ⟨rfl, b1⟩
  have hp := printL_pos t.data.toList
  have hs := printL_size t.data.toList (by rw [← Lib.size_eq]; omega)
  generalize printL t.data.toList = PL at *
  have hPs : (⟨PL.toArray⟩ : ByteArray).size = PL.length := by show PL.toArray.size = _; simp
  rw [hPs] at hs
  have hcv := Lib.run_convert_string_bytes (P := Tryd.prog) x1 9 23 5 ⟨PL.toArray⟩ Tryd.underlying9 Tryd.underlying23 Tryd.underlying5
  rw [hPs] at hcv
  have hcap : PL.length ≤ grownCap x1 PL.length 0 5 := by
    exact grownCap_ge x1 PL.length 0 5
  have hby := bytes_made x1 PL
  have B2 := b1.trans ((Joins.below_bytesWorld w.heap.size x1 5 ⟨PL.toArray⟩ b1.size))
  have z2 : (Lib.bytesWorld x1 5 ⟨PL.toArray⟩).heap.size = x1.heap.size + 1 := Lib.bytesWorld_size _ _ _
  generalize Lib.bytesWorld x1 5 ⟨PL.toArray⟩ = x2 at *
  generalize grownCap x1 PL.length 0 5 = cap at *
  go_wp2_with fail
  refine (around_any a2 _ _ h1 h2 (by omega) (by omega)).mono ?_
  rintro e w' ⟨k, hk, rfl, rfl⟩
  have hk' : k < PL.length := by omega
  have hkc : k ≤ cap := by omega
  have hcv1 : (convert 23 9 (.slice (some ⟨x1.heap.size, 0, none⟩) k cap)).run Tryd.prog x2 = .ok (.string ⟨(PL.take k).toArray⟩) x2 :=
    convert_cells k (by simp; omega) (fun j hj => by
      have hj' : j < PL.length := by simp at hj; omega
      have := (hby j hj').1
      simpa using this)
  obtain ⟨hck, hfk⟩ := hby k hk'
  have hcv2 : (convert 23 9 (.slice (some ⟨x1.heap.size, 0, none⟩) PL.length cap)).run Tryd.prog (x2.setCell ⟨x1.heap.size, k, none⟩ (.int .u8 a3)).drew = .ok (.string ⟨(PL.set k (UInt8.ofNat a3.toNat)).toArray⟩) (x2.setCell ⟨x1.heap.size, k, none⟩ (.int .u8 a3)).drew :=
    convert_cells PL.length (by simp) (fun j hj => by
      have hj' : j < PL.length := by simpa using hj
      show (x2.setCell ⟨x1.heap.size, k, none⟩ (.int .u8 a3)).cell? ⟨x1.heap.size, j, none⟩ = _
      by_cases e : j = k
      · subst e
        have ha : (((UInt8.ofNat a3.toNat).toNat : Nat) : Int) = a3 := by rw [ofNat_toNat _ (by omega)]; omega
        rw [List.getElem_set_self, ha]
        exact World.cell?_setCell_same _ _ _ hck
      · rw [World.cell?_setCell_other _ _ _ _ (fun h => e (by injection h with _ h; exact h.symm)), List.getElem_set_ne (fun h => e h.symm)]
        exact (hby j hj').1)
  have B3 : Below w.heap.size w (x2.setCell ⟨x1.heap.size, k, none⟩ (.int .u8 a3)) := B2.setCell b1.size _
  have hl1 : (PL.take k).length ≤ 120 := by simp; omega
  have hl2 : (PL.set k (UInt8.ofNat a3.toNat)).length ≤ 120 := by simp; omega
  generalize PL.take k = L1 at *
  generalize PL.set k (UInt8.ofNat a3.toNat) = L2 at *
  clear hby hcv hk
  have z3 : x1.heap.size < (x2.setCell ⟨x1.heap.size, k, none⟩ (.int .u8 a3)).heap.size := by simp; omega
  go_wp2_with fail
  generalize x2.setCell ⟨x1.heap.size, k, none⟩ (.int .u8 a3) = x3 at *
  clear hck hfk hcv1 z2 hkc hcap b1 B2
  generalize x1.heap.size = B at *
  generalize PL.length = np at *
  go_region_with (go_at_call 10; refine (short_any a0 40 _ w0 (by omega) (by omega)).mono ?_; rintro e w' ⟨t2, ht2, rfl, rfl⟩)
  all_goals
    clear hcv2
    go_wp2_with fail
    have hN := texts_new x3 [t2, ⟨L1.toArray⟩, ⟨L2.toArray⟩, ⟨#[39]⟩, ⟨#[39, 50]⟩, ⟨#[39, 50, 68]⟩, ⟨#[39, 52, 49]⟩, ⟨#[95]⟩, ⟨#[95, 95]⟩, ⟨#[]⟩, ⟨#[39, 43, 49]⟩, ⟨#[39, 95, 49]⟩] 9
    have hS : ∀ x ∈ [t2, ⟨L1.toArray⟩, ⟨L2.toArray⟩, ⟨#[39]⟩, ⟨#[39, 50]⟩, ⟨#[39, 50, 68]⟩, ⟨#[39, 52, 49]⟩, ⟨#[95]⟩, ⟨#[95, 95]⟩, ⟨#[]⟩, ⟨#[39, 43, 49]⟩, ⟨#[39, 95, 49]⟩], x.size ≤ 120 := by
      intro x hx
      simp only [List.mem_cons, List.not_mem_nil, or_false] at hx
      rcases hx with rfl | rfl | rfl | rfl | rfl | rfl | rfl | rfl | rfl | rfl | rfl | rfl
      · omega
      · show L1.toArray.size ≤ _; simpa using hl1
      · show L2.toArray.size ≤ _; simpa using hl2
      all_goals (show Array.size _ ≤ _; simp)
    have hlen : [t2, ⟨L1.toArray⟩, ⟨L2.toArray⟩, ⟨#[39]⟩, ⟨#[39, 50]⟩, ⟨#[39, 50, 68]⟩, ⟨#[39, 52, 49]⟩, ⟨#[95]⟩, ⟨#[95, 95]⟩, ⟨#[]⟩, ⟨#[39, 43, 49]⟩, (⟨#[39, 95, 49]⟩ : ByteArray)].length = 12 := rfl
    have hB : Below w.heap.size w (x3.alloc (.cells #[.string t2, .string ⟨L1.toArray⟩, .string ⟨L2.toArray⟩, .string ⟨#[39]⟩, .string ⟨#[39, 50]⟩, .string ⟨#[39, 50, 68]⟩, .string ⟨#[39, 52, 49]⟩, .string ⟨#[95]⟩, .string ⟨#[95, 95]⟩, .string ⟨#[]⟩, .string ⟨#[39, 43, 49]⟩, .string ⟨#[39, 95, 49]⟩] 9)).drew := (B3.alloc B3.size _).drew
    have hZ : x3.heap.size < (x3.alloc (.cells #[.string t2, .string ⟨L1.toArray⟩, .string ⟨L2.toArray⟩, .string ⟨#[39]⟩, .string ⟨#[39, 50]⟩, .string ⟨#[39, 50, 68]⟩, .string ⟨#[39, 52, 49]⟩, .string ⟨#[95]⟩, .string ⟨#[95, 95]⟩, .string ⟨#[]⟩, .string ⟨#[39, 43, 49]⟩, .string ⟨#[39, 95, 49]⟩] 9)).drew.heap.size := by show _ < (x3.alloc _).heap.size; simp
    have hN' : Texts x3.heap.size [t2, ⟨L1.toArray⟩, ⟨L2.toArray⟩, ⟨#[39]⟩, ⟨#[39, 50]⟩, ⟨#[39, 50, 68]⟩, ⟨#[39, 52, 49]⟩, ⟨#[95]⟩, ⟨#[95, 95]⟩, ⟨#[]⟩, ⟨#[39, 43, 49]⟩, ⟨#[39, 95, 49]⟩] (x3.alloc (.cells #[.string t2, .string ⟨L1.toArray⟩, .string ⟨L2.toArray⟩, .string ⟨#[39]⟩, .string ⟨#[39, 50]⟩, .string ⟨#[39, 50, 68]⟩, .string ⟨#[39, 52, 49]⟩, .string ⟨#[95]⟩, .string ⟨#[95, 95]⟩, .string ⟨#[]⟩, .string ⟨#[39, 43, 49]⟩, .string ⟨#[39, 95, 49]⟩] 9)).drew := hN
    clear hN B3 z3
    generalize (x3.alloc (.cells #[.string t2, .string ⟨L1.toArray⟩, .string ⟨L2.toArray⟩, .string ⟨#[39]⟩, .string ⟨#[39, 50]⟩, .string ⟨#[39, 50, 68]⟩, .string ⟨#[39, 52, 49]⟩, .string ⟨#[95]⟩, .string ⟨#[95, 95]⟩, .string ⟨#[]⟩, .string ⟨#[39, 43, 49]⟩, .string ⟨#[39, 95, 49]⟩] 9)).drew = W at *
    generalize [t2, ⟨L1.toArray⟩, ⟨L2.toArray⟩, ⟨#[39]⟩, ⟨#[39, 50]⟩, ⟨#[39, 50, 68]⟩, ⟨#[39, 52, 49]⟩, ⟨#[95]⟩, ⟨#[95, 95]⟩, ⟨#[]⟩, ⟨#[39, 43, 49]⟩, (⟨#[39, 95, 49]⟩ : ByteArray)] = strs at *
    clear ht2 hl1 hl2
    have HL := Lib.hid hlen
    have HS := Lib.hid hS
    clear hlen hS
    generalize x3.heap.size = D at *
    go_loopw [13] (fun i wr => ∃ j : Nat, j ≤ 12 ∧ i = .int .i64 j ∧ Texts D strs wr ∧ Below w.heap.size w wr ∧ D < wr.heap.size) (fun i _ => 12 - (intOf i).toNat)
    case atStart => exact ⟨0, by omega, rfl, hN', hB, hZ⟩
    case round =>
      clear hN' hB hZ
      obtain ⟨j, hj, rfl, hT, hb, hz⟩ := hrel
      by_cases hlt : j < 12
      · have hjs : j < strs.length := by rw [HL.out]; exact hlt
        have hc0 := hT j hjs
        have hsz := HS.out _ (show strs.getD j ByteArray.empty ∈ strs by simp [hjs])
        generalize strs.getD j ByteArray.empty = S at *
        have HT := Lib.hid hT
        clear hT hjs
        have hj0 : (0 : Int) ≤ (j : Int) := by omega
        have hj6 : (j : Int) < 12 := by omega
        go_wp2_with fail
        refine (scan_any S _ (by omega)).mono ?_
        rintro e y1 ⟨rfl, b1⟩
        have T1 := HT.out.below b1 hz
        have hc1 := (b1.cell (p := ⟨D, j, none⟩) hz).trans hc0
        have z1 : D < y1.heap.size := Nat.lt_of_lt_of_le hz b1.size
        have B1 := hb.trans (b1.mono hb.size)
        have HT1 := Lib.hid T1
        clear T1 HT b1 hc0 hz hb
        cases hsc : scanL S.data.toList with
        | none =>
          have HSC := Lib.hid hsc
          clear hsc
          simp only [scanV]
          go_wp2_with fail
          refine (refscan_any S _ (by omega)).mono ?_
          rintro e y2 ⟨rfl, b2⟩
          rw [HSC.out]
          simp only [scanV]
          have T2 := HT1.out.below b2 z1
          have z2 : D < y2.heap.size := Nat.lt_of_lt_of_le z1 b2.size
          have B2 := B1.trans (b2.mono B1.size)
          have HT2 := Lib.hid T2
          clear T2 HT1 b2 hc1 z1 B1
          go_wp2
          go_roundw
          case rel => exact ⟨j + 1, by omega, by go_num, HT2.out, B2, z2⟩
          case measure => simp [intOf]; omega
        | some L =>
          have HSC := Lib.hid hsc
          clear hsc
          simp only [scanV]
          go_wp2_with fail
          refine (refscan_any S _ (by omega)).mono ?_
          rintro e y2 ⟨rfl, b2⟩
          rw [HSC.out]
          simp only [scanV]
          have T2 := HT1.out.below b2 z1
          have z2 : D < y2.heap.size := Nat.lt_of_lt_of_le z1 b2.size
          have B2 := B1.trans (b2.mono B1.size)
          have HT2 := Lib.hid T2
          clear T2 HT1 b2 hc1 z1 B1
          go_wp2
          go_roundw
          case rel => exact ⟨j + 1, by omega, by go_num, HT2.out, B2, z2⟩
          case measure => simp [intOf]; omega
      · obtain rfl : j = 12 := by omega
        go_wp2_with (go_at_call 15; refine (lives_any _).mono ?_; rintro e w' ⟨rfl, hbl⟩)
        go_ret
        exact ⟨rfl, hb.trans (hbl.mono hb.size)⟩
end Go.Proofs.YtibcclnienfchaaDoor
