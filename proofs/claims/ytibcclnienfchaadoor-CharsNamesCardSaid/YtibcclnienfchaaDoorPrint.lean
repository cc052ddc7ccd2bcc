/- The contract of chars.Print: the print of a text is the document's. Condition: the text has at most 2^40 bytes. -/
import Derived.Test.YtibcclnienfchaaDoorBase
import Derived.Deep.RegionLaw
import Derived.Deep.AppendLies
import Derived.Laws.IdiomStrings
import Derived.Lib.Hide
namespace Go.Proofs.YtibcclnienfchaaDoor
open Go.RowKit

/-- Bytes as cells. -/
def bc (l : List UInt8) : List Value := l.map fun b => Value.int .u8 b.toNat
theorem bc_length (l : List UInt8) : (bc l).length = l.length := by simp [bc]
theorem bc_append (a b : List UInt8) : bc (a ++ b) = bc a ++ bc b := by simp [bc]

def hexD (n : Nat) : UInt8 := if n < 10 then (48 + n).toUInt8 else (87 + n).toUInt8
def byteP (c : UInt8) : List UInt8 := if plainB (c.toNat : Int) then [c] else [39, hexD (c.toNat / 16), hexD (c.toNat % 16)]
def printM (l : List UInt8) : List UInt8 := l.flatMap byteP
def printL (l : List UInt8) : List UInt8 := if l = [] then [95] else printM l
theorem byteP_len (c : UInt8) : (byteP c).length ≤ 3 := by unfold byteP; split <;> simp
theorem printM_len (l : List UInt8) : (printM l).length ≤ 3 * l.length := by
  induction l with
  | nil => simp [printM]
  | cons c r ih => have := byteP_len c; simp only [printM, List.flatMap_cons, List.length_append, List.length_cons] at *; omega
theorem printM_snoc (l : List UInt8) (c : UInt8) : printM (l ++ [c]) = printM l ++ byteP c := by simp [printM]
theorem take_snoc (s : ByteArray) (k : Nat) (h : k < s.size) : s.data.toList.take (k + 1) = s.data.toList.take k ++ [s[k]] := by
  rw [List.take_succ_eq_append_getElem (by simpa using h)]; rfl

theorem Tryd.info5 : (Tryd.prog.info? 5).map (fun i => (i.zero, i.size, i.bytes)) = some (some (.int .u8 0), 1, 1) := by kernel_rfl

/-- string(b) of a row that the call owns. -/
theorem convert_own {w : World} {base : Nat} {v : Value} {n : Nat} {l : List UInt8} (h : w.ownsRow base 5 1 v n (bc l)) :
    (convert 23 9 v).run Tryd.prog w = .ok (.string ⟨l.toArray⟩) w := by
  have hlen : l.length = n := by have := h.1; rw [bc_length] at this; omega
  rcases h.2 with ⟨rfl, h0⟩ | ⟨g, cap, cur, rfl, _, _, _, _, _, _⟩
  · subst h0
    obtain rfl := List.eq_nil_of_length_eq_zero hlen
    have := run_convert_bytes_nil (P := Tryd.prog) (w := w) 23 5 Tryd.underlying23 Tryd.underlying5 0 0 9 Tryd.underlying9
    exact this
  · subst hlen
    refine run_convert_bytes_back w 23 9 5 ⟨g, 0, none⟩ cap l Tryd.underlying23 Tryd.underlying5 Tryd.underlying9 fun j hj => ?_
    exact h.cells (g := g) rfl j _ (by simp [bc, List.getElem?_eq_getElem hj])

theorem own_more {w : World} {base : Nat} {v : Value} {m : Nat} {news : List Value} (l l2 : List UInt8) (h : w.ownsRow base 5 1 v (l.length + m) (bc l ++ news)) (hm : l2.length = m) (hn : bc l2 = news) :
    w.ownsRow base 5 1 v (l ++ l2).length (bc (l ++ l2)) := by
  subst hm hn
  rw [bc_append, List.length_append]
  exact h

theorem wrap32_byte (c : UInt8) : wrap32 (c.toNat : Int) = (c.toNat : Int) := by
  have := c.toNat_lt
  unfold wrap32; omega

theorem one_byte (x : Int) : ∀ u ∈ [Value.int .u8 x], u.oneCell' = true := by intro u hu; simp at hu; subst hu; rfl
theorem three_byte (x y z : Int) : ∀ u ∈ [Value.int .u8 x, Value.int .u8 y, Value.int .u8 z], u.oneCell' = true := by
  intro u hu; simp at hu; rcases hu with rfl | rfl | rfl <;> rfl

def digitsS : ByteArray := ⟨#[48, 49, 50, 51, 52, 53, 54, 55, 56, 57, 97, 98, 99, 100, 101, 102]⟩
theorem index_digits (n : Nat) (h : n < 16) (w : World) : (Instr.index 9 (.string ⟨#[48, 49, 50, 51, 52, 53, 54, 55, 56, 57, 97, 98, 99, 100, 101, 102]⟩) (.int .u8 (n : Int))).run Tryd.prog w = .ok (.int .u8 ((hexD n).toNat : Int)) w := by
  have hc : n = 0 ∨ n = 1 ∨ n = 2 ∨ n = 3 ∨ n = 4 ∨ n = 5 ∨ n = 6 ∨ n = 7 ∨ n = 8 ∨ n = 9 ∨ n = 10 ∨ n = 11 ∨ n = 12 ∨ n = 13 ∨ n = 14 ∨ n = 15 := by omega
  rcases hc with rfl | rfl | rfl | rfl | rfl | rfl | rfl | rfl | rfl | rfl | rfl | rfl | rfl | rfl | rfl | rfl <;> rfl

theorem three_new (w : World) (a b c : Value) (t : TypeId) : ∀ j u, [a, b, c][j]? = some u → (w.alloc (.cells #[a, b, c] t)).cell? ((⟨w.heap.size, 0, none⟩ : Addr).add j) = some u := by
  intro j u h
  have hj : j = 0 ∨ j = 1 ∨ j = 2 := by
    have := (List.getElem?_eq_some_iff.1 h).1
    simp at this; omega
  rcases hj with rfl | rfl | rfl <;> simp at h <;> subst h <;> simp [Addr.add, go_sem]

theorem and15 (n : Nat) (h : n < 256) : bits BinOp.and IntKind.u8 (n : Int) 15 = (n : Int) % 16 := by
  have H : ∀ m : Fin 256, bits BinOp.and IntKind.u8 (m.val : Int) 15 = (m.val : Int) % 16 := by decide +kernel
  exact H ⟨n, h⟩

theorem own_step {w w1 w2 : World} {B : Nat} {v v' : Value} {m : Nat} {news : List Value} (l l2 : List UInt8) (hb : Below B w w1) (hB : B ≤ w1.heap.size) (ho : w1.ownsRow B 5 1 v l.length (bc l))
    (h : w2.ownsRow B 5 1 v' (l.length + m) (bc l ++ news)) (hg : w1.grownBy w2 v.ownBlock) (hm : l2.length = m) (hn : bc l2 = news) :
    w2.ownsRow B 5 1 v' (l ++ l2).length (bc (l ++ l2)) ∧ Below B w w2 :=
  ⟨own_more l l2 h hm hn, hb.grown hg hB (fun k hk => (ho.lt k hk).1)⟩

set_option maxHeartbeats 400000 in
theorem print_any (s : ByteArray) (w : World) (hs : s.size ≤ 1099511627776) :
    Calls Tryd.prog 19 #[.string s] w fun e w' => e = .returned (.string ⟨(printL s.data.toList).toArray⟩) ∧ Below w.heap.size w w' := by
  by_cases h0 : s.size = 0
  · have e0 := toList_nil s h0
    have e1 : printL s.data.toList = [95] := by rw [← Lib.toList_data, e0]; rfl
    rw [e1]; clear e1 h0
    go_enter Tryd.func19, Tryd.ntmps19
    go_wp2
    go_ret
    exact ⟨rfl, Below.refl _ _⟩
  have e0 := toList_ne s (by omega)
  have hp0 : (0 : Int) < s.size := by omega
  obtain ⟨i0, hi, hz0, hz1, hz2⟩ := info_parts Tryd.info5
  go_enter Tryd.func19, Tryd.ntmps19
  go_wp2_with (at_make; refine wpList_make_own _ rfl _ _ 23 rfl w.heap.size 5 i0 (.int .u8 0) 1 Tryd.underlying23 hi hz0 hz1 _ _ _ s.size rfl rfl rfl (by rw [hz2]; omega) (by unfold maxLen; omega) (Nat.le_refl _) ?_; intro w1 hown hg)
  go_loopw [3, 13] (fun v i wr => ∃ k : Nat, k ≤ s.size ∧ i = .int .i64 k ∧ wr.ownsRow w.heap.size 5 1 v (printM (s.data.toList.take k)).length (bc (printM (s.data.toList.take k))) ∧ Below w.heap.size w wr) (fun _ i _ => s.size - (intOf i).toNat)
  case atStart => exact ⟨0, Nat.zero_le _, rfl, hown, (Below.refl _ _).grown hg (Nat.le_refl _) (by intro k hk; cases hk)⟩
  case round =>
    obtain ⟨k, hk, rfl, hownr, hb⟩ := hrel
    clear hown hg
    have hsz := hb.size
    have hlen := printM_len (s.data.toList.take k)
    have hlen2 : (s.data.toList.take k).length ≤ k := List.length_take_le _ _
    by_cases hlt : k < s.size
    · have hts := take_snoc s k hlt
      have HT : Hid (printM (s.data.toList.take (k + 1)) = printM (s.data.toList.take k) ++ byteP s[k]) := by rw [hts]; exact printM_snoc _ _
      clear hts
      have hw32 := wrap32_byte s[k]
      by_cases hpl : plainB ((s[k]'hlt).toNat : Int) = true
      · have HB : Hid (byteP s[k] = [s[k]]) := by unfold byteP; rw [if_pos hpl]; exact rfl
        go_wp2_with (first | (go_at_call 31; refine (plain_any _ _).mono ?_; rintro e w' ⟨rfl, rfl⟩) | (at_builtin; refine wpList_append_own _ rfl (.tmp 22) (.tmp 24) 23 rfl w.heap.size 5 i0 (.int .u8 0) 1 1 Tryd.underlying23 hi hz0 hz1 hz2 rfl (by decide) _ _ _ rfl (hownr.alloc _) ⟨wr.heap.size, 0, none⟩ 1 1 [.int .u8 (s[k].toNat : Int)] rfl rfl (cell_one_new _ _ _) (one_byte _) (by unfold maxLen; omega) (by omega) (by simp; omega) ?_; intro v' w2 hown2 hg2 _))
        have R := own_step _ [s[k]] (hb.alloc hsz _) (by simp; omega) (hownr.alloc _) hown2 hg2 rfl rfl
        go_roundw
        case rel => exact ⟨k + 1, by omega, by go_num, by rw [HT.out, HB.out]; exact R.1, R.2⟩
        case measure => simp [intOf]; omega
      · have hpl' : plainB ((s[k]'hlt).toNat : Int) = false := by simpa using hpl
        have HB : Hid (byteP s[k] = [39, hexD (s[k].toNat / 16), hexD (s[k].toNat % 16)]) := by unfold byteP; rw [if_neg hpl]; exact rfl
        clear hpl
        have hc256 := (s[k]).toNat_lt
        have hand := and15 s[k].toNat hc256
        have hx1 : ∀ w, (Instr.index 9 (.string ⟨#[48, 49, 50, 51, 52, 53, 54, 55, 56, 57, 97, 98, 99, 100, 101, 102]⟩) (.int .u8 ((s[k].toNat : Int) / 16))).run Tryd.prog w = _ := fun w => index_digits (s[k].toNat / 16) (by omega) w
        have hx2 : ∀ w, (Instr.index 9 (.string ⟨#[48, 49, 50, 51, 52, 53, 54, 55, 56, 57, 97, 98, 99, 100, 101, 102]⟩) (.int .u8 ((s[k].toNat : Int) % 16))).run Tryd.prog w = _ := fun w => index_digits (s[k].toNat % 16) (by omega) w
        go_wp2_with (first | (go_at_call 31; refine (plain_any _ _).mono ?_; rintro e w' ⟨rfl, rfl⟩) | (at_builtin; fail))
        have hsz2 : ∀ o, w.heap.size ≤ (wr.alloc o).heap.size := fun o => by simp; omega
        have h63 : (printM (s.data.toList.take k)).length + 3 ≤ maxLen := by unfold maxLen; omega
        have hby : ((printM (s.data.toList.take k)).length + 3) * 1 ≤ 140737488355328 := by omega
        have hn3 := three_new wr (.int .u8 39) (.int .u8 ((hexD (s[k].toNat / 16)).toNat : Int)) (.int .u8 ((hexD (s[k].toNat % 16)).toNat : Int)) 5
        have HN3 := Lib.hid hn3
        clear hn3
        go_region_law (refine step_append_lies _ rfl (.tmp 26) (.tmp 33) 23 rfl w.heap.size 5 i0 (.int .u8 0) 1 1 Tryd.underlying23 hi hz0 hz1 hz2 rfl (by decide) _ _ _ rfl (hownr.alloc _) ⟨wr.heap.size, 0, none⟩ 3 3 [.int .u8 39, .int .u8 ((hexD (s[k].toNat / 16)).toNat : Int), .int .u8 ((hexD (s[k].toNat % 16)).toNat : Int)] rfl rfl HN3.out (three_byte _ _ _) (by decide) h63 hby (hsz2 _) _ rfl ?_; intro g cap w2 hown2 hg2 _ _)
        all_goals
          have R := own_step (w1 := (wr.alloc (.cells #[.int .u8 39, .int .u8 ((hexD (s[k].toNat / 16)).toNat : Int), .int .u8 ((hexD (s[k].toNat % 16)).toNat : Int)] 5)).drew) (v := u3) _ [39, hexD (s[k].toNat / 16), hexD (s[k].toNat % 16)] (hb.alloc hsz _).drew (hsz2 _) (hownr.alloc _).drew hown2 hg2 rfl rfl
          clear hown2 hg2 hownr
          go_wp2
          go_roundw
          case rel => exact ⟨k + 1, by omega, by go_num, by rw [HT.out, HB.out]; exact R.1, R.2⟩
          case measure => simp [intOf]; omega
    · have hcv := convert_own hownr
      have hk' : s.data.toList.take k = s.data.toList := List.take_of_length_le (by rw [← Lib.size_eq]; omega)
      have hne : printL s.data.toList = printM s.data.toList := by
        unfold printL; rw [if_neg]; intro h; rw [Lib.size_eq, h] at h0; simp at h0
      have HK : Hid (printM (s.data.toList.take k) = printL s.data.toList) := by rw [hk', hne]; exact rfl
      clear hk' hne
      have hd : decide (k < s.size) = false := by simpa using hlt
      go_wp2
      go_ret
      exact ⟨by rw [HK.out]; rfl, hb⟩
end Go.Proofs.YtibcclnienfchaaDoor
