/- below: the code of it. Conditions: those that each theorem names. -/
import Derived.Test.YtjfhncbfbhkhgaaBel
import Derived.Test.YtjfhncbfbhkhgaaTakeM
namespace Go.Proofs.Ytjfhncbfbhkhgaa
open Go.RowKit
def BelowRes (C : List Cls) (names : List ByteArray) (w : World) (e : Ending) (w' : World) : Prop :=
  e = .returned (.map (some w.heap.size)) ∧ ∃ T, BelAt w.heap.size w'.heap.size (belF (supF C) names) T w.heap.size w' ∧ Below w.heap.size w w'
def belJ (next : ByteArray → List ByteArray) (L : List ByteArray) (n : ByteArray) (l : List ByteArray) (z : ByteArray) : List ByteArray := belF next L z ++ (l.filter (fun s => decide (s = z))).map (fun _ => n)
theorem belJ_zero (next : ByteArray → List ByteArray) (L : List ByteArray) (n : ByteArray) (l : List ByteArray) (z : ByteArray) : belF next L z = belJ next L n (l.take 0) z := by
  unfold belJ; simp
theorem belJ_step (next : ByteArray → List ByteArray) (L : List ByteArray) (n : ByteArray) (l : List ByteArray) (y z : ByteArray) : belJ next L n (l ++ [y]) z = if z = y then belJ next L n l z ++ [n] else belJ next L n l z := by
  unfold belJ
  rw [List.filter_append, List.map_append, ← List.append_assoc]
  by_cases e : z = y
  · subst e; rw [if_pos rfl]; simp
  · rw [if_neg e]
    have : ¬ y = z := fun h => e h.symm
    simp [this]
theorem supF_len {C : List Cls} (hC : OkC C) (x : ByteArray) : (supF C x).length ≤ 1048576 := by
  unfold supF
  cases hc : clsOf C x with
  | none => exact Nat.zero_le _
  | some c =>
    obtain ⟨h1, _⟩ := clsOf_mem hc
    obtain ⟨a, b, rfl⟩ := List.append_of_mem h1
    have := hC.len
    unfold univ at this
    simp at this ⊢; omega
set_option maxRecDepth 100000 in
set_option maxHeartbeats 4000000 in
theorem below_any {Q : Nat → Prop} {C : List Cls} {M : ByteArray → Option (ByteArray × Nat)} {I : List Ins} {H : HKey → Option Nat} {eb cb mb pb : Nat} {iv : Value} {w : World} (h : EnvAt Q C M I H eb cb mb pb iv w) (hQ : ∀ b, Q b → b < w.heap.size) (hC : OkC C) {nv : Value} {names : List ByteArray} (hn : StrsAt (fun b => b < w.heap.size) w nv names) (hnl : names.length ≤ 1048576) (hns : ∀ x ∈ names, x.size ≤ maxLen) :
    Calls Try.prog 63 #[.pointer (some ⟨eb, 0, none⟩), nv] w (BelowRes C names w) := by
  obtain ⟨An, cn, rfl, hcn, hcm⟩ := hn.form
  obtain ⟨i9, hi9, hz9, hs9, hb9⟩ := info_parts Try.info9
  have hmm : ∀ y : World, (Instr.makeMap 133 none).run Try.prog y = .ok (.map (some y.heap.size)) (y.alloc (.map #[] 0)) := fun y => rfl
  have HE := Lib.hid h
  have HN := Lib.hid hn
  have HC := Lib.hid hC
  have HNS := Lib.hid hns
  have HQ := Lib.hid hQ
  unfold maxLen at hcm
  have HB0 : Hid (BelAt w.heap.size (w.alloc (.map #[] 0)).heap.size (belF (supF C) (names.take 0)) (0 * 1048576) w.heap.size (w.alloc (.map #[] 0))) := Lib.hid ⟨⟨0, fun _ => none, fun _ => .slice none 0 0, MapS.made _ _ _, Nat.le_refl _, fun y => rfl, fun y hy => absurd rfl hy, fun y z hy => absurd rfl hy⟩, fun y => Nat.zero_le _⟩
  clear h hn hC hns hQ
  go_enter Try.func63, Try.ntmps63
  go_wp2
  generalize hmb0 : w.heap.size = m0 at *
  have HM0 := Lib.hid hmb0
  clear hmb0
  go_loopw [13] (fun i wr => ∃ k : Nat, k ≤ names.length ∧ i = .int .i64 k ∧ BelAt m0 wr.heap.size (belF (supF C) (names.take k)) (k * 1048576) m0 wr ∧ Below m0 w wr) (fun i _ => names.length - (intOf i).toNat)
  case atStart => exact ⟨0, Nat.zero_le _, rfl, HB0.out, by rw [← HM0.out]; exact below_new w _⟩
  case round =>
    obtain ⟨k, hk, rfl, hBl, hb⟩ := hrel
    have hbw : Below w.heap.size w wr := by rw [HM0.out]; exact hb
    by_cases hlt : k < names.length
    · obtain ⟨n, hn⟩ : ∃ n, names[k]? = some n := ⟨_, List.getElem?_eq_getElem hlt⟩
      obtain ⟨b0, o0, e0, hb0, q0⟩ := (HN.out.on hbw).at k hlt
      have en : names[k] = n := by have := List.getElem?_eq_getElem hlt; rw [hn] at this; injection this with this; exact this.symm
      rw [en] at q0
      subst e0
      have hki : (k : Int) < (names.length : Int) := by omega
      have hk0 : (0 : Int) ≤ (k : Int) := by omega
      have hnm := HNS.out n (List.mem_of_getElem? hn)
      have HS := Lib.hid (supers_any (HE.out.on hbw) n hnm)
      have HBL := Lib.hid hBl
      have HBW := Lib.hid hbw
      have HNK := Lib.hid hn
      clear hBl hb hbw hn en
      go_wp2_with fail
      with_reducible refine HS.out.mono ?_
      rintro e w2 ⟨⟨sv, rfl, hsv⟩, hb2⟩
      obtain ⟨As, cs, rfl, hcs1, hcs2⟩ := hsv.form
      have hsl := supF_len HC.out n
      have HSV := Lib.hid hsv
      have hbk : ∀ q, (q = m0 ∨ (m0 ≤ q ∧ q < wr.heap.size)) → w2.heap[q]? = wr.heap[q]? := fun q hq => by
        rcases hq with e | hq
        · rw [e]; exact hb2.block m0 HBL.out.lt
        · exact hb2.block q hq.2
      have HBL2 : Hid (BelAt m0 w2.heap.size (belF (supF C) (names.take k)) (k * 1048576) m0 w2) := Lib.hid ((HBL.out.keep hbk).mono hb2.size (Nat.le_refl _))
      have HBW2 := Lib.hid (HBW.out.trans (hb2.mono HBW.out.size))
      unfold maxLen at hcs2
      clear hsv hb2 hbk
      generalize hsn : (supF C n).length = sn at *
      have HSN := Lib.hid hsn
      clear hsn
      go_wp2_with fail
      go_loopw [21] (fun j wr => ∃ m : Nat, m ≤ sn ∧ j = .int .i64 m ∧ BelAt m0 wr.heap.size (belJ (supF C) (names.take k) n ((supF C n).take m)) (k * 1048576 + m) m0 wr ∧ Below w.heap.size w wr ∧ StrsAt Q wr (.slice As sn cs) (supF C n)) (fun j _ => sn - (intOf j).toNat)
      case atStart => exact ⟨0, Nat.zero_le _, rfl, (HBL2.out.mono (Nat.le_refl _) (Nat.le_of_eq (Nat.add_zero _).symm)).congr (fun y => belJ_zero _ _ _ _ _), HBW2.out, HSV.out⟩
      case round =>
        obtain ⟨m, hm, rfl, hJ, hbj, hsj⟩ := hrel
        by_cases hml : m < sn
        · obtain ⟨y, hy⟩ : ∃ y, (supF C n)[m]? = some y := ⟨_, List.getElem?_eq_getElem (by rw [HSN.out]; exact hml)⟩
          obtain ⟨b1, o1, e1, hb1, q1⟩ := hsj.at m (by rw [HSN.out]; exact hml)
          have ey : (supF C n)[m]'(by rw [HSN.out]; exact hml) = y := by have := List.getElem?_eq_getElem (l := supF C n) (i := m) (by rw [HSN.out]; exact hml); rw [hy] at this; injection this with this; exact this.symm
          rw [ey] at q1
          subst e1
          have hmi : (m : Int) < (sn : Int) := by omega
          have hm0 : (0 : Int) ≤ (m : Int) := by omega
          have hys : y.size ≤ maxLen := HC.out.size y (supF_mem (List.mem_of_getElem? hy)).1
          obtain ⟨rv, hlk, hrow, _⟩ := hJ.look hys
          obtain ⟨Ar, cr, rfl, _⟩ := own_form hrow
          have hT : k * 1048576 + m < 2199023255552 := by omega
          have hrl := hJ.len y
          have HP : Hid (∀ v' w3, w3.ownsRow m0 9 1 v' ((belJ (supF C) (names.take k) n ((supF C n).take m) y).length + 1) ((belJ (supF C) (names.take k) n ((supF C n).take m) y).map Value.string ++ [.string n]) → (wr.alloc (.cells #[.string n] 9)).grownBy w3 (Value.slice Ar (belJ (supF C) (names.take k) n ((supF C n).take m) y).length cr).ownBlock → (v'.ownBlock = (Value.slice Ar (belJ (supF C) (names.take k) n ((supF C n).take m) y).length cr).ownBlock ∨ v'.ownBlock = some (wr.alloc (.cells #[.string n] 9)).heap.size) →
              ∃ w4, (Instr.mapUpdate 133 (.map (some m0)) (.string y) v').run Try.prog w3 = .ok () w4 ∧ BelAt m0 w4.heap.size (belJ (supF C) (names.take k) n ((supF C n).take (m + 1))) (k * 1048576 + (m + 1)) m0 w4 ∧ Below w.heap.size w w4 ∧ StrsAt Q w4 (.slice (some ⟨b1, o1, none⟩) sn cs) (supF C n)) := Lib.hid fun v' w3 a1 a2 a3 => by
            obtain ⟨w4, r1, r2, r3, r4, r5, r6, r7⟩ := hJ.push (by unfold maxLen; omega) hys hlk a1 a2 a3
            have hoth : ∀ q, q < w.heap.size → w4.heap[q]? = wr.heap[q]? := fun q hq => by
              have := HM0.out
              have := hbj.size
              exact r3 q (by omega) (by omega) (by omega)
            refine ⟨w4, r1, ?_, ⟨r4.trans hbj.os, r5.trans hbj.tape, r6.trans hbj.output, Nat.le_trans hbj.size r7, fun q hq => (hoth q hq).trans (hbj.block q hq)⟩, hsj.keepB r7 (fun q hq _ => hoth q (by rw [HM0.out]; exact HQ.out q hq))⟩
            refine (r2.mono (Nat.le_refl _) (Nat.le_of_eq (Nat.add_assoc _ _ _))).congr (fun z => ?_)
            rw [List.take_add_one, hy]
            exact (belJ_step _ _ _ _ _ _).symm
          generalize hrn : (belJ (supF C) (names.take k) n ((supF C n).take m) y).length = rn at *
          have HOW : Hid ((wr.alloc (.cells #[.string n] 9)).ownsRow m0 9 1 (.slice Ar rn cr) rn ((belJ (supF C) (names.take k) n ((supF C n).take m) y).map Value.string)) := Lib.hid (by
            have := World.ownsRow.alloc hrow (.cells #[.string n] 9)
            rw [hrn] at this; exact this)
          have HNW := Lib.hid (one_new wr (.string n) 9)
          have H63 : Hid (rn + 1 ≤ maxLen) := Lib.hid (by unfold maxLen; omega)
          have HRL : Hid ((rn + 1) * 16 ≤ 140737488355328) := Lib.hid (by omega)
          have HBB : Hid (m0 ≤ (wr.alloc (.cells #[.string n] 9)).heap.size) := Lib.hid (by have := hbj.size; have := HM0.out; simp; omega)
          clear hJ hbj hsj hrow hrl hrn hy ey hT
          go_wp2_with (at_builtin; refine wpList_append_own_at _ rfl (.tmp 29) (.tmp 31) 40 rfl m0 9 i9 (.string ⟨#[]⟩) 1 16 Try.underlying40 hi9 hz9 hs9 hb9 rfl (by decide) _ rn ((belJ (supF C) (names.take k) n ((supF C n).take m) y).map Value.string) rfl HOW.out ⟨wr.heap.size, 0, none⟩ 1 1 [.string n] rfl rfl HNW.out (one_str _) H63.out HRL.out HBB.out ?_; intro v' w3 hown2 hg2 _ hat2; obtain ⟨w4, r1, p1, p2, p3⟩ := HP.out v' w3 hown2 hg2 hat2; obtain ⟨A4, c4, rfl, _⟩ := own_form hown2; have HP1 := Lib.hid p1; have HP2 := Lib.hid p2; have HP3 := Lib.hid p3; clear p1 p2 p3 hown2 hat2 hg2)
          go_roundw
          case rel => exact ⟨m + 1, by omega, by go_num, HP1.out, HP2.out, HP3.out⟩
          case measure => simp [intOf]; omega
        · have hme : m = sn := by omega
          subst hme
          have HREL : Hid (BelAt m0 wr.heap.size (belF (supF C) (names.take (k + 1))) ((k + 1) * 1048576) m0 wr) := Lib.hid (by
            refine (hJ.mono (Nat.le_refl _) (by omega)).congr (fun z => ?_)
            rw [List.take_add_one, HNK.out, List.take_of_length_le (l := supF C n) (by rw [HSN.out]; exact Nat.le_refl _)]
            exact (belF_snoc _ _ _ _).symm)
          have HBJ := Lib.hid hbj
          have hd : decide (m < m) = false := by simp
          clear hJ hbj hsj
          go_wp2
          go_roundw
          case rel => exact ⟨k + 1, by omega, by go_num, HREL.out, by rw [← HM0.out]; exact HBJ.out⟩
          case measure => simp [intOf]; omega
    · have hke : k = names.length := by omega
      subst hke
      have HRES : Hid (BelowRes C names w (.returned (.map (some m0))) wr) := Lib.hid (by
        unfold BelowRes
        rw [HM0.out]
        exact ⟨rfl, _, by rw [List.take_of_length_le (Nat.le_refl _)] at hBl; exact hBl, hb⟩)
      have hd : decide (names.length < names.length) = false := by simp
      clear hBl hb hbw
      go_wp2
      go_ret
      exact HRES.out
end Go.Proofs.Ytjfhncbfbhkhgaa
