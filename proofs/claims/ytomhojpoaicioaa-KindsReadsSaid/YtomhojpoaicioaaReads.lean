/- KindsReads (chapter 3): the law's walk. Condition: the slice reads as numbers. -/
import Derived.Test.YtomhojpoaicioaaPrints
import Derived.Laws.IdiomStrings
import Derived.Maps.RangeWalk
import Derived.Deep.RegionLaw
import Derived.Deep.RegionHeld3
namespace Go.Proofs.Ytomhojpoaicioaa
open Go.RowKit

def SomeShort (m : Int) (w : World) (e : Ending) (w' : World) : Prop := ∃ t : ByteArray, (t.size : Int) ≤ m ∧ e = .returned (.string t) ∧ w = w'
theorem short_any (s : ByteArray) (m : Int) (w : World) (hs : s.size ≤ maxLen) (hm : 0 ≤ m) (hm' : m ≤ 9223372036854775807) :
    Calls Try.prog 17 #[.string s, .int .i64 m] w (SomeShort m w) := by
  unfold maxLen at hs
  go_enter Try.func17, Try.ntmps17
  go_wp2
  · go_ret
    exact ⟨s.extract 0 m.toNat, by simp [ByteArray.size_extract]; omega, rfl, rfl⟩
  · go_ret
    exact ⟨s, by assumption, rfl, rfl⟩
theorem bytes_made (w : World) (p : List UInt8) (hp : p.length ≤ maxLen) : ∃ W cap, (convert 9 34 (.string ⟨p.toArray⟩)).run Try.prog w = .ok (.slice (some ⟨w.heap.size, 0, none⟩) p.length cap) W ∧ Below w.heap.size w W ∧ w.heap.size < W.heap.size ∧ p.length ≤ cap ∧ cap ≤ maxLen ∧
    ∀ j (_ : j < p.length), W.cell? ⟨w.heap.size, j, none⟩ = some (.int .u8 (p[j].toNat : Int)) ∧ W.frozen? ⟨w.heap.size, j, none⟩ = false := by
  have h := run_bytes_of_string (P := Try.prog) w 9 34 5 ⟨p.toArray⟩ Try.underlying9 Try.underlying34 Try.underlying5
  rw [mk_size] at h
  refine ⟨_, _, h, ?_, by simp, grownCap_ge _ _ _ _, grownCap_le_maxLen _ _ _ _ hp, fun j hj => ⟨?_, ?_⟩⟩
  · exact ((Below.refl _ _).drew).alloc (Nat.le_refl _) _
  · generalize grownCap w p.length 0 5 = cap
    have h9 := (MapKept.heap_alloc w.drew (.cells (bytesRow ⟨p.toArray⟩ cap) 5 ((bytesRow ⟨p.toArray⟩ cap).size, (bytesRow ⟨p.toArray⟩ cap).size + 1))).1
    have h8 : (w.drew.alloc (.cells (bytesRow ⟨p.toArray⟩ cap) 5 ((bytesRow ⟨p.toArray⟩ cap).size, (bytesRow ⟨p.toArray⟩ cap).size + 1))).heap[w.heap.size]? = some (.cells (bytesRow ⟨p.toArray⟩ cap) 5 ((bytesRow ⟨p.toArray⟩ cap).size, (bytesRow ⟨p.toArray⟩ cap).size + 1)) := h9
    have h7 := bytesRow_at ⟨p.toArray⟩ cap j (by simpa using hj)
    simp only [World.cell?, h8]
    simpa using h7
  · generalize grownCap w p.length 0 5 = cap
    have h9 := (MapKept.heap_alloc w.drew (.cells (bytesRow ⟨p.toArray⟩ cap) 5 ((bytesRow ⟨p.toArray⟩ cap).size, (bytesRow ⟨p.toArray⟩ cap).size + 1))).1
    have h8 : (w.drew.alloc (.cells (bytesRow ⟨p.toArray⟩ cap) 5 ((bytesRow ⟨p.toArray⟩ cap).size, (bytesRow ⟨p.toArray⟩ cap).size + 1))).heap[w.heap.size]? = some (.cells (bytesRow ⟨p.toArray⟩ cap) 5 ((bytesRow ⟨p.toArray⟩ cap).size, (bytesRow ⟨p.toArray⟩ cap).size + 1)) := h9
    have hsz : p.length ≤ (bytesRow ⟨p.toArray⟩ cap).size := by simp [bytesRow]
    simp only [World.frozen?, h8]
    simp
    omega
theorem bytes_back (w : World) (g cap : Nat) (l : List UInt8) (h : ∀ j (_ : j < l.length), w.cell? ⟨g, j, none⟩ = some (.int .u8 (l[j].toNat : Int))) : (convert 34 9 (.slice (some ⟨g, 0, none⟩) l.length cap)).run Try.prog w = .ok (.string ⟨l.toArray⟩) w :=
  run_convert_bytes_back w 34 9 5 ⟨g, 0, none⟩ cap l Try.underlying34 Try.underlying5 Try.underlying9 fun j hj => by rw [Go.WideShapes.add_plain, Nat.zero_add]; exact h j hj
theorem row_cell (w : World) (L : List Value) (t : TypeId) (i : Nat) (h : i < L.length) : (w.alloc (.cells L.toArray t)).cell? ⟨w.heap.size, i, none⟩ = some L[i] := by
  have h9 := (MapKept.heap_alloc w (.cells L.toArray t)).1
  simp only [World.cell?, h9]
  simp [h]
theorem cell_apart {w : World} {b i j : Nat} {v : Value} (h : i ≠ j) : (w.setCell ⟨b, i, none⟩ v).cell? ⟨b, j, none⟩ = w.cell? ⟨b, j, none⟩ := by simp [go_sem]
/-- The texts that are asked. -/
def asked (a b c : List UInt8) : List (List UInt8) := [a, b, c, [], [42, 42], [40, 42, 41], [42, 32, 45, 62, 42], [42, 32, 45, 62, 32], [40, 42, 32, 45, 62, 32, 42, 41], [42, 32, 45, 62, 32, 40, 42, 32, 45, 62, 32, 42, 41], [40, 40, 42, 32, 45, 62, 32, 42, 41, 41, 32, 45, 62, 32, 42]]
theorem asked_none (a b c : List UInt8) : ∀ (i : Nat) (h : i < (asked a b c).length), 2 < i → readS [] [] (asked a b c)[i] = none
  | 0, _, h => absurd h (by omega)
  | 1, _, h => absurd h (by omega)
  | 2, _, h => absurd h (by omega)
  | 3, _, _ => rfl
  | 4, _, _ => rfl
  | 5, _, _ => rfl
  | 6, _, _ => rfl
  | 7, _, _ => rfl
  | 8, _, _ => rfl
  | 9, _, _ => rfl
  | 10, _, _ => rfl
  | n + 11, h, _ => absurd h (by simp [asked])
theorem asked_len (a b c : List UInt8) (h : a.length ≤ 1000 ∧ b.length ≤ 1000 ∧ c.length ≤ 1000) : ∀ x ∈ asked a b c, x.length ≤ 1000 := by
  intro x hx
  simp only [asked, List.mem_cons, List.not_mem_nil, or_false] at hx
  rcases hx with rfl | rfl | rfl | rfl | rfl | rfl | rfl | rfl | rfl | rfl | rfl <;> first | exact h.1 | exact h.2.1 | exact h.2.2 | (simp)
set_option maxRecDepth 100000 in
set_option maxHeartbeats 1000000 in
theorem kindsReads_walk (P : Nat → Prop) (s : ByteArray) (v : Value) (zs : List Int) (at' : Int) (c : Int) (w : World) (hs : s.size ≤ maxLen) (h : IntsAt P w v zs) (ha1 : -9223372036854775808 ≤ at') (ha2 : at' ≤ 9223372036854775807) (hc1 : 0 ≤ c) (hc2 : c ≤ 255) :
    Calls Try.prog 4 #[.string s, v, .int .i64 at', .int .u8 c] w (TrueB w) := by
  have hc := kind_any P v zs w h
  have HS := Lib.hid (kindZ_sz zs)
  have HP := Lib.hid (kindZ_print zs)
  obtain ⟨A, cc, rfl, _⟩ := h
  generalize kindZ zs = k at *
  have HC := Lib.hid hc
  clear hc
  go_enter Try.func4, Try.ntmps4
  go_wp2_with fail
  refine HC.out.mono ?_
  rintro e w1 ⟨kv, rfl, hk1, hb1⟩
  obtain ⟨Ak, nk, ck, rfl⟩ := kform hk1
  have HB1 := Lib.hid hb1
  have HK1 := Lib.hid hk1
  clear hb1 hk1
  go_wp2_with fail
  refine (refprint_any _ _ k _ w1 (Nat.le_refl _) HK1.out (by have := HP.out; omega)).mono ?_
  rintro e w2 ⟨rfl, hb2⟩
  have HB2 := Lib.hid (HB1.out.trans (hb2.mono HB1.out.size))
  clear hb2
  have hp1 : 1 ≤ (printK k).length := Nat.le_trans (by cases k with | mk l => have := len_le_sz l; omega) (sz_le_print k)
  have hp2 := HP.out
  generalize printK k = p at *
  obtain ⟨W, cap, hcv, hbW, hgW, hpc, hcm, hcell⟩ := bytes_made w2 p (by unfold maxLen; omega)
  have hz2 := HB2.out.size
  have HBW := Lib.hid (HB2.out.trans (hbW.mono hz2))
  generalize w2.heap.size = g at *
  have HCL := Lib.hid hcell
  clear hbW hcell
  unfold maxLen at hcm
  have HCV := Lib.hid hcv
  have hbd := aroundI_bd at' (p.length : Int) (by omega)
  obtain ⟨q, hq⟩ := Int.eq_ofNat_of_zero_le hbd.1
  have hqp : q < p.length := by omega
  go_wp2_with fail
  clear hcv
  refine (around_is at' (p.length : Int) _ ha1 ha2 (by omega) (by omega)).mono ?_
  rintro e w' ⟨rfl, rfl⟩
  rw [hq]
  have hcv2 := bytes_back W g cap (p.take q) (fun j hj => by
    have hj2 : j < p.length := by simp at hj; omega
    rw [(HCL.out j hj2).1, List.getElem_take])
  have htq : (p.take q).length = q := by simp; omega
  rw [htq] at hcv2
  have hst := HCL.out q hqp
  have hs1 := hst.1
  have hs2 := hst.2
  have hqi : (q : Int) < (p.length : Int) := by omega
  have hqc : (q : Int) ≤ (cap : Int) := by omega
  have hq0 : (0 : Int) ≤ (q : Int) := by omega
  clear hq hbd hst htq
  generalize hcut : p.take q = cut at *
  have HCUT := Lib.hid hcut
  clear hcut
  go_wp2_with fail
  have hcb : (((UInt8.ofNat c.toNat).toNat : Nat) : Int) = c := by
    have : (UInt8.ofNat c.toNat).toNat = c.toNat := by simp; omega
    rw [this]; omega
  have hcv3 : ∀ y : World, (∀ j, y.cell? ⟨g, j, none⟩ = (W.setCell ⟨g, q, none⟩ (.int .u8 c)).cell? ⟨g, j, none⟩) → (convert 34 9 (.slice (some ⟨g, 0, none⟩) p.length cap)).run Try.prog y = .ok (.string ⟨(p.set q (UInt8.ofNat c.toNat)).toArray⟩) y := fun y hy => by
    have h9 := bytes_back y g cap (p.set q (UInt8.ofNat c.toNat)) (fun j hj => by
      have hj2 : j < p.length := by simpa using hj
      rw [hy j]
      by_cases hjq : j = q
      · subst hjq
        rw [List.getElem_set_self, hcb]
        simp [go_sem, hs1]
      · rw [List.getElem_set_ne (fun e => hjq e.symm)]
        have h8 := (HCL.out j hj2).1
        have h7 := cell_apart (w := W) (b := g) (i := q) (j := j) (v := .int .u8 c) (fun e => hjq e.symm)
        rw [h7, h8])
    rw [List.length_set] at h9
    exact h9
  have HB4 : Hid (Below w.heap.size w (W.setCell ⟨g, q, none⟩ (.int .u8 c))) := HBW.out.setCell hz2 _
  generalize W.setCell ⟨g, q, none⟩ (.int .u8 c) = w4 at *
  have hcv4 := hcv3 w4.drew (fun j => rfl)
  clear hcv3 hs1 hs2 hcv2 hcb
  have hol9 : (p.set q (UInt8.ofNat c.toNat)).length = p.length := List.length_set
  have HOWN := Lib.hid hol9
  clear hol9
  generalize p.set q (UInt8.ofNat c.toNat) = own at *
  have hsh := short_any s 30 w4.drew hs (by omega) (by omega)
  have HSH := Lib.hid hsh
  clear hsh
  go_region_law (first | (go_simp; go_at_call 17; refine HSH.out.mono ?_; rintro e y ⟨tx, htx, rfl, hy⟩; obtain rfl := hy.symm))
  all_goals
    have hcells : ∀ (i : Nat) (h : i < (asked tx.data.toList cut own).length), (w4.alloc (.cells #[.string tx, .string ⟨cut.toArray⟩, .string ⟨own.toArray⟩, .string ⟨#[]⟩, .string ⟨#[42, 42]⟩, .string ⟨#[40, 42, 41]⟩, .string ⟨#[42, 32, 45, 62, 42]⟩, .string ⟨#[42, 32, 45, 62, 32]⟩, .string ⟨#[40, 42, 32, 45, 62, 32, 42, 41]⟩, .string ⟨#[42, 32, 45, 62, 32, 40, 42, 32, 45, 62, 32, 42, 41]⟩, .string ⟨#[40, 40, 42, 32, 45, 62, 32, 42, 41, 41, 32, 45, 62, 32, 42]⟩] 9)).drew.cell? ⟨w4.heap.size, i, none⟩ = some (.string ⟨((asked tx.data.toList cut own)[i]).toArray⟩) := by
      intro i h
      have h9 := row_cell w4 ((asked tx.data.toList cut own).map (fun x => Value.string ⟨x.toArray⟩)) 9 i (by simpa using h)
      rw [List.getElem_map] at h9
      exact h9
    have hcl : cut.length ≤ 1000 := by rw [← HCUT.out, List.length_take]; omega
    have hol : own.length ≤ 1000 := by rw [HOWN.out]; omega
    have htl : tx.data.toList.length ≤ 1000 := by
      have : tx.data.toList.length = tx.size := rfl
      omega
    have HLEN := Lib.hid (asked_len tx.data.toList cut own ⟨htl, hcl, hol⟩)
    have HNONE := Lib.hid (asked_none tx.data.toList cut own)
    have hal : (asked tx.data.toList cut own).length = 11 := rfl
    have HAL := Lib.hid hal
    have hb5 : Below w4.heap.size w4 (w4.alloc (.cells #[.string tx, .string ⟨cut.toArray⟩, .string ⟨own.toArray⟩, .string ⟨#[]⟩, .string ⟨#[42, 42]⟩, .string ⟨#[40, 42, 41]⟩, .string ⟨#[42, 32, 45, 62, 42]⟩, .string ⟨#[42, 32, 45, 62, 32]⟩, .string ⟨#[40, 42, 32, 45, 62, 32, 42, 41]⟩, .string ⟨#[42, 32, 45, 62, 32, 40, 42, 32, 45, 62, 32, 42, 41]⟩, .string ⟨#[40, 40, 42, 32, 45, 62, 32, 42, 41, 41, 32, 45, 62, 32, 42]⟩] 9)).drew := (below_new w4 _).drew
    have hz5 : w4.heap.size < (w4.alloc (.cells #[.string tx, .string ⟨cut.toArray⟩, .string ⟨own.toArray⟩, .string ⟨#[]⟩, .string ⟨#[42, 42]⟩, .string ⟨#[40, 42, 41]⟩, .string ⟨#[42, 32, 45, 62, 42]⟩, .string ⟨#[42, 32, 45, 62, 32]⟩, .string ⟨#[40, 42, 32, 45, 62, 32, 42, 41]⟩, .string ⟨#[42, 32, 45, 62, 32, 40, 42, 32, 45, 62, 32, 42, 41]⟩, .string ⟨#[40, 40, 42, 32, 45, 62, 32, 42, 41, 41, 32, 45, 62, 32, 42]⟩] 9)).drew.heap.size := by simp
    have HCELLS := Lib.hid hcells
    have HB5 := Lib.hid (HB4.out.trans (hb5.mono HB4.out.size))
    clear hcells hb5 hcv4 hal
    go_frame
    go_wp2_with fail
    generalize (w4.alloc _).drew = w5 at *
    generalize asked tx.data.toList cut own = TT at *
    generalize w4.heap.size = B at *
    go_loopw [13, 14, 15] (fun i _ _ wr => ∃ n : Nat, n ≤ 11 ∧ i = .int .i64 n ∧ Below w5.heap.size w5 wr) (fun i _ _ _ => 11 - (intOf i).toNat)
    case atStart => exact ⟨0, Nat.zero_le _, rfl, Below.refl _ _⟩
    case round =>
      obtain ⟨n, hn, rfl, hb⟩ := hrel
      have HB := Lib.hid hb
      have hzr := hb.size
      clear hb
      by_cases hlt : n < 11
      · have hnl : n < TT.length := by rw [HAL.out]; exact hlt
        have hcn := (HB.out.cell (p := ⟨B, n, none⟩) hz5).trans (HCELLS.out n hnl)
        have hln := HLEN.out TT[n] (List.getElem_mem _)
        have hnn := HNONE.out n hnl
        generalize TT[n] = tn at *
        have hni : (n : Int) < 11 := by omega
        have hn0 : (0 : Int) ≤ (n : Int) := by omega
        have HNN := Lib.hid hnn
        have hrd := read_any tn wr (by omega)
        have HRD := Lib.hid hrd
        clear hnn hrd
        go_wp2_with fail
        refine HRD.out.mono ?_
        rintro e y1 ⟨hb1, h1⟩
        have hz1 := hb1.size
        have hcn1 := (hb1.cell (p := ⟨B, n, none⟩) (show B < wr.heap.size by omega)).trans hcn
        have HB1 := Lib.hid (HB.out.trans (hb1.mono hzr))
        have hB1 : B < y1.heap.size := by omega
        clear hb1 hcn
        rcases h1 with ⟨k2, v2, hk2, rfl, hkv⟩ | ⟨hk2, rfl⟩
        · obtain ⟨A2, n2, c2, rfl⟩ := kform hkv
          have hpr := readS_sound hk2
          have hn2 : ¬ 2 < n := fun h9 => by have := HNN.out h9; rw [this] at hk2; cases hk2
          have hn2' : ¬ (2 : Int) < (n : Int) := by omega
          have HPR := Lib.hid hpr
          have HKV := Lib.hid hkv
          clear hpr hkv hk2
          go_wp2_with fail
          have hb2 := below_new y1 (.cells #[.slice A2 n2 c2] 25)
          have hx2 : (y1.alloc (.cells #[.slice A2 n2 c2] 25)).cell? ⟨y1.heap.size, 0, none⟩ = some (.slice A2 n2 c2) := by simp [go_sem]
          have hz2 : (y1.alloc (.cells #[.slice A2 n2 c2] 25)).heap.size = y1.heap.size + 1 := by simp
          have hc2 := (hb2.cell (p := ⟨B, n, none⟩) hB1).trans hcn1
          have HK2 := Lib.hid (HKV.out.on hb2)
          have HB2 := Lib.hid (HB1.out.trans (hb2.mono (by omega)))
          clear hb2
          generalize y1.alloc (.cells #[.slice A2 n2 c2] 25) = y2 at *
          have hcall := refprint_any _ _ k2 _ y2.drew (Nat.le_refl _) (HK2.out.on (Below.refl _ _).drew) (by rw [HPR.out]; omega)
          rw [HPR.out] at hcall
          have HCALL := Lib.hid hcall
          have hS0 := And.intro hx2 hc2
          have hlt2 : y1.heap.size < y2.heap.size := by omega
          have hlt3 : B < y2.heap.size := by omega
          have keepS : Hid (∀ y, Below y2.heap.size y2 y → y.cell? ⟨y1.heap.size, 0, none⟩ = some (.slice A2 n2 c2) ∧ y.cell? ⟨B, n, none⟩ = some (.string ⟨tn.toArray⟩)) := fun y hy => ⟨(hy.cell (p := ⟨y1.heap.size, 0, none⟩) hlt2).trans hx2, (hy.cell (p := ⟨B, n, none⟩) hlt3).trans hc2⟩
          clear hcall
          go_region_held3 (fun y => y.cell? ⟨y1.heap.size, 0, none⟩ = some (.slice A2 n2 c2) ∧ y.cell? ⟨B, n, none⟩ = some (.string ⟨tn.toArray⟩)) (first | exact hS0 | exact hS1) (first | (go_at_call 13; (with_reducible refine HCALL.out.mono ?_); rintro e y3 ⟨rfl, b3⟩; have b3' : Below y2.heap.size y2 y3 := (Below.refl _ y2).drew.trans b3; have hS1 := keepS.out y3 b3'))
          all_goals
            have HB3 := Lib.hid (HB2.out.trans (b3'.mono HB2.out.size))
            clear b3 b3' hS0 hS1
            go_wp2
            go_roundw
            case rel => exact ⟨n + 1, by omega, by go_num, HB3.out⟩
            case measure => simp [intOf]; omega
        · go_wp2_with fail
          have hb2 := below_new y1 (.cells #[.slice none 0 0] 25)
          have hx2 : (y1.alloc (.cells #[.slice none 0 0] 25)).cell? ⟨y1.heap.size, 0, none⟩ = some (.slice none 0 0) := by simp [go_sem]
          have hz2 : (y1.alloc (.cells #[.slice none 0 0] 25)).heap.size = y1.heap.size + 1 := by simp
          have HB2 := Lib.hid (HB1.out.trans (hb2.mono (by omega)))
          clear hb2
          generalize y1.alloc (.cells #[.slice none 0 0] 25) = y2 at *
          have hlt2 : y1.heap.size < y2.heap.size := by omega
          go_quiet (fail)
          go_wp2
          all_goals
            go_roundw
            case rel => exact ⟨n + 1, by omega, by go_num, below_drewN HB2.out _⟩
            case measure => simp [intOf]; omega
      · have hd : decide ((n : Int) < 11) = false := by simp; omega
        go_wp2_with fail
        refine (lives_any _).mono ?_
        rintro e y1 ⟨rfl, hb1⟩
        have HBB := Lib.hid ((HB5.out.trans (HB.out.mono HB5.out.size)).trans (hb1.mono (by have := HB5.out.size; omega)))
        clear hb1
        go_wp2
        go_ret
        exact ⟨rfl, HBB.out⟩
theorem kindsReads_law (s : ByteArray) (a : Option Addr) (len cap : Nat) (at' c : Int) (w : World) (hs : s.size ≤ maxLen) (h : SomeInts w (.slice a len cap)) (ha1 : -9223372036854775808 ≤ at') (ha2 : at' ≤ 9223372036854775807) (hc1 : 0 ≤ c) (hc2 : c ≤ 255) :
    Calls Try.prog 4 #[.string s, .slice a len cap, .int .i64 at', .int .u8 c] w (TrueB w) := by
  obtain ⟨zs, h⟩ := h
  exact kindsReads_walk _ s _ zs at' c w hs h ha1 ha2 hc1 hc2
end Go.Proofs.Ytomhojpoaicioaa
