/- The heap: down. No conditions but those that each theorem names. -/
import Derived.Test.YthmnghngcbkjpaaUp
namespace Go.Proofs.Ythmnghngcbkjpaa
open Go.RowKit
/-- What down knows: where it stands. -/
def DownRel (B ab g c n : Nat) (a0 : List Nat) (w : World) (x : Nat) (wr : World) : Prop :=
  ∃ a, a.Perm a0 ∧ a.getD n 0 = a0.getD n 0 ∧ DownInv a n x ∧ AskAt B ab a (.slice (some ⟨g, 0, none⟩) (n + 1) c) wr ∧ Fr (fun b => b = g) w wr
def DownRes (B ab g c n : Nat) (a0 : List Nat) (w : World) (e : Ending) (w' : World) : Prop :=
  (∃ q, e = .returned (.bool q)) ∧ ∃ a, a.Perm a0 ∧ a.getD n 0 = a0.getD n 0 ∧ Heap a n ∧ AskAt B ab a (.slice (some ⟨g, 0, none⟩) (n + 1) c) w' ∧ Fr (fun b => b = g) w w'
theorem DownInv.stop2 {a : List Nat} {n x : Nat} (h : DownInv a n x) (h1 : 2 * x + 1 < n → a.getD x 0 ≤ a.getD (2 * x + 1) 0) (h2 : 2 * x + 1 + 1 < n → a.getD x 0 ≤ a.getD (2 * x + 1 + 1) 0) : Heap a n := by
  refine h.stop fun j h0 hj hp => ?_
  unfold par at hp
  rcases (by omega : j = 2 * x + 1 ∨ j = 2 * x + 1 + 1) with rfl | rfl
  · exact h1 hj
  · exact h2 hj
theorem DownInv.swap2 {a : List Nat} {n x c : Nat} (h : DownInv a n x) (hc : c < n) (hcp : c = 2 * x + 1 ∨ c = 2 * x + 1 + 1) (hn : n ≤ a.length) (hlt : a.getD c 0 < a.getD x 0) (h1 : 2 * x + 1 < n → a.getD c 0 ≤ a.getD (2 * x + 1) 0) (h2 : 2 * x + 1 + 1 < n → a.getD c 0 ≤ a.getD (2 * x + 1 + 1) 0) : DownInv (swp a x c) n c := by
  refine h.swap (by omega) hc (by unfold par; omega) hn hlt fun j h0 hj hp => ?_
  unfold par at hp
  rcases (by omega : j = 2 * x + 1 ∨ j = 2 * x + 1 + 1) with rfl | rfl
  · exact h1 hj
  · exact h2 hj
set_option maxRecDepth 100000 in
set_option maxHeartbeats 4000000 in
theorem down_any {B ab g c n : Nat} {a0 : List Nat} {w : World} (h : AskAt B ab a0 (.slice (some ⟨g, 0, none⟩) (n + 1) c) w) (hal0 : a0.length = n + 1) (hd : DownInv a0 n 0) (hl : n ≤ 1099511627776) :
    Calls Try.prog 33 #[hv ab, .int .i64 0, .int .i64 n] w (DownRes B ab g c n a0 w) := by
  have HR0 : Hid (DownRel B ab g c n a0 w 0 w) := Lib.hid ⟨a0, .refl _, rfl, hd, h, Fr.refl _ _⟩
  have HL := Lib.hid hl
  have HL0 := Lib.hid hal0
  clear h hd hl hal0
  unfold hv
  go_enter Try.func33, Try.ntmps33
  go_wp2_with fail
  go_loopw [7] (fun v wr => ∃ x : Nat, v = .int .i64 x ∧ x ≤ n ∧ DownRel B ab g c n a0 w x wr) (fun v _ => n - (intOf v).toNat)
  case atStart => exact ⟨0, rfl, Nat.zero_le _, HR0.out⟩
  case round =>
    obtain ⟨x, rfl, hx, a, hp, hlast, hd, hA, hf⟩ := hrel
    have hl := HL.out
    have hal : a.length = n + 1 := hp.length_eq.trans HL0.out
    have ho := hA.own
    rw [hal] at ho
    by_cases h1 : 2 * x + 1 < n
    · have hge : ¬ (2 * (x : Int) + 1 ≥ (n : Int)) := by omega
      have hge2 : (2 * (x : Int) + 1) < (n : Int) := by omega
      have hpos : ¬ (2 * (x : Int) + 1 < 0) := by omega
      have hml := m_less (ab := ab) hA.cell.1
      have HPL := Lib.hid hal
      have HP := Lib.hid hp
      have HLA := Lib.hid hlast
      have HD := Lib.hid hd
      have HA := Lib.hid hA
      have HF := Lib.hid hf
      have HO := Lib.hid ho
      have H1 := Lib.hid h1
      clear hp hlast hd hA hf hal ho
      by_cases h2 : 2 * x + 1 + 1 < n
      · have h2i : (2 * (x : Int) + 1 + 1) < (n : Int) := by omega
        by_cases hf2 : a.getD (2 * x + 1 + 1) 0 < a.getD (2 * x + 1) 0
        · have hfd : decide (a.getD (2 * x + 1 + 1) 0 < a.getD (2 * x + 1) 0) = true := decide_eq_true hf2
          by_cases hfin : a.getD (2 * x + 1 + 1) 0 < a.getD x 0
          · have hdd : decide (a.getD (2 * x + 1 + 1) 0 < a.getD x 0) = true := decide_eq_true hfin
            have HNX : Hid (∀ w2, w2.ownsRow B 3 1 (.slice (some ⟨g, 0, none⟩) (n + 1) c) (n + 1) ((swp a x (2 * x + 1 + 1)).map natV) → Fr (fun b => b = g) wr w2 → DownRel B ab g c n a0 w (2 * x + 1 + 1) w2) := by
              refine Lib.hid fun w2 q1 q2 => ⟨swp a x (2 * x + 1 + 1), (swp_perm a (by have := HPL.out; omega) (by have := HPL.out; omega)).trans HP.out, ?_, HD.out.swap2 (by omega) (by omega) (by have := HPL.out; omega) hfin (fun _ => by omega) (fun _ => Nat.le_refl _), ⟨(q2.block ab (lt_of_block HA.out.box) (fun e => HA.out.ne (by rw [e]; rfl))).trans HA.out.box, by rw [swp_length, HPL.out]; exact q1, HA.out.le⟩, HF.out.trans q2⟩
              rw [swp_at a (by have := HPL.out; omega) (by have := HPL.out; omega), if_neg (by omega), if_neg (by omega)]
              exact HLA.out
            clear hfin hf2
            have HLF := Lib.hid (less_any HO.out (2 * x + 1 + 1) (2 * x + 1) (by omega) (by omega))
            rw [hfd] at HLF
            go_wp2_with fail
            refine HLF.out.mono ?_
            rintro e w1 ⟨rfl, hb1⟩
            have hA1 := HA.out.on hb1
            have hml1 := m_less (ab := ab) hA1.cell.1
            have ho1 := hA1.own
            rw [HPL.out] at ho1
            have HLS := Lib.hid (less_any ho1 (2 * x + 1 + 1) x (by omega) (by omega))
            rw [hdd] at HLS
            have HB1 := Lib.hid hb1
            clear hb1 hA1 ho1 hml
            go_wp2_with fail
            refine HLS.out.mono ?_
            rintro e w2 ⟨rfl, hb2⟩
            have hbb := HB1.out.trans (hb2.mono HB1.out.size)
            have hA2 := HA.out.on hbb
            have hms2 := m_swap (ab := ab) hA2.cell.1
            have ho2 := hA2.own
            rw [HPL.out] at ho2
            have HSW := Lib.hid (swap_any ho2 x (2 * x + 1 + 1) (by omega) (by omega))
            have HB2 := Lib.hid hbb
            clear hb2 hbb hA2 ho2
            go_wp2_with fail
            refine HSW.out.mono ?_
            rintro e w3 ⟨rfl, q1, q2⟩
            have HREL := Lib.hid (HNX.out w3 q1 ((Fr.of_below HB2.out).trans q2))
            clear q1 q2 hms2
            go_wp2
            go_roundw
            case rel => exact ⟨2 * x + 1 + 1, by first | rfl | (congr 1), by omega, HREL.out⟩
            case measure => simp [intOf]; omega
          · have hdd : decide (a.getD (2 * x + 1 + 1) 0 < a.getD x 0) = false := decide_eq_false hfin
            have HFIN : Hid (∀ q w1, Below wr.heap.size wr w1 → DownRes B ab g c n a0 w (.returned (.bool q)) w1) := Lib.hid fun q w1 hw => ⟨⟨q, rfl⟩, a, HP.out, HLA.out, HD.out.stop2 (fun _ => by omega) (fun _ => by omega), HA.out.on hw, HF.out.trans (.of_below hw)⟩
            clear hfin hf2
            have HLF := Lib.hid (less_any HO.out (2 * x + 1 + 1) (2 * x + 1) (by omega) (by omega))
            rw [hfd] at HLF
            go_wp2_with fail
            refine HLF.out.mono ?_
            rintro e w1 ⟨rfl, hb1⟩
            have hA1 := HA.out.on hb1
            have hml1 := m_less (ab := ab) hA1.cell.1
            have ho1 := hA1.own
            rw [HPL.out] at ho1
            have HLS := Lib.hid (less_any ho1 (2 * x + 1 + 1) x (by omega) (by omega))
            rw [hdd] at HLS
            have HB1 := Lib.hid hb1
            clear hb1 hA1 ho1 hml
            go_wp2_with fail
            refine HLS.out.mono ?_
            rintro e w2 ⟨rfl, hb2⟩
            have hbb := HB1.out.trans (hb2.mono HB1.out.size)
            have HEND : Hid (∀ q, DownRes B ab g c n a0 w (.returned (.bool q)) w2) := Lib.hid fun q => HFIN.out q w2 hbb
            clear hb2 hbb
            go_wp2
            all_goals (go_ret; exact HEND.out _)
        · have hfd : decide (a.getD (2 * x + 1 + 1) 0 < a.getD (2 * x + 1) 0) = false := decide_eq_false hf2
          by_cases hfin : a.getD (2 * x + 1) 0 < a.getD x 0
          · have hdd : decide (a.getD (2 * x + 1) 0 < a.getD x 0) = true := decide_eq_true hfin
            have HNX : Hid (∀ w2, w2.ownsRow B 3 1 (.slice (some ⟨g, 0, none⟩) (n + 1) c) (n + 1) ((swp a x (2 * x + 1)).map natV) → Fr (fun b => b = g) wr w2 → DownRel B ab g c n a0 w (2 * x + 1) w2) := by
              refine Lib.hid fun w2 q1 q2 => ⟨swp a x (2 * x + 1), (swp_perm a (by have := HPL.out; omega) (by have := HPL.out; omega)).trans HP.out, ?_, HD.out.swap2 (by omega) (by omega) (by have := HPL.out; omega) hfin (fun _ => Nat.le_refl _) (fun _ => by omega), ⟨(q2.block ab (lt_of_block HA.out.box) (fun e => HA.out.ne (by rw [e]; rfl))).trans HA.out.box, by rw [swp_length, HPL.out]; exact q1, HA.out.le⟩, HF.out.trans q2⟩
              rw [swp_at a (by have := HPL.out; omega) (by have := HPL.out; omega), if_neg (by omega), if_neg (by omega)]
              exact HLA.out
            clear hfin hf2
            have HLF := Lib.hid (less_any HO.out (2 * x + 1 + 1) (2 * x + 1) (by omega) (by omega))
            rw [hfd] at HLF
            go_wp2_with fail
            refine HLF.out.mono ?_
            rintro e w1 ⟨rfl, hb1⟩
            have hA1 := HA.out.on hb1
            have hml1 := m_less (ab := ab) hA1.cell.1
            have ho1 := hA1.own
            rw [HPL.out] at ho1
            have HLS := Lib.hid (less_any ho1 (2 * x + 1) x (by omega) (by omega))
            rw [hdd] at HLS
            have HB1 := Lib.hid hb1
            clear hb1 hA1 ho1 hml
            go_wp2_with fail
            refine HLS.out.mono ?_
            rintro e w2 ⟨rfl, hb2⟩
            have hbb := HB1.out.trans (hb2.mono HB1.out.size)
            have hA2 := HA.out.on hbb
            have hms2 := m_swap (ab := ab) hA2.cell.1
            have ho2 := hA2.own
            rw [HPL.out] at ho2
            have HSW := Lib.hid (swap_any ho2 x (2 * x + 1) (by omega) (by omega))
            have HB2 := Lib.hid hbb
            clear hb2 hbb hA2 ho2
            go_wp2_with fail
            refine HSW.out.mono ?_
            rintro e w3 ⟨rfl, q1, q2⟩
            have HREL := Lib.hid (HNX.out w3 q1 ((Fr.of_below HB2.out).trans q2))
            clear q1 q2 hms2
            go_wp2
            go_roundw
            case rel => exact ⟨2 * x + 1, by first | rfl | (congr 1), by omega, HREL.out⟩
            case measure => simp [intOf]; omega
          · have hdd : decide (a.getD (2 * x + 1) 0 < a.getD x 0) = false := decide_eq_false hfin
            have HFIN : Hid (∀ q w1, Below wr.heap.size wr w1 → DownRes B ab g c n a0 w (.returned (.bool q)) w1) := Lib.hid fun q w1 hw => ⟨⟨q, rfl⟩, a, HP.out, HLA.out, HD.out.stop2 (fun _ => by omega) (fun _ => by omega), HA.out.on hw, HF.out.trans (.of_below hw)⟩
            clear hfin hf2
            have HLF := Lib.hid (less_any HO.out (2 * x + 1 + 1) (2 * x + 1) (by omega) (by omega))
            rw [hfd] at HLF
            go_wp2_with fail
            refine HLF.out.mono ?_
            rintro e w1 ⟨rfl, hb1⟩
            have hA1 := HA.out.on hb1
            have hml1 := m_less (ab := ab) hA1.cell.1
            have ho1 := hA1.own
            rw [HPL.out] at ho1
            have HLS := Lib.hid (less_any ho1 (2 * x + 1) x (by omega) (by omega))
            rw [hdd] at HLS
            have HB1 := Lib.hid hb1
            clear hb1 hA1 ho1 hml
            go_wp2_with fail
            refine HLS.out.mono ?_
            rintro e w2 ⟨rfl, hb2⟩
            have hbb := HB1.out.trans (hb2.mono HB1.out.size)
            have HEND : Hid (∀ q, DownRes B ab g c n a0 w (.returned (.bool q)) w2) := Lib.hid fun q => HFIN.out q w2 hbb
            clear hb2 hbb
            go_wp2
            all_goals (go_ret; exact HEND.out _)
      · have h2i : ¬ ((2 * (x : Int) + 1 + 1) < (n : Int)) := by omega
        by_cases hfin : a.getD (2 * x + 1) 0 < a.getD x 0
        · have hdd : decide (a.getD (2 * x + 1) 0 < a.getD x 0) = true := decide_eq_true hfin
          have HNX : Hid (∀ w2, w2.ownsRow B 3 1 (.slice (some ⟨g, 0, none⟩) (n + 1) c) (n + 1) ((swp a x (2 * x + 1)).map natV) → Fr (fun b => b = g) wr w2 → DownRel B ab g c n a0 w (2 * x + 1) w2) := by
            refine Lib.hid fun w2 q1 q2 => ⟨swp a x (2 * x + 1), (swp_perm a (by have := HPL.out; omega) (by have := HPL.out; omega)).trans HP.out, ?_, HD.out.swap2 (by omega) (by omega) (by have := HPL.out; omega) hfin (fun _ => Nat.le_refl _) (fun e => absurd e h2), ⟨(q2.block ab (lt_of_block HA.out.box) (fun e => HA.out.ne (by rw [e]; rfl))).trans HA.out.box, by rw [swp_length, HPL.out]; exact q1, HA.out.le⟩, HF.out.trans q2⟩
            rw [swp_at a (by have := HPL.out; omega) (by have := HPL.out; omega), if_neg (by omega), if_neg (by omega)]
            exact HLA.out
          clear hfin 
          have HLS := Lib.hid (less_any HO.out (2 * x + 1) x (by omega) (by omega))
          rw [hdd] at HLS
          go_wp2_with fail
          refine HLS.out.mono ?_
          rintro e w2 ⟨rfl, hb2⟩
          have hbb := hb2
          have hA2 := HA.out.on hbb
          have hms2 := m_swap (ab := ab) hA2.cell.1
          have ho2 := hA2.own
          rw [HPL.out] at ho2
          have HSW := Lib.hid (swap_any ho2 x (2 * x + 1) (by omega) (by omega))
          have HB2 := Lib.hid hbb
          clear hb2 hbb hA2 ho2
          go_wp2_with fail
          refine HSW.out.mono ?_
          rintro e w3 ⟨rfl, q1, q2⟩
          have HREL := Lib.hid (HNX.out w3 q1 ((Fr.of_below HB2.out).trans q2))
          clear q1 q2 hms2
          go_wp2
          go_roundw
          case rel => exact ⟨2 * x + 1, by first | rfl | (congr 1), by omega, HREL.out⟩
          case measure => simp [intOf]; omega
        · have hdd : decide (a.getD (2 * x + 1) 0 < a.getD x 0) = false := decide_eq_false hfin
          have HFIN : Hid (∀ q w1, Below wr.heap.size wr w1 → DownRes B ab g c n a0 w (.returned (.bool q)) w1) := Lib.hid fun q w1 hw => ⟨⟨q, rfl⟩, a, HP.out, HLA.out, HD.out.stop2 (fun _ => by omega) (fun e => absurd e h2), HA.out.on hw, HF.out.trans (.of_below hw)⟩
          clear hfin 
          have HLS := Lib.hid (less_any HO.out (2 * x + 1) x (by omega) (by omega))
          rw [hdd] at HLS
          go_wp2_with fail
          refine HLS.out.mono ?_
          rintro e w2 ⟨rfl, hb2⟩
          have hbb := hb2
          have HEND : Hid (∀ q, DownRes B ab g c n a0 w (.returned (.bool q)) w2) := Lib.hid fun q => HFIN.out q w2 hbb
          clear hb2 hbb
          go_wp2
          all_goals (go_ret; exact HEND.out _)
    · have HFIN : Hid (∀ q, DownRes B ab g c n a0 w (.returned (.bool q)) wr) := Lib.hid fun q => ⟨⟨q, rfl⟩, a, hp, hlast, hd.stop2 (fun e => absurd e h1) (fun e => absurd e (by omega)), hA, hf⟩
      have hge : (2 * (x : Int) + 1 ≥ (n : Int)) := by omega
      clear hp hlast hd hA hf hal ho
      go_wp2
      all_goals (go_ret; exact HFIN.out _)
end Go.Proofs.Ythmnghngcbkjpaa
