/- The contract of types' (*subst).letter (chapter 4): the first letter that is free neither in the body nor in what is put there. Conditions: the library's table of powers of ten reads as the program's text lays it; at most 2^40 names. -/
import Derived.Test.YtbdfjboojokgdaaDoorJU29
namespace Go.Proofs.YtbdfjboojokgdaaDoor
open Go.RowKit

theorem fresh_is {a : Ty} {τ : List (ByteArray × Ty)} {k : Nat} (h1 : ∀ j, j < k → hasB (takenB τ ++ a.free) (letB j) = true) (h2 : hasB (takenB τ ++ a.free) (letB k) = false) : freshB a τ = letB k := by
  obtain ⟨n, hn, hq⟩ := letter_ex (fun x => hasB (takenB τ ++ a.free) x) (takenB τ ++ a.free) (fun s hs => hasB_mem.1 hs)
  have hk : k ≤ n := by
    apply Classical.byContradiction
    intro h9
    have := h1 n (by omega)
    simp only [this] at hq
    cases hq
  have e := letN_is (fun x => hasB (takenB τ ++ a.free) x) (takenB τ ++ a.free).length 0 k (Nat.zero_le _) (by omega) h2 (fun j _ h => h1 j h)
  unfold freshB
  rw [e]
theorem hasB_app (l m : List ByteArray) (x : ByteArray) : hasB (l ++ m) x = (hasB l x || hasB m x) := by simp [hasB, List.any_append]
theorem taken_snoc {l : List PutI} {k : Nat} (h : k < l.length) : takenB ((l.take (k + 1)).map (·.2)) = takenB ((l.take k).map (·.2)) ++ l[k].2.2.free := by
  rw [List.take_succ_eq_append_getElem h, List.map_append]; unfold takenB; rw [List.flatMap_append]
  simp only [List.map_cons, List.map_nil, List.flatMap_cons, List.flatMap_nil, List.append_nil]
theorem taken_len_le {l : List PutI} (k : Nat) : (takenB ((l.take k).map (·.2))).length ≤ (takenB (l.map (·.2))).length := by
  have : takenB (l.map (·.2)) = takenB ((l.take k).map (·.2)) ++ takenB ((l.drop k).map (·.2)) := by
    unfold takenB
    rw [← List.flatMap_append, ← List.map_append, List.take_append_drop]
  rw [this, List.length_append]; omega
theorem letB_size20 (n : Nat) (h : n < 4611686018427387904) : (letB n).size ≤ 20 := by
  have := letters_len n h
  show (lettersL n).toArray.size ≤ _
  simpa using this
theorem KnowsF.made (w : World) : KnowsF (w.alloc (.map #[] 0)) w.heap.size (fun x => hasB (takenB []) x) 0 := ⟨0, _, MapS.made Tryd.prog 9 w, Nat.le_refl _, fun x => by simp [hasB, takenB]⟩
theorem KnowsF.look {w : World} {mb : Nat} {q : ByteArray → Bool} {N : Nat} (h : KnowsF w mb q N) {x : ByteArray} (hx : x.size ≤ 1099511627776) : (Instr.lookup 86 (.map (some mb)) (.string x) false).run Tryd.prog w = .ok (.bool (q x)) w := by
  obtain ⟨sz, f, h, _, hf⟩ := h
  have h9 := h.look (t := 86) (e := 4) Tryd.underlying9 Tryd.underlying86 zero4 (x := x) (by unfold maxLen; omega)
  rw [h9, hf x]
  cases q x <;> rfl
theorem KnowsF.block {w w' : World} {mb : Nat} {q : ByteArray → Bool} {N : Nat} (h : KnowsF w mb q N) (hb : w'.heap[mb]? = w.heap[mb]?) : KnowsF w' mb q N := by
  obtain ⟨sz, f, h, r⟩ := h; exact ⟨sz, f, h.block hb, r⟩
/-- How many there are at most, and that among so many letters one is free. -/
theorem KnowsF.len {w : World} {mb : Nat} {q : ByteArray → Bool} {N : Nat} (h : KnowsF w mb q N) : ∃ sz : Nat, (∀ ty, (Builtin.len_ #[86] ty #[.map (some mb)]).run Tryd.prog w = .ok (.int .i64 sz) w) ∧ sz ≤ N ∧ ∃ ks : List ByteArray, ks.length = sz ∧ ∀ x, q x = true → x ∈ ks := by
  obtain ⟨sz, f, h, hs, hf⟩ := h
  obtain ⟨ks, _, hl, hk⟩ := h.keys
  exact ⟨sz, fun ty => h.len (t := 86) (e := 4) Tryd.underlying86 ty, hs, ks, hl, fun x hx => (hk x).2 (by rw [hf x, if_pos hx]; simp)⟩
theorem PlacesAt.len {B pb : Nat} {vs : List (ByteArray × Int)} {w : World} (h : PlacesAt B pb vs.length vs w) : ∃ sz : Nat, (∀ ty, (Builtin.len_ #[115] ty #[.map (some pb)]).run Tryd.prog w = .ok (.int .i64 sz) w) ∧ sz ≤ vs.length ∧ ∃ ks : List ByteArray, ks.length = sz ∧ ∀ n m d x, freeQ vs n m d x = true → x ∈ ks := by
  obtain ⟨sz, F, h, hs, h1, _, _⟩ := h
  obtain ⟨ks, _, hl, hk⟩ := h.keys
  refine ⟨sz, fun ty => h.len (t := 115) (e := 22) Tryd.underlying115 ty, hs, ks, hl, fun n m d x hx => (hk x).2 (fun h9 => ?_)⟩
  obtain ⟨i, hi, _, _, h3, _⟩ := freeQ_iff.1 hx
  obtain ⟨k, hkk, _⟩ := posK_of hi h3
  rw [h1 x h9] at hkk
  simp at hkk
set_option maxRecDepth 100000 in
set_option maxHeartbeats 2000000 in
theorem letter_any {B sb lb pb ub : Nat} {vs : List (ByteArray × Int)} {es : List Int} {P : ByteArray → Option Ty} {N n m : Nat} {op dp : Int} {w : World} {v : Value} {l : List PutI} {a : Ty} (h : SbSt B sb lb pb ub vs es P N n op dp w) (hi : IntoAt B ub w v l) (hv : vs.length ≤ 1099511627776) (hl : l.length ≤ 1048576) (ht : (takenB (l.map (·.2))).length ≤ 1048576) (htab : TabW w) (hfr : ∀ x, freeQ vs n m dp x = hasB a.free x) :
    Calls Tryd.prog 141 #[.pointer (some ⟨sb, 0, none⟩), .int .i64 m, v] w fun e w' => e = .returned (.string (freshB a (l.map (·.2)))) ∧ Below w.heap.size w w' := by
  obtain ⟨W, eW, hk0, bW, zW⟩ : ∃ W, w.alloc (.map #[] 0) = W ∧ KnowsF W w.heap.size (fun x => hasB (takenB []) x) 0 ∧ Below w.heap.size w W ∧ W.heap.size = w.heap.size + 1 := ⟨_, rfl, KnowsF.made w, below_new w _, by simp⟩
  obtain ⟨A, c, rfl⟩ := own_form hi.1
  have HI := Lib.hid hi
  have HS := Lib.hid h
  have HT := Lib.hid htab
  have HEW := Lib.hid eW
  have HK0 := Lib.hid hk0
  have HBW := Lib.hid bW
  have HZW := Lib.hid zW
  have HFR := Lib.hid hfr
  have hcell := h.cell
  have hpos : (0 : Nat) < w.heap.size := by have := lt_of_block hcell; omega
  clear h hi eW hk0 bW zW hfr
  have hmm : ∀ y : World, (Instr.makeMap 86 none).run Tryd.prog y = .ok (.map (some y.heap.size)) (y.alloc (.map #[] 0)) := fun y => run_makeMap 86 y
  go_enter Tryd.func141, Tryd.ntmps141
  go_upto_region 3 with (fail)
  rw [HEW.out]
  go_loopw [16] (fun i wr => ∃ k : Nat, k ≤ l.length ∧ i = .int .i64 k ∧ KnowsF wr w.heap.size (fun x => hasB (takenB ((l.take k).map (·.2))) x) (takenB ((l.take k).map (·.2))).length ∧ Below w.heap.size w wr) (fun i _ => l.length - (intOf i).toNat)
  case atStart => exact ⟨0, Nat.zero_le _, rfl, HK0.out, HBW.out⟩
  case round =>
    obtain ⟨k, hk, rfl, hkn, hb⟩ := hrel
    have HKN := Lib.hid hkn
    have HB := Lib.hid hb
    have htl := taken_len_le (l := l) k
    by_cases hlt : k < l.length
    · obtain ⟨g, rfl, hg, hc⟩ := row_at HI.out.1 hlt
      obtain ⟨hsz, f, n', m', A', l', c', mb, h1, _, h3, _⟩ := HI.out.2 l[k] (List.getElem_mem hlt)
      have hki : (k : Int) < (l.length : Int) := by omega
      have hk0 : (0 : Int) ≤ (k : Int) := by omega
      have e0 := (hb.cell (p := ⟨g, k, none⟩) hg).trans hc
      have e5 : wr.cell? ⟨l[k].1, 5, none⟩ = some (.map (some mb)) := by
        have := (hb.block _ (lt_of_block h1)).trans h1
        simp [World.cell?, this]
      have hsn := taken_snoc hlt
      have htl2 := taken_len_le (l := l) (k + 1)
      rw [hsn, List.length_append] at htl2
      have HC := Lib.hid (copy_any hkn (h3.block (hb.block mb h3.lt)) (by have := h3.lt; omega) (by omega))
      have HSN := Lib.hid hsn
      unfold ptrV at e0
      clear hc h1 h3 hkn hb hsn
      go_wp2_with fail
      (with_reducible refine HC.out.mono ?_)
      rintro e y ⟨rfl, hky, hgy⟩
      have HKY : Hid (KnowsF y w.heap.size (fun x => hasB (takenB ((l.take (k + 1)).map (·.2))) x) (takenB ((l.take (k + 1)).map (·.2))).length) := by
        rw [HSN.out]
        exact hky.congr (fun x => (hasB_app _ _ x).symm) (by rw [List.length_append]; omega)
      have HBY := Lib.hid (HB.out.grown hgy HB.out.size (fun j e => by injection e with e; omega))
      clear hky hgy e0 e5
      go_wp2
      go_roundw
      case rel => exact ⟨k + 1, by omega, by go_num, HKY.out, HBY.out⟩
      case measure => simp [intOf]; omega
    · obtain rfl : k = l.length := by omega
      rw [List.take_length] at HKN hkn htl
      have hst := HS.out.on hb
      obtain ⟨szt, hl1, hs1, kt, hk1, hk2⟩ := hkn.len
      obtain ⟨szp, hl2, hs2, kp, hk3, hk4⟩ := hst.pl.len
      have hcw := hst.cell
      have c1 : wr.cell? ⟨sb, 1, none⟩ = some (.map (some pb)) := by simp [World.cell?, hcw]
      have hex := letter_ex (fun x => hasB (takenB (l.map (·.2)) ++ a.free) x) (kp ++ kt) (fun s hs => by
        simp only [hasB_app, Bool.or_eq_true] at hs
        rcases hs with hs | hs
        · exact List.mem_append_right _ (hk2 s hs)
        · exact List.mem_append_left _ (hk4 n m dp s (by rw [HFR.out s]; exact hs)))
      rw [List.length_append, hk1, hk3] at hex
      have HEX := Lib.hid hex
      have HFI := Lib.hid (fun k => fresh_is (a := a) (τ := l.map (·.2)) (k := k))
      have HST := Lib.hid hst
      have hM : szp + szt ≤ 2199023255552 := by omega
      obtain ⟨X, rfl⟩ : ∃ X, X = wr := ⟨_, rfl⟩
      have HTX := Lib.hid (HT.out.on hb)
      clear hkn hb hex hst hk1 hk2 hk3 hk4 hs1 hs2
      generalize takenB (l.map (·.2)) = tk at *
      generalize a.free = af at *
      go_wp2
      go_loopw [36] (fun i wr => ∃ k : Nat, k ≤ szp + szt ∧ i = .int .i64 k ∧ Below X.heap.size X wr ∧ ∀ j, j < k → hasB (tk ++ af) (letB j) = true) (fun i _ => szp + szt - (intOf i).toNat)
      case atStart => exact ⟨0, Nat.zero_le _, rfl, Below.refl _ _, fun j hj => absurd hj (Nat.not_lt_zero _)⟩
      case round =>
        obtain ⟨k, hk, rfl, hb, hall⟩ := hrel
        have HBK := Lib.hid hb
        have HALL := Lib.hid hall
        have HLK := Lib.hid (letters_any k (by omega) wr (HTX.out.on hb))
        have hzk := letB_size20 k (by omega)
        by_cases hlt2 : k < szp + szt
        · have hki : (k : Int) < (szp : Int) + (szt : Int) := by omega
          clear hb hall
          go_wp2_with fail
          (with_reducible refine HLK.out.mono ?_)
          rintro e y ⟨rfl, hby⟩
          have hXy := HBK.out.trans (hby.mono HBK.out.size)
          have HXY := Lib.hid hXy
          have hlook := (HKN.out.block (hXy.block _ HKN.out.lt)).look (x := letB k) (by omega)
          have HF := Lib.hid (freeC_any (m := m) (HST.out.on hXy) (letB k) (by omega) hv)
          rw [HFR.out] at HF
          have hqa := hasB_app tk af (letB k)
          clear hby hXy
          cases h1 : hasB tk (letB k) with
          | true =>
            rw [h1] at hlook
            have HN : Hid (hasB (tk ++ af) (letB k) = true) := by rw [hqa, h1]; exact rfl
            clear hqa h1
            go_wp2
            go_roundw
            case rel => exact ⟨k + 1, by omega, by go_num, HXY.out, fun j hj => by
              by_cases e : j = k
              · subst e; exact HN.out
              · exact HALL.out j (by omega)⟩
            case measure => simp [intOf]; omega
          | false =>
            rw [h1] at hlook hqa
            simp only [Bool.false_or] at hqa
            have HQA := Lib.hid hqa
            clear hqa h1
            go_wp2_with fail
            (with_reducible refine HF.out.mono ?_)
            rintro e y2 ⟨rfl, hb2⟩
            have HB2 := Lib.hid (HXY.out.trans (hb2.mono HXY.out.size))
            clear hb2 hlook
            cases h2 : hasB af (letB k) with
            | true =>
              have HN : Hid (hasB (tk ++ af) (letB k) = true) := HQA.out.trans h2
              clear h2
              go_wp2
              go_roundw
              case rel => exact ⟨k + 1, by omega, by go_num, HB2.out, fun j hj => by
                by_cases e : j = k
                · subst e; exact HN.out
                · exact HALL.out j (by omega)⟩
              case measure => simp [intOf]; omega
            | false =>
              have HN : Hid (freshB a (l.map (·.2)) = letB k) := HFI.out k HALL.out (HQA.out.trans h2)
              clear h2
              go_wp2
              go_ret
              exact ⟨by rw [HN.out]; rfl, HB.out.trans (HB2.out.mono HB.out.size)⟩
        · obtain rfl : k = szp + szt := by omega
          have hki : ¬ ((szp + szt : Nat) : Int) < (szp : Int) + (szt : Int) := by omega
          have HE : Hid (freshB a (l.map (·.2)) = letB (szp + szt)) := by
            obtain ⟨n0, hn, hq⟩ := HEX.out
            have : n0 = szp + szt := by
              apply Classical.byContradiction
              intro h9
              have := hall n0 (by omega)
              rw [this] at hq
              cases hq
            subst this
            exact HFI.out _ hall hq
          have HLM := Lib.hid (letters_any (szp + szt) (by omega) wr (HTX.out.on hb))
          rw [show (((szp + szt : Nat)) : Int) = (szp : Int) + (szt : Int) by omega] at HLM
          clear hb hall
          go_wp2_with fail
          (with_reducible refine HLM.out.mono ?_)
          rintro e y ⟨rfl, hby⟩
          have HB2 := Lib.hid (HBK.out.trans (hby.mono HBK.out.size))
          clear hby
          go_wp2
          go_ret
          exact ⟨by rw [HE.out]; rfl, HB.out.trans (HB2.out.mono HB.out.size)⟩
end Go.Proofs.YtbdfjboojokgdaaDoor
