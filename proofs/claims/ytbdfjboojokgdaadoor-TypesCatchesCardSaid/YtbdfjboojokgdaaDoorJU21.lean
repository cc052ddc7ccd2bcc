/- The contracts of types' layoutOf and Free (chapter 4). Condition: names are of at most 2^40 bytes, the type has at most 2^38 nodes. The contract of types.Free (chapter 4). Condition: names are of at most 2^40 bytes, the type has at most 2^38 nodes. -/
import Derived.Test.YtbdfjboojokgdaaDoorJU20
namespace Go.Proofs.YtbdfjboojokgdaaDoor
open Go.RowKit

def zeroG : ByteArray → Int := fun _ => 0
theorem MapG.new0 (w : World) : MapG (w.alloc (.map #[] 0)) w.heap.size zeroG 0 := ⟨0, _, MapS.made Tryd.prog 9 w, Nat.le_refl _, fun _ => .inl ⟨rfl, rfl⟩⟩
set_option maxRecDepth 100000 in
set_option maxHeartbeats 1000000 in
theorem layoutOf_any (P : Nat → Prop) (t : Ty) (v : Value) (w : World) (h : TyAt P w t v) (hsh : t.short) (hz : t.sz ≤ 274877906944) :
    Calls Tryd.prog 54 #[v] w fun e w' => e = .returned (.pointer (some ⟨w.heap.size + 1, 0, none⟩)) ∧ LaySt w.heap.size (w.heap.size + 1) (w.heap.size + 1 + 1) zeroG (0 + 2 * t.sz) (layV zeroG 0 t) (layE 0 t) w' ∧ Below w.heap.size w w' := by
  obtain ⟨f1, n1, s1, A1, l1, c1, rfl⟩ := h.flat
  obtain ⟨X, eX, hst, bX, zX⟩ : ∃ X, (((w.alloc (.cells #[.int .i64 f1, .int .i64 n1, .string s1, .slice A1 l1 c1] 25)).alloc (.cells #[.slice none 0 0, .slice none 0 0] 89)).alloc (.map #[] 0)) = X ∧ LaySt w.heap.size (w.heap.size + 1) (w.heap.size + 1 + 1) zeroG 0 [] [] X ∧ Below w.heap.size w X ∧ X.heap.size = w.heap.size + 3 := by
    refine ⟨_, rfl, ?_, below3 w _ _ _, by simp⟩
    obtain ⟨w1, e1⟩ : ∃ w1, w.alloc (.cells #[.int .i64 f1, .int .i64 n1, .string s1, .slice A1 l1 c1] 25) = w1 := ⟨_, rfl⟩
    have z1 : w1.heap.size = w.heap.size + 1 := by rw [← e1]; simp
    rw [e1, ← z1]
    have k2 := (MapKept.heap_alloc w1 (.cells #[.slice none 0 0, .slice none 0 0] 89)).1
    obtain ⟨w2, e2⟩ : ∃ w2, w1.alloc (.cells #[.slice none 0 0, .slice none 0 0] 89) = w2 := ⟨_, rfl⟩
    have z2 : w2.heap.size = w1.heap.size + 1 := by rw [← e2]; simp
    rw [e2] at k2 ⊢
    rw [← z2]
    have k3 := MapG.new0 w2
    have b3 := below_new w2 (.map #[] 0)
    exact ⟨⟨by omega, by omega⟩, k3, .slice none 0 0, .slice none 0 0, (b3.block _ (by omega)).trans k2, World.ownsRow_nil _ _ _ _, OwnI.nil _ _⟩
  have HC := Lib.hid (addIs w.heap.size (w.heap.size + 1) (w.heap.size + 1 + 1) _ t _ zeroG 0 0 [] [] X (Nat.le_refl _) (h.bound'.on bX) hsh hst (by omega) (by omega) (by simp; omega) (by simp; omega) (by omega) (by omega))
  have HM := Lib.hid (fun k (hk : LayM (w.heap.size + 1) (w.heap.size + 1 + 1) X k) => (hst.lt hk).1)
  have HEX := Lib.hid eX
  have HB := Lib.hid bX
  have hmm : ∀ y : World, (Instr.makeMap 105 none).run Tryd.prog y = .ok (.map (some y.heap.size)) (y.alloc (.map #[] 0)) := fun y => run_makeMap 105 y
  clear eX hst h bX
  go_enter Tryd.func54, Tryd.ntmps54
  go_wp2_with fail
  rw [HEX.out]
  (with_reducible refine HC.out.mono ?_)
  rintro e y ⟨rfl, hs, hf⟩
  have HS := Lib.hid hs
  have HBY := Lib.hid (HB.out.trans (hf.below (by omega) HM.out))
  clear hs hf
  go_wp2
  go_ret
  exact ⟨rfl, by simpa using HS.out, HBY.out⟩
/-- What is known of which texts were met. -/
def KnowsS (w : World) (mb : Nat) (zs : List ByteArray) : Prop := ∃ sz f, MapS Tryd.prog 9 w mb sz f ∧ sz ≤ zs.length ∧ ∀ x, f x = if hasB zs x = true then some (.bool true) else none
theorem KnowsS.block {w w' : World} {mb : Nat} {zs : List ByteArray} (h : KnowsS w mb zs) (hb : w'.heap[mb]? = w.heap[mb]?) : KnowsS w' mb zs := by
  obtain ⟨sz, f, h, r⟩ := h; exact ⟨sz, f, h.block hb, r⟩
theorem KnowsS.lt {w : World} {mb : Nat} {zs : List ByteArray} (h : KnowsS w mb zs) : mb < w.heap.size := by obtain ⟨sz, f, h, r⟩ := h; exact h.lt
theorem KnowsS.notCells {w : World} {mb : Nat} {zs : List ByteArray} (h : KnowsS w mb zs) {cs : Array Value} {t : TypeId} {b : Nat} (hb : w.heap[b]? = some (.cells cs t)) : b ≠ mb := fun e => by
  subst e
  obtain ⟨sz, f, ⟨D, ⟨es, clock, hb', _⟩, _⟩, _⟩ := h
  rw [hb] at hb'; cases hb'
theorem KnowsS.look {w : World} {mb : Nat} {zs : List ByteArray} (h : KnowsS w mb zs) {x : ByteArray} (hx : x.size ≤ 1099511627776) : (Instr.lookup 86 (.map (some mb)) (.string x) false).run Tryd.prog w = .ok (.bool (hasB zs x)) w := by
  obtain ⟨sz, f, h, _, hf⟩ := h
  have h9 := h.look (t := 86) (e := 4) Tryd.underlying9 Tryd.underlying86 zero4 (x := x) (by unfold maxLen; omega)
  rw [h9, hf x]
  cases hasB zs x <;> rfl
theorem hasB_snoc (zs : List ByteArray) (x y : ByteArray) : hasB (zs ++ [x]) y = (hasB zs y || decide (x = y)) := by simp [hasB]
theorem KnowsS.store {w : World} {mb : Nat} {zs : List ByteArray} (h : KnowsS w mb zs) {x : ByteArray} (hx : x.size ≤ 1099511627776) (hl : zs.length ≤ 1099511627776) (hn : hasB zs x = false) :
    ∃ w', (Instr.mapUpdate 86 (.map (some mb)) (.string x) (.bool true)).run Tryd.prog w = .ok () w' ∧ KnowsS w' mb (zs ++ [x]) ∧ w.grownBy w' (some mb) := by
  obtain ⟨sz, f, h, hs, hf⟩ := h
  obtain ⟨w', r1, r2, r3⟩ := h.store (t := 86) (e := 4) Tryd.underlying9 Tryd.underlying86 (by unfold maxLen; omega) (.bool true) (x := x) (by unfold maxLen; omega)
  refine ⟨w', r1, ⟨_, _, r2, ?_, fun y => ?_⟩, r3⟩
  · rw [List.length_append]; simp; split <;> omega
  · unfold setS
    rw [hasB_snoc]
    by_cases e : y = x
    · subst e; simp
    · rw [if_neg e, hf y]; simp [Ne.symm e]
theorem spot_at (vs : List (ByteArray × Int)) : ∀ (k : Nat) (h : k < vs.length), (spotCells vs)[k * 2]? = some (.string vs[k].1) ∧ (spotCells vs)[k * 2 + 1]? = some (.int .i64 vs[k].2) := by
  induction vs with
  | nil => intro k h; exact absurd h (Nat.not_lt_zero _)
  | cons p r ih =>
    intro k h
    have e : spotCells (p :: r) = spotC p ++ spotCells r := by simp [spotCells]
    rw [e]
    cases k with
    | zero => exact ⟨rfl, rfl⟩
    | succ k =>
      have h1 := ih k (by simpa using h)
      have hl : (spotC p).length = 2 := rfl
      rw [List.getElem?_append_right (by rw [hl]; omega), List.getElem?_append_right (by rw [hl]; omega), hl, show (k + 1) * 2 - 2 = k * 2 by omega, show (k + 1) * 2 + 1 - 2 = k * 2 + 1 by omega]
      exact h1
theorem OwnV.at {base : Nat} {w : World} {A : Option Addr} {n c : Nat} {vs : List (ByteArray × Int)} (h : OwnV base w (.slice A n c) vs) (k : Nat) (hk : k < vs.length) : ∃ g, A = some ⟨g, 0, none⟩ ∧ g < w.heap.size ∧ w.cell? ⟨g, k * 2, none⟩ = some (.string vs[k].1) ∧ w.cell? ⟨g, k * 2 + 1, none⟩ = some (.int .i64 vs[k].2) := by
  obtain ⟨g, cap, e, _, hg⟩ := World.ownsRow.form h (by omega)
  injection e with e1 e2 e3
  subst e1 e2
  have hs := spot_at vs k hk
  exact ⟨g, rfl, hg, by rw [World.ownsRow.cellAt h _ (by omega)]; exact hs.1, by rw [World.ownsRow.cellAt h _ (by omega)]; exact hs.2⟩
theorem layV_short (g : ByteArray → Int) (d : Int) (t : Ty) (h : t.short) : ∀ p ∈ layV g d t, p.1.size ≤ 1099511627776 := by
  induction t generalizing g d with
  | hole n => intro p hp; simp [layV] at hp
  | con s => intro p hp; simp [layV] at hp
  | var s => intro p hp; simp [layV] at hp; subst hp; exact h
  | app a b iha ihb =>
    intro p hp
    simp only [layV, List.mem_append] at hp
    rcases hp with hp | hp
    · exact iha _ _ h.1 p hp
    · exact ihb _ _ h.2 p hp
  | all s a ih => intro p hp; exact ih _ _ h.2 p hp
end Go.Proofs.YtbdfjboojokgdaaDoor
namespace Go.Proofs.YtbdfjboojokgdaaDoor
open Go.RowKit

theorem freeS_one {out : List ByteArray} {p : ByteArray × Int} (h1 : p.2 = 0) (h2 : hasB out p.1 = false) : freeS out p = out ++ [p.1] := by unfold freeS; rw [if_pos ⟨h1, h2⟩]
theorem freeS_no {out : List ByteArray} {p : ByteArray × Int} (h : p.2 ≠ 0 ∨ hasB out p.1 = true) : freeS out p = out := by
  unfold freeS; rw [if_neg]; rintro ⟨h1, h2⟩; rcases h with h | h
  · exact h h1
  · rw [h2] at h; cases h
theorem own_lower {w : World} {base b2 : Nat} {e : TypeId} {size : Nat} {v : Value} {n : Nat} {xs : List Value} (h : w.ownsRow base e size v n xs) (hb : b2 ≤ base) : w.ownsRow b2 e size v n xs := by
  refine ⟨h.1, ?_⟩
  rcases h.2 with h2 | ⟨g, cap, cur, h1, h2, h3⟩
  · exact .inl h2
  · exact .inr ⟨g, cap, cur, h1, by omega, h3⟩
/-- What the loop of Free knows. -/
structure FreeSt (base mb : Nat) (Y : World) (out : List ByteArray) (o : Value) (wr : World) : Prop where
  own : OwnS base wr o out
  knows : KnowsS wr mb out
  fr : Fr (fun b => b = mb) Y wr
theorem FreeSt.below {base mb : Nat} {Y wr w' : World} {out : List ByteArray} {o : Value} (h : FreeSt base mb Y out o wr) (hb : Below wr.heap.size wr w') : FreeSt base mb Y out o w' :=
  ⟨own_below h.own hb, h.knows.block (hb.block mb h.knows.lt), h.fr.trans (.of_below hb)⟩
set_option maxRecDepth 100000 in
set_option maxHeartbeats 1000000 in
theorem free_any (P : Nat → Prop) (t : Ty) (v : Value) (w : World) (h : TyAt P w t v) (hsh : t.short) (hz : t.sz ≤ 274877906944) :
    Calls Tryd.prog 14 #[v] w fun e w' => (∃ u, e = .returned u ∧ OwnS w.heap.size w' u t.free) ∧ Below w.heap.size w w' := by
  obtain ⟨f1, n1, s1, A1, l1, c1, rfl⟩ := h.flat
  obtain ⟨X, eX, hkn, bX, zX⟩ : ∃ X, ((w.alloc (.cells #[.int .i64 f1, .int .i64 n1, .string s1, .slice A1 l1 c1] 25)).alloc (.map #[] 0)) = X ∧ KnowsS X (w.heap.size + 1) [] ∧ Below w.heap.size w X ∧ X.heap.size = w.heap.size + 2 := by
    refine ⟨_, rfl, ?_, below2 w _ _, by simp⟩
    obtain ⟨w1, e1⟩ : ∃ w1, w.alloc (.cells #[.int .i64 f1, .int .i64 n1, .string s1, .slice A1 l1 c1] 25) = w1 := ⟨_, rfl⟩
    have z1 : w1.heap.size = w.heap.size + 1 := by rw [← e1]; simp
    rw [e1, ← z1]
    exact ⟨0, _, MapS.made Tryd.prog 9 w1, Nat.le_refl _, fun x => rfl⟩
  have HC := Lib.hid (layoutOf_any _ t _ X (h.bound'.on bX) hsh hz)
  have hvl := layV_len zeroG 0 t
  have hvz := vars_le t
  have hvle : (layV zeroG 0 t).length ≤ 274877906944 := by omega
  clear hvl hvz
  have HSHV := Lib.hid (layV_short zeroG 0 t hsh)
  have HF : Hid (t.free = freeL (layV zeroG 0 t)) := rfl
  obtain ⟨i0, hi, hz0, hzs, hzb⟩ := info_parts' Tryd.info9
  have HEX := Lib.hid eX
  have HB := Lib.hid bX
  have HKN := Lib.hid hkn
  have hmm : ∀ y : World, (Instr.makeMap 86 none).run Tryd.prog y = .ok (.map (some y.heap.size)) (y.alloc (.map #[] 0)) := fun y => run_makeMap 86 y
  have HZX := Lib.hid zX
  have hzX : w.heap.size + 1 < X.heap.size := by omega
  clear eX hkn h bX hsh zX
  generalize layV zeroG 0 t = vs at *
  rw [HF.out]
  go_enter Tryd.func14, Tryd.ntmps14
  go_wp2_with fail
  rw [HEX.out]
  go_wp2_with fail
  (with_reducible refine HC.out.mono ?_)
  rintro e Y ⟨rfl, hs, hb⟩
  obtain ⟨v1, v2, hl, ho1, ho2⟩ := hs.hl
  obtain ⟨Av, cv, rfl⟩ := own_form ho1
  obtain ⟨p0, p1, p2, p3, p4⟩ := two_cells hl
  have HO1 := Lib.hid ho1
  have HY := Lib.hid hb
  have hYs := hb.size
  have HST : Hid (FreeSt Y.heap.size (w.heap.size + 1) Y [] (.slice none 0 0) Y) := ⟨OwnS.nil _ _, HKN.out.block (hb.block _ hzX), Fr.refl _ _⟩
  have HNE : Hid (∀ g, (Value.slice Av vs.length cv).ownBlock = some g → g ≠ w.heap.size + 1) := fun g hg e => by have := (World.ownsRow.lt ho1 g hg).1; omega
  clear hs hb hl ho1 ho2 HC
  go_wp2_with fail
  go_loopw [14, 3] (fun i o wr => ∃ k : Nat, k ≤ vs.length ∧ i = .int .i64 k ∧ FreeSt Y.heap.size (w.heap.size + 1) Y (freeL (vs.take k)) o wr) (fun i _ _ => vs.length - (intOf i).toNat)
  case atStart => exact ⟨0, Nat.zero_le _, rfl, by simpa [freeL] using HST.out⟩
  case round =>
    obtain ⟨k, hk, rfl, hst⟩ := hrel
    obtain ⟨A5, c5, rfl⟩ := own_form hst.own
    have HSTK := Lib.hid hst
    have hzr := hst.fr.size
    by_cases hlt : k < vs.length
    · have hov : OwnV X.heap.size wr (.slice Av vs.length cv) vs := own_keep HO1.out (fun g hg => hst.fr.block g (World.ownsRow.lt HO1.out g hg).2 (HNE.out g hg))
      obtain ⟨g, e1, hg, m0, m1⟩ := hov.at k hlt
      subst e1
      have hki : (k : Int) < (vs.length : Int) := by omega
      have hk0 : (0 : Int) ≤ (k : Int) := by omega
      have hsz : (vs[k]).1.size ≤ 1099511627776 := HSHV.out _ (List.getElem_mem hlt)
      have hfl := freeL_len (vs.take k)
      have htl : (vs.take k).length ≤ k := List.length_take_le _ _
      obtain ⟨V, eV, bV, zV, q⟩ : ∃ V, wr.alloc (.cells #[.string vs[k].1, .int .i64 vs[k].2] 93) = V ∧ Below wr.heap.size wr V ∧ V.heap.size = wr.heap.size + 1 ∧ V.heap[wr.heap.size]? = some (.cells #[.string vs[k].1, .int .i64 vs[k].2] 93) := ⟨_, rfl, below_new _ _, by simp, (MapKept.heap_alloc _ _).1⟩
      have hsV := hst.below bV
      have hlk := hsV.knows.look hsz
      have HTK := Lib.hid (freeL_take hlt)
      have HEV := Lib.hid eV
      have HSV := Lib.hid hsV
      obtain ⟨u0, u1, u2, u3, u4⟩ := two_cells q
      have HZV := Lib.hid zV
      clear eV hst hov hsV zV
      by_cases hd : (vs[k]).2 = 0
      · cases hh : hasB (freeL (vs.take k)) (vs[k]).1 with
        | true =>
          rw [hh] at hlk
          have HR : Hid (freeL (vs.take (k + 1)) = freeL (vs.take k)) := by show _ = _; rw [HTK.out, freeS_no (.inr hh)]
          clear hh
          rw [hd] at u1 HEV m1
          generalize (vs[k]).1 = sn at *
          clear hd
          go_upto_region 6 with (fail)
          rw [HEV.out]
          go_wp2
          go_roundw
          case rel => exact ⟨k + 1, by omega, by go_num, by rw [HR.out]; exact HSV.out⟩
          case measure => simp [intOf]; omega
        | false =>
          rw [hh] at hlk
          have HR : Hid (freeL (vs.take (k + 1)) = freeL (vs.take k) ++ [(vs[k]).1]) := by show _ = _; rw [HTK.out, freeS_one hd hh]
          obtain ⟨w1, hr1, hk1, hg1⟩ := HSV.out.knows.store hsz (by omega) hh
          have hz1 := hg1.size
          have hmbV := HSV.out.knows.lt
          have hnm : wr.heap.size ≠ w.heap.size + 1 := by omega
          have q1 := (hg1.block wr.heap.size (by rw [HZV.out]; omega) (fun e => by injection e with e; exact hnm e)).trans q
          obtain ⟨y0, y1, y2, y3, y4⟩ := two_cells q1
          have hown1 : OwnS Y.heap.size w1 (.slice A5 (freeL (vs.take k)).length c5) (freeL (vs.take k)) := own_keep HSV.out.own (fun g hg => hg1.block g (World.ownsRow.lt HSV.out.own g hg).2 (fun e => by
            injection e with e
            have := (World.ownsRow.lt HSV.out.own g hg).1; omega))
          have HOWN := Lib.hid (own_below hown1 (below_new w1 (.cells #[.string vs[k].1] 9)))
          have HNEW := Lib.hid (news_one w1 (.string vs[k].1) 9)
          have HONE := Lib.hid (one_str vs[k].1)
          have HST : Hid (∀ (w2 : World) (gg cap : Nat), w2.ownsRow Y.heap.size 9 1 (.slice (some ⟨gg, 0, none⟩) ((freeL (vs.take k)).length + 1) cap) ((freeL (vs.take k)).length + 1) ((freeL (vs.take k)).map Value.string ++ [.string vs[k].1]) → (w1.alloc (.cells #[.string vs[k].1] 9)).grownBy w2 (Value.slice A5 (freeL (vs.take k)).length c5).ownBlock →
              FreeSt Y.heap.size (w.heap.size + 1) Y (freeL (vs.take k) ++ [vs[k].1]) (.slice (some ⟨gg, 0, none⟩) ((freeL (vs.take k)).length + 1) cap) w2) := fun w2 gg cap h2 g2 => by
            have hlo : ∀ j, (Value.slice A5 (freeL (vs.take k)).length c5).ownBlock = some j → Y.heap.size ≤ j := fun j hj => (World.ownsRow.lt HSV.out.own j hj).1
            have hz2 := g2.size
            simp only [World.size_alloc] at hz2
            refine ⟨?_, ?_, ?_⟩
            · unfold OwnS; rw [List.map_append, List.length_append]; exact h2
            · exact hk1.block ((g2.block _ (by simp; omega) (fun e => by have := hlo _ e.symm; omega)).trans ((below_new w1 _).block _ (by omega)))
            · have hfv := HSV.out.fr
              have hsv := hfv.size
              exact ⟨g2.os.trans (hg1.os.trans hfv.os), g2.tape.trans (hg1.tape.trans hfv.tape), g2.output.trans (hg1.output.trans hfv.output), by omega, fun j hj hn => ((((g2.block j (by simp; omega) (fun e => by have := hlo _ e.symm; omega)).trans ((below_new w1 _).block _ (by omega))).trans (hg1.block j (by omega) (fun e => by injection e with e; exact hn e))).trans (hfv.block j hj hn))⟩
          have hbw1 : Y.heap.size ≤ w1.heap.size := by omega
          have hfl2 : (freeL (vs.take k)).length ≤ 274877906944 := by omega
          clear hown1 hk1 hg1 q1 hh hfl htl q
          rw [hd] at u1 HEV m1 y1
          generalize (freeL (vs.take k)).map Value.string = mv at *
          generalize (freeL (vs.take k)).length = ml at *
          generalize (vs[k]).1 = sn at *
          clear hd
          go_upto_region 6 with (fail)
          rw [HEV.out]
          go_wp2_with (at_builtin; refine wpList_append_lies _ rfl (.tmp 31) (.tmp 34) 28 rfl Y.heap.size 9 i0 (.string ⟨#[]⟩) 1 16 Tryd.underlying28 hi hz0 hzs hzb rfl (by decide) (.slice A5 ml c5) ml mv rfl HOWN.out ⟨w1.heap.size, 0, none⟩ 1 1 [.string sn] rfl rfl HNEW.out HONE.out (by omega) (by unfold maxLen; omega) (by omega) (by simp; omega) (w1.heap.size + 1) (by simp) ?_; intro gg cap w2 h2 g2 _ _; have HP := Lib.hid (HST.out w2 gg cap h2 g2); clear h2 g2)
          go_roundw
          case rel => exact ⟨k + 1, by omega, by go_num, by rw [HR.out]; exact HP.out⟩
          case measure => simp [intOf]; omega
      · have HR : Hid (freeL (vs.take (k + 1)) = freeL (vs.take k)) := by show _ = _; rw [HTK.out, freeS_no (.inl hd)]
        have hdd : ((vs[k]).2 == 0) = false := by simpa using hd
        generalize (vs[k]).1 = sn at *
        generalize (vs[k]).2 = dn at *
        go_upto_region 6 with (fail)
        rw [HEV.out]
        go_wp2
        go_roundw
        case rel => exact ⟨k + 1, by omega, by go_num, by rw [HR.out]; exact HSV.out⟩
        case measure => simp [intOf]; omega
    · have hdk : decide (k < vs.length) = false := by simpa using hlt
      have hkl : vs.take k = vs := List.take_of_length_le (by omega)
      rw [hkl] at HSTK
      have HRES : Hid ((∃ u, Ending.returned (.slice A5 (freeL (vs.take k)).length c5) = .returned u ∧ OwnS w.heap.size wr u (freeL vs)) ∧ Below w.heap.size w wr) := by
        have hb1 : Below w.heap.size w Y := HB.out.trans (HY.out.mono HB.out.size)
        refine ⟨⟨_, rfl, ?_⟩, hb1.trans (Fr.below hst.fr (by omega) (fun j hj => by omega))⟩
        have h9 := HSTK.out.own
        rw [hkl]
        exact own_lower h9 (by omega)
      clear hkl hst
      go_wp2
      go_ret
      exact HRES.out
end Go.Proofs.YtbdfjboojokgdaaDoor
