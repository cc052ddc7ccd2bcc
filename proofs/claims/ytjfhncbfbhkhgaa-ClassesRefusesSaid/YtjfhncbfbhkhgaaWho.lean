/- The document's Whole. Conditions: those that each theorem names. -/
import Derived.Test.YtjfhncbfbhkhgaaPik
namespace Go.Proofs.Ytjfhncbfbhkhgaa
open Go.RowKit
/-- What holds while a program's instances are made whole. -/
structure WhI (N : Nat) (cv iv : Value) (L : List Ins) (w wr : World) : Prop where
  box : wr.heap[N]? = some (.cells #[.slice none 0 0, cv, iv, .slice none 0 0] 28)
  zer : wr.heap[N + 1]? = some (.cells #[.slice none 0 0, .slice none 0 0, .slice none 0 0, .slice none 0 0] 28)
  out : ∃ v, wr.heap[N + 1 + 1]? = some (.cells #[.slice none 0 0, cv, v, .slice none 0 0] 28) ∧ wr.ownsRow (N + 1 + 1 + 1) 70 6 v L.length (insCs L)
  bl : Below N w wr
  sz : ∀ x ∈ L, x.cls.size ≤ maxLen ∧ x.con.size ≤ maxLen
theorem WhI.on {N : Nat} {cv iv : Value} {L : List Ins} {w wr w' : World} (h : WhI N cv iv L w wr) (hb : Below wr.heap.size wr w') : WhI N cv iv L w w' := by
  obtain ⟨v, h1, h2⟩ := h.out
  have hl := lt_of_block h.box
  exact ⟨(hb.block _ hl).trans h.box, (hb.block _ (lt_of_block h.zer)).trans h.zer, ⟨v, (hb.block _ (lt_of_block h1)).trans h1, own_on h2 hb⟩, h.bl.trans (hb.mono (Nat.le_of_lt hl)), h.sz⟩
/-- One more instance. -/
theorem WhI.put {N : Nat} {cv iv : Value} {L : List Ins} {w wr w1 w3 : World} (h : WhI N cv iv L w wr) {x : Ins} (hx : x.cls.size ≤ maxLen ∧ x.con.size ≤ maxLen) {v v' : Value} (hv : wr.heap[N + 1 + 1]? = some (.cells #[.slice none 0 0, cv, v, .slice none 0 0] 28)) (ho : wr.ownsRow (N + 1 + 1 + 1) 70 6 v L.length (insCs L)) (hb : Below wr.heap.size wr w1) (ho3 : w3.ownsRow (N + 1 + 1 + 1) 70 6 v' (L.length + 1) (insCs L ++ insC x)) (hg : w1.grownBy w3 v.ownBlock) :
    WhI N cv iv (L ++ [x]) w (w3.setCell ⟨N + 1 + 1, 2, none⟩ v') ∧ w3.cell? ⟨N + 1 + 1, 2, none⟩ = some v ∧ w3.frozen? ⟨N + 1 + 1, 2, none⟩ = false := by
  have hl := lt_of_block hv
  have hlow : ∀ k, k ≤ N + 1 + 1 → w3.heap[k]? = wr.heap[k]? := fun k hk => (hg.block k (by have := hb.size; omega) (fun e => by have := (World.ownsRow.lt ho k e.symm).1; omega)).trans (hb.block k (by omega))
  have h3 := (hlow _ (Nat.le_refl _)).trans hv
  have hset : ∀ k, k ≠ N + 1 + 1 → (w3.setCell ⟨N + 1 + 1, 2, none⟩ v').heap[k]? = w3.heap[k]? := fun k hk => Below.heap_setCell _ _ _ _ hk
  refine ⟨⟨(hset N (by omega)).trans ((hlow N (by omega)).trans h.box), (hset (N + 1) (by omega)).trans ((hlow (N + 1) (by omega)).trans h.zer), ⟨v', ?_, ?_⟩, ?_, ?_⟩, by simp [World.cell?, h3], by simp [World.frozen?, h3]⟩
  · rw [heap_setCell_same w3 (N + 1 + 1) 2 _ 28 v' h3]; rfl
  · rw [List.length_append, List.length_singleton, insCs_snoc]
    exact own_keep ho3 (fun g hgo => hset g (by have := (World.ownsRow.lt ho3 g hgo).1; omega))
  · have hz := h.bl.size
    have b3 : Below N w1 w3 := ⟨hg.os, hg.tape, hg.output, hg.size, fun k hk => hg.block k (by have := hb.size; omega) (fun e => by have := (World.ownsRow.lt ho k e.symm).1; omega)⟩
    exact ((h.bl.trans (hb.mono (by omega))).trans b3).trans (((Fr.refl (fun k => k = N + 1 + 1) w3).setCell (b := N + 1 + 1) rfl _).below (by have := hg.size; have := hb.size; omega) (fun k e => by omega))
  · intro y hy
    rcases List.mem_append.1 hy with hy | hy
    · exact h.sz y hy
    · rw [List.mem_singleton.1 hy]; exact hx
theorem ins_new (w : World) (x : Ins) : ∀ j u, (insC x)[j]? = some u → (w.alloc (.cells #[.string x.cls, .int .i64 x.atp, .string x.con, .slice none 0 0, .slice none 0 0, .slice none 0 0] 70)).cell? ((⟨w.heap.size, 0, none⟩ : Addr).add j) = some u := by
  intro j u h
  have hj := (List.getElem?_eq_some_iff.1 h).1
  simp [insC] at hj
  rcases (by omega : j = 0 ∨ j = 1 ∨ j = 2 ∨ j = 3 ∨ j = 4 ∨ j = 5) with rfl | rfl | rfl | rfl | rfl | rfl <;> (simp [insC] at h; subst h; simp [Addr.add, go_sem])
theorem Try.size28 : (Try.prog.info? 28).map (·.size) = some 4 := by kernel_rfl
def WholeRes (cv : Value) (w : World) (e : Ending) (w' : World) : Prop :=
  ∃ L v, e = .returned (.agg #[.slice none 0 0, cv, v, .slice none 0 0]) ∧ InstsAt (fun b => w.heap.size ≤ b) w' v L ∧ OkI L ∧ (v = .slice none 0 0 ∨ ∃ ad n c, v = .slice (some ad) n c) ∧ Below w.heap.size w w'
set_option maxRecDepth 100000 in
set_option maxHeartbeats 4000000 in
theorem whole_any {Q : Nat → Prop} {C : List Cls} {I : List Ins} {cv iv : Value} {w : World} (hcl : ClassesAt Q w cv C) (hi : InstsAt Q w iv I) (hQ : ∀ b, Q b → b < w.heap.size) (hC : OkC C) (hI : OkI I) :
    Calls Try.prog 31 #[.agg #[.slice none 0 0, cv, iv, .slice none 0 0]] w (WholeRes cv w) := by
  obtain ⟨Ac, cc, rfl, _⟩ := id hcl
  obtain ⟨Ai, ci, rfl, hci1, hci2, _⟩ := id hi
  unfold maxLen at hci2
  obtain ⟨V, eV⟩ : ∃ V, V = ((w.alloc (.cells #[.slice none 0 0, .slice Ac C.length cc, .slice Ai I.length ci, .slice none 0 0] 28)).alloc (.cells #[.slice none 0 0, .slice none 0 0, .slice none 0 0, .slice none 0 0] 28)).alloc (.cells #[.slice none 0 0, .slice Ac C.length cc, .slice none 0 0, .slice none 0 0] 28) := ⟨_, rfl⟩
  have hBV : Below w.heap.size w V := by rw [eV]; exact ((below_new _ _).alloc (by simp) _).alloc (by simp; omega) _
  have hVI : WhI w.heap.size (.slice Ac C.length cc) (.slice Ai I.length ci) [] w V := by
    refine ⟨?_, ?_, ⟨.slice none 0 0, ?_, World.ownsRow_nil _ _ 70 6⟩, hBV, fun x h => (by cases h)⟩
    · rw [eV, alloc_get, if_neg (by first | (simp; done) | (simp; omega)), alloc_get, if_neg (by first | (simp; done) | (simp; omega)), alloc_get, if_pos rfl]
    · rw [eV, alloc_get, if_neg (by first | (simp; done) | (simp; omega)), alloc_get, if_pos (by simp)]
    · rw [eV, alloc_get, if_pos (by simp)]
  have HVI := Lib.hid hVI
  have HEV := Lib.hid eV
  have HCL := Lib.hid hcl
  have HII := Lib.hid hi
  have HQ := Lib.hid hQ
  have HC := Lib.hid hC
  have HI := Lib.hid hI
  have c0 : V.cell? ⟨w.heap.size, 1, none⟩ = some (.slice Ac C.length cc) := by simp [World.cell?, hVI.box]
  obtain ⟨N, hN⟩ : ∃ N, w.heap.size = N := ⟨_, rfl⟩
  rw [hN] at HVI c0
  have HN := Lib.hid hN
  clear hcl hi hQ hC hI eV hBV hVI
  go_enter Try.func31, Try.ntmps31
  go_upto_region 2 with (fail)
  rw [← HEV.out]
  clear HEV hN
  go_wp2_with fail
  go_loopw [4] (fun i wr => ∃ k : Nat, k ≤ 6 ∧ i = .int .i64 k ∧ ∃ L, L.length ≤ k * 1048576 ∧ WhI N (.slice Ac C.length cc) (.slice Ai I.length ci) L w wr) (fun i _ => 6 - (intOf i).toNat)
  case atStart => exact ⟨0, by omega, rfl, [], by simp, HVI.out⟩
  case round =>
    obtain ⟨k, hk, rfl, L, hL, hW⟩ := hrel
    have b0 := hW.box
    have b1 := hW.zer
    obtain ⟨v0, b2, o2⟩ := hW.out
    obtain ⟨Av, cvv, rfl, _⟩ := own_form o2
    have x0 : wr.cell? ⟨N, 0, none⟩ = some (.slice none 0 0) ∧ wr.cell? ⟨N, 1, none⟩ = some (.slice Ac C.length cc) ∧ wr.cell? ⟨N, 2, none⟩ = some (.slice Ai I.length ci) ∧ wr.cell? ⟨N, 3, none⟩ = some (.slice none 0 0) := by simp [World.cell?, b0]
    obtain ⟨x00, x01, x02, x03⟩ := x0
    have HW := Lib.hid hW
    by_cases hgo : k < I.length ∧ k < 6
    · obtain ⟨hg1, hg2⟩ := hgo
      obtain ⟨x, hx⟩ : ∃ x, I[k]? = some x := ⟨_, List.getElem?_eq_getElem hg1⟩
      have hQ9 : ∀ b, Q b → b < N := fun b hb => by have := HQ.out b hb; rw [HN.out] at this; exact this
      obtain ⟨bi, e0, hbi, q0, q1, q2, q3, q4, q5⟩ := (HII.out.keep (w' := wr) (by have := HN.out; have := hW.bl.size; exact this) (fun b hb _ => hW.bl.block b (hQ9 b hb))).at hx
      subst e0
      have hki : (k : Int) < (I.length : Int) := by omega
      have hk6 : (k : Int) < 6 := by omega
      have hk0 : (0 : Int) ≤ (k : Int) := by omega
      have HXS := Lib.hid (HI.out.size x (List.mem_of_getElem? hx))
      have hNr : N < wr.heap.size := lt_of_block b0
      have HQN := Lib.hid hQ9
      have HAB := Lib.hid (rabove20_any (Q := Q) HC.out (w := wr.drew) (Ai := some ⟨bi, 0, none⟩) (ni := I.length) (ci := ci) (((HCL.out.keep (w' := wr) hW.bl.size (fun b hb _ => hW.bl.block b (hQ9 b hb))).keep (w' := wr.drew) (Nat.le_refl _) (fun b _ _ => rfl))) (fun b hb => Nat.lt_trans (hQ9 b hb) hNr) x.cls)
      obtain ⟨U, hU⟩ : ∃ U, aboveF (supF C) (hasF C) (C.length + 1) [] x.cls = U := ⟨_, rfl⟩
      rw [hU] at HAB
      obtain ⟨hu1, hu2⟩ := aboveF_inv (C := C) (C.length + 1) [] x.cls List.nodup_nil (fun y h => (by cases h))
      rw [hU] at hu1 hu2
      have hul := told_len HC.out hu1 hu2
      have HUS : Hid (∀ y ∈ U, y.size ≤ maxLen) := Lib.hid (fun y hy => HC.out.size y (List.mem_append_left _ (hasF_mem (hu2 y hy))))
      clear hx hQ9 hu1 hu2 hU hW b0 b1 b2 o2 q1 q3 q4 q5
      have hS0 : wr.drew.cell? ⟨N, 0, none⟩ = some (.slice none 0 0) ∧ wr.drew.cell? ⟨N, 1, none⟩ = some (.slice Ac C.length cc) ∧ wr.drew.cell? ⟨N, 2, none⟩ = some (.slice (some ⟨bi, 0, none⟩) I.length ci) ∧ wr.drew.cell? ⟨N, 3, none⟩ = some (.slice none 0 0) ∧ wr.drew.cell? ⟨bi, k * 6, none⟩ = some (.string x.cls) := ⟨x00, x01, x02, x03, q0⟩
      have HKB : Hid (∀ u, Below wr.drew.heap.size wr.drew u → u.cell? ⟨N, 0, none⟩ = some (.slice none 0 0) ∧ u.cell? ⟨N, 1, none⟩ = some (.slice Ac C.length cc) ∧ u.cell? ⟨N, 2, none⟩ = some (.slice (some ⟨bi, 0, none⟩) I.length ci) ∧ u.cell? ⟨N, 3, none⟩ = some (.slice none 0 0) ∧ u.cell? ⟨bi, k * 6, none⟩ = some (.string x.cls)) := Lib.hid fun u hu => ⟨(hu.cell (p := ⟨N, 0, none⟩) hNr).trans x00, (hu.cell (p := ⟨N, 1, none⟩) hNr).trans x01, (hu.cell (p := ⟨N, 2, none⟩) hNr).trans x02, (hu.cell (p := ⟨N, 3, none⟩) hNr).trans x03, (hu.cell (p := ⟨bi, k * 6, none⟩) hbi).trans q0⟩
      go_wp2_with fail
      go_region_held3 (fun u => u.cell? ⟨N, 0, none⟩ = some (.slice none 0 0) ∧ u.cell? ⟨N, 1, none⟩ = some (.slice Ac C.length cc) ∧ u.cell? ⟨N, 2, none⟩ = some (.slice (some ⟨bi, 0, none⟩) I.length ci) ∧ u.cell? ⟨N, 3, none⟩ = some (.slice none 0 0) ∧ u.cell? ⟨bi, k * 6, none⟩ = some (.string x.cls)) (first | exact hS0 | exact hS1) (first | (go_at_call 20; (with_reducible refine HAB.out.mono ?_); rintro e w2 ⟨⟨av, rfl, hta⟩, hb2⟩; have HTA := Lib.hid hta; have HB2 := Lib.hid hb2; obtain ⟨Aa, ca, rfl, hca1, hca2⟩ := hta.form; have hS1 := HKB.out w2 hb2; clear hta hb2))
      all_goals
        have hbw2 : Below wr.heap.size wr w2 := (Below.refl _ _).drew.trans HB2.out
        have hW2 := HW.out.on hbw2
        obtain ⟨B0, hB0⟩ : ∃ B0, wr.heap.size = B0 := ⟨_, rfl⟩
        obtain ⟨B1, hB1⟩ : ∃ B1, w2.heap.size = B1 := ⟨_, rfl⟩
        have HTA2 : Hid (StrsAt (fun b => B0 ≤ b ∧ b < B1) w2 (.slice Aa U.length ca) U) := Lib.hid (by rw [← hB0, ← hB1]; exact HTA.out.1)
        have HOWN : Hid (∀ v, w2.heap[N + 1 + 1]? = some (.cells #[.slice none 0 0, .slice Ac C.length cc, v, .slice none 0 0] 28) → ∀ g, v.ownBlock = some g → g < B0 ∨ B1 ≤ g) := Lib.hid (fun v hv g hg => by
          obtain ⟨v9, h1, h2⟩ := HW.out.out
          have h3 := (hbw2.block _ (lt_of_block h1)).trans h1
          rw [h3] at hv
          injection hv with hv; injection hv with hv
          have e9 : v9 = v := by have := congrArg (fun a => a[2]?) hv; simpa using this
          subst e9
          have := (World.ownsRow.lt h2 g hg).2
          left; omega)
        have HNB0 : Hid (N + 1 + 1 < B0 ∧ B0 ≤ B1) := Lib.hid (by obtain ⟨v9, h1, h2⟩ := HW.out.out; have := lt_of_block h1; have := hbw2.size; omega)
        have HB1 := Lib.hid hB1
        clear hbw2 hB0 hB1
        have HW2 := Lib.hid hW2
        clear hW2
        unfold maxLen at hca2
        generalize hulen : U.length = ul at *
        have HULEN := Lib.hid hulen
        clear hulen
        go_wp2_with fail
        go_loopw [6] (fun i wr => ∃ m : Nat, m ≤ ul ∧ i = .int .i64 m ∧ ∃ L' : List Ins, L'.length ≤ k * 1048576 + m ∧ WhI N (.slice Ac C.length cc) (.slice (some ⟨bi, 0, none⟩) I.length ci) L' w wr ∧ StrsAt (fun b => B0 ≤ b ∧ b < B1) wr (.slice Aa ul ca) U ∧ (∀ v, wr.heap[N + 1 + 1]? = some (.cells #[.slice none 0 0, .slice Ac C.length cc, v, .slice none 0 0] 28) → ∀ g, v.ownBlock = some g → g < B0 ∨ B1 ≤ g) ∧ B1 ≤ wr.heap.size) (fun i _ => ul - (intOf i).toNat)
        case atStart => exact ⟨0, Nat.zero_le _, rfl, L, by simpa using hL, HW2.out, HTA2.out, HOWN.out, Nat.le_of_eq HB1.out.symm⟩
        case round =>
          obtain ⟨m, hm, rfl, L', hL', hW', htd, hown, hB1⟩ := hrel
          have b0 := hW'.box
          obtain ⟨v1, b2, o2⟩ := hW'.out
          obtain ⟨Aw, cw, rfl, _⟩ := own_form o2
          have z0 : wr.cell? ⟨N + 1 + 1, 0, none⟩ = some (.slice none 0 0) ∧ wr.cell? ⟨N + 1 + 1, 1, none⟩ = some (.slice Ac C.length cc) ∧ wr.cell? ⟨N + 1 + 1, 2, none⟩ = some (.slice Aw L'.length cw) ∧ wr.cell? ⟨N + 1 + 1, 3, none⟩ = some (.slice none 0 0) := by simp [World.cell?, b2]
          obtain ⟨z00, z01, z02, z03⟩ := z0
          have z1 : wr.cell? ⟨N, 2, none⟩ = some (.slice (some ⟨bi, 0, none⟩) I.length ci) := by simp [World.cell?, b0]
          have HW9 := Lib.hid hW'
          have HTD := Lib.hid htd
          have HOW := Lib.hid hown
          by_cases hlt : m < ul
          · obtain ⟨y, hy⟩ : ∃ y, U[m]? = some y := ⟨_, List.getElem?_eq_getElem (by rw [HULEN.out]; exact hlt)⟩
            obtain ⟨b3, o3, e3, l3, p3⟩ := htd.at m (by rw [HULEN.out]; exact hlt)
            subst e3
            have p4 : wr.cell? ⟨b3, o3 + m, none⟩ = some (.string y) := by
              have := List.getElem?_eq_getElem (l := U) (i := m) (by rw [HULEN.out]; exact hlt)
              rw [hy] at this; injection this with this; rw [this]; exact p3
            obtain ⟨xi, hxi⟩ : ∃ xi, I[k]? = some xi := ⟨_, List.getElem?_eq_getElem hg1⟩
            obtain ⟨bi', e9, hbi9, r0, r1, r2, r3, r4, r5⟩ := (HII.out.keep (w' := wr) (by have := HN.out; have := hW'.bl.size; exact this) (fun b hb _ => hW'.bl.block b (HQN.out b hb))).at hxi
            injection e9 with e9
            injection e9 with e9
            subst e9
            have hmi : (m : Int) < (ul : Int) := by omega
            have hm0 : (0 : Int) ≤ (m : Int) := by omega
            have HYS := Lib.hid (HUS.out y (List.mem_of_getElem? hy))
            have HXS2 := Lib.hid (HI.out.size xi (List.mem_of_getElem? hxi))
            have HRI := Lib.hid (rinst_any (w := wr.drew) (InstsAt.of_own (own_on o2 (Below.refl _ _).drew)) (cv := .slice Ac C.length cc) ⟨Ac, _, cc, rfl⟩ y xi.con)
            generalize instF L' 0 y xi.con = F9 at HRI
            have hlN2 : N + 1 + 1 < wr.heap.size := lt_of_block b2
            have hlN : N < wr.heap.size := lt_of_block b0
            have hT0 : wr.drew.cell? ⟨N + 1 + 1, 0, none⟩ = some (.slice none 0 0) ∧ wr.drew.cell? ⟨N + 1 + 1, 1, none⟩ = some (.slice Ac C.length cc) ∧ wr.drew.cell? ⟨N + 1 + 1, 2, none⟩ = some (.slice Aw L'.length cw) ∧ wr.drew.cell? ⟨N + 1 + 1, 3, none⟩ = some (.slice none 0 0) ∧ wr.drew.cell? ⟨N, 2, none⟩ = some (.slice (some ⟨bi, 0, none⟩) I.length ci) ∧ wr.drew.cell? ⟨b3, o3 + m, none⟩ = some (.string y) ∧ wr.drew.cell? ⟨bi, k * 6 + 2, none⟩ = some (.string xi.con) := ⟨z00, z01, z02, z03, z1, p4, r2⟩
            have HKC : Hid (∀ u, Below wr.drew.heap.size wr.drew u → u.cell? ⟨N + 1 + 1, 0, none⟩ = some (.slice none 0 0) ∧ u.cell? ⟨N + 1 + 1, 1, none⟩ = some (.slice Ac C.length cc) ∧ u.cell? ⟨N + 1 + 1, 2, none⟩ = some (.slice Aw L'.length cw) ∧ u.cell? ⟨N + 1 + 1, 3, none⟩ = some (.slice none 0 0) ∧ u.cell? ⟨N, 2, none⟩ = some (.slice (some ⟨bi, 0, none⟩) I.length ci) ∧ u.cell? ⟨b3, o3 + m, none⟩ = some (.string y) ∧ u.cell? ⟨bi, k * 6 + 2, none⟩ = some (.string xi.con)) := Lib.hid fun u hu => ⟨(hu.cell (p := ⟨N + 1 + 1, 0, none⟩) hlN2).trans z00, (hu.cell (p := ⟨N + 1 + 1, 1, none⟩) hlN2).trans z01, (hu.cell (p := ⟨N + 1 + 1, 2, none⟩) hlN2).trans z02, (hu.cell (p := ⟨N + 1 + 1, 3, none⟩) hlN2).trans z03, (hu.cell (p := ⟨N, 2, none⟩) hlN).trans z1, (hu.cell (p := ⟨b3, o3 + m, none⟩) l3).trans p4, (hu.cell (p := ⟨bi, k * 6 + 2, none⟩) hbi9).trans r2⟩
            clear hW' htd hown b0 b2 o2 p3 hy hxi r1 r3 r4 r5
            go_wp2_with fail
            go_region_held3 (fun u => u.cell? ⟨N + 1 + 1, 0, none⟩ = some (.slice none 0 0) ∧ u.cell? ⟨N + 1 + 1, 1, none⟩ = some (.slice Ac C.length cc) ∧ u.cell? ⟨N + 1 + 1, 2, none⟩ = some (.slice Aw L'.length cw) ∧ u.cell? ⟨N + 1 + 1, 3, none⟩ = some (.slice none 0 0) ∧ u.cell? ⟨N, 2, none⟩ = some (.slice (some ⟨bi, 0, none⟩) I.length ci) ∧ u.cell? ⟨b3, o3 + m, none⟩ = some (.string y) ∧ u.cell? ⟨bi, k * 6 + 2, none⟩ = some (.string xi.con)) (first | exact hT0 | exact hT1) (first | (go_at_call 22; (with_reducible refine HRI.out.mono ?_); rintro e w3 ⟨rfl, hb3⟩; have HB3 := Lib.hid hb3; have hT1 := HKC.out w3 hb3; clear hb3))
            all_goals
              have hbw3 : Below wr.heap.size wr w3 := (Below.refl _ _).drew.trans HB3.out
              have HW3 := Lib.hid (HW9.out.on hbw3)
              have HTD3 := Lib.hid (HTD.out.keepB (w' := w3) hbw3.size (fun b _ hl => hbw3.block b hl))
              have HB13 : Hid (B1 ≤ w3.heap.size) := Lib.hid (Nat.le_trans hB1 hbw3.size)
              have HOW3 : Hid (∀ v, w3.heap[N + 1 + 1]? = some (.cells #[.slice none 0 0, .slice Ac C.length cc, v, .slice none 0 0] 28) → ∀ g, v.ownBlock = some g → g < B0 ∨ B1 ≤ g) := Lib.hid (fun v hv => HOW.out v (by rw [← hv]; exact (hbw3.block _ hlN2).symm))
              clear hbw3
              cases F9 with
              | some d =>
                go_wp2_with fail
                go_roundw
                case rel => exact ⟨m + 1, by omega, by go_num, L', by omega, HW3.out, HTD3.out, HOW3.out, HB13.out⟩
                case measure => simp [intOf]; omega
              | none =>
                obtain ⟨v3, h1, h2⟩ := HW3.out.out
                have hv3 : v3 = .slice Aw L'.length cw := by
                  have h9 := hT1.2.2.1
                  simp [World.cell?, h1] at h9; exact h9
                subst hv3
                obtain ⟨x', hx'⟩ : ∃ x' : Ins, x' = ⟨y, xi.con, 100 + 10 * (k : Int) + (m : Int)⟩ := ⟨_, rfl⟩
                have hx9 : x'.cls.size ≤ maxLen ∧ x'.con.size ≤ maxLen := by rw [hx']; exact ⟨HYS.out, HXS2.out.2⟩
                obtain ⟨i70, hi70, hz70, hs70, hb70⟩ := info_parts Try.info70
                have hbz : Below w3.heap.size w3 (w3.alloc (.cells #[.string y, .int .i64 (100 + 10 * (k : Int) + (m : Int)), .string xi.con, .slice none 0 0, .slice none 0 0, .slice none 0 0] 70)).drew := (below_new w3 _).drew
                have hw1 : IntKind.i64.wrap (10 * (k : Int)) = 10 * (k : Int) := IntWalk.i64_in _ ⟨by omega, by omega⟩
                have hw2 : IntKind.i64.wrap (100 + 10 * (k : Int)) = 100 + 10 * (k : Int) := IntWalk.i64_in _ ⟨by omega, by omega⟩
                have hw3 : IntKind.i64.wrap (100 + 10 * (k : Int) + (m : Int)) = 100 + 10 * (k : Int) + (m : Int) := IntWalk.i64_in _ ⟨by omega, by omega⟩
                have HOWZ := Lib.hid (own_on h2 hbz)
                have HNEW : Hid (∀ j u, (insC x')[j]? = some u → (w3.alloc (.cells #[.string y, .int .i64 (100 + 10 * (k : Int) + (m : Int)), .string xi.con, .slice none 0 0, .slice none 0 0, .slice none 0 0] 70)).drew.cell? ((⟨w3.heap.size, 0, none⟩ : Addr).add j) = some u) := Lib.hid (by rw [hx']; exact ins_new w3 ⟨y, xi.con, 100 + 10 * (k : Int) + (m : Int)⟩)
                have HONE : Hid (∀ u ∈ insC x', u.oneCell' = true) := Lib.hid (fun u hu => insCs_one [x'] u (by simpa [insCs] using hu))
                have hLb : L'.length ≤ 7340032 := by omega
                have H63 : Hid (L'.length + 1 ≤ maxLen) := Lib.hid (by unfold maxLen; omega)
                have HBY : Hid ((L'.length + 1) * 112 ≤ 140737488355328) := Lib.hid (by omega)
                have hN3 : N + 1 + 1 < w3.heap.size := lt_of_block h1
                have HBASE : Hid (N + 1 + 1 + 1 ≤ (w3.alloc (.cells #[.string y, .int .i64 (100 + 10 * (k : Int) + (m : Int)), .string xi.con, .slice none 0 0, .slice none 0 0, .slice none 0 0] 70)).drew.heap.size) := Lib.hid (by have := hbz.size; omega)
                have hzc : (w3.alloc (.cells #[.string y, .int .i64 (100 + 10 * (k : Int) + (m : Int)), .string xi.con, .slice none 0 0, .slice none 0 0, .slice none 0 0] 70)).drew.cell? ⟨N + 1 + 1, 2, none⟩ = some (.slice Aw L'.length cw) := (hbz.cell (p := ⟨N + 1 + 1, 2, none⟩) hN3).trans hT1.2.2.1
                have HP : Hid (∀ (gg cap : Nat) (w9 : World), w9.ownsRow (N + 1 + 1 + 1) 70 6 (.slice (some ⟨gg, 0, none⟩) (L'.length + 1) cap) (L'.length + 1) (insCs L' ++ insC x') → (w3.alloc (.cells #[.string y, .int .i64 (100 + 10 * (k : Int) + (m : Int)), .string xi.con, .slice none 0 0, .slice none 0 0, .slice none 0 0] 70)).drew.grownBy w9 (Value.slice Aw L'.length cw).ownBlock → ((Value.slice Aw L'.length cw).ownBlock = some gg ∨ gg = w3.heap.size + 1) →
                    w9.cell? ⟨N + 1 + 1, 2, none⟩ = some (.slice Aw L'.length cw) ∧ w9.frozen? ⟨N + 1 + 1, 2, none⟩ = false ∧ (WhI N (.slice Ac C.length cc) (.slice (some ⟨bi, 0, none⟩) I.length ci) (L' ++ [x']) w (w9.setCell ⟨N + 1 + 1, 2, none⟩ (.slice (some ⟨gg, 0, none⟩) (L'.length + 1) cap)) ∧ StrsAt (fun b => B0 ≤ b ∧ b < B1) (w9.setCell ⟨N + 1 + 1, 2, none⟩ (.slice (some ⟨gg, 0, none⟩) (L'.length + 1) cap)) (.slice (some ⟨b3, o3, none⟩) ul ca) U ∧ (∀ v, (w9.setCell ⟨N + 1 + 1, 2, none⟩ (.slice (some ⟨gg, 0, none⟩) (L'.length + 1) cap)).heap[N + 1 + 1]? = some (.cells #[.slice none 0 0, .slice Ac C.length cc, v, .slice none 0 0] 28) → ∀ g, v.ownBlock = some g → g < B0 ∨ B1 ≤ g) ∧ B1 ≤ (w9.setCell ⟨N + 1 + 1, 2, none⟩ (.slice (some ⟨gg, 0, none⟩) (L'.length + 1) cap)).heap.size)) := Lib.hid fun gg cap w9 g1 g2 g3 => by
                  obtain ⟨t1, t2, t3⟩ := HW3.out.put hx9 h1 h2 hbz g1 g2
                  have hown3 := HOW3.out _ h1
                  have hb13 := HB13.out
                  have hs9 := g2.size
                  have hsz := hbz.size
                  have hnb := HNB0.out
                  have hkeep : ∀ b, B0 ≤ b ∧ b < B1 → b < w3.heap.size → (w9.setCell ⟨N + 1 + 1, 2, none⟩ (.slice (some ⟨gg, 0, none⟩) (L'.length + 1) cap)).heap[b]? = w3.heap[b]? := fun b hb hl => (Below.heap_setCell _ _ _ _ (show b ≠ N + 1 + 1 by omega)).trans ((g2.block b (by omega) (fun e => by have := hown3 b e.symm; omega)).trans (hbz.block b hl))
                  refine ⟨t2, t3, t1, HTD3.out.keepB (by simp; omega) hkeep, fun v hv g hg => ?_, by simp; omega⟩
                  obtain ⟨v9, e1, _⟩ := t1.out
                  have e2 := heap_setCell_same w9 (N + 1 + 1) 2 #[.slice none 0 0, .slice Ac C.length cc, .slice Aw L'.length cw, .slice none 0 0] 28 (.slice (some ⟨gg, 0, none⟩) (L'.length + 1) cap) ((g2.block _ (by omega) (fun e => by have := (World.ownsRow.lt h2 _ e.symm).1; omega)).trans ((hbz.block _ hN3).trans h1))
                  rw [e2] at hv
                  injection hv with hv; injection hv with hv
                  have e9 : Value.slice (some ⟨gg, 0, none⟩) (L'.length + 1) cap = v := by have := congrArg (fun a => a[2]?) hv; simpa using this
                  subst e9
                  injection hg with hg
                  subst hg
                  rcases g3 with g3 | g3
                  · exact hown3 _ g3
                  · right; show B1 ≤ gg; omega
                have HX' := Lib.hid hx'
                obtain ⟨s0, s1, s2, s3, s4, s5, s6⟩ := hT1
                clear h1 h2 hbz hx'
                go_wp2_with fail
                go_region_law (first | (refine step_append_lies _ rfl (.tmp 55) (.tmp 72) 25 rfl (N + 1 + 1 + 1) 70 i70 _ 6 112 Try.underlying25 hi70 hz70 hs70 hb70 rfl (by decide) (.slice Aw L'.length cw) L'.length (insCs L') rfl HOWZ.out ⟨w3.heap.size, 0, none⟩ 1 1 (insC x') rfl rfl HNEW.out HONE.out (by decide) H63.out HBY.out HBASE.out (w3.heap.size + 1) (by show (w3.alloc _).heap.size = _; simp) ?_; intro gg cap w9 h9 g9 hat _; obtain ⟨k1, k2, k3⟩ := HP.out gg cap w9 h9 g9 hat; have QQ := Lib.hid k3; clear k3 h9 g9 hat))
                all_goals
                  obtain ⟨k3, k4, k5, k6⟩ := QQ.out
                  have K3 := Lib.hid k3
                  have K4 := Lib.hid k4
                  have K5 := Lib.hid k5
                  have K6 := Lib.hid k6
                  clear k3 k4 k5 k6
                  go_wp2
                  go_roundw
                  case rel => exact ⟨m + 1, by omega, by go_num, L' ++ [x'], by simp; omega, K3.out, K4.out, K5.out, K6.out⟩
                  case measure => simp [intOf]; omega
          · have hme : m = ul := by omega
            subst hme
            have hd : decide (m < m) = false := by simp
            have HLL : Hid (L'.length ≤ (k + 1) * 1048576) := Lib.hid (by rw [Nat.add_mul]; omega)
            clear hW' htd hown b0 b2 o2
            go_wp2_with fail
            go_roundw
            case rel => exact ⟨k + 1, by omega, by go_num, L', HLL.out, HW9.out⟩
            case measure => simp [intOf]; omega
    · have hW9 := hW
      obtain ⟨z0, z1, z2, z3⟩ : wr.cell? ⟨N + 1 + 1, 0, none⟩ = some (.slice none 0 0) ∧ wr.cell? ⟨N + 1 + 1, 1, none⟩ = some (.slice Ac C.length cc) ∧ wr.cell? ⟨N + 1 + 1, 2, none⟩ = some (.slice Av L.length cvv) ∧ wr.cell? ⟨N + 1 + 1, 3, none⟩ = some (.slice none 0 0) := by simp [World.cell?, b2]
      obtain ⟨y0, y1, y2, y3⟩ : wr.cell? ⟨N + 1, 0, none⟩ = some (.slice none 0 0) ∧ wr.cell? ⟨N + 1, 1, none⟩ = some (.slice none 0 0) ∧ wr.cell? ⟨N + 1, 2, none⟩ = some (.slice none 0 0) ∧ wr.cell? ⟨N + 1, 3, none⟩ = some (.slice none 0 0) := by simp [World.cell?, b1]
      have f0 : ∀ j, wr.frozen? ⟨N + 1, j, none⟩ = false := fun j => by simp [World.frozen?, b1]
      have e1 := heap_setCell_same wr (N + 1) 0 _ 28 (.slice none 0 0) b1
      have e2 := heap_setCell_same _ (N + 1) 1 _ 28 (.slice Ac C.length cc) e1
      have e3 := heap_setCell_same _ (N + 1) 2 _ 28 (.slice Av L.length cvv) e2
      have e4 := heap_setCell_same _ (N + 1) 3 _ 28 (.slice none 0 0) e3
      have HFR := ((((Fr.refl (fun k => k = N + 1) wr).setCell (b := N + 1) (o := 0) rfl (.slice none 0 0)).setCell (b := N + 1) (o := 1) rfl (.slice Ac C.length cc)).setCell (b := N + 1) (o := 2) rfl (.slice Av L.length cvv)).setCell (b := N + 1) (o := 3) rfl (.slice none 0 0)
      have HLB : Hid (L.length ≤ 536870912) := Lib.hid (by omega)
      have HE4 := Lib.hid e4
      have HF := Lib.hid HFR
      have HO2 := Lib.hid o2
      have hNr : N < wr.heap.size := lt_of_block b0
      have HRES : Hid (WholeRes (.slice Ac C.length cc) w (.returned (.agg #[.slice none 0 0, .slice Ac C.length cc, .slice Av L.length cvv, .slice none 0 0])) ((((wr.setCell ⟨N + 1, 0, none⟩ (.slice none 0 0)).setCell ⟨N + 1, 1, none⟩ (.slice Ac C.length cc)).setCell ⟨N + 1, 2, none⟩ (.slice Av L.length cvv)).setCell ⟨N + 1, 3, none⟩ (.slice none 0 0))) := Lib.hid (by
        refine ⟨L, _, rfl, (InstsAt.of_own (own_keep HO2.out (fun g hg => HF.out.block g (World.ownsRow.lt HO2.out g hg).2 (fun e => by have := (World.ownsRow.lt HO2.out g hg).1; omega)))).mono (fun b h _ => by have := h.1; rw [HN.out]; omega), ⟨HW.out.sz, HLB.out⟩, ?_, ?_⟩
        · rcases HO2.out.2 with ⟨h1, _⟩ | ⟨g, cap, cur, h1, _⟩
          · exact .inl h1
          · exact .inr ⟨_, _, _, h1⟩
        · rw [HN.out]
          exact HW.out.bl.trans (HF.out.below (Nat.le_of_lt hNr) (fun k e => by omega)))
      clear e1 e2 e3 e4 HFR o2 hW hW9 b0 b1 b2 HO2 HF
      by_cases hk1 : k < I.length
      · have hk6 : k = 6 := by omega
        subst hk6
        have hd1 : ((6 : Nat) : Int) < (I.length : Int) := by omega
        go_wp2_with fail
        refine ⟨rfl, _, results_row1 rfl _ _ (N + 1) 28 #[.slice none 0 0, .slice Ac C.length cc, .slice Av L.length cvv, .slice none 0 0] (0, 0) _ rfl HE4.out Try.underlying28 Try.size28, HRES.out⟩
      · have hd1 : (I.length : Int) ≤ (k : Int) := by omega
        go_wp2_with fail
        refine ⟨rfl, _, results_row1 rfl _ _ (N + 1) 28 #[.slice none 0 0, .slice Ac C.length cc, .slice Av L.length cvv, .slice none 0 0] (0, 0) _ rfl HE4.out Try.underlying28 Try.size28, HRES.out⟩
end Go.Proofs.Ytjfhncbfbhkhgaa
