/- The functions of the two walks by which groups are found. Conditions: those that each theorem names. -/
import Derived.Test.YtjfhncbfbhkhgaaBelA
namespace Go.Proofs.Ytjfhncbfbhkhgaa
open Go.RowKit
set_option maxRecDepth 100000 in
set_option maxHeartbeats 1000000 in
theorem bel64_any {lo hi : Nat} {bel : ByteArray → List ByteArray} {T mb xb : Nat} {w : World} (h : BelAt lo hi bel T mb w) (hx : w.cell? ⟨xb, 0, none⟩ = some (.map (some mb))) (x : ByteArray) (hs : x.size ≤ maxLen) :
    Calls Try.prog 64 #[.string x, .pointer (some ⟨xb, 0, none⟩)] w fun e w' => (∃ sv, e = .returned sv ∧ StrsAt (fun j => lo ≤ j ∧ j < hi) w' sv (bel x)) ∧ Below w.heap.size w w' := by
  obtain ⟨rv, hlk, h1, h2⟩ := h.look hs
  have HS : Hid (StrsAt (fun j => lo ≤ j ∧ j < hi) w rv (bel x)) := Lib.hid (h1.strs.mono (fun b hb => ⟨hb.1, h2 b hb.2⟩))
  obtain ⟨A, c, rfl, _⟩ := own_form h1
  generalize (bel x).length = n at *
  clear h h1 h2
  go_enter Try.func64, Try.ntmps64
  go_wp2
  go_ret
  exact ⟨⟨_, rfl, HS.out⟩, Below.refl _ _⟩
theorem up_clos {Q : Nat → Prop} {C : List Cls} {M : ByteArray → Option (ByteArray × Nat)} {I : List Ins} {H : HKey → Option Nat} {eb cb mb pb : Nat} {iv : Value} (hC : OkC C) (N lb : Nat) (hQ : ∀ b, Q b → b < N) (he : eb < N ∧ cb < N ∧ mb < N ∧ pb < N) :
    ClosOK (leaveK (supF C)) (univ C) (fun d => d.st.length + d.path.length ≤ d.seen.length) 48 #[.pointer (some ⟨eb, 0, none⟩)] #[] 61 #[] #[] 62 #[] #[.pointer (some ⟨lb, 0, none⟩)] (fun j => j < N) (fun y => EnvAt Q C M I H eb cb mb pb iv y ∧ N ≤ y.heap.size) (BoxS N lb) := by
  have hlenU : (univ C).length ≤ 1073741824 := by have := hC.len; omega
  refine ⟨fun vs y => by kernel_rfl, fun vs y => by kernel_rfl, fun vs y => by kernel_rfl, fun u y hu hy => ?_, fun d u F y hd hu hs hst hy => ?_, fun d n p F y hd hp hst hy => ?_, fun s F w h => h.lt, fun s F w w' h hs hb => h.keep hb, fun w w' h hs hb => ?_, fun d u hu hr => ?_, fun d hr => ?_, fun d n l l' p hp hr => ?_, hlenU, hC.size⟩
  · refine (supers_any hy.1 u (hC.size u hu)).mono ?_
    rintro e y' ⟨⟨sv, rfl, h1⟩, hb⟩
    exact ⟨⟨sv, rfl, h1.mono (fun b hb => hQ b hb)⟩, hb⟩
  · refine (no61_any u y).mono ?_
    rintro e y' ⟨rfl, hb⟩
    exact AddRes.same hst hb
  · have h1 : d.st.length + d.path.length ≤ d.seen.length := hd.rel
    have h2 := (hd.lens hlenU).1
    exact add62_any hst hy.2 (by omega) n
  · refine ⟨h.1.keep hs (fun b _ hq => hb b ?_), Nat.le_trans h.2 hs⟩
    rcases hq with rfl | rfl | rfl | rfl | hq
    · exact he.1
    · exact he.2.1
    · exact he.2.2.1
    · exact he.2.2.2
    · exact hQ b hq
  · have hr' : d.st.length + d.path.length ≤ d.seen.length := hr
    unfold Wk.enter
    split
    · exact hr
    · show d.st.length + ((u, supF C u) :: d.path).length ≤ (u :: d.seen).length
      simp; omega
  · obtain ⟨seen, path, st⟩ := d
    unfold Wk.step
    split
    · exact hr
    · rename_i n p e
      simp only at e; subst e
      have hr' : st.length + ((n, ([] : List ByteArray)) :: p).length ≤ seen.length := hr
      show (st ++ [n]).length + p.length ≤ seen.length
      simp at hr' ⊢; omega
    · rename_i n u l p e
      simp only at e; subst e
      have hr' : st.length + ((n, u :: l) :: p).length ≤ seen.length := hr
      unfold Wk.enter
      split
      · exact hr
      · show st.length + ((u, supF C u) :: (n, l) :: p).length ≤ (u :: seen).length
        simp at hr' ⊢; omega
  · have hr' : d.st.length + d.path.length ≤ d.seen.length := hr
    rw [hp] at hr'
    exact hr'
theorem down_clos {C : List Cls} {names : List ByteArray} (hC : OkC C) (N lo hi T tb xb : Nat) :
    ClosOK (comeK (belF (supF C) names)) (univ C) (fun d => d.st.length ≤ d.seen.length) 64 #[] #[.pointer (some ⟨xb, 0, none⟩)] 65 #[] #[.pointer (some ⟨tb, 0, none⟩)] 66 #[] #[] (fun j => (lo ≤ j ∧ j < hi) ∨ j = xb ∨ j = lo) (fun y => BelAt lo hi (belF (supF C) names) T lo y ∧ y.cell? ⟨xb, 0, none⟩ = some (.map (some lo)) ∧ N ≤ y.heap.size) (BoxS N tb) := by
  have hlenU : (univ C).length ≤ 1073741824 := by have := hC.len; omega
  have hrl : ∀ d, GoodD (comeK (belF (supF C) names)) (univ C) (fun d => d.st.length ≤ d.seen.length) d → d.st.length ≤ 1073741824 := fun d hd => by have h1 : d.st.length ≤ d.seen.length := hd.rel; have h2 := (hd.lens hlenU).1; omega
  refine ⟨fun vs y => by kernel_rfl, fun vs y => by kernel_rfl, fun vs y => by kernel_rfl, fun u y hu hy => ?_, fun d u F y hd hu hs hst hy => ?_, fun d n p F y hd hp hst hy => ?_, fun s F w h => h.lt, fun s F w w' h hs hb => h.keep hb, fun w w' h hs hb => ?_, fun d u hu hr => ?_, fun d hr => ?_, fun d n l l' p hp hr => hr, hlenU, hC.size⟩
  · refine (bel64_any hy.1 hy.2.1 u (hC.size u hu)).mono ?_
    rintro e y' ⟨⟨sv, rfl, h1⟩, hb⟩
    exact ⟨⟨sv, rfl, h1.mono (fun b hb => .inl hb)⟩, hb⟩
  · exact add65_any hst hy.2.2 (hrl d hd) u
  · refine (no66_any n y).mono ?_
    rintro e y' ⟨rfl, hb⟩
    exact AddRes.same hst hb
  · refine ⟨h.1.keep (fun k hk => hb k ?_), (World.cell?_of_block (a := ⟨xb, 0, none⟩) (hb xb (.inr (.inl rfl)))).trans h.2.1, Nat.le_trans h.2.2 hs⟩
    rcases hk with rfl | hk
    · exact .inr (.inr rfl)
    · exact .inl hk
  · have hr' : d.st.length ≤ d.seen.length := hr
    unfold Wk.enter
    split
    · exact hr
    · show (d.st ++ [u]).length ≤ (u :: d.seen).length
      simp; omega
  · obtain ⟨seen, path, st⟩ := d
    unfold Wk.step
    split
    · exact hr
    · exact hr
    · rename_i n u l p e
      have hr' : st.length ≤ seen.length := hr
      unfold Wk.enter
      split
      · exact hr
      · show (st ++ [u]).length ≤ (u :: seen).length
        simp; omega
end Go.Proofs.Ytjfhncbfbhkhgaa
