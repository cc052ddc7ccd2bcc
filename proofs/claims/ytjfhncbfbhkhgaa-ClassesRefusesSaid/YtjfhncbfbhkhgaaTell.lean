/- tell: of the refusals that were told the one at the least place. No conditions but those that each theorem names. -/
import Derived.Test.YtjfhncbfbhkhgaaClA
namespace Go.Proofs.Ytjfhncbfbhkhgaa
open Go.RowKit
def tellF (s : Int × Int) (e a : Int) : Int × Int := if s.1 = 0 ∨ a < s.2 then (e, a) else s
def RefAt (rb : Nat) (s : Int × Int) (w : World) : Prop := w.heap[rb]? = some (.cells #[.int .i64 s.1, .int .i64 s.2] 89)
def TellRes (rb : Nat) (s : Int × Int) (w : World) (e : Ending) (w' : World) : Prop := e = .returned (.tuple #[]) ∧ RefAt rb s w' ∧ Fr (fun b => b = rb) w w'
theorem RefAt.set {rb : Nat} {s : Int × Int} {w : World} (h : RefAt rb s w) (e a : Int) : RefAt rb (e, a) ((w.setCell ⟨rb, 0, none⟩ (.int .i64 e)).setCell ⟨rb, 1, none⟩ (.int .i64 a)) := by
  unfold RefAt at *
  have h1 := heap_setCell_same w rb 0 _ 89 (.int .i64 e) h
  have h2 := heap_setCell_same _ rb 1 _ 89 (.int .i64 a) h1
  rw [h2]; rfl
set_option maxRecDepth 100000 in
set_option maxHeartbeats 1000000 in
theorem tell_any {rb : Nat} {s : Int × Int} {w : World} (h : RefAt rb s w) (e a : Int) :
    Calls Try.prog 35 #[.pointer (some ⟨rb, 0, none⟩), .int .i64 e, .int .i64 a] w (TellRes rb (tellF s e a) w) := by
  obtain ⟨s1, s2⟩ := s
  have c0 : w.cell? ⟨rb, 0, none⟩ = some (.int .i64 s1) ∧ w.cell? ⟨rb, 1, none⟩ = some (.int .i64 s2) ∧ w.frozen? ⟨rb, 0, none⟩ = false ∧ w.frozen? ⟨rb, 1, none⟩ = false := by
    unfold RefAt at h
    simp [World.cell?, World.frozen?, h]
  obtain ⟨d0, d1, f0, f1⟩ := c0
  have HS := Lib.hid (h.set e a)
  have HF : Hid (Fr (fun b => b = rb) w ((w.setCell ⟨rb, 0, none⟩ (.int .i64 e)).setCell ⟨rb, 1, none⟩ (.int .i64 a))) := Lib.hid (((Fr.refl (fun b => b = rb) w).setCell (b := rb) rfl _).setCell (b := rb) rfl _)
  have HH := Lib.hid h
  clear h
  by_cases h1 : s1 = 0
  · have HT : Hid (tellF (s1, s2) e a = (e, a)) := Lib.hid (by unfold tellF; rw [if_pos (.inl h1)])
    subst h1
    go_enter Try.func35, Try.ntmps35
    go_wp2
    go_end0
    exact ⟨rfl, by rw [HT.out]; exact HS.out, HF.out⟩
  · by_cases h2 : a < s2
    · have HT : Hid (tellF (s1, s2) e a = (e, a)) := Lib.hid (by unfold tellF; rw [if_pos (.inr h2)])
      go_enter Try.func35, Try.ntmps35
      go_wp2
      go_end0
      exact ⟨rfl, by rw [HT.out]; exact HS.out, HF.out⟩
    · have HT : Hid (tellF (s1, s2) e a = (s1, s2)) := Lib.hid (by unfold tellF; rw [if_neg (fun h => h.elim h1 h2)])
      go_enter Try.func35, Try.ntmps35
      go_wp2
      go_end0
      exact ⟨rfl, by rw [HT.out]; exact HH.out, Fr.refl _ _⟩
/-- What is told in a row. -/
def tellsF (s : Int × Int) (l : List (Int × Int)) : Int × Int := l.foldl (fun s p => tellF s p.1 p.2) s
theorem tellsF_append (s : Int × Int) (l m : List (Int × Int)) : tellsF s (l ++ m) = tellsF (tellsF s l) m := List.foldl_append
theorem tellsF_zero {s : Int × Int} {l : List (Int × Int)} (hl : ∀ p ∈ l, p.1 ≠ 0) : (tellsF s l).1 = 0 ↔ s.1 = 0 ∧ l = [] := by
  induction l generalizing s with
  | nil => simp [tellsF]
  | cons p l ih =>
    have h1 := ih (s := tellF s p.1 p.2) (fun q hq => hl q (List.mem_cons_of_mem _ hq))
    have h2 : tellsF s (p :: l) = tellsF (tellF s p.1 p.2) l := rfl
    rw [h2, h1]
    constructor
    · rintro ⟨h3, _⟩
      exfalso
      unfold tellF at h3
      split at h3
      · exact hl p (List.mem_cons_self ..) h3
      · rename_i h4; exact h4 (.inl h3)
    · rintro ⟨_, h3⟩; cases h3
end Go.Proofs.Ytjfhncbfbhkhgaa
