/- from: all things to which one leads are come to. No conditions but those that each theorem names. -/
import Derived.Test.YthmnghngcbkjpaaLea
namespace Go.Proofs.Ythmnghngcbkjpaa
open Go.RowKit
/-- How much is left to do. -/
def unv (n : Nat) (L : Nat → List Int) (come : Nat → Nat) : Nat := ((List.range n).map (fun i => if come i = 0 then (L i).length + 1 else 0)).sum
def pm (p : List (Nat × List Int)) : Nat := (p.map (fun a => a.2.length + 1)).sum
theorem unv_upd (n : Nat) (L : Nat → List Int) (come : Nat → Nat) (x v : Nat) (hx : x < n) (h0 : come x = 0) (hv : v ≠ 0) : unv n L (upd come x v) + (L x).length + 1 = unv n L come := by
  unfold unv
  induction n with
  | zero => omega
  | succ n ih =>
    rw [List.range_succ, List.map_append, List.map_append, List.sum_append, List.sum_append]
    by_cases e : x = n
    · subst e
      have hs : (List.range x).map (fun i => if upd come x v i = 0 then (L i).length + 1 else 0) = (List.range x).map (fun i => if come i = 0 then (L i).length + 1 else 0) := by
        apply List.map_congr_left
        intro y hy
        rw [upd_other come (by have := List.mem_range.1 hy; omega)]
      rw [hs]
      simp [upd_same, h0, hv]
      omega
    · have := ih (by omega)
      have hn : upd come x v n = come n := upd_other come (fun e' => e e'.symm) v
      simp [hn]
      omega
theorem pm_snoc (p : List (Nat × List Int)) (a : Nat × List Int) : pm (p ++ [a]) = pm p + a.2.length + 1 := by
  unfold pm; simp; omega
def todo (n : Nat) (L : Nat → List Int) (s : S) : Nat := unv n L s.come + pm s.path
/-- An edge to what is none of the things. -/
theorem Inv.edgeNone {n : Nat} {L : Nat → List Int} {s : S} (h : Inv n L s) {r : List (Nat × List Int)} {t : Nat} {z : Int} {l : List Int} (hp : s.path = r ++ [(t, z :: l)]) (hz : ¬ (0 ≤ z ∧ z < n)) : Inv n L ({ s with path := r ++ [(t, l)] } : S) :=
  h.skip hp (fun h0 h1 => absurd ⟨h0, h1⟩ hz)
/-- An edge to what was come to. -/
theorem Inv.edgeOld {n : Nat} {L : Nat → List Int} {s : S} (h : Inv n L s) (hn : n < top) {r : List (Nat × List Int)} {t : Nat} {z : Int} {l : List Int} (hp : s.path = r ++ [(t, z :: l)]) (h0 : 0 ≤ z) (h1 : z < n) (hc : s.come z.toNat ≠ 0) : Inv n L (({ s with path := r ++ [(t, l)] } : S).leads t z.toNat) := by
  have htp : (t, z :: l) ∈ s.path := by rw [hp]; simp
  have hto := h.pathopen _ _ htp
  obtain ⟨d, hd⟩ := h.parts _ _ htp
  have he : Edge n L t z.toNat := ⟨(h.openlt t hto).1, by omega, by rw [hd, Int.toNat_of_nonneg h0]; simp⟩
  have h2 := h.leads hn ⟨z :: l, htp⟩ (.edge he) he.2.1 hc
  exact h2.skip hp (fun _ _ => ⟨hc, fun ho => by
    have h3 := (h.low z.toNat ho).1
    show upd s.least t (min (s.least t) (s.least z.toNat)) t ≤ s.come z.toNat
    rw [upd_same]
    exact Nat.le_trans (Nat.min_le_right _ _) h3⟩)
/-- An edge to what was not come to yet. -/
theorem Inv.edgeNew {n : Nat} {L : Nat → List Int} {s : S} (h : Inv n L s) {r : List (Nat × List Int)} {t : Nat} {z : Int} {l : List Int} (hp : s.path = r ++ [(t, z :: l)]) (h0 : 0 ≤ z) (h1 : z < n) (hc : s.come z.toNat = 0) : Inv n L (({ s with path := r ++ [(t, l)] } : S).enter L z.toNat) := by
  have htp : (t, z :: l) ∈ s.path := by rw [hp]; simp
  have hto := h.pathopen _ _ htp
  obtain ⟨d, hd⟩ := h.parts _ _ htp
  have he : Edge n L t z.toNat := ⟨(h.openlt t hto).1, by omega, by rw [hd, Int.toNat_of_nonneg h0]; simp⟩
  have h2 := h.enter he.2.1 hc (.inr ⟨r, t, z :: l, hp, he⟩)
  have hp2 : (s.enter L z.toNat).path = r ++ (t, z :: l) :: [(z.toNat, L z.toNat)] := by
    show s.path ++ [(z.toNat, L z.toNat)] = _
    rw [hp]; simp
  have htz : t ≠ z.toNat := fun e => (h.openlt t hto).2 (by rw [e]; exact hc)
  have h3 := h2.skip hp2 (fun _ _ => by
    have e1 : (s.enter L z.toNat).come z.toNat = s.count + 1 := upd_same _ _ _
    have e2 : (s.enter L z.toNat).least t = s.least t := upd_other _ htz _
    rw [e1, e2]
    refine ⟨by omega, fun _ => ?_⟩
    have := (h.low t hto).1
    have := h.small t
    omega)
  have e3 : ({ (s.enter L z.toNat) with path := r ++ (t, l) :: [(z.toNat, L z.toNat)] } : S) = ({ s with path := r ++ [(t, l)] } : S).enter L z.toNat := by
    unfold S.enter
    simp
  rw [e3] at h3
  exact h3
theorem nodup_le : ∀ (l m : List Nat), l.Nodup → (∀ x ∈ l, x ∈ m) → l.length ≤ m.length
  | [], _, _, _ => by simp
  | a :: r, m, hn, hs => by
    rw [List.nodup_cons] at hn
    have h1 := nodup_le r (m.erase a) hn.2 (fun x hx => (List.mem_erase_of_ne (fun e => hn.1 (by rw [← e]; exact hx))).2 (hs x (List.mem_cons_of_mem _ hx)))
    have h2 := hs a List.mem_cons_self
    have h3 := List.length_pos_of_mem h2
    rw [List.length_erase_of_mem h2] at h1
    rw [List.length_cons]; omega
theorem Inv.openle {n : Nat} {L : Nat → List Int} {s : S} (h : Inv n L s) : s.opens.length ≤ n ∧ s.path.length ≤ n := by
  have hs := h.sorted
  have hnd : s.opens.Nodup := hs.imp (fun {a b} hab e => by rw [e] at hab; omega)
  have hsub : s.opens ⊆ List.range n := fun x hx => List.mem_range.2 (h.openlt x hx).1
  have h1 : s.opens.length ≤ n := by
    have := nodup_le _ _ hnd hsub
    simpa using this
  have hp := h.pathsorted
  have hpd : (s.path.map (·.1)).Nodup := by
    unfold List.Nodup
    rw [List.pairwise_map]
    exact hp.imp (fun {a b} hab e => by rw [e] at hab; omega)
  have hps : (s.path.map (·.1)) ⊆ s.opens := fun x hx => by
    obtain ⟨a, ha, rfl⟩ := List.mem_map.1 hx
    exact h.pathopen a.1 a.2 ha
  have h2 := nodup_le _ _ hpd hps
  rw [List.length_map] at h2
  exact ⟨h1, by omega⟩
end Go.Proofs.Ythmnghngcbkjpaa
