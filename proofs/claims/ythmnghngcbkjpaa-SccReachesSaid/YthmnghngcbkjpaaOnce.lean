/- The groups' row holds each thing once. No conditions but those that each theorem names. -/
import Derived.Test.YthmnghngcbkjpaaOrder
import Derived.Test.YthmnghngcbkjpaaNum
namespace Go.Proofs.Ythmnghngcbkjpaa
theorem nodup_le' : ∀ (l m : List Nat), l.Nodup → (∀ x ∈ l, x ∈ m) → l.length ≤ m.length
  | [], _, _, _ => by simp
  | a :: r, m, hn, hs => by
    rw [List.nodup_cons] at hn
    have h1 := nodup_le' r (m.erase a) hn.2 (fun x hx => (List.mem_erase_of_ne (fun e => hn.1 (by rw [← e]; exact hx))).2 (hs x (List.mem_cons_of_mem _ hx)))
    have h2 := hs a List.mem_cons_self
    have h3 := List.length_pos_of_mem h2
    rw [List.length_erase_of_mem h2] at h1
    rw [List.length_cons]; omega
structure RowOk (n : Nat) (L : Nat → List Int) (r : List (List Nat)) : Prop where
  nodup : r.flatten.Nodup
  mem : ∀ x, x ∈ r.flatten ↔ x < n
  row : ∀ i j (hi : i < r.length) (hj : j < r.length) x y, x ∈ r[i] → y ∈ r[j] → Leads n L x y → j ≤ i
  both : ∀ g ∈ r, ∀ x ∈ g, ∀ y, y < n → (y ∈ g ↔ Mut n L x y)
theorem IsRow.ok {n : Nat} {L : Nat → List Int} {ld : Nat → Nat → Bool} {r : List (List Nat)} (h : IsRow n ld r) (hld : LdIs n L ld) : RowOk n L r := by
  obtain ⟨dn, ht, hn⟩ := h
  have ho := ht.ok hld
  refine ⟨?_, fun x => ⟨fun hx => ?_, fun hx => ?_⟩, ho.row, ho.both⟩
  · rw [List.Nodup, List.pairwise_flatten]
    refine ⟨ho.nodup, ?_⟩
    rw [List.pairwise_iff_getElem]
    intro i j hi hj hij x hx y hy e
    subst e
    have := ho.once i j hi hj x hx hy
    omega
  · obtain ⟨g, hg, hxg⟩ := List.mem_flatten.1 hx
    exact ho.lt g hg x hxg
  · have h1 := all_told hld hn _ x (Nat.le_refl _) hx
    obtain ⟨g, hg, hxg⟩ := (ho.all x hx).1 h1
    exact List.mem_flatten.2 ⟨g, hg, hxg⟩
theorem RowOk.total {n : Nat} {L : Nat → List Int} {r : List (List Nat)} (h : RowOk n L r) : r.flatten.length = n := by
  have h1 := nodup_le' r.flatten (List.range n) h.nodup (fun x hx => List.mem_range.2 ((h.mem x).1 hx))
  have h2 := nodup_le' (List.range n) r.flatten (nodup_range n) (fun x hx => (h.mem x).2 (List.mem_range.1 hx))
  rw [List.length_range] at h1 h2
  omega
/-- Places, behind so many groups and so many of the next one. -/
structure PlOk (r : List (List Nat)) (n i j : Nat) (p : Nat → Nat) (many : Nat) : Prop where
  zero : ∀ x, x < n → x ∉ (r.take i).flatten ++ (r.getD i []).take j → p x = 0
  at' : ∀ a (ha : a < r.length) x, x ∈ r[a] → x ∈ (r.take i).flatten ++ (r.getD i []).take j → p x = a + 1
  many : many = ((r.take i).flatten ++ (r.getD i []).take j).length
theorem PlOk.start (r : List (List Nat)) (n : Nat) : PlOk r n 0 0 (fun _ => 0) 0 := ⟨fun _ _ _ => rfl, fun a ha x h1 h2 => by simp at h2, by simp⟩
section
variable {r : List (List Nat)} {n i j : Nat} {p : Nat → Nat} {many : Nat} {L : Nat → List Int}
theorem flat_take (r : List (List Nat)) (i : Nat) (hi : i < r.length) : (r.take (i + 1)).flatten = (r.take i).flatten ++ r[i] := by
  rw [List.take_succ_eq_append_getElem hi, List.flatten_append]; simp
theorem getD_at (r : List (List Nat)) (i : Nat) (hi : i < r.length) : r.getD i [] = r[i] := by rw [List.getD_eq_getElem?_getD, List.getElem?_eq_getElem hi]; rfl
theorem PlOk.step (h : PlOk r n i j p many) (hr : RowOk n L r) (hi : i < r.length) (hj : j < r[i].length) : p r[i][j] = 0 ∧ r[i][j] < n ∧ PlOk r n i (j + 1) (upd p r[i][j] (i + 1)) (many + 1) := by
  have hd := getD_at r i hi
  have hpre : (r.take i).flatten ++ r[i].take (j + 1) <+: r.flatten := by
    have e : r.flatten = (r.take (i + 1)).flatten ++ (r.drop (i + 1)).flatten := by rw [← List.flatten_append, List.take_append_drop]
    rw [e, flat_take r i hi, List.append_assoc]
    refine (List.prefix_append_right_inj _).2 ?_
    exact (List.take_prefix _ _).trans (List.prefix_append _ _)
  have htk : r[i].take (j + 1) = r[i].take j ++ [r[i][j]] := List.take_succ_eq_append_getElem hj
  have hnd : ((r.take i).flatten ++ r[i].take (j + 1)).Nodup := hr.nodup.sublist hpre.sublist
  rw [htk, ← List.append_assoc] at hnd
  have hnot : r[i][j] ∉ (r.take i).flatten ++ r[i].take j := by
    rw [List.nodup_append] at hnd
    intro hm
    exact hnd.2.2 _ hm _ (List.mem_singleton.2 rfl) rfl
  have hxn : r[i][j] < n := (hr.mem _).1 (List.mem_flatten.2 ⟨r[i], List.getElem_mem hi, List.getElem_mem hj⟩)
  refine ⟨h.zero _ hxn (by rw [hd]; exact hnot), hxn, fun x hx hn => ?_, fun a ha x hxa hm => ?_, ?_⟩
  · rw [hd, htk, ← List.append_assoc] at hn
    have hne : x ≠ r[i][j] := fun e => hn (List.mem_append_right _ (by rw [e]; exact List.mem_singleton.2 rfl))
    rw [upd_other _ hne]
    exact h.zero x hx (by rw [hd]; exact fun e => hn (List.mem_append_left _ e))
  · by_cases e : x = r[i][j]
    · rw [e, upd_same]
      rw [e] at hxa
      have hno := hr.nodup
      rw [List.Nodup, List.pairwise_flatten, List.pairwise_iff_getElem] at hno
      rcases Nat.lt_trichotomy a i with h9 | h9 | h9
      · exact absurd rfl (hno.2 a i ha hi h9 _ hxa _ (List.getElem_mem hj))
      · rw [h9]
      · exact absurd rfl (hno.2 i a hi ha h9 _ (List.getElem_mem hj) _ hxa)
    · rw [upd_other _ e]
      refine h.at' a ha x hxa ?_
      rw [hd]
      rw [hd, htk, ← List.append_assoc] at hm
      rcases List.mem_append.1 hm with hm | hm
      · exact hm
      · exact absurd (List.mem_singleton.1 hm) e
  · rw [hd, htk, ← List.append_assoc, List.length_append, List.length_singleton, h.many, hd]
theorem PlOk.next (h : PlOk r n i j p many) (hi : i < r.length) (hj : r[i].length ≤ j) : PlOk r n (i + 1) 0 p many := by
  have e : (r.take (i + 1)).flatten ++ (r.getD (i + 1) []).take 0 = (r.take i).flatten ++ (r.getD i []).take j := by
    rw [flat_take r i hi, getD_at r i hi, List.take_zero, List.append_nil, List.take_of_length_le hj]
  exact ⟨fun x hx hn => h.zero x hx (by rw [← e]; exact hn), fun a ha x hxa hm => h.at' a ha x hxa (by rw [← e]; exact hm), by rw [e]; exact h.many⟩
/-- All is placed. -/
theorem PlOk.fin (h : PlOk r n r.length 0 p many) (hr : RowOk n L r) : many = n ∧ ∀ x y, x < n → y < n → Leads n L x y → p y ≤ p x := by
  have e : (r.take r.length).flatten ++ (r.getD r.length []).take 0 = r.flatten := by simp
  have key : ∀ x, x < n → ∃ a, ∃ (ha : a < r.length), x ∈ r[a] ∧ p x = a + 1 := fun x hx => by
    have hm := (hr.mem x).2 hx
    obtain ⟨g, hg, hxg⟩ := List.mem_flatten.1 hm
    obtain ⟨a, ha, rfl⟩ := List.getElem_of_mem hg
    exact ⟨a, ha, hxg, h.at' a ha x hxg (by rw [e]; exact hm)⟩
  refine ⟨by rw [h.many, e]; exact hr.total, fun x y hx hy hl => ?_⟩
  obtain ⟨a, ha, hxa, ea⟩ := key x hx
  obtain ⟨b, hb, hyb, eb⟩ := key y hy
  have := hr.row a b ha hb x y hxa hyb hl
  omega
end
end Go.Proofs.Ythmnghngcbkjpaa
