/- Rows that a call owns, in a box or a slot: what stays of them (no program but the types' numbers). -/
import Derived.Test.YtbdfjboojokgdaaDoorJS26
import Derived.Test.YtbdfjboojokgdaaDoorJS27
import Derived.Test.YtbdfjboojokgdaaDoorJS29
import Derived.Test.YtbdfjboojokgdaaDoorJS17
import Derived.Deep.AppendLies
namespace Go.Proofs.YtbdfjboojokgdaaDoor
open Go.RowKit

theorem own_type {w : World} {base : Nat} {e : TypeId} {size : Nat} {v : Value} {n : Nat} {xs : List Value} (h : w.ownsRow base e size v n xs) {g : Nat} (hg : v.ownBlock = some g) : ∃ cur, w.heap[g]? = some (.cells cur e) := by
  rcases h.2 with ⟨h1, _⟩ | ⟨g', cap, cur, h1, _, h3, _⟩
  · rw [h1] at hg; cases hg
  · rw [h1] at hg; injection hg with hg; exact ⟨cur, by rw [← hg]; exact h3⟩
theorem own_not {w : World} {base : Nat} {e e' : TypeId} {size : Nat} {v : Value} {n : Nat} {xs : List Value} (h : w.ownsRow base e size v n xs) {b : Nat} {cs : Array Value} (hb : w.heap[b]? = some (.cells cs e')) (hne : e ≠ e') : v.ownBlock ≠ some b := fun hg => by
  obtain ⟨cur, h1⟩ := own_type h hg
  rw [h1] at hb; injection hb with hb; injection hb with _ hb; exact hne hb
theorem own_keep {w w' : World} {base : Nat} {e : TypeId} {size : Nat} {v : Value} {n : Nat} {xs : List Value} (h : w.ownsRow base e size v n xs) (hb : ∀ g, v.ownBlock = some g → w'.heap[g]? = w.heap[g]?) : w'.ownsRow base e size v n xs := by
  refine ⟨h.1, ?_⟩
  rcases h.2 with h2 | ⟨g, cap, cur, h1, h2, h3, h4⟩
  · exact .inl h2
  · exact .inr ⟨g, cap, cur, h1, h2, (hb g (by rw [h1]; rfl)).trans h3, h4⟩
theorem own_form {w : World} {base : Nat} {e : TypeId} {size : Nat} {v : Value} {n : Nat} {xs : List Value} (h : w.ownsRow base e size v n xs) : ∃ A c, v = .slice A n c := by
  rcases h.2 with ⟨h1, h2⟩ | ⟨g, cap, cur, h1, _⟩
  · exact ⟨none, 0, by rw [h1, h2]⟩
  · exact ⟨_, _, h1⟩
theorem own_cap {w : World} {base : Nat} {e : TypeId} {size : Nat} {v : Value} {n : Nat} {xs : List Value} (h : w.ownsRow base e size v n xs) : ∃ A c, v = .slice A n c ∧ n ≤ c ∧ c ≤ maxLen := by
  rcases h.2 with ⟨h1, h2⟩ | ⟨g, cap, cur, h1, _, _, h4, h5, _⟩
  · exact ⟨none, 0, by rw [h1, h2], by omega, Nat.zero_le _⟩
  · exact ⟨_, _, h1, h4, h5⟩
/-- A row of numbers, of texts. -/
def OwnI (base : Nat) (w : World) (v : Value) (zs : List Int) : Prop := w.ownsRow base 3 1 v zs.length (zs.map (Value.int .i64))
def OwnS (base : Nat) (w : World) (v : Value) (ss : List ByteArray) : Prop := w.ownsRow base 9 1 v ss.length (ss.map Value.string)
theorem OwnI.nil (base : Nat) (w : World) : OwnI base w (.slice none 0 0) [] := World.ownsRow_nil w base 3 1
theorem OwnS.nil (base : Nat) (w : World) : OwnS base w (.slice none 0 0) [] := World.ownsRow_nil w base 9 1
theorem OwnI.ints {base : Nat} {w : World} {v : Value} {zs : List Int} (h : OwnI base w v zs) (hz : ∀ z ∈ zs, -9223372036854775808 ≤ z ∧ z ≤ 9223372036854775807) : IntsAt (fun b => base ≤ b ∧ v.ownBlock = some b) w v zs := by
  obtain ⟨A, c, e, hc, hm⟩ := own_cap h
  refine ⟨A, c, e, hc, hm, hz, ?_⟩
  rcases h.2 with ⟨h1, h2⟩ | ⟨g, cap, cur, h1, h2, h3, h4, h5, h6, h7⟩
  · exact .inl (List.eq_nil_of_length_eq_zero h2)
  · rw [h1] at e; injection e with e1 e2 e3
    refine .inr ⟨g, 0, e1.symm, ⟨h2, by rw [h1]; rfl⟩, lt_of_block h3, fun i hi => ?_⟩
    have h9 := h.cells (g := g) (by rw [h1]; rfl) i (.int .i64 zs[i]) (by rw [List.getElem?_map, List.getElem?_eq_getElem hi]; rfl)
    rw [Nat.zero_add]; by_cases e : i = 0
    · subst e; simpa [Addr.add] using h9
    · simpa [Addr.add, e] using h9
theorem OwnS.strs {base : Nat} {w : World} {v : Value} {ss : List ByteArray} (h : OwnS base w v ss) : StrsAt (fun b => base ≤ b ∧ v.ownBlock = some b) w v ss := by
  obtain ⟨A, c, e, hc, hm⟩ := own_cap h
  refine ⟨A, c, e, hc, hm, ?_⟩
  rcases h.2 with ⟨h1, h2⟩ | ⟨g, cap, cur, h1, h2, h3, h4, h5, h6, h7⟩
  · exact .inl (List.eq_nil_of_length_eq_zero h2)
  · rw [h1] at e; injection e with e1 e2 e3
    refine .inr ⟨g, 0, e1.symm, ⟨h2, by rw [h1]; rfl⟩, lt_of_block h3, fun i hi => ?_⟩
    have h9 := h.cells (g := g) (by rw [h1]; rfl) i (.string ss[i]) (by rw [List.getElem?_map, List.getElem?_eq_getElem hi]; rfl)
    rw [Nat.zero_add]; by_cases e : i = 0
    · subst e; simpa [Addr.add] using h9
    · simpa [Addr.add, e] using h9
theorem StrsAt.mono {P Q : Nat → Prop} {w : World} {v : Value} {ss : List ByteArray} (h : StrsAt P w v ss) (hpq : ∀ b, P b → Q b) : StrsAt Q w v ss := by
  obtain ⟨A, c, e, h1, h2, hr⟩ := h
  refine ⟨A, c, e, h1, h2, ?_⟩
  rcases hr with h9 | ⟨b, off, e, hp, r⟩
  · exact .inl h9
  · exact .inr ⟨b, off, e, hpq b hp, r⟩
theorem Tryd.info9 : (Tryd.prog.info? 9).map (fun i => (i.zero, i.size, i.bytes)) = some (some (.string ⟨#[]⟩), 1, 16) := by kernel_rfl
theorem one_str (x : ByteArray) : ∀ u ∈ [Value.string x], u.oneCell' = true := by intro u hu; simp at hu; subst hu; rfl
theorem one_int (x : Int) : ∀ u ∈ [Value.int .i64 x], u.oneCell' = true := by intro u hu; simp at hu; subst hu; rfl
theorem news_one (w : World) (u : Value) (t : TypeId) : ∀ j x, [u][j]? = some x → (w.alloc (.cells #[u] t)).cell? ((⟨w.heap.size, 0, none⟩ : Addr).add j) = some x := by
  intro j x hj
  cases j with
  | zero => simp at hj; subst hj; simp [go_sem, Addr.add]
  | succ j => simp at hj
end Go.Proofs.YtbdfjboojokgdaaDoor
