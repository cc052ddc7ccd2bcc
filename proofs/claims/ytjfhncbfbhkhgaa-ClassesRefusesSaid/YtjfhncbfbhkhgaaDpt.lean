/- The document's Path, Method and Ints: their mathematics, their walks. Conditions: those that each theorem names. -/
import Derived.Test.YtjfhncbfbhkhgaaMadB
import Derived.Test.YtjfhncbfbhkhgaaLawM
namespace Go.Proofs.Ytjfhncbfbhkhgaa
section
variable {α : Type} [DecidableEq α]
/-- The first of some from which there is an answer, its place ahead of it. -/
def scanF (f : α → Option (List Nat)) : List α → Nat → Option (List Nat)
  | [], _ => none
  | y :: l, k => match f y with
    | some r => some (k :: r)
    | none => scanF f l (k + 1)
/-- The document's path: of so many steps. -/
def pathF (next : α → List α) (has : α → Bool) (b : α) : Nat → α → Option (List Nat)
  | 0, a => if has a = true ∧ a = b then some [] else none
  | n + 1, a => scanF (pathF next has b n) (next a) 0
omit [DecidableEq α] in
theorem scanF_some {f : α → Option (List Nat)} : ∀ {l : List α} {k : Nat} {u : List Nat}, scanF f l k = some u → ∃ j y r, l[j]? = some y ∧ f y = some r ∧ u = (k + j) :: r ∧ ∀ i z, i < j → l[i]? = some z → f z = none
  | [], _, _, h => by cases h
  | y :: l, k, u, h => by
    unfold scanF at h
    cases e : f y with
    | some r => rw [e] at h; injection h with h; exact ⟨0, y, r, rfl, e, h.symm, fun i z hi => absurd hi (by omega)⟩
    | none =>
      rw [e] at h
      obtain ⟨j, z, r, h1, h2, h3, h4⟩ := scanF_some h
      refine ⟨j + 1, z, r, h1, h2, by rw [h3]; congr 1; omega, fun i x hi hx => ?_⟩
      cases i with
      | zero => injection hx with hx; subst hx; exact e
      | succ i => exact h4 i x (by omega) hx
omit [DecidableEq α] in
theorem scanF_none {f : α → Option (List Nat)} : ∀ {l : List α} {k : Nat}, scanF f l k = none → ∀ y ∈ l, f y = none
  | [], _, _, y, hy => by cases hy
  | z :: l, k, h, y, hy => by
    unfold scanF at h
    cases e : f z with
    | some r => rw [e] at h; cases h
    | none =>
      rw [e] at h
      rcases List.mem_cons.1 hy with rfl | hy
      · exact e
      · exact scanF_none h y hy
theorem pathF_none {next : α → List α} {has : α → Bool} {b : α} (hb : has b = true) : ∀ {n : Nat} {a : α}, pathF next has b n a = none → ∀ v, v.length = n → goW next a v ≠ some b
  | 0, a, h, v, hv => by
    have hv0 : v = [] := List.eq_nil_of_length_eq_zero hv
    subst hv0
    intro e
    injection e with e
    subst e
    unfold pathF at h
    rw [if_pos ⟨hb, rfl⟩] at h; cases h
  | n + 1, a, h, v, hv => by
    cases v with
    | nil => cases hv
    | cons j v =>
      intro e
      have e' : (next a)[j]?.bind (fun y => goW next y v) = some b := e
      cases hj : (next a)[j]? with
      | none => rw [hj] at e'; cases e'
      | some y =>
        rw [hj] at e'
        exact pathF_none hb (scanF_none (f := pathF next has b n) h y (List.mem_of_getElem? hj)) v (by simpa using hv) e'
theorem pathF_some {next : α → List α} {has : α → Bool} {b : α} (hb : has b = true) : ∀ {n : Nat} {a : α} {u : List Nat}, pathF next has b n a = some u → goW next a u = some b ∧ u.length = n ∧ ∀ v, v.length = n → goW next a v = some b → u = v ∨ lx u v
  | 0, a, u, h => by
    unfold pathF at h
    split at h
    · rename_i hc
      injection h with h; subst h
      refine ⟨by rw [← hc.2]; rfl, rfl, fun v hv _ => .inl (List.eq_nil_of_length_eq_zero hv).symm⟩
    · cases h
  | n + 1, a, u, h => by
    obtain ⟨j, y, r, h1, h2, rfl, h4⟩ := scanF_some (f := pathF next has b n) h
    obtain ⟨g1, g2, g3⟩ := pathF_some hb h2
    rw [Nat.zero_add] at *
    refine ⟨?_, by simp [g2], fun v hv hw => ?_⟩
    · show (next a)[j]?.bind (fun y => goW next y r) = some b
      rw [h1]; exact g1
    · cases v with
      | nil => cases hv
      | cons i v =>
        have e' : (next a)[i]?.bind (fun y => goW next y v) = some b := hw
        cases hi : (next a)[i]? with
        | none => rw [hi] at e'; cases e'
        | some z =>
          rw [hi] at e'
          have hvn : v.length = n := by simpa using hv
          rcases Nat.lt_trichotomy i j with hlt | rfl | hlt
          · exact absurd e' (pathF_none hb (h4 i z hlt hi) v hvn)
          · rw [h1] at hi; injection hi with hi; subst hi
            rcases g3 v hvn e' with rfl | h9
            · exact .inl rfl
            · exact .inr (.inr ⟨rfl, h9⟩)
          · exact .inr (.inl hlt)
theorem pathF_no {next : α → List α} {has : α → Bool} {b : α} (hb : has b = false) : ∀ (n : Nat) (a : α), pathF next has b n a = none
  | 0, a => by
    unfold pathF
    rw [if_neg (fun h => by rw [h.2, hb] at h; cases h.1)]
  | n + 1, a => by
    show scanF (pathF next has b n) (next a) 0 = none
    cases e : scanF (pathF next has b n) (next a) 0 with
    | none => rfl
    | some u =>
      obtain ⟨j, y, r, _, h2, _⟩ := scanF_some e
      rw [pathF_no hb n y] at h2; cases h2
/-- A least way goes to no thing twice. -/
theorem least_len {next : α → List α} {has : α → Bool} {a b : α} {u : List Nat} (h : Least next a b u) {U : List α} (hU : ∀ x, has x = true → x ∈ U) (hn : ∀ x, has x = false → next x = []) : u.length ≤ U.length := by
  have hsplit : ∀ i, goW next a u = (goW next a (u.take i)).bind (fun y => goW next y (u.drop i)) := fun i => by
    rw [← goW_append, List.take_append_drop]
  have hsome : ∀ i, ∃ x, goW next a (u.take i) = some x ∧ goW next x (u.drop i) = some b := fun i => by
    have h1 := hsplit i
    rw [h.1] at h1
    cases e : goW next a (u.take i) with
    | none => rw [e] at h1; cases h1
    | some x => rw [e] at h1; exact ⟨x, rfl, h1.symm⟩
  have hmem : ∀ i, i < u.length → ∃ x, goW next a (u.take i) = some x ∧ x ∈ U := fun i hi => by
    obtain ⟨x, h1, h2⟩ := hsome i
    refine ⟨x, h1, hU x ?_⟩
    cases hc : has x with
    | true => rfl
    | false =>
      rw [List.drop_eq_getElem_cons hi] at h2
      have h3 : (next x)[u[i]]?.bind (fun y => goW next y (u.drop (i + 1))) = some b := h2
      rw [hn x hc] at h3; simp at h3
  have hinj : ∀ i j x, i < j → j ≤ u.length → goW next a (u.take i) = some x → goW next a (u.take j) = some x → False := fun i j x hij hj h1 h2 => by
    obtain ⟨y, h3, h4⟩ := hsome j
    rw [h2] at h3; injection h3 with h3; subst h3
    have h5 : goW next a (u.take i ++ u.drop j) = some b := by rw [goW_append, h1]; exact h4
    have hl : (u.take i ++ u.drop j).length < u.length := by rw [List.length_append, List.length_take, List.length_drop]; omega
    rcases h.2 _ h5 with (h6 | ⟨h6, _⟩) | h6
    · omega
    · omega
    · rw [← h6] at hl; omega
  have hx : ∃ f : Nat → α, ∀ i, i < u.length → goW next a (u.take i) = some (f i) ∧ f i ∈ U := by
    refine ⟨fun i => (goW next a (u.take i)).getD a, fun i hi => ?_⟩
    obtain ⟨x, h1, h2⟩ := hmem i hi
    simp only [h1, Option.getD_some]; exact ⟨trivial, h2⟩
  obtain ⟨f, hf⟩ := hx
  have hnd : ((List.range u.length).map f).Nodup := by
    rw [List.nodup_iff_pairwise_ne, List.pairwise_iff_getElem]
    intro i j hi hj hij e
    simp only [List.length_map, List.length_range] at hi hj
    simp only [List.getElem_map, List.getElem_range] at e
    exact hinj i j (f i) hij (Nat.le_of_lt hj) (hf i hi).1 (by rw [e]; exact (hf j hj).1)
  have := nodup_leK hnd (b := U) (fun x hx => by
    obtain ⟨i, hi, rfl⟩ := List.mem_map.1 hx
    exact (hf i (List.mem_range.1 hi)).2)
  simpa using this
/-- The first of some lengths that has a way. -/
def firstP (next : α → List α) (has : α → Bool) (a b : α) : Nat → Nat → Option (List Nat)
  | 0, _ => none
  | m + 1, n => match pathF next has b n a with
    | some u => some u
    | none => firstP next has a b m (n + 1)
theorem firstP_some {next : α → List α} {has : α → Bool} {a b : α} (hb : has b = true) : ∀ {m n : Nat} {u : List Nat}, (∀ v, goW next a v = some b → n ≤ v.length) → firstP next has a b m n = some u → Least next a b u
  | 0, _, _, _, h => by cases h
  | m + 1, n, u, hlo, h => by
    unfold firstP at h
    cases e : pathF next has b n a with
    | some r =>
      rw [e] at h; injection h with h; subst h
      obtain ⟨g1, g2, g3⟩ := pathF_some hb e
      refine ⟨g1, fun v hv => ?_⟩
      by_cases hl : v.length = n
      · rcases g3 v hl hv with h1 | h1
        · exact .inr h1
        · exact .inl (.inr ⟨by omega, h1⟩)
      · exact .inl (.inl (by have := hlo v hv; omega))
    | none =>
      rw [e] at h
      refine firstP_some hb (n := n + 1) (fun v hv => ?_) h
      have h1 := hlo v hv
      by_cases hl : v.length = n
      · exact absurd hv (pathF_none hb e v hl)
      · omega
theorem firstP_none {next : α → List α} {has : α → Bool} {a b : α} (hb : has b = true) : ∀ {m n : Nat}, firstP next has a b m n = none → ∀ v, goW next a v = some b → v.length < n ∨ n + m ≤ v.length
  | 0, n, _, v, hv => by omega
  | m + 1, n, h, v, hv => by
    unfold firstP at h
    cases e : pathF next has b n a with
    | some r => rw [e] at h; cases h
    | none =>
      rw [e] at h
      have h1 := firstP_none hb h v hv
      by_cases hl : v.length = n
      · exact absurd hv (pathF_none hb e v hl)
      · omega
theorem firstP_no {next : α → List α} {has : α → Bool} {a b : α} (hb : has b = false) : ∀ (m n : Nat), firstP next has a b m n = none
  | 0, _ => rfl
  | m + 1, n => by unfold firstP; rw [pathF_no hb]; exact firstP_no hb m (n + 1)
end
/-- The document's Path. -/
def docPath (C : List Cls) (a b : ByteArray) : Option (List Nat) := firstP (supF C) (hasF C) a b (C.length + 1) 0
theorem docPath_some {C : List Cls} {a b : ByteArray} {u : List Nat} (h : docPath C a b = some u) : hasF C b = true ∧ Least (supF C) a b u := by
  cases hb : hasF C b with
  | true => exact ⟨rfl, firstP_some hb (fun v _ => Nat.zero_le _) h⟩
  | false => unfold docPath at h; rw [firstP_no hb] at h; cases h
/-- What is shortest among ways is found. -/
theorem least_of_way {C : List Cls} {a b : ByteArray} : ∀ (n : Nat) (v : List Nat), v.length ≤ n → goW (supF C) a v = some b → ∃ v', goW (supF C) a v' = some b ∧ ∀ w, goW (supF C) a w = some b → v'.length ≤ w.length
  | n, v, hn, hv => by
    by_cases h : ∀ w, goW (supF C) a w = some b → v.length ≤ w.length
    · exact ⟨v, hv, h⟩
    · obtain ⟨w, hw⟩ := Classical.not_forall.1 h
      obtain ⟨hw1, hw2⟩ := Classical.not_imp.1 hw
      cases n with
      | zero => omega
      | succ n => exact least_of_way n w (by omega) hw1
theorem docPath_none {C : List Cls} {a b : ByteArray} (h : docPath C a b = none) : hasF C b = false ∨ ∀ u, goW (supF C) a u ≠ some b := by
  cases hb : hasF C b with
  | false => exact .inl rfl
  | true =>
    refine .inr (fun u hu => ?_)
    obtain ⟨v, hv, hmin⟩ := least_of_way u.length u (Nat.le_refl _) hu
    have hl := firstP_none (m := C.length + 1) hb h v hv
    -- a way as short as that goes through no class twice
    have key : ∀ (n : Nat), v.length = n → (∃ u, pathF (supF C) (hasF C) b n a = some u) := fun n hn => by
      cases e : pathF (supF C) (hasF C) b n a with
      | some u => exact ⟨u, rfl⟩
      | none => exact absurd hv (pathF_none hb e v hn)
    obtain ⟨r, hr⟩ := key _ rfl
    obtain ⟨g1, g2, g3⟩ := pathF_some hb hr
    have hL : Least (supF C) a b r := ⟨g1, fun w hw => by
      by_cases hl9 : w.length = v.length
      · rcases g3 w hl9 hw with h1 | h1
        · exact .inr h1
        · exact .inl (.inr ⟨by omega, h1⟩)
      · exact .inl (.inl (by have := hmin w hw; omega))⟩
    have := least_len (has := hasF C) hL (U := C.map (·.name)) (fun x h => hasF_mem h) (fun x h => supF_none h)
    simp at this
    omega
open Go.RowKit
def RPath (C : List Cls) (b : ByteArray) (n : Nat) (a : ByteArray) (w : World) (e : Ending) (w' : World) : Prop :=
  Below w.heap.size w w' ∧ ((∃ u rv, pathF (supF C) (hasF C) b n a = some u ∧ e = .returned (.tuple #[rv, .bool true]) ∧ IntsAt (fun b => b < w'.heap.size) w' rv (u.map (fun x : Nat => (x : Int))) ∧ (u = [] → rv = .slice none 0 0)) ∨
    (pathF (supF C) (hasF C) b n a = none ∧ e = .returned (.tuple #[.slice none 0 0, .bool false])))
theorem pathF_len {α : Type} [DecidableEq α] {next : α → List α} {has : α → Bool} {b : α} : ∀ {n : Nat} {a : α} {u : List Nat}, pathF next has b n a = some u → u.length = n
  | 0, a, u, h => by
    unfold pathF at h
    split at h
    · injection h with h; subst h; rfl
    · cases h
  | n + 1, a, u, h => by
    obtain ⟨j, y, r, _, h2, rfl, _⟩ := scanF_some (f := pathF next has b n) h
    simp [pathF_len h2]
theorem scan_step {f : ByteArray → Option (List Nat)} {l : List ByteArray} {k : Nat} {y : ByteArray} (hy : l[k]? = some y) (hf : f y = none) (h : scanF f l 0 = scanF f (l.drop k) k) : scanF f l 0 = scanF f (l.drop (k + 1)) (k + 1) := by
  obtain ⟨hk, rfl⟩ := List.getElem?_eq_some_iff.1 hy
  rw [h, List.drop_eq_getElem_cons hk]
  show (match f l[k] with | some r => _ | none => _) = _
  rw [hf]
theorem scan_hit {f : ByteArray → Option (List Nat)} {l : List ByteArray} {k : Nat} {y : ByteArray} {r : List Nat} (hy : l[k]? = some y) (hf : f y = some r) (h : scanF f l 0 = scanF f (l.drop k) k) : scanF f l 0 = some (k :: r) := by
  obtain ⟨hk, rfl⟩ := List.getElem?_eq_some_iff.1 hy
  rw [h, List.drop_eq_getElem_cons hk]
  show (match f l[k] with | some r => _ | none => _) = _
  rw [hf]
theorem scan_end {f : ByteArray → Option (List Nat)} {l : List ByteArray} {k : Nat} (hk : l.length ≤ k) (h : scanF f l 0 = scanF f (l.drop k) k) : scanF f l 0 = none := by
  rw [h, List.drop_eq_nil_of_le hk]; rfl
theorem OwnZ.ints {B : Nat} {w : World} {v : Value} {l : List Nat} (h : OwnZ B w v l) (hl : ∀ x ∈ l, x ≤ 9223372036854775807) : IntsAt (fun b => b < w.heap.size) w v (l.map (fun x : Nat => (x : Int))) := by
  obtain ⟨A, c, e, hc, hm⟩ := own_form h
  refine ⟨A, c, by rw [List.length_map]; exact e, by rw [List.length_map]; exact hc, hm, fun z hz => ?_, ?_⟩
  · obtain ⟨x, hx, rfl⟩ := List.mem_map.1 hz
    have := hl x hx
    omega
  · by_cases h0 : l = []
    · exact .inl (by rw [h0]; rfl)
    · obtain ⟨g, c', e', _, h2, _, _⟩ := own_some h (List.length_pos_iff.2 h0)
      rw [e] at e'; injection e' with e1 e2 e3
      refine .inr ⟨g, 0, e1, h2, h2, fun i hi => ?_⟩
      rw [e, e1] at h
      have h9 := World.ownsRow.cellAt h i (by simpa using hi)
      rw [Nat.zero_add, h9, List.getElem?_map, List.getElem?_eq_getElem (by simpa using hi)]
      simp [natV]
theorem rpath_form {C : List Cls} {b : ByteArray} {n : Nat} {a : ByteArray} {w : World} {e : Ending} {w' : World} (h : RPath C b n a w e w') : Below w.heap.size w w' ∧ ∃ (A : Option Addr) (m c : Nat) (q : Bool), e = .returned (.tuple #[.slice A m c, .bool q]) ∧
    ((q = true ∧ ∃ u, pathF (supF C) (hasF C) b n a = some u ∧ IntsAt (fun b => b < w'.heap.size) w' (.slice A m c) (u.map (fun x : Nat => (x : Int))) ∧ (u = [] → A = none ∧ m = 0 ∧ c = 0)) ∨ (q = false ∧ pathF (supF C) (hasF C) b n a = none)) := by
  obtain ⟨hb, ⟨u, rv, h1, rfl, h2, h3⟩ | ⟨h1, rfl⟩⟩ := h
  · obtain ⟨A, c, rfl, _⟩ := h2.form
    exact ⟨hb, _, _, _, _, rfl, .inl ⟨rfl, u, h1, h2, fun h => by have := h3 h; injection this with e1 e2 e3; exact ⟨e1, e2, e3⟩⟩⟩
  · exact ⟨hb, _, _, _, _, rfl, .inr ⟨rfl, h1⟩⟩
theorem rclass_form {Q : Nat → Prop} {C : List Cls} {x : ByteArray} {w w' : World} {e : Ending} (h : RClassRes Q C x w e w') : Below w.heap.size w w' ∧ ∃ n1 n2 n3 S A c A2 m2 c2 q, e = .returned (.tuple #[.agg #[.string n1, .int .i64 n2, .string n3, .slice none 0 0, .slice A (List.length S) c, .slice A2 m2 c2], .bool q]) ∧ S = supF C x ∧ q = hasF C x ∧ StrsAt Q w' (.slice A S.length c) S := by
  obtain ⟨⟨k2, sv, As, ns, ms, hk2, rfl, hsv⟩ | ⟨hk2, rfl⟩, hb2⟩ := h
  · obtain ⟨Asv, csv, rfl, _, _⟩ := hsv.form
    exact ⟨hb2, _, _, _, _, _, _, _, _, _, _, rfl, by unfold supF; rw [hk2], by unfold hasF; rw [hk2]; rfl, hsv⟩
  · exact ⟨hb2, _, _, _, [], none, 0, _, _, _, _, rfl, by unfold supF; rw [hk2], by unfold hasF; rw [hk2]; rfl, strs_nil _ _⟩
set_option maxRecDepth 100000 in
set_option maxHeartbeats 4000000 in
theorem rpath_any {Q : Nat → Prop} {C : List Cls} (hC : OkC C) {Ac Ai : Option Addr} {cc ni ci : Nat} {b : ByteArray} : ∀ (n : Nat) (a : ByteArray) (z : Int) (w : World), n ≤ 1048577 → z = (n : Int) → ClassesAt Q w (.slice Ac C.length cc) C → (∀ b, Q b → b < w.heap.size) →
    Calls Try.prog 47 #[.agg #[.slice none 0 0, .slice Ac C.length cc, .slice Ai ni ci, .slice none 0 0], .string a, .string b, .int .i64 z] w (RPath C b n a w) := by
  intro n
  induction n with
  | zero =>
    intro a z w hn hz hcl hQ
    obtain ⟨V, eV⟩ : ∃ V, w.alloc (.cells #[.slice none 0 0, .slice Ac C.length cc, .slice Ai ni ci, .slice none 0 0] 28) = V := ⟨_, rfl⟩
    have hbV : Below w.heap.size w V := by rw [← eV]; exact below_new w _
    have hx0 : V.heap[w.heap.size]? = some (.cells #[.slice none 0 0, .slice Ac C.length cc, .slice Ai ni ci, .slice none 0 0] 28) := by rw [← eV, alloc_get, if_pos rfl]
    obtain ⟨q0, q1, q2, q3⟩ : V.cell? ⟨w.heap.size, 0, none⟩ = some (.slice none 0 0) ∧ V.cell? ⟨w.heap.size, 1, none⟩ = some (.slice Ac C.length cc) ∧ V.cell? ⟨w.heap.size, 2, none⟩ = some (.slice Ai ni ci) ∧ V.cell? ⟨w.heap.size, 3, none⟩ = some (.slice none 0 0) := by simp [World.cell?, hx0]
    have HRC := Lib.hid (rclass_any (iv := .slice Ai ni ci) (hcl.keep hbV.size (fun b _ hl => hbV.block b hl)) ⟨_, _, _, rfl⟩ (fun b hb => Nat.lt_of_lt_of_le (hQ b hb) hbV.size) a)
    have HBV := Lib.hid hbV
    have HEV := Lib.hid eV
    have hz0 : z = 0 := by simpa using hz
    subst hz0
    clear eV hbV hx0 hcl hQ hz hn
    go_enter Try.func47, Try.ntmps47
    go_upto_region 1 with (fail)
    rw [HEV.out]
    clear HEV
    go_wp2_with fail
    with_reducible refine HRC.out.mono ?_
    rintro e w2 ⟨⟨k2, sv, As, ns, ms, hk2, rfl, hsv⟩ | ⟨hk2, rfl⟩, hb2⟩
    · obtain ⟨Asv, csv, rfl, _, _⟩ := hsv.form
      unfold clsV
      have HB2 := Lib.hid (Below.trans HBV.out (hb2.mono HBV.out.size))
      have HBX : Hid (Below w.heap.size w (w2.alloc (.cells #[.string k2.name, .int .i64 k2.atp, .string k2.var, .slice none 0 0, .slice Asv k2.supers.length csv, .slice As ns ms] 59))) := Lib.hid (HB2.out.trans ((below_new w2 _).mono HB2.out.size))
      have hhas : hasF C a = true := by unfold hasF; rw [hk2]; rfl
      by_cases e1 : a = b
      · have e2 : (a.toList == b.toList) = true := by rw [← beq_toListBytes, beq_iff_eq]; exact e1
        have HR : Hid (RPath C b 0 a w (.returned (.tuple #[.slice none 0 0, .bool true])) (w2.alloc (.cells #[.string k2.name, .int .i64 k2.atp, .string k2.var, .slice none 0 0, .slice Asv k2.supers.length csv, .slice As ns ms] 59))) := Lib.hid ⟨HBX.out, .inl ⟨[], _, by unfold pathF; rw [if_pos ⟨hhas, e1⟩], rfl, ints_nil _ _, fun _ => rfl⟩⟩
        clear hk2 hsv hb2 hhas e1
        go_wp2_with fail
        go_ret2
        exact HR.out
      · have e2 : (a.toList == b.toList) = false := by rw [← beq_toListBytes, beq_eq_false_iff_ne]; exact e1
        have HR : Hid (RPath C b 0 a w (.returned (.tuple #[.slice none 0 0, .bool false])) (w2.alloc (.cells #[.string k2.name, .int .i64 k2.atp, .string k2.var, .slice none 0 0, .slice Asv k2.supers.length csv, .slice As ns ms] 59))) := Lib.hid ⟨HBX.out, .inr ⟨by unfold pathF; rw [if_neg (fun h => e1 h.2)], rfl⟩⟩
        clear hk2 hsv hb2 hhas e1
        go_wp2_with fail
        go_ret2
        exact HR.out
    · unfold zCls
      have HB2 := Lib.hid (Below.trans HBV.out (hb2.mono HBV.out.size))
      have HBX : Hid (Below w.heap.size w (w2.alloc (.cells #[.string ⟨#[]⟩, .int .i64 0, .string ⟨#[]⟩, .slice none 0 0, .slice none 0 0, .slice none 0 0] 59))) := Lib.hid (HB2.out.trans ((below_new w2 _).mono HB2.out.size))
      have hhas : hasF C a = false := by unfold hasF; rw [hk2]; rfl
      have HR : Hid (RPath C b 0 a w (.returned (.tuple #[.slice none 0 0, .bool false])) (w2.alloc (.cells #[.string ⟨#[]⟩, .int .i64 0, .string ⟨#[]⟩, .slice none 0 0, .slice none 0 0, .slice none 0 0] 59))) := Lib.hid ⟨HBX.out, .inr ⟨by unfold pathF; rw [if_neg (fun h => by rw [hhas] at h; cases h.1)], rfl⟩⟩
      clear hk2 hb2 hhas
      go_wp2_with fail
      go_ret2
      exact HR.out
  | succ n ih =>
    intro a z w hn hz hcl hQ
    obtain ⟨V, eV⟩ : ∃ V, w.alloc (.cells #[.slice none 0 0, .slice Ac C.length cc, .slice Ai ni ci, .slice none 0 0] 28) = V := ⟨_, rfl⟩
    have hbV : Below w.heap.size w V := by rw [← eV]; exact below_new w _
    have hx0 : V.heap[w.heap.size]? = some (.cells #[.slice none 0 0, .slice Ac C.length cc, .slice Ai ni ci, .slice none 0 0] 28) := by rw [← eV, alloc_get, if_pos rfl]
    obtain ⟨q0, q1, q2, q3⟩ : V.cell? ⟨w.heap.size, 0, none⟩ = some (.slice none 0 0) ∧ V.cell? ⟨w.heap.size, 1, none⟩ = some (.slice Ac C.length cc) ∧ V.cell? ⟨w.heap.size, 2, none⟩ = some (.slice Ai ni ci) ∧ V.cell? ⟨w.heap.size, 3, none⟩ = some (.slice none 0 0) := by simp [World.cell?, hx0]
    have hclV := hcl.keep (w' := V) hbV.size (fun b _ hl => hbV.block b hl)
    have hQV : ∀ b, Q b → b < V.heap.size := fun b hb => Nat.lt_of_lt_of_le (hQ b hb) hbV.size
    have HRC := Lib.hid (rclass_any (iv := .slice Ai ni ci) hclV ⟨_, _, _, rfl⟩ hQV a)
    have HBV := Lib.hid hbV
    have HEV := Lib.hid eV
    have HX0 := Lib.hid hx0
    have HCV := Lib.hid hclV
    have HQV := Lib.hid hQV
    have HIH := Lib.hid ih
    have hz1 : z = (n : Int) + 1 := by rw [hz]; rfl
    have hz0 : (z == 0) = false := beq_eq_false_iff_ne.2 (by omega)
    obtain ⟨zn, hzn⟩ : ∃ zn : Int, zn = (n : Int) := ⟨_, rfl⟩
    have hwz : IntKind.i64.wrap (z - 1) = zn := by rw [IntWalk.i64_in _ (by omega)]; omega
    have HZN := Lib.hid hzn
    clear eV hbV hx0 hcl hQ hz hclV hQV ih hz1 hzn
    go_enter Try.func47, Try.ntmps47
    go_upto_region 1 with (fail)
    rw [HEV.out]
    clear HEV
    go_wp2_with fail
    with_reducible refine HRC.out.mono ?_
    rintro e w2 hrc
    obtain ⟨hb2, n1, n2, n3, S, As, cs, A2, m2, c2, q, rfl, hS, hq, hsv⟩ := rclass_form hrc
    obtain ⟨W2, hW2⟩ : ∃ W2, w2.alloc (.cells #[.string n1, .int .i64 n2, .string n3, .slice none 0 0, .slice As S.length cs, .slice A2 m2 c2] 59) = W2 := ⟨_, rfl⟩
    have hbW : Below w2.heap.size w2 W2 := by rw [← hW2]; exact below_new w2 _
    have hbX : Below V.heap.size V W2 := hb2.trans (hbW.mono hb2.size)
    have hx1 : W2.heap[w2.heap.size]? = some (.cells #[.string n1, .int .i64 n2, .string n3, .slice none 0 0, .slice As S.length cs, .slice A2 m2 c2] 59) := by rw [← hW2, alloc_get, if_pos rfl]
    have c4 : W2.cell? ⟨w2.heap.size, 4, none⟩ = some (.slice As S.length cs) := by simp [World.cell?, hx1]
    have HX1 := Lib.hid hx1
    have HBX := Lib.hid hbX
    have HSV := Lib.hid (hsv.on hbW)
    have HS := Lib.hid hS
    have HX2 := Lib.hid ((hbX.block _ (lt_of_block HX0.out)).trans HX0.out)
    have hSl : S.length ≤ 1048576 := by rw [hS]; exact supF_len hC a
    have HW := Lib.hid hW2
    clear hrc hb2 hbW hbX hx1 hsv hS hq hW2 HRC HX0 q0 q1 q2 q3
    go_upto_region 4 with (fail)
    rw [HW.out]
    clear HW
    go_wp2_with fail
    go_loopw [12] (fun v wr => ∃ k : Nat, v = .int .i64 k ∧ k ≤ S.length ∧ scanF (pathF (supF C) (hasF C) b n) S 0 = scanF (pathF (supF C) (hasF C) b n) (S.drop k) k ∧ Below W2.heap.size W2 wr) (fun v _ => S.length - (intOf v).toNat)
    case atStart => exact ⟨0, rfl, Nat.zero_le _, rfl, Below.refl _ _⟩
    case round =>
      obtain ⟨k, rfl, hk, hsc, hbr⟩ := hrel
      have HSC := Lib.hid hsc
      have HBR := Lib.hid hbr
      have hY := (hbr.block _ (lt_of_block HX1.out)).trans HX1.out
      have hP := (hbr.block _ (lt_of_block HX2.out)).trans HX2.out
      have d4 : wr.cell? ⟨w2.heap.size, 4, none⟩ = some (.slice As S.length cs) := by simp [World.cell?, hY]
      have hBw : Below w.heap.size w wr := (HBV.out.trans (HBX.out.mono HBV.out.size)).trans (hbr.mono (Nat.le_trans HBV.out.size HBX.out.size))
      have HBW := Lib.hid hBw
      clear hsc
      by_cases hkl : k < S.length
      · obtain ⟨y, hy⟩ : ∃ y, S[k]? = some y := ⟨_, List.getElem?_eq_getElem hkl⟩
        obtain ⟨b9, o9, e9, hl9, hc9⟩ := (HSV.out.on hbr).at k hkl
        have hc9' : wr.cell? ⟨b9, o9 + k, none⟩ = some (.string y) := by
          obtain ⟨h, e⟩ := List.getElem?_eq_some_iff.1 hy
          rw [← e]; exact hc9
        subst e9
        obtain ⟨p0, p1, p2, p3⟩ : wr.cell? ⟨w.heap.size, 0, none⟩ = some (.slice none 0 0) ∧ wr.cell? ⟨w.heap.size, 1, none⟩ = some (.slice Ac C.length cc) ∧ wr.cell? ⟨w.heap.size, 2, none⟩ = some (.slice Ai ni ci) ∧ wr.cell? ⟨w.heap.size, 3, none⟩ = some (.slice none 0 0) := by simp [World.cell?, hP]
        have hki : (k : Int) < (S.length : Int) := by omega
        have hk0 : (0 : Int) ≤ (k : Int) := by omega
        have hQr : ∀ b, Q b → b < V.heap.size := HQV.out
        have hbVr : Below V.heap.size V wr.drew := (HBX.out.trans (hbr.mono HBX.out.size)).drew
        have HCALL := Lib.hid (HIH.out y zn wr.drew (by omega) HZN.out (HCV.out.keep hbVr.size (fun b hb _ => hbVr.block b (hQr b hb))) (fun b hb => Nat.lt_of_lt_of_le (hQr b hb) hbVr.size))
        have HY := Lib.hid hy
        have hlY := lt_of_block hY
        have hlP := lt_of_block hP
        have hS0 : wr.drew.cell? ⟨w.heap.size, 0, none⟩ = some (.slice none 0 0) ∧ wr.drew.cell? ⟨w.heap.size, 1, none⟩ = some (.slice Ac C.length cc) ∧ wr.drew.cell? ⟨w.heap.size, 2, none⟩ = some (.slice Ai ni ci) ∧ wr.drew.cell? ⟨w.heap.size, 3, none⟩ = some (.slice none 0 0) ∧ wr.drew.cell? ⟨w2.heap.size, 4, none⟩ = some (.slice (some ⟨b9, o9, none⟩) S.length cs) ∧ wr.drew.cell? ⟨b9, o9 + k, none⟩ = some (.string y) := ⟨p0, p1, p2, p3, d4, hc9'⟩
        have HKC : Hid (∀ u, Below wr.drew.heap.size wr.drew u → u.cell? ⟨w.heap.size, 0, none⟩ = some (.slice none 0 0) ∧ u.cell? ⟨w.heap.size, 1, none⟩ = some (.slice Ac C.length cc) ∧ u.cell? ⟨w.heap.size, 2, none⟩ = some (.slice Ai ni ci) ∧ u.cell? ⟨w.heap.size, 3, none⟩ = some (.slice none 0 0) ∧ u.cell? ⟨w2.heap.size, 4, none⟩ = some (.slice (some ⟨b9, o9, none⟩) S.length cs) ∧ u.cell? ⟨b9, o9 + k, none⟩ = some (.string y)) := Lib.hid fun u hu => ⟨(hu.cell (p := ⟨w.heap.size, 0, none⟩) hlP).trans p0, (hu.cell (p := ⟨w.heap.size, 1, none⟩) hlP).trans p1, (hu.cell (p := ⟨w.heap.size, 2, none⟩) hlP).trans p2, (hu.cell (p := ⟨w.heap.size, 3, none⟩) hlP).trans p3, (hu.cell (p := ⟨w2.heap.size, 4, none⟩) hlY).trans d4, (hu.cell (p := ⟨b9, o9 + k, none⟩) hl9).trans hc9'⟩
        clear hy hc9 hY hP hQr hbVr hbr hBw hlY hlP
        go_wp2_with fail
        go_region_held3 (fun u => u.cell? ⟨w.heap.size, 0, none⟩ = some (.slice none 0 0) ∧ u.cell? ⟨w.heap.size, 1, none⟩ = some (.slice Ac C.length cc) ∧ u.cell? ⟨w.heap.size, 2, none⟩ = some (.slice Ai ni ci) ∧ u.cell? ⟨w.heap.size, 3, none⟩ = some (.slice none 0 0) ∧ u.cell? ⟨w2.heap.size, 4, none⟩ = some (.slice (some ⟨b9, o9, none⟩) S.length cs) ∧ u.cell? ⟨b9, o9 + k, none⟩ = some (.string y)) (first | exact hS0 | exact hS1) (first | (go_at_call 47; (with_reducible refine HCALL.out.mono ?_); rintro e w3 hr3; obtain ⟨hb3, Av, mv, cv, q3, rfl, hor⟩ := rpath_form hr3; have HB3 := Lib.hid hb3; have hS1 := HKC.out w3 hb3; have HOR := Lib.hid hor; clear hr3 hb3 hor))
        all_goals
          have hb4 : Below wr.heap.size wr w3 := (Below.refl _ wr).drew.trans HB3.out
          have HREL := Lib.hid (hb4)
          have HW4 : Hid (Below w.heap.size w w3) := Lib.hid (HBW.out.trans (hb4.mono HBW.out.size))
          cases q3 with
          | false =>
            have hno : pathF (supF C) (hasF C) b n y = none := by
              rcases HOR.out with ⟨h, _⟩ | ⟨_, h⟩
              · cases h
              · exact h
            have HST := Lib.hid (scan_step HY.out hno HSC.out)
            have HB5 := Lib.hid (HBR.out.trans (hb4.mono HBR.out.size))
            clear hno hb4
            go_wp2_with fail
            go_roundw
            case rel => exact ⟨k + 1, by go_num, by omega, HST.out, HB5.out⟩
            case measure => simp [intOf]; omega
          | true =>
            obtain ⟨u, hu, hia, hnil⟩ : ∃ u, pathF (supF C) (hasF C) b n y = some u ∧ IntsAt (fun b => b < w3.heap.size) w3 (.slice Av mv cv) (u.map (fun x : Nat => (x : Int))) ∧ (u = [] → Av = none ∧ mv = 0 ∧ cv = 0) := by
              rcases HOR.out with ⟨_, h⟩ | ⟨h, _⟩
              · exact h
              · cases h
            have HHIT : Hid (pathF (supF C) (hasF C) b (n + 1) a = some (k :: u)) := Lib.hid (by
              show scanF (pathF (supF C) (hasF C) b n) (supF C a) 0 = _
              rw [← HS.out]; exact scan_hit HY.out hu HSC.out)
            have hul := pathF_len hu
            obtain ⟨A9, c9, e9, hcc9, hm9, hzb, hr9⟩ := hia
            rw [List.length_map] at e9 hcc9
            injection e9 with ea eb ec
            subst ea eb ec
            obtain ⟨i3, hi3, hz3, hs3, hb3'⟩ := info_parts Try.info3
            have HWN : Hid (Below w.heap.size w (w3.alloc (.cells #[.int .i64 k] 3))) := Lib.hid (HW4.out.trans ((below_new w3 _).mono HW4.out.size))
            by_cases hu0 : u = []
            · obtain ⟨rfl, _, rfl⟩ := hnil hu0
              subst hu0
              have HR : Hid (RPath C b (n + 1) a w (.returned (.tuple #[.slice (some ⟨w3.heap.size, 0, none⟩) 1 1, .bool true])) (w3.alloc (.cells #[.int .i64 k] 3))) := Lib.hid ⟨HWN.out, .inl ⟨_, _, HHIT.out, rfl, ⟨_, 1, rfl, Nat.le_refl _, by decide, fun z hz => by simp at hz; omega, .inr ⟨_, 0, rfl, by simp, by simp, fun i hi => by
                have hi0 : i = 0 := by simp at hi; omega
                subst hi0
                simp⟩⟩, fun h => (by cases h)⟩⟩
              clear hu hul hr9 hnil hzb hb4
              go_wp2_with fail
              go_ret2
              exact HR.out
            · obtain ⟨bb, off, rfl, _, hbl, hcell⟩ := hr9.resolve_left (fun h => hu0 (by simpa using h))
              have hlu : 0 < u.length := List.length_pos_iff.2 hu0
              have HOW : Hid ((w3.alloc (.cells #[.int .i64 k] 3)).ownsRow w3.heap.size 3 1 (.slice (some ⟨w3.heap.size, 0, none⟩) 1 1) 1 [natV k]) := Lib.hid (World.ownsRow_lit w3 #[.int .i64 k] 1 (Nat.le_refl _) (by decide) rfl)
              have HNW : Hid (∀ j v, (u.map natV)[j]? = some v → (w3.alloc (.cells #[.int .i64 k] 3)).cell? ((⟨bb, off, none⟩ : Addr).add j) = some v) := Lib.hid (fun j v hv => by
                rw [List.getElem?_map] at hv
                obtain ⟨x, hx, rfl⟩ := Option.map_eq_some_iff.1 hv
                obtain ⟨hj, rfl⟩ := List.getElem?_eq_some_iff.1 hx
                have hA : (⟨bb, off, none⟩ : Addr).add j = ⟨bb, off + j, none⟩ := by
                  by_cases e : j = 0
                  · subst e; simp [Addr.add]
                  · simp [Addr.add, e]
                rw [hA, (below_new w3 _).cell (p := ⟨bb, off + j, none⟩) hbl, hcell j (by simpa using hj)]
                simp [natV])
              have HONE : Hid (∀ v ∈ u.map natV, v.oneCell' = true) := Lib.hid (fun v hv => by obtain ⟨x, _, rfl⟩ := List.mem_map.1 hv; rfl)
              have HLN : Hid ((u.map natV).length = u.length * 1) := Lib.hid (by simp)
              have H63 : Hid (1 + u.length ≤ maxLen) := Lib.hid (by unfold maxLen; omega)
              have HBY : Hid ((1 + u.length) * 8 ≤ 140737488355328) := Lib.hid (by omega)
              have HPP : Hid (∀ v' w9, w9.ownsRow w3.heap.size 3 1 v' (1 + u.length) ([natV k] ++ u.map natV) → (w3.alloc (.cells #[.int .i64 k] 3)).grownBy w9 (Value.slice (some ⟨w3.heap.size, 0, none⟩) 1 1).ownBlock → RPath C b (n + 1) a w (.returned (.tuple #[v', .bool true])) w9) := Lib.hid (fun v' w9 h1 h2 => by
                have hz : OwnZ w3.heap.size w9 v' (k :: u) := by unfold OwnZ; rw [List.length_cons, Nat.add_comm]; exact h1
                refine ⟨HW4.out.trans (((below_new w3 (.cells #[.int .i64 k] 3)).trans ⟨h2.os, h2.tape, h2.output, Nat.le_trans (Nat.le_of_eq rfl) h2.size, fun j hj => h2.block j (by simp; omega) (fun e => by have e9 : some j = some w3.heap.size := e; injection e9 with e9; omega)⟩).mono HW4.out.size), .inl ⟨_, _, HHIT.out, rfl, hz.ints (fun x hx => ?_), fun h => (by cases h)⟩⟩
                rcases List.mem_cons.1 hx with rfl | hx
                · omega
                · have := hzb _ (List.mem_map.2 ⟨x, hx, rfl⟩); omega)
              clear hu hul hr9 hnil hzb hb4 hcell
              go_wp2_with (at_builtin; go_loud (refine wpList_append_own_at _ rfl (.tmp 51) (.tmp 52) 22 rfl w3.heap.size 3 i3 _ 1 8 Try.underlying22 hi3 hz3 hs3 hb3' rfl (by decide) _ 1 [natV k] rfl HOW.out ⟨bb, off, none⟩ u.length cv (u.map natV) rfl HLN.out HNW.out HONE.out H63.out HBY.out (by simp) ?_); intro v' w9 hown2 hg2 _ hat2; have HP1 := Lib.hid (HPP.out v' w9 hown2 hg2); obtain ⟨A3, c3, rfl, _⟩ := own_form hown2; clear hown2 hat2 hg2)
              go_ret2
              exact HP1.out
      · have hke : S.length ≤ k := by omega
        have hkn : ¬ (k : Int) < (S.length : Int) := by omega
        have HR : Hid (RPath C b (n + 1) a w (.returned (.tuple #[.slice none 0 0, .bool false])) wr) := Lib.hid ⟨HBW.out, .inr ⟨by show scanF (pathF (supF C) (hasF C) b n) (supF C a) 0 = none; rw [← HS.out]; exact scan_end hke HSC.out, rfl⟩⟩
        clear hY hP hbr hBw
        go_wp2_with fail
        go_ret2
        exact HR.out
def DPath (C : List Cls) (a b : ByteArray) (w : World) (e : Ending) (w' : World) : Prop :=
  Below w.heap.size w w' ∧ ∃ (A : Option Addr) (m c : Nat) (q : Bool), e = .returned (.tuple #[.slice A m c, .bool q]) ∧ ((q = true ∧ ∃ u, docPath C a b = some u ∧ IntsAt (fun b => b < w'.heap.size) w' (.slice A m c) (u.map (fun x : Nat => (x : Int)))) ∨ (q = false ∧ docPath C a b = none ∧ A = none ∧ m = 0 ∧ c = 0))
theorem firstP_step {next : ByteArray → List ByteArray} {has : ByteArray → Bool} {a b : ByteArray} {m n : Nat} (h : pathF next has b n a = none) : firstP next has a b (m + 1) n = firstP next has a b m (n + 1) := by
  show (match pathF next has b n a with | some u => some u | none => firstP next has a b m (n + 1)) = _
  rw [h]
theorem firstP_hit {next : ByteArray → List ByteArray} {has : ByteArray → Bool} {a b : ByteArray} {m n : Nat} {u : List Nat} (h : pathF next has b n a = some u) : firstP next has a b (m + 1) n = some u := by
  show (match pathF next has b n a with | some u => some u | none => firstP next has a b m (n + 1)) = _
  rw [h]
set_option maxRecDepth 100000 in
set_option maxHeartbeats 4000000 in
theorem dpath_any {Q : Nat → Prop} {C : List Cls} (hC : OkC C) {Ac Ai : Option Addr} {cc ni ci : Nat} {a b : ByteArray} {w : World} (hcl : ClassesAt Q w (.slice Ac C.length cc) C) (hQ : ∀ b, Q b → b < w.heap.size) :
    Calls Try.prog 16 #[.agg #[.slice none 0 0, .slice Ac C.length cc, .slice Ai ni ci, .slice none 0 0], .string a, .string b] w (DPath C a b w) := by
  have hCl : C.length ≤ 1048576 := by have := hC.len; unfold univ at this; simp at this; omega
  obtain ⟨V, eV⟩ : ∃ V, w.alloc (.cells #[.slice none 0 0, .slice Ac C.length cc, .slice Ai ni ci, .slice none 0 0] 28) = V := ⟨_, rfl⟩
  have hbV : Below w.heap.size w V := by rw [← eV]; exact below_new w _
  have hx0 : V.heap[w.heap.size]? = some (.cells #[.slice none 0 0, .slice Ac C.length cc, .slice Ai ni ci, .slice none 0 0] 28) := by rw [← eV, alloc_get, if_pos rfl]
  have HX0 := Lib.hid hx0
  have HCV := Lib.hid (hcl.keep (w' := V) hbV.size (fun b _ hl => hbV.block b hl))
  have HQV : Hid (∀ b, Q b → b < V.heap.size) := Lib.hid (fun b hb => Nat.lt_of_lt_of_le (hQ b hb) hbV.size)
  have HBV := Lib.hid hbV
  have HEV := Lib.hid eV
  have HRP := Lib.hid (@rpath_any Q C hC Ac Ai cc ni ci b)
  clear eV hbV hx0 hcl hQ hC
  go_enter Try.func16, Try.ntmps16
  go_upto_region 1 with (fail)
  rw [HEV.out]
  clear HEV
  go_wp2_with fail
  go_loopw [8] (fun v wr => ∃ n : Nat, v = .int .i64 n ∧ n ≤ C.length + 1 ∧ firstP (supF C) (hasF C) a b (C.length + 1) 0 = firstP (supF C) (hasF C) a b (C.length + 1 - n) n ∧ Below V.heap.size V wr) (fun v _ => C.length + 1 - (intOf v).toNat)
  case atStart => exact ⟨0, rfl, Nat.zero_le _, rfl, Below.refl _ _⟩
  case round =>
    obtain ⟨n, rfl, hn, hf, hbr⟩ := hrel
    have hx0 := (hbr.block _ (lt_of_block HX0.out)).trans HX0.out
    obtain ⟨q0, q1, q2, q3⟩ : wr.cell? ⟨w.heap.size, 0, none⟩ = some (.slice none 0 0) ∧ wr.cell? ⟨w.heap.size, 1, none⟩ = some (.slice Ac C.length cc) ∧ wr.cell? ⟨w.heap.size, 2, none⟩ = some (.slice Ai ni ci) ∧ wr.cell? ⟨w.heap.size, 3, none⟩ = some (.slice none 0 0) := by simp [World.cell?, hx0]
    have HF := Lib.hid hf
    have HBR := Lib.hid hbr
    by_cases hnl : n ≤ C.length
    · have hni : (n : Int) ≤ (C.length : Int) := by omega
      have HCALL := Lib.hid (HRP.out n a (n : Int) wr (by omega) rfl (HCV.out.keep hbr.size (fun b _ hl => hbr.block b hl)) (fun b hb => Nat.lt_of_lt_of_le (HQV.out b hb) hbr.size))
      clear hf hx0 hbr
      go_wp2_with fail
      with_reducible refine HCALL.out.mono ?_
      rintro e w3 hr3
      obtain ⟨hb3, Av, mv, cv, q3', rfl, hor⟩ := rpath_form hr3
      have HB3 := Lib.hid (HBR.out.trans (hb3.mono HBR.out.size))
      have HOR := Lib.hid hor
      clear hr3 hb3 hor
      cases q3' with
      | false =>
        have hno : pathF (supF C) (hasF C) b n a = none := by
          rcases HOR.out with ⟨h, _⟩ | ⟨_, h⟩
          · cases h
          · exact h
        have HST : Hid (firstP (supF C) (hasF C) a b (C.length + 1) 0 = firstP (supF C) (hasF C) a b (C.length + 1 - (n + 1)) (n + 1)) := Lib.hid (by
          rw [HF.out, show C.length + 1 - n = (C.length + 1 - (n + 1)) + 1 by omega, firstP_step hno])
        clear hno
        go_wp2_with fail
        go_roundw
        case rel => exact ⟨n + 1, by go_num, by omega, HST.out, HB3.out⟩
        case measure => simp [intOf]; omega
      | true =>
        have HR : Hid (DPath C a b w (.returned (.tuple #[.slice Av mv cv, .bool true])) w3) := Lib.hid (by
          rcases HOR.out with ⟨_, u, hu, hia, _⟩ | ⟨h, _⟩
          · refine ⟨HBV.out.trans (HB3.out.mono HBV.out.size), _, _, _, _, rfl, .inl ⟨rfl, u, ?_, hia⟩⟩
            unfold docPath
            rw [HF.out, show C.length + 1 - n = (C.length + 1 - (n + 1)) + 1 by omega, firstP_hit hu]
          · cases h)
        go_wp2_with fail
        go_ret2
        exact HR.out
    · have hni : ¬ (n : Int) ≤ (C.length : Int) := by omega
      have HR : Hid (DPath C a b w (.returned (.tuple #[.slice none 0 0, .bool false])) wr) := Lib.hid ⟨HBV.out.trans (hbr.mono HBV.out.size), _, _, _, _, rfl, .inr ⟨rfl, by unfold docPath; rw [hf, show C.length + 1 - n = 0 by omega]; rfl, rfl, rfl, rfl⟩⟩
      clear hf hx0 hbr
      go_wp2_with fail
      go_ret2
      exact HR.out
theorem ints_take {a b : List Int} (h : a.length = b.length) (k : Nat) (hk : a.length ≤ k) (ht : a.take k = b.take k) : a = b := by
  rwa [List.take_of_length_le hk, List.take_of_length_le (by omega)] at ht
theorem IntsAt.cellAt {P : Nat → Prop} {w : World} {A : Option Addr} {n c : Nat} {zs : List Int} (h : IntsAt P w (.slice A n c) zs) (k : Nat) (hk : k < zs.length) :
    ∃ b off, A = some ⟨b, off, none⟩ ∧ b < w.heap.size ∧ w.cell? ⟨b, off + k, none⟩ = some (.int .i64 zs[k]) := by
  obtain ⟨A', c', e, _, _, _, hr⟩ := h
  injection e with e1 e2 e3
  subst e1
  rcases hr with h9 | ⟨b, off, e, _, hlt, hc⟩
  · rw [h9] at hk; simp at hk
  · exact ⟨b, off, e, hlt, hc k hk⟩
set_option maxRecDepth 100000 in
set_option maxHeartbeats 1000000 in
theorem ints17_any {P Q : Nat → Prop} {w : World} {u v : Value} {a b : List Int} (ha : IntsAt P w u a) (hb : IntsAt Q w v b) :
    Calls Try.prog 17 #[u, v] w fun e w' => e = .returned (.bool (decide (a = b))) ∧ Below w.heap.size w w' := by
  have HA := Lib.hid ha
  have HB := Lib.hid hb
  obtain ⟨A, c, rfl, hm⟩ := ha.form
  obtain ⟨A', c', rfl, hm'⟩ := hb.form
  unfold maxLen at hm hm'
  clear ha hb
  by_cases hl : a.length = b.length
  · have hne : ((a.length : Int) != (b.length : Int)) = false := by simp [hl]
    go_enter Try.func17, Try.ntmps17
    go_wp2_with fail
    go_loopw [5] (fun i wr => ∃ k : Nat, k ≤ a.length ∧ i = .int .i64 k ∧ a.take k = b.take k ∧ Below w.heap.size w wr) (fun i _ => a.length - (intOf i).toNat)
    case atStart => exact ⟨0, Nat.zero_le _, rfl, rfl, Below.refl _ _⟩
    case round =>
      obtain ⟨k, hk, rfl, hno, hb⟩ := hrel
      have HBW := Lib.hid hb
      have HNO := Lib.hid hno
      by_cases hlt : k < a.length
      · obtain ⟨b1, o1, e1, l1, k1⟩ := (HA.out.on hb).cellAt k hlt
        obtain ⟨b2, o2, e2, l2, k2⟩ := (HB.out.on hb).cellAt k (by omega)
        subst e1 e2
        have hki : (k : Int) < (a.length : Int) := by omega
        have hki2 : (k : Int) < (b.length : Int) := by omega
        have hk0 : (0 : Int) ≤ (k : Int) := by omega
        obtain ⟨x, hx⟩ : ∃ x, a[k]? = some x := ⟨_, List.getElem?_eq_getElem hlt⟩
        obtain ⟨y, hy⟩ : ∃ y, b[k]? = some y := ⟨_, List.getElem?_eq_getElem (by omega)⟩
        have k1' : wr.cell? ⟨b1, o1 + k, none⟩ = some (.int .i64 x) := by
          have := List.getElem?_eq_getElem hlt
          rw [hx] at this; injection this with this; rw [this]; exact k1
        have k2' : wr.cell? ⟨b2, o2 + k, none⟩ = some (.int .i64 y) := by
          have := List.getElem?_eq_getElem (l := b) (i := k) (by omega)
          rw [hy] at this; injection this with this; rw [this]; exact k2
        clear k1 k2 hb hno
        by_cases he : x = y
        · subst he
          have HT : Hid (a.take (k + 1) = b.take (k + 1)) := Lib.hid (by rw [List.take_add_one, List.take_add_one, HNO.out, hx, hy])
          have HDR : Hid (Below w.heap.size w wr.drew) := Lib.hid HBW.out.drew
          clear hx hy
          go_wp2_with fail
          go_region
          go_wp2
          go_roundw
          case rel => exact ⟨k + 1, by omega, by go_num, HT.out, HDR.out⟩
          case measure => simp [intOf]; omega
        · have HX : Hid (decide (a = b) = false) := Lib.hid (decide_eq_false (fun e => he (by rw [e, hy] at hx; injection hx with hx; exact hx.symm)))
          have hne2 : (x != y) = true := by simpa using he
          have hne3 : (x == y) = false := by simpa using he
          have HDR : Hid (Below w.heap.size w wr.drew) := Lib.hid HBW.out.drew
          clear hx hy
          go_wp2_with fail
          go_region
          go_wp2
          go_ret
          rw [HX.out]
          exact ⟨rfl, HDR.out⟩
      · have hX : decide (a = b) = true := decide_eq_true (ints_take hl k (by omega) hno)
        have hki : ¬ (k : Int) < (a.length : Int) := by omega
        have HX := Lib.hid hX
        clear hX hb hno
        go_wp2
        go_ret
        rw [HX.out]
        exact ⟨rfl, HBW.out⟩
  · have hne : ((a.length : Int) != (b.length : Int)) = true := by simp; omega
    have HX : Hid (decide (a = b) = false) := Lib.hid (decide_eq_false (fun e => hl (by rw [e])))
    go_enter Try.func17, Try.ntmps17
    go_wp2
    go_ret
    rw [HX.out]
    exact ⟨rfl, Below.refl _ _⟩
theorem mths_cons (c : Cls) (l : List Cls) : mths (c :: l) = mthsK c.name 0 c.meths ++ mths l := rfl
set_option maxRecDepth 100000 in
set_option maxHeartbeats 4000000 in
theorem dmeth_any {Q : Nat → Prop} {C : List Cls} {Ac Ai : Option Addr} {cc ni ci : Nat} {x : ByteArray} {w : World} (hcl : ClassesAt Q w (.slice Ac C.length cc) C) (hM : ∀ c ∈ C, c.meths.length ≤ 536870912) :
    Calls Try.prog 26 #[.agg #[.slice none 0 0, .slice Ac C.length cc, .slice Ai ni ci, .slice none 0 0], .string x] w fun e w' => e = .returned (.tuple #[.string ((lookF (mths C) x).getD (⟨#[]⟩, 0)).1, .int .i64 (((lookF (mths C) x).getD (⟨#[]⟩, 0)).2 : Nat), .bool (lookF (mths C) x).isSome]) ∧ Below w.heap.size w w' := by
  obtain ⟨R, hR⟩ : ∃ R, lookF (mths C) x = R := ⟨_, rfl⟩
  rw [hR]
  obtain ⟨hlc, hcm⟩ : C.length ≤ cc ∧ cc ≤ maxLen := by
    obtain ⟨_, _, e0, h1, h2, _⟩ := hcl
    injection e0 with _ _ e0
    subst e0
    exact ⟨h1, h2⟩
  unfold maxLen at hcm
  obtain ⟨V, eV⟩ : ∃ V, w.alloc (.cells #[.slice none 0 0, .slice Ac C.length cc, .slice Ai ni ci, .slice none 0 0] 28) = V := ⟨_, rfl⟩
  have hbV : Below w.heap.size w V := by rw [← eV]; exact below_new w _
  have hx0 : V.heap[w.heap.size]? = some (.cells #[.slice none 0 0, .slice Ac C.length cc, .slice Ai ni ci, .slice none 0 0] 28) := by rw [← eV, alloc_get, if_pos rfl]
  have HX0 := Lib.hid hx0
  have HCV := Lib.hid (hcl.keep (w' := V) hbV.size (fun b _ hl => hbV.block b hl))
  have HBV := Lib.hid hbV
  have HEV := Lib.hid eV
  have HRR := Lib.hid hR
  have HMM := Lib.hid hM
  clear eV hbV hx0 hcl hR hM
  go_enter Try.func26, Try.ntmps26
  go_upto_region 1 with (fail)
  rw [HEV.out]
  clear HEV
  go_wp2_with fail
  go_loopw [7] (fun v wr => ∃ i : Nat, v = .int .i64 i ∧ i ≤ C.length ∧ R = lookF (mths (C.drop i)) x ∧ Below V.heap.size V wr) (fun v _ => C.length - (intOf v).toNat)
  case atStart => exact ⟨0, rfl, Nat.zero_le _, HRR.out.symm, Below.refl _ _⟩
  case round =>
    obtain ⟨i, rfl, hi, hf, hbr⟩ := hrel
    have hx0 := (hbr.block _ (lt_of_block HX0.out)).trans HX0.out
    have q1 : wr.cell? ⟨w.heap.size, 1, none⟩ = some (.slice Ac C.length cc) := by simp [World.cell?, hx0]
    have HF := Lib.hid hf
    have HBR := Lib.hid hbr
    by_cases hil : i < C.length
    · obtain ⟨c, hc⟩ : ∃ c, C[i]? = some c := ⟨_, List.getElem?_eq_getElem hil⟩
      have hcml := HMM.out c (List.mem_of_getElem? hc)
      have HF0 : Hid (R = lookF (mthsK c.name 0 (c.meths.drop 0) ++ mths (C.drop (i + 1))) x) := Lib.hid (by
        obtain ⟨h, e⟩ := List.getElem?_eq_some_iff.1 hc
        rw [hf, List.drop_eq_getElem_cons h, e, mths_cons]; rfl)
      have HC := Lib.hid hc
      have hii : (i : Int) < (C.length : Int) := by omega
      have hi0 : (0 : Int) ≤ (i : Int) := by omega
      clear hf hx0 hbr hc
      go_wp2_with fail
      go_loopw [8] (fun v wr => ∃ k : Nat, v = .int .i64 k ∧ k ≤ c.meths.length ∧ R = lookF (mthsK c.name k (c.meths.drop k) ++ mths (C.drop (i + 1))) x ∧ Below V.heap.size V wr) (fun v _ => c.meths.length - (intOf v).toNat)
      case atStart => exact ⟨0, rfl, Nat.zero_le _, HF0.out, HBR.out⟩
      case round =>
        obtain ⟨k, rfl, hk, hf, hbr⟩ := hrel
        have hx0 := (hbr.block _ (lt_of_block HX0.out)).trans HX0.out
        have q1 : wr.cell? ⟨w.heap.size, 1, none⟩ = some (.slice Ac C.length cc) := by simp [World.cell?, hx0]
        obtain ⟨bb, sv, mv, rfl, hbl, c0, _, _, _, _, c5, _, hsg⟩ := (HCV.out.keep (w' := wr) hbr.size (fun b _ hl => hbr.block b hl)).at HC.out
        obtain ⟨Am, cm, rfl, hmc, hmm, hmr⟩ := id hsg
        clear hmr
        unfold maxLen at hmm
        have hk0 : (0 : Int) ≤ (k : Int) := by omega
        have HB := Lib.hid hbr
        by_cases hkl : k < c.meths.length
        · obtain ⟨m, hm⟩ : ∃ m, c.meths[k]? = some m := ⟨_, List.getElem?_eq_getElem hkl⟩
          obtain ⟨bm, rfl, _, m0, _⟩ := hsg.at hm
          have hki : (k : Int) < (c.meths.length : Int) := by omega
          have HD : Hid (c.meths.drop k = m :: c.meths.drop (k + 1)) := Lib.hid (by
            obtain ⟨h, e⟩ := List.getElem?_eq_some_iff.1 hm
            rw [List.drop_eq_getElem_cons h, e])
          by_cases he : m.1 = x
          · have he1 : (m.1.toList == x.toList) = true := by rw [← beq_toListBytes, beq_iff_eq]; exact he
            have HR : Hid (R = some (c.name, k)) := Lib.hid (by
              rw [hf, HD.out]
              show (if m.1 = x then some (c.name, k) else _) = _
              rw [if_pos he])
            clear hf hx0 hbr hsg hm he
            go_wp2_with fail
            show bodyPost _ _ _ _ _ _
            go_ret3
            rw [HR.out]
            exact ⟨rfl, HBV.out.trans (HB.out.mono HBV.out.size)⟩
          · have he1 : (m.1.toList == x.toList) = false := by rw [← beq_toListBytes, beq_eq_false_iff_ne]; exact he
            have HR : Hid (R = lookF (mthsK c.name (k + 1) (c.meths.drop (k + 1)) ++ mths (C.drop (i + 1))) x) := Lib.hid (by
              rw [hf, HD.out]
              show (if m.1 = x then some (c.name, k) else _) = _
              rw [if_neg he]; rfl)
            clear hf hx0 hbr hsg hm he
            go_wp2_with fail
            go_roundw
            case rel => exact ⟨k + 1, by go_num, by omega, HR.out, HB.out⟩
            case measure => simp [intOf]; omega
        · have hke : k = c.meths.length := by omega
          subst hke
          have HR : Hid (R = lookF (mths (C.drop (i + 1))) x) := Lib.hid (by rw [hf, List.drop_length]; rfl)
          have hkn : ¬ ((c.meths.length : Nat) : Int) < (c.meths.length : Int) := by omega
          clear hf hx0 hbr hsg
          go_wp2_with fail
          go_roundw
          case rel => exact ⟨i + 1, by go_num, by omega, HR.out, HB.out⟩
          case measure => simp [intOf]; omega
    · have hie : i = C.length := by omega
      subst hie
      have hin : ¬ ((C.length : Nat) : Int) < (C.length : Int) := by omega
      have HR : Hid (R = none) := Lib.hid (by rw [hf, List.drop_length]; rfl)
      clear hf hx0 hbr
      go_wp2_with fail
      show bodyPost _ _ _ _ _ _
      go_ret3
      rw [HR.out]
      exact ⟨rfl, HBV.out.trans (HBR.out.mono HBV.out.size)⟩
end Go.Proofs.Ytjfhncbfbhkhgaa
