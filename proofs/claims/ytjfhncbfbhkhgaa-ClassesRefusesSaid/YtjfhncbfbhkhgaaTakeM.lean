/- Classes as they are handed in, and how they are taken, in memory. No conditions but those that each theorem names. -/
import Derived.Test.YtjfhncbfbhkhgaaEnB
import Derived.Test.YtjfhncbfbhkhgaaAbA
namespace Go.Proofs.Ytjfhncbfbhkhgaa
open Go.RowKit
theorem Try.info81 : (Try.prog.info? 81).map (fun i => (i.zero, i.size, i.bytes)) = some (some (.agg #[.string ⟨#[]⟩, .int .i64 0, .slice none 0 0, .slice none 0 0, .slice none 0 0, .int .i64 0, .int .i64 0, .string ⟨#[]⟩, .slice none 0 0]), 9, 152) := by kernel_rfl
def SigsAt (Q : Nat → Prop) (w : World) (v : Value) (ms : List (ByteArray × Int)) : Prop :=
  ∃ A c, v = .slice A ms.length c ∧ ms.length ≤ c ∧ c ≤ maxLen ∧ (ms = [] ∨ ∃ b, A = some ⟨b, 0, none⟩ ∧ Q b ∧ b < w.heap.size ∧ ∀ i (h : i < ms.length), w.cell? ⟨b, i * 9, none⟩ = some (.string ms[i].1) ∧ w.cell? ⟨b, i * 9 + 1, none⟩ = some (.int .i64 ms[i].2) ∧ w.cell? ⟨b, i * 9 + 2, none⟩ = some (.slice none 0 0) ∧
    w.cell? ⟨b, i * 9 + 3, none⟩ = some (.slice none 0 0) ∧ w.cell? ⟨b, i * 9 + 4, none⟩ = some (.slice none 0 0) ∧ w.cell? ⟨b, i * 9 + 5, none⟩ = some (.int .i64 0) ∧ w.cell? ⟨b, i * 9 + 6, none⟩ = some (.int .i64 0) ∧ w.cell? ⟨b, i * 9 + 7, none⟩ = some (.string ⟨#[]⟩) ∧ w.cell? ⟨b, i * 9 + 8, none⟩ = some (.slice none 0 0))
theorem SigsAt.keep {Q : Nat → Prop} {w w' : World} {v : Value} {ms : List (ByteArray × Int)} (h : SigsAt Q w v ms) (hs : w.heap.size ≤ w'.heap.size) (hq : ∀ b, Q b → b < w.heap.size → w'.heap[b]? = w.heap[b]?) : SigsAt Q w' v ms := by
  obtain ⟨A, c, e, h1, h2, hr⟩ := h
  refine ⟨A, c, e, h1, h2, ?_⟩
  rcases hr with hr | ⟨b, e, hp, hlt, hc⟩
  · exact .inl hr
  · refine .inr ⟨b, e, hp, Nat.lt_of_lt_of_le hlt hs, fun i hi => ?_⟩
    have hB := hq b hp hlt
    obtain ⟨c0, c1, c2, c3, c4, c5, c6, c7, c8⟩ := hc i hi
    have t := fun o => World.cell?_of_block (w := w) (w' := w') (a := ⟨b, o, none⟩) hB
    exact ⟨(t _).trans c0, (t _).trans c1, (t _).trans c2, (t _).trans c3, (t _).trans c4, (t _).trans c5, (t _).trans c6, (t _).trans c7, (t _).trans c8⟩
def ClassesAt (Q : Nat → Prop) (w : World) (v : Value) (C : List Cls) : Prop :=
  ∃ A c, v = .slice A C.length c ∧ C.length ≤ c ∧ c ≤ maxLen ∧ (C = [] ∨ ∃ b, A = some ⟨b, 0, none⟩ ∧ Q b ∧ b < w.heap.size ∧ ∀ i (h : i < C.length), ∃ sv mv, w.cell? ⟨b, i * 6, none⟩ = some (.string C[i].name) ∧ w.cell? ⟨b, i * 6 + 1, none⟩ = some (.int .i64 C[i].atp) ∧ w.cell? ⟨b, i * 6 + 2, none⟩ = some (.string C[i].var) ∧
    w.cell? ⟨b, i * 6 + 3, none⟩ = some (.slice none 0 0) ∧ w.cell? ⟨b, i * 6 + 4, none⟩ = some sv ∧ w.cell? ⟨b, i * 6 + 5, none⟩ = some mv ∧ StrsAt Q w sv C[i].supers ∧ SigsAt Q w mv C[i].meths)
theorem ClassesAt.keep {Q : Nat → Prop} {w w' : World} {v : Value} {C : List Cls} (h : ClassesAt Q w v C) (hs : w.heap.size ≤ w'.heap.size) (hq : ∀ b, Q b → b < w.heap.size → w'.heap[b]? = w.heap[b]?) : ClassesAt Q w' v C := by
  obtain ⟨A, c, e, h1, h2, hr⟩ := h
  refine ⟨A, c, e, h1, h2, ?_⟩
  rcases hr with hr | ⟨b, e, hp, hlt, hc⟩
  · exact .inl hr
  · refine .inr ⟨b, e, hp, Nat.lt_of_lt_of_le hlt hs, fun i hi => ?_⟩
    have hB := hq b hp hlt
    obtain ⟨sv, mv, c0, c1, c2, c3, c4, c5, c6, c7⟩ := hc i hi
    have t := fun o => World.cell?_of_block (w := w) (w' := w') (a := ⟨b, o, none⟩) hB
    exact ⟨sv, mv, (t _).trans c0, (t _).trans c1, (t _).trans c2, (t _).trans c3, (t _).trans c4, (t _).trans c5, c6.keepB hs hq, c7.keep hs hq⟩
theorem clsOf_snoc (L : List Cls) (c : Cls) (x : ByteArray) : clsOf (L ++ [c]) x = match clsOf L x with | some d => some d | none => if c.name = x then some c else none := by
  induction L with
  | nil => rfl
  | cons a l ih =>
    show (if a.name = x then some a else clsOf (l ++ [c]) x) = match (if a.name = x then some a else clsOf l x) with | some d => some d | none => _
    by_cases e : a.name = x
    · rw [if_pos e, if_pos e]
    · rw [if_neg e, if_neg e]; exact ih
/-- The first thing that stands with a name. -/
def lookF {β : Type} : List (ByteArray × β) → ByteArray → Option β
  | [], _ => none
  | p :: l, x => if p.1 = x then some p.2 else lookF l x
theorem lookF_snoc {β : Type} (L : List (ByteArray × β)) (p : ByteArray × β) (x : ByteArray) : lookF (L ++ [p]) x = match lookF L x with | some d => some d | none => if p.1 = x then some p.2 else none := by
  induction L with
  | nil => rfl
  | cons a l ih =>
    show (if a.1 = x then some a.2 else lookF (l ++ [p]) x) = match (if a.1 = x then some a.2 else lookF l x) with | some d => some d | none => _
    by_cases e : a.1 = x
    · rw [if_pos e, if_pos e]
    · rw [if_neg e, if_neg e]; exact ih
/-- The methods of a class, from a place on. -/
def mthsK (nm : ByteArray) : Nat → List (ByteArray × Int) → List (ByteArray × (ByteArray × Nat))
  | _, [] => []
  | k, m :: l => (m.1, (nm, k)) :: mthsK nm (k + 1) l
theorem mthsK_snoc (nm : ByteArray) (m : ByteArray × Int) : ∀ (l : List (ByteArray × Int)) (k : Nat), mthsK nm k (l ++ [m]) = mthsK nm k l ++ [(m.1, (nm, k + l.length))]
  | [], k => rfl
  | a :: l, k => by
    show (a.1, (nm, k)) :: mthsK nm (k + 1) (l ++ [m]) = (a.1, (nm, k)) :: (mthsK nm (k + 1) l ++ _)
    rw [mthsK_snoc nm m l (k + 1)]
    simp only [List.length_cons]
    rw [show k + 1 + l.length = k + (l.length + 1) by omega]
def mths (C : List Cls) : List (ByteArray × (ByteArray × Nat)) := (C.map (fun c => mthsK c.name 0 c.meths)).flatten
theorem mths_snoc (C : List Cls) (c : Cls) : mths (C ++ [c]) = mths C ++ mthsK c.name 0 c.meths := by
  unfold mths; rw [List.map_append, List.flatten_append]; simp
theorem mthsK_len (nm : ByteArray) : ∀ (l : List (ByteArray × Int)) (k : Nat), (mthsK nm k l).length = l.length
  | [], _ => rfl
  | _ :: l, k => by show (mthsK nm (k + 1) l).length + 1 = _; rw [mthsK_len nm l (k + 1)]; rfl
theorem mths_part {C : List Cls} {k : Nat} {c : Cls} (h : C[k]? = some c) (m : Nat) : (mths (C.take k) ++ mthsK c.name 0 (c.meths.take m)).length ≤ (mths C).length := by
  have h1 : C = (C.take k ++ [c]) ++ C.drop (k + 1) := by
    conv => lhs; rw [← List.take_append_drop (k + 1) C]
    rw [List.take_add_one, h]; rfl
  have h2 : mths C = mths (C.take k ++ [c]) ++ mths (C.drop (k + 1)) := by
    conv => lhs; rw [h1]
    unfold mths; rw [List.map_append, List.flatten_append]
  rw [h2, mths_snoc, List.length_append, List.length_append, List.length_append, mthsK_len, mthsK_len, List.length_take]
  omega
/-- The names of classes, each once, in their row. -/
def namesF : List Cls → List ByteArray → List ByteArray
  | [], seen => seen
  | c :: l, seen => namesF l (if c.name ∈ seen then seen else seen ++ [c.name])
theorem namesF_snoc (c : Cls) : ∀ (L : List Cls) (s : List ByteArray), namesF (L ++ [c]) s = if c.name ∈ namesF L s then namesF L s else namesF L s ++ [c.name]
  | [], _ => rfl
  | _ :: l, _ => namesF_snoc c l _
theorem namesF_mem (x : ByteArray) : ∀ (L : List Cls) (s : List ByteArray), x ∈ namesF L s ↔ x ∈ s ∨ x ∈ L.map (·.name)
  | [], s => by simp [namesF]
  | a :: l, s => by
    unfold namesF
    rw [namesF_mem x l]
    by_cases h : a.name ∈ s
    · rw [if_pos h]
      simp only [List.map_cons, List.mem_cons]
      constructor
      · rintro (h1 | h1)
        · exact .inl h1
        · exact .inr (.inr h1)
      · rintro (h1 | h1 | h1)
        · exact .inl h1
        · subst h1; exact .inl h
        · exact .inr h1
    · rw [if_neg h]
      simp only [List.map_cons, List.mem_cons, List.mem_append, List.not_mem_nil, or_false]
      constructor
      · rintro ((h1 | h1) | h1)
        · exact .inl h1
        · exact .inr (.inl h1)
        · exact .inr (.inr h1)
      · rintro (h1 | h1 | h1)
        · exact .inl (.inl h1)
        · exact .inl (.inr h1)
        · exact .inr h1
theorem namesF_len : ∀ (L : List Cls) (s : List ByteArray), (namesF L s).length ≤ s.length + L.length
  | [], _ => by simp [namesF]
  | a :: l, s => by
    unfold namesF
    have := namesF_len l (if a.name ∈ s then s else s ++ [a.name])
    have h2 : (if a.name ∈ s then s else s ++ [a.name]).length ≤ s.length + 1 := by split <;> simp
    simp only [List.length_cons]; omega
theorem hasF_iff {C : List Cls} {x : ByteArray} : hasF C x = true ↔ x ∈ C.map (·.name) := by
  refine ⟨hasF_mem, fun h => ?_⟩
  unfold hasF
  cases hc : clsOf C x with
  | some c => rfl
  | none =>
    obtain ⟨c, h1, h2⟩ := List.mem_map.1 h
    exact absurd h2 (clsOf_none hc c h1)
/-- A class is kept in the map of classes. -/
theorem ClsMap.store {Q : Nat → Prop} {L : List Cls} {cb : Nat} {w : World} (h : ClsMap Q L cb w) {c : Cls} (hn : clsOf L c.name = none) (hl : L.length < maxLen) (hx : c.name.size ≤ maxLen) (hq : ¬ Q cb) {sv : Value} {A : Option Addr} {n m : Nat} (hs : StrsAt Q w sv c.supers) :
    ∃ w', (Instr.mapUpdate 82 (.map (some cb)) (.string c.name) (clsV c sv (.slice A n m))).run Try.prog w = .ok () w' ∧ ClsMap Q (L ++ [c]) cb w' ∧ w.grownBy w' (some cb) := by
  obtain ⟨sz, f, h1, h2, h3⟩ := h
  have hsz : sz ≤ L.length := by
    obtain ⟨ks, kn, kl, kk⟩ := h1.keys
    rw [← kl, ← List.length_map (f := fun c : Cls => c.name)]
    refine nodup_leS kn (fun y hy => ?_)
    have := (kk y).1 hy
    cases hc : clsOf L y with
    | none => exact absurd (h2 y hc) this
    | some d => obtain ⟨e1, e2⟩ := clsOf_mem hc; exact List.mem_map.2 ⟨d, e1, e2⟩
  obtain ⟨w', r1, r2, r3⟩ := h1.store (t := 82) (e := 59) Try.underlying9 Try.underlying82 (by omega) (clsV c sv (.slice A n m)) hx
  have hkeep : ∀ b, Q b → b < w.heap.size → w'.heap[b]? = w.heap[b]? := fun b hb hlt => r3.block b hlt (fun e => by injection e with e; exact hq (e ▸ hb))
  refine ⟨w', r1, ⟨_, _, r2, fun y hy => ?_, fun y d hd => ?_⟩, r3⟩
  · rw [clsOf_snoc] at hy
    cases hc : clsOf L y with
    | some d => rw [hc] at hy; cases hy
    | none =>
      rw [hc] at hy
      by_cases e : c.name = y
      · simp only at hy; rw [if_pos e] at hy; cases hy
      · rw [setS_ne _ _ (fun e9 => e e9.symm)]; exact h2 y hc
  · rw [clsOf_snoc] at hd
    cases hc : clsOf L y with
    | some d2 =>
      rw [hc] at hd
      simp only at hd
      injection hd with hd; subst hd
      obtain ⟨sv2, A2, n2, m2, h4, h5⟩ := h3 y d2 hc
      refine ⟨sv2, A2, n2, m2, ?_, h5.keepB r3.size hkeep⟩
      rw [setS_ne _ _ (fun e => by rw [e, hn] at hc; cases hc)]; exact h4
    | none =>
      rw [hc] at hd
      simp only at hd
      by_cases e : c.name = y
      · rw [if_pos e] at hd; injection hd with hd; subst hd; subst e
        exact ⟨sv, A, n, m, setS_self _ _ _, hs.keepB r3.size hkeep⟩
      · rw [if_neg e] at hd; cases hd
theorem ClsMap.again {Q : Nat → Prop} {L : List Cls} {cb : Nat} {w : World} (h : ClsMap Q L cb w) {c d : Cls} (hn : clsOf L c.name = some d) : ClsMap Q (L ++ [c]) cb w := by
  have e : ∀ x, clsOf (L ++ [c]) x = clsOf L x := fun x => by
    rw [clsOf_snoc]
    cases hc : clsOf L x with
    | some d => rfl
    | none =>
      show (if c.name = x then some c else none) = none
      rw [if_neg (fun e => by rw [← e, hn] at hc; cases hc)]
  obtain ⟨sz, f, h1, h2, h3⟩ := h
  exact ⟨sz, f, h1, fun x hx => h2 x (by rw [← e x]; exact hx), fun x c hc => h3 x c (by rw [← e x]; exact hc)⟩
/-- A method is kept in the map of methods. -/
theorem MthMap.store {L : List (ByteArray × (ByteArray × Nat))} {mb : Nat} {w : World} (h : MthMap (lookF L) mb w) {x nm : ByteArray} {k : Nat} (hn : lookF L x = none) (hl : L.length < maxLen) (hx : x.size ≤ maxLen) :
    ∃ w', (Instr.mapUpdate 83 (.map (some mb)) (.string x) (.agg #[.string nm, .int .i64 k])).run Try.prog w = .ok () w' ∧ MthMap (lookF (L ++ [(x, (nm, k))])) mb w' ∧ w.grownBy w' (some mb) := by
  obtain ⟨sz, g, h1, h2⟩ := h
  have hmem : ∀ (L : List (ByteArray × (ByteArray × Nat))) y, lookF L y ≠ none → y ∈ L.map Prod.fst := fun L y => by
    induction L with
    | nil => intro h; exact absurd rfl h
    | cons a l ih =>
      intro h
      unfold lookF at h
      by_cases e : a.1 = y
      · exact List.mem_map.2 ⟨a, List.mem_cons_self .., e⟩
      · rw [if_neg e] at h; exact List.mem_cons_of_mem _ (ih h)
  have hsz : sz ≤ L.length := by
    obtain ⟨ks, kn, kl, kk⟩ := h1.keys
    rw [← kl, ← List.length_map (f := Prod.fst (α := ByteArray) (β := ByteArray × Nat))]
    refine nodup_leS kn (fun y hy => hmem L y (fun e => ?_))
    have := (kk y).1 hy
    rw [h2 y, e] at this; exact this rfl
  obtain ⟨w', r1, r2, r3⟩ := h1.store (t := 83) (e := 118) Try.underlying9 Try.underlying83 (by omega) (.agg #[.string nm, .int .i64 k]) hx
  refine ⟨w', r1, ⟨_, _, r2, fun y => ?_⟩, r3⟩
  rw [lookF_snoc]
  by_cases e : y = x
  · subst e
    rw [setS_self, hn]
    show _ = (if y = y then some (nm, k) else none).map _
    rw [if_pos rfl]; rfl
  · rw [setS_ne _ _ e, h2 y]
    cases lookF L y with
    | some d => rfl
    | none =>
      show none = (if x = y then some (nm, k) else none).map _
      rw [if_neg (fun e9 => e e9.symm)]; rfl
theorem MthMap.again {L : List (ByteArray × (ByteArray × Nat))} {mb : Nat} {w : World} (h : MthMap (lookF L) mb w) {x nm : ByteArray} {k : Nat} {d : ByteArray × Nat} (hn : lookF L x = some d) : MthMap (lookF (L ++ [(x, (nm, k))])) mb w := by
  obtain ⟨sz, g, h1, h2⟩ := h
  refine ⟨sz, g, h1, fun y => ?_⟩
  rw [h2 y, lookF_snoc]
  cases hc : lookF L y with
  | some d => rfl
  | none =>
    show _ = (if x = y then some (nm, k) else none).map _
    rw [if_neg (fun e => by rw [← e, hn] at hc; cases hc)]
end Go.Proofs.Ytjfhncbfbhkhgaa
