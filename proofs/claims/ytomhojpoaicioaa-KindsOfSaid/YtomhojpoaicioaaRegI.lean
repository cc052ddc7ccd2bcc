/- A region that draws its order, gone through once for each of its operations instead of once for each order: an invariant that each operation hands on. No program; conditions: the operations' edges lead back, each slot is written once, each operation but the last is asked for by a later one. -/
import Derived.Test.YtomhojpoaicioaaProg
import Derived.RegionTactic
namespace Go.Proofs.Ytomhojpoaicioaa

def OnL (L : Array Bool) (i : Nat) : Prop := L.getD i false = true
theorem OnL.set {L : Array Bool} {i j : Nat} (h : OnL (L.setIfInBounds i true) j) : j = i ∨ OnL L j := by
  unfold OnL at *
  by_cases e : j = i
  · exact .inl e
  · right
    simpa [Array.getElem?_setIfInBounds, Ne.symm e] using h
theorem OnL.mono {L : Array Bool} {i j : Nat} (h : OnL L j) : OnL (L.setIfInBounds i true) j := by
  unfold OnL at *
  by_cases e : i = j
  · subst e
    by_cases hs : i < L.size
    · simp [hs]
    · simp [hs] at h
  · simpa [Array.getElem?_setIfInBounds, e] using h
theorem OnL.self {L : Array Bool} {i : Nat} (h : i < L.size) : OnL (L.setIfInBounds i true) i := by
  unfold OnL; simp [h]
/-- What an operation waits for. -/
def depsB (md : Region.Mode) (ops : Array Oper) (i : Nat) : List Nat :=
  match ops[i]? with
  | some o => o.after.toList.filterMap fun e => if Region.binds md e = true then some e.on else none
  | none => []
theorem mem_deps {md : Region.Mode} {ops : Array Oper} {i : Nat} {o : Oper} (ho : ops[i]? = some o) {L : Array Bool} (h : ∀ d ∈ depsB md ops i, OnL L d) : (o.after.all fun e => !Region.binds md e || L.getD e.on false) = true := by
  rw [Array.all_eq_true']
  intro e he
  by_cases hb : Region.binds md e = true
  · have : e.on ∈ depsB md ops i := by
      unfold depsB; rw [ho]; simp only [List.mem_filterMap]
      exact ⟨e, by simpa using he, by rw [if_pos hb]⟩
    have h2 : L.getD e.on false = true := h _ this
    rw [h2]; simp
  · simp [hb]
theorem deps_of {md : Region.Mode} {ops : Array Oper} {i : Nat} {o : Oper} (ho : ops[i]? = some o) {L : Array Bool} (h : (o.after.all fun e => !Region.binds md e || L.getD e.on false) = true) : ∀ d ∈ depsB md ops i, OnL L d := by
  intro d hd
  unfold depsB at hd
  rw [ho] at hd
  simp only [List.mem_filterMap] at hd
  obtain ⟨e, he, h2⟩ := hd
  rw [Array.all_eq_true'] at h
  have h3 := h e (by simpa using he)
  split at h2
  · rename_i hb
    injection h2 with h2
    subst h2
    rw [hb] at h3
    unfold OnL
    simpa using h3
  · cases h2
theorem ready_mem {md : Region.Mode} {ops : Array Oper} {L : Array Bool} {i : Nat} : i ∈ Region.ready md ops L ↔ i < ops.size ∧ L.getD i true = false ∧ ∀ d ∈ depsB md ops i, OnL L d := by
  unfold Region.ready
  rw [List.mem_filter, List.mem_range]
  constructor
  · rintro ⟨h1, h2⟩
    have ho : ops[i]? = some ops[i] := Array.getElem?_eq_getElem h1
    rw [ho] at h2
    simp only [Option.map_some, Option.getD_some, Bool.and_eq_true, Bool.not_eq_true'] at h2
    exact ⟨h1, h2.1, deps_of ho h2.2⟩
  · rintro ⟨h1, h2, h3⟩
    have ho : ops[i]? = some ops[i] := Array.getElem?_eq_getElem h1
    refine ⟨h1, ?_⟩
    rw [ho]
    simp only [Option.map_some, Option.getD_some, Bool.and_eq_true, Bool.not_eq_true']
    exact ⟨h2, mem_deps ho h3⟩
theorem on_or {L : Array Bool} {i : Nat} (h : i < L.size) : OnL L i ∨ L.getD i true = false := by
  unfold OnL
  simp only [Array.getD_eq_getD_getElem?, Array.getElem?_eq_getElem h, Option.getD_some]
  cases L[i] <;> simp
theorem not_on {L : Array Bool} {i : Nat} (h : L.getD i true = false) : ¬ OnL L i := by
  unfold OnL
  simp only [Array.getD_eq_getD_getElem?] at *
  cases h2 : L[i]? with
  | none => rw [h2] at h; simp at h
  | some b => rw [h2] at h; simp at h; simp [h]
theorem lt_of_off {L : Array Bool} {i : Nat} (h : L.getD i true = false) : i < L.size := by
  by_cases h1 : i < L.size
  · exact h1
  · simp [Array.getD_eq_getD_getElem?, Array.getElem?_eq_none (Nat.le_of_not_lt h1)] at h
/-- Edges lead back. -/
def backB (md : Region.Mode) (ops : Array Oper) : Bool := (List.range ops.size).all fun i => (depsB md ops i).all fun d => decide (d < i)
theorem all_on {md : Region.Mode} {ops : Array Oper} (hb : backB md ops = true) {L : Array Bool} (hL : L.size = ops.size) (h : Region.ready md ops L = []) : ∀ i, i < ops.size → OnL L i := by
  intro i
  induction i using Nat.strongRecOn with
  | _ i ih =>
    intro hi
    rcases on_or (by rw [hL]; exact hi) with h1 | h1
    · exact h1
    · exfalso
      have : i ∈ Region.ready md ops L := ready_mem.2 ⟨hi, h1, fun d hd => by
        unfold backB at hb
        rw [List.all_eq_true] at hb
        have h2 := hb i (List.mem_range.2 hi)
        rw [List.all_eq_true] at h2
        have h3 : d < i := by simpa using h2 d hd
        exact ih d h3 (by omega)⟩
      rw [h] at this
      cases this
theorem count_set {L : Array Bool} {i : Nat} (h : L.getD i true = false) : (L.setIfInBounds i true).toList.count false + 1 = L.toList.count false := by
  have hi := lt_of_off h
  have h0 : L.toList[i]'(by simpa using hi) = false := by
    simp only [Array.getD_eq_getD_getElem?, Array.getElem?_eq_getElem hi, Option.getD_some] at h
    simpa using h
  rw [Array.toList_setIfInBounds, List.count_set (by simpa using hi), h0]
  have hpos : 0 < L.toList.count false := List.count_pos_iff.2 (h0 ▸ List.getElem_mem _)
  have e1 : (false == false) = true := rfl
  have e2 : (true == false) = false := rfl
  rw [if_pos e1, if_neg (by decide)]
  omega
section
variable {P : Program} {ops : Array Oper} {Q : Exit → Act → World → Prop} {md : Region.Mode}
theorem wpAny_inv (J : Array Bool → Act → World → Prop) (hb : backB md ops = true)
    (hstep : ∀ (L : Array Bool) (a : Act) (w : World), L.size = ops.size → J L a w → ∀ i o, ops[i]? = some o → L.getD i true = false → (∀ d ∈ depsB md ops i, OnL L d) → ∀ K' : Act → World → Prop, (∀ a w, J (L.setIfInBounds i true) a w → K' a w) → if Region.wanted o (yielded ops a.tmps) = true then Oper.wp P o a w K' Q else K' (a.put o.dst undef) w)
    (hdone : ∀ (L : Array Bool) (a : Act) (w : World), (∀ i, i < ops.size → OnL L i) → J L a w → Q .normal a w) :
    ∀ (fuel : Nat) (L : Array Bool) (a : Act) (w : World), L.size = ops.size → L.toList.count false ≤ fuel → J L a w → wpAny P md ops Q fuel L a w
  | 0, L, a, w, hL, hc, hJ => by
    have hr : Region.ready md ops L = [] := by
      rw [List.eq_nil_iff_forall_not_mem]
      intro i hi
      have h1 := (ready_mem.1 hi).2.1
      have := count_set h1
      omega
    exact ⟨hr, hdone L a w (all_on hb hL hr) hJ⟩
  | fuel + 1, L, a, w, hL, hc, hJ => by
    refine ⟨fun hr => hdone L a w (all_on hb hL hr) hJ, fun i hi => ?_⟩
    obtain ⟨h1, h2, h3⟩ := ready_mem.1 hi
    have ho : ops[i]? = some ops[i] := Array.getElem?_eq_getElem h1
    refine wpOp_step ho (fun K' hK => hstep L a w hL hJ i _ ho h2 h3 K' (fun a w h => hK a w ?_))
    refine wpAny_inv J hb hstep hdone fuel _ a w (by simpa using hL) ?_ h
    have := count_set h2
    omega
end
/-! ### Values by operation -/
def putsA : Act → List (Option Tmp) → Nat → (Nat → Value) → Act
  | a, [], _, _ => a
  | a, d :: r, k, x => putsA (a.put d (x k)) r (k + 1) x
def updV (x : Nat → Value) (i : Nat) (v : Value) : Nat → Value := fun k => if k = i then v else x k
theorem put_comm {a : Act} {d e : Option Tmp} {u v : Value} (h : ∀ s, d = some s → e ≠ some s) : (a.put d u).put e v = (a.put e v).put d u := by
  cases d with
  | none => rfl
  | some d =>
    cases e with
    | none => rfl
    | some e =>
      have : d ≠ e := fun q => h d rfl (by rw [q])
      simp only [Act.put]
      rw [Array.setIfInBounds_comm _ _ this]
theorem put_twice {a : Act} {d : Option Tmp} {u v : Value} : (a.put d u).put d v = a.put d v := by
  cases d with
  | none => rfl
  | some d => simp only [Act.put]; rw [Array.setIfInBounds_setIfInBounds]
/-- Each slot stands once. -/
def onceB : List (Option Tmp) → Bool
  | [] => true
  | none :: r => onceB r
  | some d :: r => !r.contains (some d) && onceB r
theorem puts_put (e : Option Tmp) (v : Value) : ∀ (D : List (Option Tmp)) (a : Act) (k : Nat) (x : Nat → Value), (∀ s, e = some s → some s ∉ D) → (putsA a D k x).put e v = putsA (a.put e v) D k x
  | [], _, _, _, _ => rfl
  | d :: r, a, k, x, h => by
    rw [putsA, putsA, puts_put e v r _ _ _ (fun s hs hm => h s hs (List.mem_cons_of_mem _ hm)), put_comm]
    intro s hs he
    exact h s he (hs ▸ List.mem_cons_self ..)
theorem puts_ext : ∀ (D : List (Option Tmp)) (a : Act) (k : Nat) (x y : Nat → Value), (∀ j, k ≤ j → x j = y j) → putsA a D k x = putsA a D k y
  | [], _, _, _, _, _ => rfl
  | d :: r, a, k, x, y, h => by rw [putsA, putsA, h k (Nat.le_refl _)]; exact puts_ext r _ _ _ _ (fun j hj => h j (by omega))
theorem puts_upd : ∀ (D : List (Option Tmp)) (a : Act) (k : Nat) (x : Nat → Value) (i : Nat) (d : Option Tmp) (v : Value), onceB D = true → D[i]? = some d → (putsA a D k x).put d v = putsA a D k (updV x (k + i) v)
  | [], _, _, _, i, d, v, _, h => by simp at h
  | c :: r, a, k, x, 0, d, v, ho, h => by
    simp only [List.getElem?_cons_zero, Option.some.injEq] at h
    subst h
    have hc : ∀ s, c = some s → some s ∉ r := by
      intro s hs; subst hs
      simp only [onceB, Bool.and_eq_true, Bool.not_eq_true'] at ho
      intro hm
      have := ho.1
      rw [List.contains_iff_mem.2 hm] at this
      cases this
    rw [putsA, puts_put c v r _ _ _ hc, put_twice, putsA]
    have : updV x (k + 0) v k = v := by simp [updV]
    rw [this]
    refine puts_ext r _ _ _ _ (fun j hj => ?_)
    unfold updV; rw [if_neg (by omega)]
  | c :: r, a, k, x, i + 1, d, v, ho, h => by
    have hr : onceB r = true := by
      cases c with
      | none => exact ho
      | some c => simp only [onceB, Bool.and_eq_true] at ho; exact ho.2
    rw [putsA, putsA, puts_upd r _ (k + 1) x i d v hr (by simpa using h)]
    have e1 : updV x (k + (i + 1)) v k = x k := by unfold updV; rw [if_neg (by omega)]
    rw [e1, show k + 1 + i = k + (i + 1) by omega]
theorem put_own (a : Act) (d : Option Tmp) (h : ∀ s, d = some s → True) : a.put d ((d.map fun s => a.tmps.getD s undef).getD undef) = a := by
  cases d with
  | none => rfl
  | some s =>
    simp only [Act.put, Option.map_some, Option.getD_some]
    have : a.tmps.setIfInBounds s (a.tmps.getD s undef) = a.tmps := by
      apply Array.ext_getElem?
      intro j
      by_cases e : s = j
      · subst e
        by_cases hs : s < a.tmps.size
        · simp [hs]
        · simp [Array.setIfInBounds, hs]
      · simp [e]
    rw [this]
theorem puts_own : ∀ (D : List (Option Tmp)) (a : Act) (k : Nat), ∃ x : Nat → Value, (∀ y : Nat → Value, (∀ j, k ≤ j → y j = x j) → putsA a D k y = a) ∧ ∀ i d, D[i]? = some d → x (k + i) = (d.map fun s => a.tmps.getD s undef).getD undef
  | [], a, k => ⟨fun _ => undef, fun _ _ => rfl, fun i s h => by simp at h⟩
  | d :: r, a, k => by
    obtain ⟨x, hx, hx2⟩ := puts_own r a (k + 1)
    refine ⟨fun j => if j = k then (d.map fun s => a.tmps.getD s undef).getD undef else x j, fun y hy => ?_, fun i d' h => ?_⟩
    · have e1 : y k = (d.map fun s => a.tmps.getD s undef).getD undef := by rw [hy k (Nat.le_refl _)]; exact if_pos rfl
      rw [putsA, e1, put_own a d (fun _ _ => trivial)]
      exact hx y (fun j hj => by rw [hy j (by omega)]; exact if_neg (by omega))
    · cases i with
      | zero =>
        simp only [List.getElem?_cons_zero, Option.some.injEq] at h
        subst h
        exact if_pos rfl
      | succ i =>
        have := hx2 i d' (by simpa using h)
        rw [← this, show k + 1 + i = k + (i + 1) by omega]
        exact if_neg (by omega)
/-! ### The region -/
/-- Each operation but the last is asked for by a later one. -/
def askedB (md : Region.Mode) (ops : Array Oper) : Bool := (List.range ops.size).all fun i => decide (i + 1 = ops.size) || (List.range ops.size).any fun j => decide (i < j) && (depsB md ops j).contains i
theorem asked_all {md : Region.Mode} {ops : Array Oper} (ha : askedB md ops = true) {L : Array Bool} (hc : ∀ i, OnL L i → ∀ d ∈ depsB md ops i, OnL L d) {m : Nat} (hm : ops.size = m + 1) (hl : ∀ d ∈ depsB md ops m, OnL L d) : ∀ i, i < m → OnL L i := by
  unfold askedB at ha
  rw [List.all_eq_true] at ha
  have key : ∀ k i, i + k = m → i < m → OnL L i := by
    intro k
    induction k using Nat.strongRecOn with
    | _ k ih =>
      intro i hk hi
      have h1 := ha i (List.mem_range.2 (by omega))
      simp only [Bool.or_eq_true, decide_eq_true_eq, List.any_eq_true, List.mem_range, Bool.and_eq_true, List.contains_iff_mem] at h1
      rcases h1 with h1 | ⟨j, hj, hij, hd⟩
      · omega
      · by_cases e : j = m
        · subst e; exact hl i hd
        · exact hc j (ih (m - j) (by omega) j (by omega) (by omega)) i hd
  intro i hi
  exact key (m - i) i (by omega) hi
/-- Who waits for an operation, by way of others. -/
def waitsB (md : Region.Mode) (ops : Array Oper) (i : Nat) : List Nat := (List.range ops.size).foldl (fun acc j => if (depsB md ops j).any (fun d => d == i || acc.contains d) then acc ++ [j] else acc) [i]
theorem waits_off {md : Region.Mode} {ops : Array Oper} {L : Array Bool} {i : Nat} (hc : ∀ i, OnL L i → ∀ d ∈ depsB md ops i, OnL L d) (hi : ¬ OnL L i) : ∀ j ∈ waitsB md ops i, ¬ OnL L j := by
  unfold waitsB
  have key : ∀ (l acc : List Nat), (∀ j ∈ acc, ¬ OnL L j) → ∀ j ∈ l.foldl (fun acc j => if (depsB md ops j).any (fun d => d == i || acc.contains d) then acc ++ [j] else acc) acc, ¬ OnL L j := by
    intro l
    induction l with
    | nil => intro acc h; exact h
    | cons k r ih =>
      intro acc h
      refine ih _ (fun j hj => ?_)
      dsimp only at hj
      split at hj
      · rename_i ha
        rw [List.mem_append, List.mem_singleton] at hj
        rcases hj with hj | rfl
        · exact h j hj
        · intro hon
          rw [List.any_eq_true] at ha
          obtain ⟨d, hd, h2⟩ := ha
          rw [Bool.or_eq_true, beq_iff_eq, List.contains_iff_mem] at h2
          rcases h2 with rfl | h2
          · exact hi (hc j hon d hd)
          · exact h d h2 (hc j hon d hd)
      · exact h j hj
  exact key _ _ (fun j hj => by rw [List.mem_singleton] at hj; subst hj; exact hi)
/-- What stands in an operation's slot ahead of it. -/
def initV (A : Act) (D : List (Option Tmp)) (j : Nat) : Value := match D[j]? with
  | some d => (d.map fun s => A.tmps.getD s undef).getD undef
  | none => undef
/-- A goal behind a door: a case distinction does not look into it. -/
structure HidG (p : Prop) : Prop where
  out : p
/-- One operation's step: what it hands on. -/
def StepI (P : Program) (ops : Array Oper) (Q : Exit → Act → World → Prop) (A : Act) (D : List (Option Tmp)) (G : (Nat → Value) → World → Prop) (R : Nat → (Nat → Value) → World → Prop) (i : Nat) (o : Oper) (ds js ws : List Nat) : Prop :=
  ∀ (x : Nat → Value) (w : World), G x w → (∀ d ∈ ds, R d x w) → (∀ j ∈ ws, x j = initV A D j) → ∀ K : Act → World → Prop,
    (∀ v w', G (updV x i v) w' → (∀ j ∈ js, R j x w → R j (updV x i v) w') → R i (updV x i v) w' → K ((putsA A D 0 x).put o.dst v) w') →
    HidG (if Region.wanted o (yielded ops (putsA A D 0 x).tmps) = true then Oper.wp P o (putsA A D 0 x) w K Q else K ((putsA A D 0 x).put o.dst undef) w)
/-- The last one's step. -/
def LastI (P : Program) (ops : Array Oper) (Q : Exit → Act → World → Prop) (A : Act) (D : List (Option Tmp)) (G : (Nat → Value) → World → Prop) (R : Nat → (Nat → Value) → World → Prop) (F : (Nat → Value) → World → Prop) (i : Nat) (o : Oper) : Prop :=
  ∀ (x : Nat → Value) (w : World), G x w → (∀ d, d < i → R d x w) → x i = initV A D i → ∀ K : Act → World → Prop,
    (∀ v w', F (updV x i v) w' → K ((putsA A D 0 x).put o.dst v) w') →
    HidG (if Region.wanted o (yielded ops (putsA A D 0 x).tmps) = true then Oper.wp P o (putsA A D 0 x) w K Q else K ((putsA A D 0 x).put o.dst undef) w)
/-- Whom an operation's step must keep: all but itself, those that wait for it, and the last. -/
def keptB (md : Region.Mode) (ops : Array Oper) (i : Nat) : List Nat := (List.range ops.size).filter fun j => decide (j + 1 < ops.size) && decide (j ≠ i) && !(depsB md ops j).contains i
def StepsI (P : Program) (md : Region.Mode) (ops : Array Oper) (Q : Exit → Act → World → Prop) (A : Act) (D : List (Option Tmp)) (G : (Nat → Value) → World → Prop) (R : Nat → (Nat → Value) → World → Prop) (is : List Nat) : Prop :=
  ∀ i ∈ is, ∀ o, ops[i]? = some o → StepI P ops Q A D G R i o (depsB md ops i) (keptB md ops i) (waitsB md ops i)
section
variable {P : Program} {ops : Array Oper} {Q : Exit → Act → World → Prop} {md : Region.Mode} {A : Act} {D : List (Option Tmp)} {G : (Nat → Value) → World → Prop} {R : Nat → (Nat → Value) → World → Prop}
theorem StepsI.nil : StepsI P md ops Q A D G R [] := fun _ h => by cases h
theorem StepsI.cons {i : Nat} {o : Oper} {is ds js ws : List Nat} (ho : ops[i]? = some o) (hd : depsB md ops i = ds) (hj : keptB md ops i = js) (hw : waitsB md ops i = ws) (h : StepI P ops Q A D G R i o ds js ws) (hs : StepsI P md ops Q A D G R is) : StepsI P md ops Q A D G R (i :: is) := fun j hj2 o2 ho2 => by
  rcases List.mem_cons.1 hj2 with rfl | hj2
  · rw [ho] at ho2; injection ho2 with ho2; subst ho2; rw [hd, hj, hw]; exact h
  · exact hs j hj2 o2 ho2
theorem wpAny_rel (m : Nat) (o : Oper) (F : (Nat → Value) → World → Prop) (w : World) (hm : ops.size = m + 1) (hD : ops.toList.map (·.dst) = D) (ho : ops[m]? = some o) (hb : backB md ops = true) (ha : askedB md ops = true) (h1 : onceB D = true)
    (h0 : ∀ x : Nat → Value, (∀ i d, D[i]? = some d → x i = (d.map fun s => A.tmps.getD s undef).getD undef) → G x w) (hs : StepsI P md ops Q A D G R (List.range m)) (hl : LastI P ops Q A D G R F m o) (hf : ∀ x w', F x w' → Q .normal (putsA A D 0 x) w') : wpAny P md ops Q ops.size (Array.replicate ops.size false) A w := by
  refine wpAny_inv (fun L a w => ∃ x, a = putsA A D 0 x ∧ (∀ i, OnL L i → ∀ d ∈ depsB md ops i, OnL L d) ∧ (∀ i d, ¬ OnL L i → D[i]? = some d → x i = (d.map fun s => A.tmps.getD s undef).getD undef) ∧ ((OnL L m ∧ (∀ i, i < ops.size → OnL L i) ∧ F x w) ∨ (¬ OnL L m ∧ G x w ∧ ∀ i, i < m → OnL L i → R i x w))) hb ?_ ?_ ops.size _ A w (by simp) (by simp) ?_
  · rintro L a w hL ⟨x, rfl, hc, hini, hcase⟩ i o' ho' hoff hdeps K' hK
    rcases hcase with ⟨_, hall, _⟩ | ⟨hnm, hG, hR⟩
    · exact absurd (hall i (by have := lt_of_off hoff; omega)) (not_on hoff)
    · have hi : i < m + 1 := by have := lt_of_off hoff; omega
      have hDi : D[i]? = some o'.dst := by rw [← hD]; simp [ho']
      have hcl : ∀ j, OnL (L.setIfInBounds i true) j → ∀ d ∈ depsB md ops j, OnL (L.setIfInBounds i true) d := fun j hj d hd => by
        rcases OnL.set hj with rfl | hj
        · exact OnL.mono (hdeps d hd)
        · exact OnL.mono (hc j hj d hd)
      have hin1 : ∀ j, j < ops.size → ¬ OnL L j → x j = initV A D j := fun j hjs hj => by
        have hDj : D[j]? = some (ops[j]'hjs).dst := by rw [← hD]; simp [Array.getElem?_eq_getElem hjs]
        have := hini j _ hj hDj
        unfold initV
        rw [hDj]; exact this
      have hin : x i = initV A D i := hin1 i (by omega) (not_on hoff)
      have hini' : ∀ v j d, ¬ OnL (L.setIfInBounds i true) j → D[j]? = some d → updV x i v j = (d.map fun s => A.tmps.getD s undef).getD undef := fun v j s hj hs => by
        have hji : j ≠ i := fun e => by subst e; exact hj (OnL.self (lt_of_off hoff))
        have : updV x i v j = x j := by unfold updV; rw [if_neg hji]
        rw [this]
        exact hini j s (fun h => hj (OnL.mono h)) hs
      by_cases e : i = m
      · subst e
        rw [ho] at ho'
        injection ho' with ho'
        subst ho'
        have hall := asked_all ha hc hm hdeps
        refine (hl x w hG (fun d hd => hR d hd (hall d hd)) hin K' (fun v w' hF => hK _ _ ⟨updV x i v, ?_, hcl, hini' v, .inl ⟨OnL.self (by omega), fun j hj => ?_, hF⟩⟩)).out
        · have := puts_upd D A 0 x i o.dst v h1 hDi
          rw [Nat.zero_add] at this
          exact this
        · by_cases e : j = i
          · subst e; exact OnL.self (by omega)
          · exact OnL.mono (hall j (by omega))
      · refine (hs i (List.mem_range.2 (by omega)) o' ho' x w hG (fun d hd => hR d ?_ (hdeps d hd)) (fun j hj => ?_) K' (fun v w' hG' hkeep hnew => hK _ _ ⟨updV x i v, ?_, hcl, hini' v, .inr ⟨fun h => ?_, hG', fun j hj hon => ?_⟩⟩)).out
        · unfold backB at hb
          rw [List.all_eq_true] at hb
          have h2 := hb i (List.mem_range.2 (by omega))
          rw [List.all_eq_true] at h2
          have h3 : d < i := by simpa using h2 d hd
          omega
        · by_cases hjs : j < ops.size
          · exact hin1 j hjs (waits_off hc (not_on hoff) j hj)
          · exfalso
            have hsub : ∀ (l acc : List Nat), (∀ k ∈ acc, k < ops.size) → (∀ k ∈ l, k < ops.size) → ∀ k ∈ l.foldl (fun acc j => if (depsB md ops j).any (fun d => d == i || acc.contains d) then acc ++ [j] else acc) acc, k < ops.size := by
              intro l
              induction l with
              | nil => intro acc h _; exact h
              | cons k r ih =>
                intro acc h hl
                refine ih _ (fun q hq => ?_) (fun q hq => hl q (List.mem_cons_of_mem _ hq))
                dsimp only at hq
                split at hq
                · rw [List.mem_append, List.mem_singleton] at hq
                  rcases hq with hq | rfl
                  · exact h q hq
                  · exact hl q (List.mem_cons_self ..)
                · exact h q hq
            exact hjs (hsub _ _ (fun k hk => by rw [List.mem_singleton] at hk; omega) (fun k hk => List.mem_range.1 hk) j hj)
        · have := puts_upd D A 0 x i o'.dst v h1 hDi
          rw [Nat.zero_add] at this
          exact this
        · rcases OnL.set h with h | h
          · exact e h.symm
          · exact hnm h
        · rcases OnL.set hon with rfl | hon
          · exact hnew
          · by_cases e2 : j = i
            · subst e2; exact hnew
            · refine hkeep j ?_ (hR j hj hon)
              unfold keptB
              rw [List.mem_filter, List.mem_range]
              refine ⟨by omega, ?_⟩
              simp only [Bool.and_eq_true, decide_eq_true_eq, Bool.not_eq_true']
              refine ⟨⟨by omega, e2⟩, ?_⟩
              cases h9 : (depsB md ops j).contains i with
              | false => rfl
              | true => exact absurd (hc j hon i (List.contains_iff_mem.1 h9)) (not_on hoff)
  · rintro L a w hall ⟨x, rfl, hc, _, hcase⟩
    rcases hcase with ⟨_, _, hF⟩ | ⟨hnm, _⟩
    · exact hf x w hF
    · exact absurd (hall m (by omega)) hnm
  · obtain ⟨x, hx, hx2⟩ := puts_own D A 0
    have hno : ∀ j, ¬ OnL (Array.replicate ops.size false) j := fun j h => by
      unfold OnL at h
      simp only [Array.getD_eq_getD_getElem?, Array.getElem?_replicate] at h
      split at h <;> simp at h
    exact ⟨x, (hx x (fun _ _ => rfl)).symm, fun j hj => absurd hj (hno j), fun i d _ h => by { have := hx2 i d h; rwa [Nat.zero_add] at this }, .inr ⟨hno m, h0 x (fun i d h => by have := hx2 i d h; rwa [Nat.zero_add] at this), fun i _ h => absurd h (hno i)⟩⟩
/-- A region that draws its order, operation by operation. -/
theorem wp_region_rel {id : Nat} (m : Nat) (o : Oper) (F : (Nat → Value) → World → Prop) (w : World) (hmix : P.follows .mixedOrders = true) (hm : ops.size = m + 1) (hD : ops.toList.map (·.dst) = D) (ho : ops[m]? = some o) (hb : backB .any ops = true) (ha : askedB .any ops = true) (h1 : onceB D = true)
    (h0 : ∀ x : Nat → Value, (∀ i d, D[i]? = some d → x i = (d.map fun s => A.tmps.getD s undef).getD undef) → G x w.drew) (hs : StepsI P .any ops Q A D G R (List.range m)) (hl : LastI P ops Q A D G R F m o) (hf : ∀ x w', F x w' → Q .normal (putsA A D 0 x) w') : (Code.region id ops true).wp P Q A w :=
  wp_region_any hmix (wpAny_rel m o F w.drew hm hD ho hb ha h1 h0 hs hl hf)
end
end Go.Proofs.Ytomhojpoaicioaa
