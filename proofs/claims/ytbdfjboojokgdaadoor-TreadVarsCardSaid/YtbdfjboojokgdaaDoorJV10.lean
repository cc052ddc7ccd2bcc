/- The mathematics of free variables and of what is not known (chapter 4): where variables stand, as the program lays them out; and the document's own going through. No program. Plain mathematics of chapter 5: what stands among tokens: types, predicates, schemes. No program, no world. The contracts of the document's name, Lower and Upper (chapter 1). No conditions but those that each theorem names. -/
import Derived.Test.YtbdfjboojokgdaaDoorJV09
import Derived.Test.YtbdfjboojokgdaaDoorJV01
import Derived.Lib.Hide
namespace Go.Proofs.YtbdfjboojokgdaaDoor
open Go.RowKit

/-- Where variables stand, from the left, and how deep they are given. -/
def layV (g : ByteArray → Int) (d : Int) : Ty → List (ByteArray × Int)
  | .var s => [(s, g s)]
  | .app a b => layV g d a ++ layV g d b
  | .all s a => layV (updG g s (d + 1)) (d + 1) a
  | _ => []
/-- How many variables there are. -/
def Ty.vars : Ty → Nat
  | .var _ => 1
  | .app a b => a.vars + b.vars
  | .all _ a => a.vars
  | _ => 0
/-- Of each type for all how many variables come ahead of its end, behind so many. -/
def layE (n : Nat) : Ty → List Int
  | .app a b => layE n a ++ layE (n + a.vars) b
  | .all _ a => ((n + a.vars : Nat) : Int) :: layE n a
  | _ => []
def layVL (g : ByteArray → Int) (d : Int) (l : List Ty) : List (ByteArray × Int) := (l.map (layV g d)).flatten
def varsL (l : List Ty) : Nat := (l.map Ty.vars).sum
def layEL (n : Nat) : List Ty → List Int
  | [] => []
  | a :: l => layE n a ++ layEL (n + a.vars) l
theorem layV_len (g : ByteArray → Int) (d : Int) (t : Ty) : (layV g d t).length = t.vars := by
  induction t generalizing g d with
  | hole n => rfl
  | var s => rfl
  | con s => rfl
  | app a b iha ihb => simp [layV, Ty.vars, iha, ihb]
  | all s a ih => simp [layV, Ty.vars, ih]
theorem layVL_len (g : ByteArray → Int) (d : Int) (l : List Ty) : (layVL g d l).length = varsL l := by
  induction l with
  | nil => rfl
  | cons a r ih => unfold layVL varsL at *; simp [ih, layV_len]
theorem layVL_take {g : ByteArray → Int} {d : Int} {l : List Ty} {k : Nat} (h : k < l.length) : layVL g d (l.take (k + 1)) = layVL g d (l.take k) ++ layV g d l[k] := by
  unfold layVL; rw [List.take_succ_eq_append_getElem h, List.map_append, List.flatten_append]; simp
theorem layEL_append (n : Nat) (l r : List Ty) : layEL n (l ++ r) = layEL n l ++ layEL (n + varsL l) r := by
  induction l generalizing n with
  | nil => simp [layEL, varsL]
  | cons a l ih => simp only [List.cons_append, layEL, ih, varsL, List.map_cons, List.sum_cons, List.append_assoc, Nat.add_assoc]
theorem layEL_take {n : Nat} {l : List Ty} {k : Nat} (h : k < l.length) : layEL n (l.take (k + 1)) = layEL n (l.take k) ++ layE (n + varsL (l.take k)) l[k] := by
  rw [List.take_succ_eq_append_getElem h, layEL_append]; simp [layEL]
theorem vars_le (t : Ty) : t.vars ≤ t.sz := by
  induction t with
  | hole n => simp [Ty.vars]
  | var s => simp [Ty.vars, Ty.sz]
  | con s => simp [Ty.vars]
  | app a b iha ihb => simp [Ty.vars, Ty.sz]; omega
  | all s a ih => simp [Ty.vars, Ty.sz]; omega
theorem layE_le (n : Nat) (t : Ty) : (layE n t).length + t.vars ≤ t.sz := by
  induction t generalizing n with
  | hole k => simp [layE, Ty.vars]
  | var s => simp [layE, Ty.vars, Ty.sz]
  | con s => simp [layE, Ty.vars]
  | app a b iha ihb => have := iha n; have := ihb (n + a.vars); simp [layE, Ty.vars, Ty.sz]; omega
  | all s a ih => have := ih n; simp [layE, Ty.vars, Ty.sz]; omega
theorem varsL_le (l : List Ty) : varsL l ≤ sumSz l := by
  induction l with
  | nil => simp [varsL]
  | cons a r ih => have := vars_le a; simp [varsL, sumSz] at *; omega
theorem layEL_le (n : Nat) (l : List Ty) : (layEL n l).length + varsL l ≤ sumSz l := by
  induction l generalizing n with
  | nil => simp [layEL, varsL]
  | cons a r ih => have := layE_le n a; have := ih (n + a.vars); simp [layEL, varsL, sumSz] at *; omega
theorem layV_else {g : ByteArray → Int} {d : Int} {t : Ty} (h2 : t.form ≠ 2) (h5 : t.form ≠ 5) : layV g d t = layVL g d t.args := by
  cases t <;> simp [Ty.form] at h2 h5 <;> simp [layV, layVL, Ty.args]
theorem layE_else {n : Nat} {t : Ty} (h2 : t.form ≠ 2) (h5 : t.form ≠ 5) : layE n t = layEL n t.args := by
  cases t <;> simp [Ty.form] at h2 h5 <;> simp [layE, layEL, Ty.args]
theorem layV_var {g : ByteArray → Int} {d : Int} {t : Ty} (h2 : t.form = 2) : layV g d t = [(t.name, g t.name)] := by
  cases t <;> simp [Ty.form] at h2; rfl
theorem layE_var {n : Nat} {t : Ty} (h2 : t.form = 2) : layE n t = [] := by
  cases t <;> simp [Ty.form] at h2; rfl
theorem layV_all {g : ByteArray → Int} {d : Int} {t : Ty} (h5 : t.form = 5) : layV g d t = layVL (updG g t.name (d + 1)) (d + 1) t.args := by
  cases t <;> simp [Ty.form] at h5; simp [layV, layVL, Ty.args, Ty.name]
theorem layE_all {n : Nat} {t : Ty} (h5 : t.form = 5) : layE n t = ((n + varsL t.args : Nat) : Int) :: layEL n t.args := by
  cases t <;> simp [Ty.form] at h5; simp [layE, layEL, varsL, Ty.args]
def hasB (l : List ByteArray) (s : ByteArray) : Bool := l.any (fun x => decide (x = s))
theorem hasB_mem {l : List ByteArray} {s : ByteArray} : hasB l s = true ↔ s ∈ l := by
  unfold hasB; rw [List.any_eq_true]
  exact ⟨fun ⟨x, h1, h2⟩ => by have := of_decide_eq_true h2; subst this; exact h1, fun h => ⟨s, h, by simp⟩⟩
theorem hasB_not {l : List ByteArray} {s : ByteArray} : hasB l s = false ↔ s ∉ l := by
  rw [← hasB_mem]; cases hasB l s <;> simp
/-- One more, if it was not met, and nothing gives it. -/
def freeS (out : List ByteArray) (p : ByteArray × Int) : List ByteArray := if p.2 = 0 ∧ hasB out p.1 = false then out ++ [p.1] else out
def freeL (l : List (ByteArray × Int)) : List ByteArray := l.foldl freeS []
/-- The free variables of a type, as they come. -/
def Ty.free (t : Ty) : List ByteArray := freeL (layV (fun _ => 0) 0 t)
/-- The document's: where these were given, behind those that were met. -/
def freeD (given out : List ByteArray) : Ty → List ByteArray
  | .var s => if hasB given s = true ∨ hasB out s = true then out else out ++ [s]
  | .app a b => freeD given (freeD given out a) b
  | .all s a => freeD (given ++ [s]) out a
  | _ => out
theorem freeD_is (given out : List ByteArray) (t : Ty) (g : ByteArray → Int) (d : Int) (hd : 0 ≤ d) (h : ∀ s, s ∈ given ↔ g s ≠ 0) : freeD given out t = (layV g d t).foldl freeS out := by
  induction t generalizing given out g d with
  | hole n => rfl
  | con s => rfl
  | var s =>
    simp only [freeD, layV, List.foldl_cons, List.foldl_nil, freeS]
    by_cases h1 : s ∈ given
    · have := (h s).1 h1; rw [if_pos (.inl (hasB_mem.2 h1)), if_neg (fun e => this e.1)]
    · have h0 : g s = 0 := Classical.byContradiction (fun e => h1 ((h s).2 e))
      rw [hasB_not.2 h1]
      cases h2 : hasB out s <;> simp [h0]
  | app a b iha ihb => simp only [freeD, layV, List.foldl_append]; rw [iha _ _ _ _ hd h, ihb _ _ _ _ hd h]
  | all s a ih =>
    simp only [freeD, layV]
    refine ih _ _ _ _ (by omega) (fun x => ?_)
    unfold updG
    by_cases e : x = s
    · simp [e]; omega
    · simp [e, h x]
theorem free_is (t : Ty) : freeD [] [] t = t.free := freeD_is [] [] t _ 0 (Int.le_refl _) (fun s => by simp)
/-- The document's over a row. -/
def freeDL (given out : List ByteArray) (l : List Ty) : List ByteArray := l.foldl (fun out t => freeD given out t) out
theorem freeDL_take {given out : List ByteArray} {l : List Ty} {k : Nat} (h : k < l.length) : freeDL given out (l.take (k + 1)) = freeD given (freeDL given out (l.take k)) l[k] := by
  unfold freeDL; rw [List.take_succ_eq_append_getElem h, List.foldl_append]; rfl
theorem freeD_else {given out : List ByteArray} {t : Ty} (h2 : t.form ≠ 2) (h5 : t.form ≠ 5) : freeD given out t = freeDL given out t.args := by
  cases t <;> simp [Ty.form] at h2 h5 <;> simp [freeD, freeDL, Ty.args]
theorem freeD_all {given out : List ByteArray} {t : Ty} (h5 : t.form = 5) : freeD given out t = freeDL (given ++ [t.name]) out t.args := by
  cases t <;> simp [Ty.form] at h5; simp [freeD, freeDL, Ty.args, Ty.name]
theorem freeD_var {given out : List ByteArray} {t : Ty} (h2 : t.form = 2) : freeD given out t = if hasB given t.name = true ∨ hasB out t.name = true then out else out ++ [t.name] := by
  cases t <;> simp [Ty.form] at h2; rfl
theorem freeD_len (given out : List ByteArray) (t : Ty) : (freeD given out t).length ≤ out.length + t.sz := by
  induction t generalizing given out with
  | hole n => simp [freeD]
  | con s => simp [freeD]
  | var s => simp only [freeD]; split <;> simp [Ty.sz]
  | app a b iha ihb => have := iha given out; have := ihb given (freeD given out a); simp only [freeD, Ty.sz]; omega
  | all s a ih => have := ih (given ++ [s]) out; simp only [freeD, Ty.sz]; omega
theorem freeDL_len (given out : List ByteArray) (l : List Ty) : (freeDL given out l).length ≤ out.length + sumSz l := by
  induction l generalizing out with
  | nil => simp [freeDL]
  | cons a r ih => have := freeD_len given out a; have := ih (freeD given out a); simp only [freeDL, List.foldl_cons, sumSz, List.map_cons, List.sum_cons] at *; omega
theorem freeS_len (out : List ByteArray) (p : ByteArray × Int) : (freeS out p).length ≤ out.length + 1 := by unfold freeS; split <;> simp
theorem freeL_len (l : List (ByteArray × Int)) : (freeL l).length ≤ l.length := by
  have : ∀ (l : List (ByteArray × Int)) (out : List ByteArray), (l.foldl freeS out).length ≤ out.length + l.length := by
    intro l
    induction l with
    | nil => intro out; simp
    | cons a r ih => intro out; have := ih (freeS out a); have := freeS_len out a; simp only [List.foldl_cons, List.length_cons]; omega
  have := this l []; unfold freeL; simpa using this
theorem freeL_take {l : List (ByteArray × Int)} {k : Nat} (h : k < l.length) : freeL (l.take (k + 1)) = freeS (freeL (l.take k)) l[k] := by
  unfold freeL; rw [List.take_succ_eq_append_getElem h, List.foldl_append]; rfl
/-- What is not known, as it comes. -/
def metaS (out : List Int) (t : Ty) : List Int := if t.form = 1 ∧ t.num ∉ out then out ++ [t.num] else out
def metasL (l : List Ty) : List Int := l.foldl metaS []
def Ty.metas (t : Ty) : List Int := metasL t.nodes
theorem metasL_snoc (l : List Ty) (t : Ty) : metasL (l ++ [t]) = metaS (metasL l) t := by unfold metasL; rw [List.foldl_append]; rfl
theorem metaS_len (out : List Int) (t : Ty) : (metaS out t).length ≤ out.length + 1 := by unfold metaS; split <;> simp
theorem metasF_len (l : List Ty) (out : List Int) : (l.foldl metaS out).length ≤ out.length + l.length := by
  induction l generalizing out with
  | nil => simp
  | cons a r ih => have := ih (metaS out a); have := metaS_len out a; simp only [List.foldl_cons, List.length_cons]; omega
theorem metasL_len (l : List Ty) : (metasL l).length ≤ l.length := by have := metasF_len l []; unfold metasL; simpa using this
/-- The document's, behind those that were met. -/
def metasD (out : List Int) (t : Ty) : List Int := t.nodes.foldl metaS out
def metasDL (out : List Int) (l : List Ty) : List Int := l.foldl metasD out
theorem metasD_else {out : List Int} {t : Ty} (h : t.form ≠ 1) : metasD out t = metasDL out t.args := by
  have h1 : metaS out t = out := by unfold metaS; rw [if_neg (fun e => h e.1)]
  unfold metasD metasDL
  rw [nodes_args, List.foldl_cons, h1, nodesL]
  clear h1
  generalize t.args = l
  induction l generalizing out with
  | nil => rfl
  | cons a r ih =>
    simp only [List.map_cons, List.flatten_cons, List.foldl_append, List.foldl_cons]
    exact ih
theorem metasD_one {out : List Int} {t : Ty} (h : t.form = 1) : metasD out t = if t.num ∈ out then out else out ++ [t.num] := by
  cases t <;> simp [Ty.form] at h
  simp only [metasD, Ty.nodes, List.foldl_cons, List.foldl_nil, metaS, Ty.form, Ty.num]
  by_cases h : (‹Int› : Int) ∈ out <;> simp [h]
theorem metasDL_take {out : List Int} {l : List Ty} {k : Nat} (h : k < l.length) : metasDL out (l.take (k + 1)) = metasD (metasDL out (l.take k)) l[k] := by
  unfold metasDL; rw [List.take_succ_eq_append_getElem h, List.foldl_append]; rfl
theorem metasD_len (out : List Int) (t : Ty) : (metasD out t).length ≤ out.length + t.sz := by have := metasF_len t.nodes out; rw [nodes_len] at this; exact this
theorem metasDL_len (out : List Int) (l : List Ty) : (metasDL out l).length ≤ out.length + sumSz l := by
  induction l generalizing out with
  | nil => simp [metasDL]
  | cons a r ih => have := metasD_len out a; have := ih (metasD out a); simp only [metasDL, List.foldl_cons, sumSz, List.map_cons, List.sum_cons] at *; omega
end Go.Proofs.YtbdfjboojokgdaaDoor
namespace Go.Proofs.YtbdfjboojokgdaaDoor
open Lx

/-- What is read: a type, and the tokens behind it; or a refusal. -/
inductive Got
  | ok (t : Ty) (r : List Tok)
  | no (e p : Nat)
def isSym (t : Tok) (x : List UInt8) : Bool := t.kind == 4 && t.text == x
def mkB (l : List UInt8) : ByteArray := ⟨l.toArray⟩
def begT (t : Tok) : Bool := t.kind == 1 || t.kind == 2 || isSym t [40]
mutual
def atomN : Nat → List Tok → Nat → Option Got
  | 0, _, _ => none
  | _ + 1, [], _ => none
  | n + 1, t :: r, o =>
    if t.kind = 2 then some (.ok (.con (mkB t.text)) r)
    else if t.kind = 1 then some (.ok (.var (mkB t.text)) r)
    else if isSym t [40] = false then some (.no 12 t.place)
    else if 40 ≤ o then some (.no 13 t.place)
    else match typeN n r (o + 1) with
      | some (.ok x (c :: q)) => if isSym c [41] = true then some (.ok x q) else some (.no 12 c.place)
      | some (.ok _ []) => none
      | some (.no e p) => some (.no e p)
      | none => none
def appsN : Nat → Ty → List Tok → Nat → Option Got
  | 0, _, _, _ => none
  | _ + 1, _, [], _ => none
  | n + 1, x, t :: r, o =>
    if begT t = true then match atomN n (t :: r) o with
      | some (.ok a q) => appsN n (.app x a) q o
      | some (.no e p) => some (.no e p)
      | none => none
    else some (.ok x (t :: r))
def typeN : Nat → List Tok → Nat → Option Got
  | 0, _, _ => none
  | n + 1, l, o => match atomN n l o with
    | some (.ok x q) => match appsN n x q o with
      | some (.ok y (c :: s)) => if isSym c [45, 62] = true then match typeN n s o with
          | some (.ok z u) => some (.ok (.fn y z) u)
          | some (.no e p) => some (.no e p)
          | none => none
        else some (.ok y (c :: s))
      | some (.ok _ []) => none
      | some (.no e p) => some (.no e p)
      | none => none
    | some (.no e p) => some (.no e p)
    | none => none
end
/-- The last token is an end, and no other one is. -/
def EndsT (l : List Tok) : Prop := ∃ r t, l = r ++ [t] ∧ t.kind = 6
theorem EndsT.ne {l : List Tok} (h : EndsT l) : l ≠ [] := by obtain ⟨r, t, e, _⟩ := h; rw [e]; simp
theorem EndsT.tail {t : Tok} {r : List Tok} (h : EndsT (t :: r)) (ht : t.kind ≠ 6) : EndsT r := by
  obtain ⟨q, u, e, hu⟩ := h
  cases q with
  | nil => simp at e; exact absurd (e.1 ▸ hu) ht
  | cons a q => simp at e; exact ⟨q, u, e.2, hu⟩
theorem sym_kind {t : Tok} {x : List UInt8} (h : isSym t x = true) : t.kind ≠ 6 := by
  unfold isSym at h; intro e; rw [e] at h; simp at h
/-- What is known of what is read. -/
def Fits (l : List Tok) (k : Nat) (g : Option Got) : Prop := ∃ r, g = some r ∧ ∀ t q, r = .ok t q → EndsT q ∧ q <:+ l ∧ q.length + k ≤ l.length ∧ t.sz + 1 ≤ 4 * (l.length - q.length)
theorem fn_sz (a b : Ty) : (Ty.fn a b).sz = a.sz + b.sz + 3 := by simp [Ty.fn, Ty.sz]; omega
theorem fits_all : ∀ n : Nat, (∀ l o, EndsT l → 3 * l.length ≤ n → Fits l 1 (atomN n l o)) ∧
    (∀ x l o, EndsT l → 3 * l.length + 1 ≤ n → ∃ r, appsN n x l o = some r ∧ ∀ t q, r = .ok t q → EndsT q ∧ q <:+ l ∧ t.sz ≤ x.sz + 4 * (l.length - q.length)) ∧
    (∀ l o, EndsT l → 3 * l.length + 2 ≤ n → Fits l 1 (typeN n l o))
  | 0 => by
    refine ⟨fun l o h hn => ?_, fun x l o h hn => absurd hn (by omega), fun l o h hn => absurd hn (by omega)⟩
    have := List.length_pos_iff.2 h.ne; omega
  | n + 1 => by
    obtain ⟨iha, ihp, iht⟩ := fits_all n
    refine ⟨fun l o h hn => ?_, fun x l o h hn => ?_, fun l o h hn => ?_⟩
    · match l, h, hn with
      | [], h, _ => exact absurd rfl h.ne
      | t :: r, h, hn =>
        simp only [List.length_cons] at hn
        simp only [atomN]
        by_cases h2 : t.kind = 2
        · rw [if_pos h2]
          exact ⟨_, rfl, fun _ _ e => by injection e with e1 e2; subst e1 e2; exact ⟨h.tail (by omega), List.suffix_cons _ _, by simp, by simp [Ty.sz]⟩⟩
        · rw [if_neg h2]
          by_cases h1 : t.kind = 1
          · rw [if_pos h1]
            exact ⟨_, rfl, fun _ _ e => by injection e with e1 e2; subst e1 e2; exact ⟨h.tail (by omega), List.suffix_cons _ _, by simp, by simp [Ty.sz]⟩⟩
          · rw [if_neg h1]
            cases hs : isSym t [40] with
            | false => exact ⟨_, if_pos rfl, fun _ _ e => by cases e⟩
            | true =>
              rw [if_neg (by simp)]
              by_cases ho : 40 ≤ o
              · rw [if_pos ho]; exact ⟨_, rfl, fun _ _ e => by cases e⟩
              · rw [if_neg ho]
                have hr := h.tail (sym_kind hs)
                obtain ⟨g, hg, hq⟩ := iht r (o + 1) hr (by omega)
                rw [hg]
                cases g with
                | no e p => exact ⟨_, rfl, fun _ _ e => by cases e⟩
                | ok x q =>
                  obtain ⟨q1, q2, q3, q4⟩ := hq x q rfl
                  match q, q1, q2, q3, q4 with
                  | [], q1, _, _, _ => exact absurd rfl q1.ne
                  | c :: q, q1, q2, q3, q4 =>
                    simp only [List.length_cons] at q3 q4
                    cases hc : isSym c [41] with
                    | false => exact ⟨.no 12 c.place, if_neg (by rw [hc]; simp), fun _ _ e => by cases e⟩
                    | true =>
                      exact ⟨.ok x q, if_pos hc, fun _ _ e => by
                        injection e with e1 e2; subst e1 e2
                        exact ⟨q1.tail (sym_kind hc), ((List.suffix_cons _ _).trans q2).trans (List.suffix_cons _ _), by simp; omega, by simp; omega⟩⟩
    · match l, h, hn with
      | [], h, _ => exact absurd rfl h.ne
      | t :: r, h, hn =>
        simp only [appsN]
        cases hb : begT t with
        | false => simp only [Bool.false_eq_true, if_false]; exact ⟨_, rfl, fun _ _ e => by injection e with e1 e2; subst e1 e2; exact ⟨h, List.suffix_refl _, by omega⟩⟩
        | true =>
          simp only [if_true]
          obtain ⟨g, hg, hq⟩ := iha (t :: r) o h (by omega)
          rw [hg]
          cases g with
          | no e p => exact ⟨_, rfl, fun _ _ e => by cases e⟩
          | ok a q =>
            obtain ⟨q1, q2, q3, q4⟩ := hq a q rfl
            obtain ⟨g2, hg2, hq2⟩ := ihp (.app x a) q o q1 (by omega)
            simp only
            rw [hg2]
            refine ⟨_, rfl, fun t' q' e => ?_⟩
            obtain ⟨s1, s2, s3⟩ := hq2 t' q' e
            have := s2.length_le
            exact ⟨s1, s2.trans q2, by simp only [Ty.sz] at s3; omega⟩
    · simp only [typeN]
      obtain ⟨g, hg, hq⟩ := iha l o h (by omega)
      rw [hg]
      cases g with
      | no e p => exact ⟨_, rfl, fun _ _ e => by cases e⟩
      | ok x q =>
        obtain ⟨q1, q2, q3, q4⟩ := hq x q rfl
        obtain ⟨g2, hg2, hq2⟩ := ihp x q o q1 (by omega)
        simp only
        rw [hg2]
        cases g2 with
        | no e p => exact ⟨_, rfl, fun _ _ e => by cases e⟩
        | ok y s =>
          obtain ⟨s1, s2, s3⟩ := hq2 y s rfl
          have hsl := s2.length_le
          match s, s1, s2, s3, hsl with
          | [], s1, _, _, _ => exact absurd rfl s1.ne
          | c :: s, s1, s2, s3, hsl =>
            simp only [List.length_cons] at s3 hsl
            simp only
            cases hc : isSym c [45, 62] with
            | false => simp only [Bool.false_eq_true, if_false]; exact ⟨_, rfl, fun _ _ e => by injection e with e1 e2; subst e1 e2; exact ⟨s1, s2.trans q2, by simp; omega, by simp; omega⟩⟩
            | true =>
              simp only [if_true]
              obtain ⟨g3, hg3, hq3⟩ := iht s o (s1.tail (sym_kind hc)) (by omega)
              rw [hg3]
              cases g3 with
              | no e p => exact ⟨_, rfl, fun _ _ e => by cases e⟩
              | ok z u =>
                obtain ⟨u1, u2, u3, u4⟩ := hq3 z u rfl
                simp only
                refine ⟨_, rfl, fun _ _ e => ?_⟩
                injection e with e1 e2; subst e1 e2
                refine ⟨u1, ((u2.trans (List.suffix_cons _ _)).trans s2).trans q2, by omega, ?_⟩
                rw [fn_sz]; omega
def atomL (l : List Tok) (o : Nat) : Got := (atomN (3 * l.length) l o).getD (.no 0 0)
def typeL (l : List Tok) (o : Nat) : Got := (typeN (3 * l.length + 2) l o).getD (.no 0 0)
theorem atomL_is {l : List Tok} (h : EndsT l) (o : Nat) : atomN (3 * l.length) l o = some (atomL l o) := by
  obtain ⟨r, hr, _⟩ := (fits_all _).1 l o h (Nat.le_refl _)
  unfold atomL; rw [hr]; rfl
theorem typeL_is {l : List Tok} (h : EndsT l) (o : Nat) : typeN (3 * l.length + 2) l o = some (typeL l o) := by
  obtain ⟨r, hr, _⟩ := (fits_all _).2.2 l o h (Nat.le_refl _)
  unfold typeL; rw [hr]; rfl
theorem atomL_ok {l q : List Tok} {o : Nat} {t : Ty} (h : EndsT l) (e : atomL l o = .ok t q) : EndsT q ∧ q <:+ l ∧ q.length + 1 ≤ l.length ∧ t.sz + 1 ≤ 4 * (l.length - q.length) := by
  obtain ⟨r, hr, hf⟩ := (fits_all _).1 l o h (Nat.le_refl _)
  have := atomL_is h o; rw [hr] at this; injection this with this
  exact hf t q (this.trans e)
theorem typeL_ok {l q : List Tok} {o : Nat} {t : Ty} (h : EndsT l) (e : typeL l o = .ok t q) : EndsT q ∧ q <:+ l ∧ q.length + 1 ≤ l.length ∧ t.sz + 1 ≤ 4 * (l.length - q.length) := by
  obtain ⟨r, hr, hf⟩ := (fits_all _).2.2 l o h (Nat.le_refl _)
  have := typeL_is h o; rw [hr] at this; injection this with this
  exact hf t q (this.trans e)
/-- Predicates, one behind the other; none, if they do not stand there. -/
def predL : Nat → List Tok → Nat → List (ByteArray × Ty) → Option (List (ByteArray × Ty) × List Tok)
  | 0, _, _, _ => none
  | _ + 1, [], _, _ => none
  | n + 1, t :: r, o, acc =>
    if t.kind = 2 then match atomL r o with
      | .ok x (c :: q) => if o = 0 ∨ isSym c [44] = false then some (acc ++ [(mkB t.text, x)], c :: q) else predL n q o (acc ++ [(mkB t.text, x)])
      | _ => none
    else none
/-- What is told of predicates: they do not stand there; they are too many; they are these, and what is behind. -/
inductive GotP
  | none
  | long (p : Nat)
  | ok (ps : List (ByteArray × Ty)) (r : List Tok)
def predsL (l : List Tok) : GotP :=
  match l with
  | [] => .none
  | t :: r =>
    if isSym t [40] = true then match predL r.length r 1 [] with
      | some (ps, c :: d :: q) => if isSym c [41] = true ∧ isSym d [61, 62] = true then (if 16 < ps.length then .long t.place else .ok ps q) else .none
      | _ => .none
    else match predL (r.length + 1) (t :: r) 0 [] with
      | some (ps, d :: q) => if isSym d [61, 62] = true then (if 16 < ps.length then .long t.place else .ok ps q) else .none
      | _ => .none
end Go.Proofs.YtbdfjboojokgdaaDoor
namespace Go.Proofs.YtbdfjboojokgdaaDoor.Lx
open Go.RowKit

theorem sign_of_range (lo hi : Int) (h : (lo = 97 ∧ hi = 122) ∨ (lo = 65 ∧ hi = 90)) (r : Int) (hr : rangeB lo hi r = true) : signB r = true := by
  unfold signB plainB rangeB at *
  rcases h with ⟨rfl, rfl⟩ | ⟨rfl, rfl⟩ <;> simp at * <;> omega

/-- All signs so far are signs of names. -/
def SignTo (s : ByteArray) (k : Nat) : Prop := ∀ i (h : i < s.size), i < k → signB (s[i].toNat : Int) = true

set_option maxHeartbeats 400000 in
theorem refname_any (lo hi : Int) (hlh : (lo = 97 ∧ hi = 122) ∨ (lo = 65 ∧ hi = 90)) (s : ByteArray) (w : World) (hs : s.size ≤ maxLen) :
    Calls Tryd.prog 152 #[.string s, .int .u8 lo, .int .u8 hi] w fun e w' => e = .returned (.bool (nameB lo hi s)) ∧ w = w' := by
  unfold maxLen at hs
  by_cases h0 : s.size = 0
  · have hn : nameB lo hi s = false := nameB_false (fun h => by unfold NameP at h; omega)
    rw [hn]; clear hn
    have h0' : ((s.size : Int) == 0) = true := by rw [h0]; rfl
    clear h0
    go_enter Tryd.func152, Tryd.ntmps152
    go_wp2
    go_ret
    exact ⟨rfl, rfl⟩
  have h0' : ((s.size : Int) == 0) = false := beq_eq_false_iff_ne.2 (by omega)
  by_cases h32 : 32 < s.size
  · have hn : nameB lo hi s = false := nameB_false (fun h => by unfold NameP at h; omega)
    rw [hn]; clear hn h0
    have h32' : (32 : Int) < (s.size : Int) := by omega
    go_enter Tryd.func152, Tryd.ntmps152
    go_wp2
    go_ret
    exact ⟨rfl, rfl⟩
  have h32' : decide ((32 : Int) < (s.size : Int)) = false := by simp; omega
  have HLH := Lib.hid hlh
  clear hlh
  go_enter Tryd.func152, Tryd.ntmps152
  go_wp2
  go_loop [7] (fun i => ∃ k : Nat, k ≤ s.size ∧ i = .int .i64 k ∧ SignTo s k) (fun i => s.size - (intOf i).toNat)
  case atStart => exact ⟨0, Nat.zero_le _, rfl, fun i _ h => absurd h (Nat.not_lt_zero _)⟩
  case round =>
    obtain ⟨k, hk, rfl, hok⟩ := hrel
    by_cases hlt : k < s.size
    · by_cases hsg : signB (s[k].toNat : Int) = true
      · have hok' : SignTo s (k + 1) := fun i h hi' => by
          by_cases e : i = k
          · subst e; exact hsg
          · exact hok i h (by omega)
        have HOK := Lib.hid hok'
        clear hok hok'
        have hcase : plainB (s[k].toNat : Int) = true ∨ (plainB (s[k].toNat : Int) = false ∧ (((s[k].toNat : Int) != 39) = false ∨ (((s[k].toNat : Int) != 39) = true ∧ ((s[k].toNat : Int) != 95) = false))) := by
          unfold signB at hsg
          simp only [Bool.or_eq_true, beq_iff_eq] at hsg
          by_cases hp : plainB (s[k].toNat : Int) = true
          · exact .inl hp
          · rcases hsg with (e | e) | e
            · exact absurd e hp
            · exact .inr ⟨by simpa using hp, .inl (by rw [e]; rfl)⟩
            · exact .inr ⟨by simpa using hp, .inr ⟨by rw [e]; rfl, by rw [e]; rfl⟩⟩
        clear hsg
        rcases hcase with hp | ⟨hp, hq | ⟨hq, hr⟩⟩
        all_goals
          go_wp2_with (go_at_call 164; refine (refplain_any _ _).mono ?_; rintro e w' ⟨rfl, rfl⟩)
          go_round
          case rel => exact ⟨k + 1, by omega, by go_num, HOK.out⟩
          case measure => simp [intOf]; omega
      · have hn : nameB lo hi s = false := nameB_false (fun h => by
          have h1 := h.2.2 k hlt
          unfold testB at h1
          split at h1
          · exact hsg (sign_of_range lo hi HLH.out _ h1)
          · exact hsg h1)
        have HN := Lib.hid hn
        have hp : plainB (s[k].toNat : Int) = false := by unfold signB at hsg; revert hsg; cases plainB (s[k].toNat : Int) <;> simp
        have hq : ((s[k].toNat : Int) != 39) = true := by unfold signB at hsg; rw [hp] at hsg; simp at hsg ⊢; omega
        have hr : ((s[k].toNat : Int) != 95) = true := by unfold signB at hsg; rw [hp] at hsg; simp at hsg ⊢; omega
        clear hn hsg hok
        go_wp2_with (go_at_call 164; refine (refplain_any _ _).mono ?_; rintro e w' ⟨rfl, rfl⟩)
        go_ret
        exact ⟨ret_bool HN.out.symm, rfl⟩
    · have hp0 : (0 : Int) < s.size := by omega
      have hp1 : 0 < s.size := by omega
      have HN : Hid (rangeB lo hi (s[0].toNat : Int) = nameB lo hi s) := by
        cases e : rangeB lo hi (s[0].toNat : Int)
        · exact (nameB_false (fun h => by have := h.2.2 0 hp1; unfold testB at this; rw [if_pos rfl, e] at this; cases this)).symm
        · refine (nameB_true ⟨hp1, by omega, fun i h => ?_⟩).symm
          unfold testB
          split
          · rename_i h9; subst h9; exact e
          · exact hok i h (by omega)
      have hd : decide (k < s.size) = false := by simpa using hlt
      clear hok
      go_wp2_with (go_at_call 165; refine (within_any _ _ _ _).mono ?_; rintro e w' ⟨rfl, rfl⟩)
      go_ret
      exact ⟨ret_bool HN.out, rfl⟩

set_option maxHeartbeats 400000 in
theorem reflower_any (s : ByteArray) (w : World) (hs : s.size ≤ maxLen) :
    Calls Tryd.prog 123 #[.string s] w fun e w' => e = .returned (.bool (nameB 97 122 s)) ∧ w = w' := by
  go_enter Tryd.func123, Tryd.ntmps123
  go_wp2_with (go_at_call 152; refine (refname_any 97 122 (.inl ⟨rfl, rfl⟩) _ _ hs).mono ?_; rintro e w' ⟨rfl, rfl⟩)
  go_ret
  exact ⟨rfl, rfl⟩
set_option maxHeartbeats 400000 in
theorem refupper_any (s : ByteArray) (w : World) (hs : s.size ≤ maxLen) :
    Calls Tryd.prog 124 #[.string s] w fun e w' => e = .returned (.bool (nameB 65 90 s)) ∧ w = w' := by
  go_enter Tryd.func124, Tryd.ntmps124
  go_wp2_with (go_at_call 152; refine (refname_any 65 90 (.inr ⟨rfl, rfl⟩) _ _ hs).mono ?_; rintro e w' ⟨rfl, rfl⟩)
  go_ret
  exact ⟨rfl, rfl⟩
end Go.Proofs.YtbdfjboojokgdaaDoor.Lx
