/- The mathematics of free variables and of what is not known (chapter 4): where variables stand, as the program lays them out; and the document's own going through. No program. -/
import Derived.Test.YtbdfjboojokgdaaDoorJU09
namespace Go.Proofs.YtbdfjboojokgdaaDoor
open Go.RowKit

/-- Where variables stand, from the left, and how deep they are given. -/
def layV (g : ByteArray → Int) (d : Int) : Ty → List (ByteArray × Int)
  | .var s => [(s, g s)]
  | .app a b => layV g d a ++ layV g d b
  | .all s a => layV (updG g s (d + 1)) (d + 1) a
  | _ => []
/-- How many variables there are. -/
def Ty.vars : Ty → Nat
  | .var _ => 1
  | .app a b => a.vars + b.vars
  | .all _ a => a.vars
  | _ => 0
/-- Of each type for all how many variables come ahead of its end, behind so many. -/
def layE (n : Nat) : Ty → List Int
  | .app a b => layE n a ++ layE (n + a.vars) b
  | .all _ a => ((n + a.vars : Nat) : Int) :: layE n a
  | _ => []
def layVL (g : ByteArray → Int) (d : Int) (l : List Ty) : List (ByteArray × Int) := (l.map (layV g d)).flatten
def varsL (l : List Ty) : Nat := (l.map Ty.vars).sum
def layEL (n : Nat) : List Ty → List Int
  | [] => []
  | a :: l => layE n a ++ layEL (n + a.vars) l
theorem layV_len (g : ByteArray → Int) (d : Int) (t : Ty) : (layV g d t).length = t.vars := by
  induction t generalizing g d with
  | hole n => rfl
  | var s => rfl
  | con s => rfl
  | app a b iha ihb => simp [layV, Ty.vars, iha, ihb]
  | all s a ih => simp [layV, Ty.vars, ih]
theorem layVL_len (g : ByteArray → Int) (d : Int) (l : List Ty) : (layVL g d l).length = varsL l := by
  induction l with
  | nil => rfl
  | cons a r ih => unfold layVL varsL at *; simp [ih, layV_len]
theorem layVL_take {g : ByteArray → Int} {d : Int} {l : List Ty} {k : Nat} (h : k < l.length) : layVL g d (l.take (k + 1)) = layVL g d (l.take k) ++ layV g d l[k] := by
  unfold layVL; rw [List.take_succ_eq_append_getElem h, List.map_append, List.flatten_append]; simp
theorem layEL_append (n : Nat) (l r : List Ty) : layEL n (l ++ r) = layEL n l ++ layEL (n + varsL l) r := by
  induction l generalizing n with
  | nil => simp [layEL, varsL]
  | cons a l ih => simp only [List.cons_append, layEL, ih, varsL, List.map_cons, List.sum_cons, List.append_assoc, Nat.add_assoc]
theorem layEL_take {n : Nat} {l : List Ty} {k : Nat} (h : k < l.length) : layEL n (l.take (k + 1)) = layEL n (l.take k) ++ layE (n + varsL (l.take k)) l[k] := by
  rw [List.take_succ_eq_append_getElem h, layEL_append]; simp [layEL]
theorem vars_le (t : Ty) : t.vars ≤ t.sz := by
  induction t with
  | hole n => simp [Ty.vars]
  | var s => simp [Ty.vars, Ty.sz]
  | con s => simp [Ty.vars]
  | app a b iha ihb => simp [Ty.vars, Ty.sz]; omega
  | all s a ih => simp [Ty.vars, Ty.sz]; omega
theorem layE_le (n : Nat) (t : Ty) : (layE n t).length + t.vars ≤ t.sz := by
  induction t generalizing n with
  | hole k => simp [layE, Ty.vars]
  | var s => simp [layE, Ty.vars, Ty.sz]
  | con s => simp [layE, Ty.vars]
  | app a b iha ihb => have := iha n; have := ihb (n + a.vars); simp [layE, Ty.vars, Ty.sz]; omega
  | all s a ih => have := ih n; simp [layE, Ty.vars, Ty.sz]; omega
theorem varsL_le (l : List Ty) : varsL l ≤ sumSz l := by
  induction l with
  | nil => simp [varsL]
  | cons a r ih => have := vars_le a; simp [varsL, sumSz] at *; omega
theorem layEL_le (n : Nat) (l : List Ty) : (layEL n l).length + varsL l ≤ sumSz l := by
  induction l generalizing n with
  | nil => simp [layEL, varsL]
  | cons a r ih => have := layE_le n a; have := ih (n + a.vars); simp [layEL, varsL, sumSz] at *; omega
theorem layV_else {g : ByteArray → Int} {d : Int} {t : Ty} (h2 : t.form ≠ 2) (h5 : t.form ≠ 5) : layV g d t = layVL g d t.args := by
  cases t <;> simp [Ty.form] at h2 h5 <;> simp [layV, layVL, Ty.args]
theorem layE_else {n : Nat} {t : Ty} (h2 : t.form ≠ 2) (h5 : t.form ≠ 5) : layE n t = layEL n t.args := by
  cases t <;> simp [Ty.form] at h2 h5 <;> simp [layE, layEL, Ty.args]
theorem layV_var {g : ByteArray → Int} {d : Int} {t : Ty} (h2 : t.form = 2) : layV g d t = [(t.name, g t.name)] := by
  cases t <;> simp [Ty.form] at h2; rfl
theorem layE_var {n : Nat} {t : Ty} (h2 : t.form = 2) : layE n t = [] := by
  cases t <;> simp [Ty.form] at h2; rfl
theorem layV_all {g : ByteArray → Int} {d : Int} {t : Ty} (h5 : t.form = 5) : layV g d t = layVL (updG g t.name (d + 1)) (d + 1) t.args := by
  cases t <;> simp [Ty.form] at h5; simp [layV, layVL, Ty.args, Ty.name]
theorem layE_all {n : Nat} {t : Ty} (h5 : t.form = 5) : layE n t = ((n + varsL t.args : Nat) : Int) :: layEL n t.args := by
  cases t <;> simp [Ty.form] at h5; simp [layE, layEL, varsL, Ty.args]
def hasB (l : List ByteArray) (s : ByteArray) : Bool := l.any (fun x => decide (x = s))
theorem hasB_mem {l : List ByteArray} {s : ByteArray} : hasB l s = true ↔ s ∈ l := by
  unfold hasB; rw [List.any_eq_true]
  exact ⟨fun ⟨x, h1, h2⟩ => by have := of_decide_eq_true h2; subst this; exact h1, fun h => ⟨s, h, by simp⟩⟩
theorem hasB_not {l : List ByteArray} {s : ByteArray} : hasB l s = false ↔ s ∉ l := by
  rw [← hasB_mem]; cases hasB l s <;> simp
/-- One more, if it was not met, and nothing gives it. -/
def freeS (out : List ByteArray) (p : ByteArray × Int) : List ByteArray := if p.2 = 0 ∧ hasB out p.1 = false then out ++ [p.1] else out
def freeL (l : List (ByteArray × Int)) : List ByteArray := l.foldl freeS []
/-- The free variables of a type, as they come. -/
def Ty.free (t : Ty) : List ByteArray := freeL (layV (fun _ => 0) 0 t)
/-- The document's: where these were given, behind those that were met. -/
def freeD (given out : List ByteArray) : Ty → List ByteArray
  | .var s => if hasB given s = true ∨ hasB out s = true then out else out ++ [s]
  | .app a b => freeD given (freeD given out a) b
  | .all s a => freeD (given ++ [s]) out a
  | _ => out
theorem freeD_is (given out : List ByteArray) (t : Ty) (g : ByteArray → Int) (d : Int) (hd : 0 ≤ d) (h : ∀ s, s ∈ given ↔ g s ≠ 0) : freeD given out t = (layV g d t).foldl freeS out := by
  induction t generalizing given out g d with
  | hole n => rfl
  | con s => rfl
  | var s =>
    simp only [freeD, layV, List.foldl_cons, List.foldl_nil, freeS]
    by_cases h1 : s ∈ given
    · have := (h s).1 h1; rw [if_pos (.inl (hasB_mem.2 h1)), if_neg (fun e => this e.1)]
    · have h0 : g s = 0 := Classical.byContradiction (fun e => h1 ((h s).2 e))
      rw [hasB_not.2 h1]
      cases h2 : hasB out s <;> simp [h0]
  | app a b iha ihb => simp only [freeD, layV, List.foldl_append]; rw [iha _ _ _ _ hd h, ihb _ _ _ _ hd h]
  | all s a ih =>
    simp only [freeD, layV]
    refine ih _ _ _ _ (by omega) (fun x => ?_)
    unfold updG
    by_cases e : x = s
    · simp [e]; omega
    · simp [e, h x]
theorem free_is (t : Ty) : freeD [] [] t = t.free := freeD_is [] [] t _ 0 (Int.le_refl _) (fun s => by simp)
/-- The document's over a row. -/
def freeDL (given out : List ByteArray) (l : List Ty) : List ByteArray := l.foldl (fun out t => freeD given out t) out
theorem freeDL_take {given out : List ByteArray} {l : List Ty} {k : Nat} (h : k < l.length) : freeDL given out (l.take (k + 1)) = freeD given (freeDL given out (l.take k)) l[k] := by
  unfold freeDL; rw [List.take_succ_eq_append_getElem h, List.foldl_append]; rfl
theorem freeD_else {given out : List ByteArray} {t : Ty} (h2 : t.form ≠ 2) (h5 : t.form ≠ 5) : freeD given out t = freeDL given out t.args := by
  cases t <;> simp [Ty.form] at h2 h5 <;> simp [freeD, freeDL, Ty.args]
theorem freeD_all {given out : List ByteArray} {t : Ty} (h5 : t.form = 5) : freeD given out t = freeDL (given ++ [t.name]) out t.args := by
  cases t <;> simp [Ty.form] at h5; simp [freeD, freeDL, Ty.args, Ty.name]
theorem freeD_var {given out : List ByteArray} {t : Ty} (h2 : t.form = 2) : freeD given out t = if hasB given t.name = true ∨ hasB out t.name = true then out else out ++ [t.name] := by
  cases t <;> simp [Ty.form] at h2; rfl
theorem freeD_len (given out : List ByteArray) (t : Ty) : (freeD given out t).length ≤ out.length + t.sz := by
  induction t generalizing given out with
  | hole n => simp [freeD]
  | con s => simp [freeD]
  | var s => simp only [freeD]; split <;> simp [Ty.sz]
  | app a b iha ihb => have := iha given out; have := ihb given (freeD given out a); simp only [freeD, Ty.sz]; omega
  | all s a ih => have := ih (given ++ [s]) out; simp only [freeD, Ty.sz]; omega
theorem freeDL_len (given out : List ByteArray) (l : List Ty) : (freeDL given out l).length ≤ out.length + sumSz l := by
  induction l generalizing out with
  | nil => simp [freeDL]
  | cons a r ih => have := freeD_len given out a; have := ih (freeD given out a); simp only [freeDL, List.foldl_cons, sumSz, List.map_cons, List.sum_cons] at *; omega
theorem freeS_len (out : List ByteArray) (p : ByteArray × Int) : (freeS out p).length ≤ out.length + 1 := by unfold freeS; split <;> simp
theorem freeL_len (l : List (ByteArray × Int)) : (freeL l).length ≤ l.length := by
  have : ∀ (l : List (ByteArray × Int)) (out : List ByteArray), (l.foldl freeS out).length ≤ out.length + l.length := by
    intro l
    induction l with
    | nil => intro out; simp
    | cons a r ih => intro out; have := ih (freeS out a); have := freeS_len out a; simp only [List.foldl_cons, List.length_cons]; omega
  have := this l []; unfold freeL; simpa using this
theorem freeL_take {l : List (ByteArray × Int)} {k : Nat} (h : k < l.length) : freeL (l.take (k + 1)) = freeS (freeL (l.take k)) l[k] := by
  unfold freeL; rw [List.take_succ_eq_append_getElem h, List.foldl_append]; rfl
/-- What is not known, as it comes. -/
def metaS (out : List Int) (t : Ty) : List Int := if t.form = 1 ∧ t.num ∉ out then out ++ [t.num] else out
def metasL (l : List Ty) : List Int := l.foldl metaS []
def Ty.metas (t : Ty) : List Int := metasL t.nodes
theorem metasL_snoc (l : List Ty) (t : Ty) : metasL (l ++ [t]) = metaS (metasL l) t := by unfold metasL; rw [List.foldl_append]; rfl
theorem metaS_len (out : List Int) (t : Ty) : (metaS out t).length ≤ out.length + 1 := by unfold metaS; split <;> simp
theorem metasF_len (l : List Ty) (out : List Int) : (l.foldl metaS out).length ≤ out.length + l.length := by
  induction l generalizing out with
  | nil => simp
  | cons a r ih => have := ih (metaS out a); have := metaS_len out a; simp only [List.foldl_cons, List.length_cons]; omega
theorem metasL_len (l : List Ty) : (metasL l).length ≤ l.length := by have := metasF_len l []; unfold metasL; simpa using this
/-- The document's, behind those that were met. -/
def metasD (out : List Int) (t : Ty) : List Int := t.nodes.foldl metaS out
def metasDL (out : List Int) (l : List Ty) : List Int := l.foldl metasD out
theorem metasD_else {out : List Int} {t : Ty} (h : t.form ≠ 1) : metasD out t = metasDL out t.args := by
  have h1 : metaS out t = out := by unfold metaS; rw [if_neg (fun e => h e.1)]
  unfold metasD metasDL
  rw [nodes_args, List.foldl_cons, h1, nodesL]
  clear h1
  generalize t.args = l
  induction l generalizing out with
  | nil => rfl
  | cons a r ih =>
    simp only [List.map_cons, List.flatten_cons, List.foldl_append, List.foldl_cons]
    exact ih
theorem metasD_one {out : List Int} {t : Ty} (h : t.form = 1) : metasD out t = if t.num ∈ out then out else out ++ [t.num] := by
  cases t <;> simp [Ty.form] at h
  simp only [metasD, Ty.nodes, List.foldl_cons, List.foldl_nil, metaS, Ty.form, Ty.num]
  by_cases h : (‹Int› : Int) ∈ out <;> simp [h]
theorem metasDL_take {out : List Int} {l : List Ty} {k : Nat} (h : k < l.length) : metasDL out (l.take (k + 1)) = metasD (metasDL out (l.take k)) l[k] := by
  unfold metasDL; rw [List.take_succ_eq_append_getElem h, List.foldl_append]; rfl
theorem metasD_len (out : List Int) (t : Ty) : (metasD out t).length ≤ out.length + t.sz := by have := metasF_len t.nodes out; rw [nodes_len] at this; exact this
theorem metasDL_len (out : List Int) (l : List Ty) : (metasDL out l).length ≤ out.length + sumSz l := by
  induction l generalizing out with
  | nil => simp [metasDL]
  | cons a r ih => have := metasD_len out a; have := ih (metasD out a); simp only [metasDL, List.foldl_cons, sumSz, List.map_cons, List.sum_cons] at *; omega
end Go.Proofs.YtbdfjboojokgdaaDoor
