/- Plain mathematics of chapter 3: kinds in print. No program, no world. -/
import Derived.Test.YtomhojpoaicioaaKindsV
namespace Go.Proofs.Ytomhojpoaicioaa

def wrapK (k : K) (s : List UInt8) : List UInt8 := if k.from = [] then s else [40] ++ s ++ [41]
def printK : K → List UInt8
  | .mk l => (l.attach.flatMap (fun ⟨k, _⟩ => (if k.from = [] then printK k else [40] ++ printK k ++ [41]) ++ [32, 45, 62, 32])) ++ [42]
def itemK (k : K) : List UInt8 := wrapK k (printK k) ++ [32, 45, 62, 32]
def itemsK (l : List K) : List UInt8 := l.flatMap itemK
theorem printK_mk (l : List K) : printK (.mk l) = itemsK l ++ [42] := by
  rw [printK]
  congr 1
  unfold itemsK itemK wrapK
  simp only [List.flatMap_subtype, List.unattach_attach]
theorem printK_nil : printK (.mk []) = [42] := by rw [printK_mk]; rfl
theorem itemsK_app (a b : List K) : itemsK (a ++ b) = itemsK a ++ itemsK b := by unfold itemsK; rw [List.flatMap_append]
theorem itemsK_cons (k : K) (l : List K) : itemsK (k :: l) = itemK k ++ itemsK l := by simp [itemsK]
theorem itemsK_snoc (l : List K) (k : K) : itemsK (l ++ [k]) = itemsK l ++ itemK k := by simp [itemsK]
theorem printK_cons (k : K) (l : List K) : printK (.mk (k :: l)) = itemK k ++ printK (.mk l) := by rw [printK_mk, printK_mk, itemsK_cons, List.append_assoc]
theorem itemK_len (k : K) : (printK k).length + 4 ≤ (itemK k).length ∧ (itemK k).length ≤ (printK k).length + 6 := by
  unfold itemK wrapK
  split <;> simp <;> omega
theorem itemsK_take_le (l : List K) (i : Nat) : (itemsK (l.take i)).length ≤ (itemsK l).length := by
  have e : itemsK l = itemsK (l.take i) ++ itemsK (l.drop i) := by rw [← itemsK_app, List.take_append_drop]
  rw [e, List.length_append]; omega
theorem printK_get {l : List K} {i : Nat} (hi : i < l.length) : (printK l[i]).length + (itemsK (l.take i)).length + 5 ≤ (printK (.mk l)).length := by
  rw [printK_mk]
  have e : itemsK l = itemsK (l.take i) ++ (itemK l[i] ++ itemsK (l.drop (i + 1))) := by
    have h9 : l = l.take i ++ l[i] :: l.drop (i + 1) := by rw [← List.drop_eq_getElem_cons hi, List.take_append_drop]
    have h8 : itemsK l = itemsK (l.take i ++ l[i] :: l.drop (i + 1)) := congrArg itemsK h9
    rw [h8, itemsK_app, itemsK_cons]
  have := (itemK_len l[i]).1
  rw [e]; simp only [List.length_append, List.length_cons, List.length_nil]; omega

/-! ### A print read back -/
/-- A kind at a text's beginning, and what is behind it. -/
def arrowB : List UInt8 → Bool := fun l => [32, 45, 62, 32].isPrefixOf l
def takeA (rec : List UInt8 → Option (K × List UInt8)) (l : List UInt8) : Option (K × Bool × List UInt8) :=
  match l with
  | 42 :: r => some (.mk [], true, r)
  | 40 :: r => match rec r with
    | some (k, 41 :: q) => if k.from = [] then none else some (k, false, q)
    | _ => none
  | _ => none
def takeK : Nat → List UInt8 → Option (K × List UInt8)
  | 0, _ => none
  | f + 1, l => match takeA (takeK f) l with
    | none => none
    | some (k, star, r) => if arrowB r then (match takeK f (r.drop 4) with | some (.mk ks, q) => some (.mk (k :: ks), q) | none => none) else (if star then some (.mk [], r) else none)
/-- What may stand behind a kind. -/
def EndsK (r : List UInt8) : Prop := arrowB r = false
theorem takeK_print : ∀ (f : Nat) (k : K) (r : List UInt8), K.sz k ≤ f → EndsK r → takeK f (printK k ++ r) = some (k, r)
  | 0, .mk l, _, h, _ => by rw [K.sz_mk] at h; omega
  | f + 1, .mk [], r, _, hr => by
    rw [printK_nil]
    show (if arrowB r then _ else _) = _
    have hr' : arrowB r = false := hr
    rw [hr']; rfl
  | f + 1, .mk (k :: l), r, h, hr => by
    have hk : K.sz k ≤ f := by rw [K.sz_mk] at h; simp at h; omega
    have hl : K.sz (.mk l) ≤ f := by
      have h1 : 1 ≤ K.sz k := by cases k with | mk l2 => rw [K.sz_mk]; omega
      rw [K.sz_mk] at h ⊢; simp at h; omega
    have ihl := takeK_print f (.mk l) r hl hr
    rw [printK_cons, List.append_assoc]
    unfold takeK
    have hA : takeA (takeK f) (itemK k ++ (printK (.mk l) ++ r)) = some (k, (k.from = [] : Bool), [32, 45, 62, 32] ++ (printK (.mk l) ++ r)) := by
      unfold itemK wrapK
      by_cases hf : k.from = []
      · rw [if_pos hf]
        have hk0 : k = .mk [] := by cases k with | mk l2 => exact congrArg K.mk hf
        subst hk0
        rw [printK_nil]
        rfl
      · rw [if_neg hf]
        have ihk := takeK_print f k (41 :: 32 :: 45 :: 62 :: 32 :: (printK (.mk l) ++ r)) hk (show ([32, 45, 62, 32] : List UInt8).isPrefixOf (41 :: 32 :: 45 :: 62 :: 32 :: (printK (.mk l) ++ r)) = false from rfl)
        have e : [40] ++ printK k ++ [41] ++ [32, 45, 62, 32] ++ (printK (.mk l) ++ r) = 40 :: (printK k ++ (41 :: 32 :: 45 :: 62 :: 32 :: (printK (.mk l) ++ r))) := by simp
        rw [e]
        unfold takeA
        simp only
        rw [ihk]
        simp [hf]
    rw [hA]
    simp only
    rw [if_pos (show arrowB ([32, 45, 62, 32] ++ (printK (.mk l) ++ r)) = true by simp [arrowB])]
    have e4 : ([32, 45, 62, 32] ++ (printK (.mk l) ++ r)).drop 4 = printK (.mk l) ++ r := rfl
    rw [e4, ihl]
theorem printK_inj {a b : K} (h : printK a = printK b) : a = b := by
  have h1 := takeK_print (max (K.sz a) (K.sz b)) a [] (by omega) rfl
  have h2 := takeK_print (max (K.sz a) (K.sz b)) b [] (by omega) rfl
  rw [List.append_nil] at h1 h2
  rw [h, h2] at h1
  injection h1 with h1
  injection h1 with h1 _
  exact h1.symm
theorem sz_le_print (k : K) : K.sz k ≤ (printK k).length := by
  refine K.induct (P := fun k => K.sz k ≤ (printK k).length) ?_ ?_ k
  · rw [K.sz_mk, printK_nil]; simp
  · intro k l hk hl
    rw [printK_cons, K.sz_mk]
    rw [K.sz_mk] at hl
    have := (itemK_len k).1
    simp only [List.map_cons, List.sum_cons, List.length_append] at *
    omega
/-- A text that is no kind's print: the reader does not take it whole. -/
theorem no_print {s : List UInt8} (h : ∀ k, takeK s.length s ≠ some (k, [])) (k : K) : s ≠ printK k := by
  rintro rfl
  have h1 := takeK_print (printK k).length k [] (sz_le_print k) rfl
  rw [List.append_nil] at h1
  exact h k h1
end Go.Proofs.Ytomhojpoaicioaa
