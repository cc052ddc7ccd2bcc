/- Plain mathematics of chapter 3: a reader of kinds that keeps a list of those that are begun. No program, no world. -/
import Derived.Test.YtomhojpoaicioaaKindsP
namespace Go.Proofs.Ytomhojpoaicioaa

/-- What a text begins with, and what is behind it. -/
def cutP (p s : List UInt8) : Option (List UInt8) := if p.isPrefixOf s then some (s.drop p.length) else none
theorem cutP_some {p s r : List UInt8} (h : cutP p s = some r) : s = p ++ r := by
  unfold cutP at h
  split at h
  · rename_i hp
    injection h with h
    obtain ⟨t, ht⟩ := List.isPrefixOf_iff_prefix.1 hp
    rw [← h, ← ht, List.drop_left]
  · cases h
theorem cutP_app (p r : List UInt8) : cutP p (p ++ r) = some r := by
  unfold cutP
  rw [if_pos (List.isPrefixOf_iff_prefix.2 (List.prefix_append p r)), List.drop_left]
def sOpen : List UInt8 := [40]
def sItem : List UInt8 := [42, 32, 45, 62, 32]
def sShut : List UInt8 := [42, 41, 32, 45, 62, 32]
/-- The reader: those that are begun, the innermost one apart. -/
def readM : Nat → List (List K) → List K → List UInt8 → Option K
  | 0, _, _, _ => none
  | f + 1, st, top, s =>
    match cutP sOpen s with
    | some r => readM f (top :: st) [] r
    | none => match cutP sItem s with
      | some r => readM f st (top ++ [.mk []]) r
      | none => match cutP sShut s, st, top with
        | some r, t :: st', x :: l => readM f st' (t ++ [.mk (x :: l)]) r
        | _, _, _ => if s = [42] ∧ st = [] then some (.mk top) else none
def readS (st : List (List K)) (top : List K) (s : List UInt8) : Option K := readM (s.length + 1) st top s
theorem cutP_len {p s r : List UInt8} (h : cutP p s = some r) : s.length = p.length + r.length := by rw [cutP_some h, List.length_append]
theorem readM_fuel : ∀ (f g : Nat) (st : List (List K)) (top : List K) (s : List UInt8), s.length < f → s.length < g → readM f st top s = readM g st top s
  | 0, _, _, _, _, h, _ => absurd h (Nat.not_lt_zero _)
  | _, 0, _, _, _, _, h => absurd h (Nat.not_lt_zero _)
  | f + 1, g + 1, st, top, s, hf, hg => by
    unfold readM
    cases h1 : cutP sOpen s with
    | some r => exact readM_fuel f g _ _ _ (by have := cutP_len h1; simp [sOpen] at this; omega) (by have := cutP_len h1; simp [sOpen] at this; omega)
    | none =>
      cases h2 : cutP sItem s with
      | some r => exact readM_fuel f g _ _ _ (by have := cutP_len h2; simp [sItem] at this; omega) (by have := cutP_len h2; simp [sItem] at this; omega)
      | none =>
        cases h3 : cutP sShut s with
        | none => rfl
        | some r =>
          cases st with
          | nil => rfl
          | cons t st' =>
            cases top with
            | nil => rfl
            | cons x l => exact readM_fuel f g _ _ _ (by have := cutP_len h3; simp [sShut] at this; omega) (by have := cutP_len h3; simp [sShut] at this; omega)
theorem readS_open {st : List (List K)} {top : List K} {s r : List UInt8} (h : cutP sOpen s = some r) : readS st top s = readS (top :: st) [] r := by
  have hl := cutP_len h
  unfold readS
  conv => lhs; unfold readM
  rw [h]
  exact readM_fuel _ _ _ _ _ (by simp [sOpen] at hl; omega) (by omega)
theorem readS_item {st : List (List K)} {top : List K} {s r : List UInt8} (h0 : cutP sOpen s = none) (h : cutP sItem s = some r) : readS st top s = readS st (top ++ [.mk []]) r := by
  have hl := cutP_len h
  unfold readS
  conv => lhs; unfold readM
  rw [h0, h]
  exact readM_fuel _ _ _ _ _ (by simp [sItem] at hl; omega) (by omega)
theorem readS_shut {st : List (List K)} {t top : List K} {s r : List UInt8} (h0 : cutP sOpen s = none) (h1 : cutP sItem s = none) (h : cutP sShut s = some r) (ht : top ≠ []) : readS (t :: st) top s = readS st (t ++ [.mk top]) r := by
  have hl := cutP_len h
  unfold readS
  conv => lhs; unfold readM
  rw [h0, h1, h]
  cases top with
  | nil => exact absurd rfl ht
  | cons x l => exact readM_fuel _ _ _ _ _ (by simp [sShut] at hl; omega) (by omega)
theorem readS_end {st : List (List K)} {top : List K} {s : List UInt8} (h0 : cutP sOpen s = none) (h1 : cutP sItem s = none) (h : cutP sShut s = none ∨ st = [] ∨ top = []) : readS st top s = if s = [42] ∧ st = [] then some (.mk top) else none := by
  unfold readS
  conv => lhs; unfold readM
  rw [h0, h1]
  rcases h with h | h | h
  · rw [h]
  · subst h
    cases cutP sShut s <;> rfl
  · subst h
    cases cutP sShut s <;> cases st <;> rfl

/-- What has been read. -/
def preM : List (List K) → List K → List UInt8
  | [], top => itemsK top
  | t :: st, top => preM st t ++ [40] ++ itemsK top
theorem preM_snoc (st : List (List K)) (top : List K) (k : K) : preM st (top ++ [k]) = preM st top ++ itemK k := by
  cases st with
  | nil => exact itemsK_snoc top k
  | cons t st => simp only [preM, itemsK_snoc, List.append_assoc]
theorem itemK_nil : itemK (.mk []) = sItem := by unfold itemK wrapK; rw [if_pos (show (K.mk []).from = [] from rfl), printK_nil]; rfl
theorem itemK_some {top : List K} (h : top ≠ []) : itemK (.mk top) = [40] ++ itemsK top ++ sShut := by
  unfold itemK wrapK; rw [if_neg (show ¬ (K.mk top).from = [] from h), printK_mk]; simp [sShut]
theorem readM_sound : ∀ (f : Nat) (st : List (List K)) (top : List K) (s : List UInt8) (k : K), readM f st top s = some k → printK k = preM st top ++ s
  | 0, _, _, _, _, h => by cases h
  | f + 1, st, top, s, k, h => by
    unfold readM at h
    cases h1 : cutP sOpen s with
    | some r =>
      rw [h1] at h
      rw [readM_sound f _ _ _ k h, cutP_some h1]
      simp [preM, itemsK, sOpen]
    | none =>
      rw [h1] at h
      cases h2 : cutP sItem s with
      | some r =>
        rw [h2] at h
        rw [readM_sound f _ _ _ k h, cutP_some h2, preM_snoc, itemK_nil, List.append_assoc]
      | none =>
        rw [h2] at h
        have fin : (if s = [42] ∧ st = [] then some (K.mk top) else none) = some k → printK k = preM st top ++ s := by
          intro h
          split at h
          · rename_i hs
            obtain ⟨rfl, rfl⟩ := hs
            injection h with h
            rw [← h, printK_mk]; rfl
          · cases h
        cases h3 : cutP sShut s with
        | none => rw [h3] at h; exact fin h
        | some r =>
          rw [h3] at h
          cases st with
          | nil => exact fin h
          | cons t st' =>
            cases top with
            | nil => exact fin h
            | cons x l =>
              rw [readM_sound f _ _ _ k h, cutP_some h3, preM_snoc, itemK_some (by simp)]
              simp [preM]
/-- Items are read one behind the other. -/
theorem readS_items : ∀ (n : Nat) (l : List K) (st : List (List K)) (top : List K) (r : List UInt8), K.sz (.mk l) ≤ n → readS st top (itemsK l ++ r) = readS st (top ++ l) r
  | 0, l, _, _, _, h => by rw [K.sz_mk] at h; omega
  | n + 1, [], st, top, r, _ => by simp [itemsK]
  | n + 1, .mk q :: l, st, top, r, h => by
    have h9 := h
    rw [K.sz_mk] at h9
    simp only [List.map_cons, List.sum_cons] at h9
    have hq : 1 ≤ K.sz (.mk q) := by rw [K.sz_mk]; omega
    have ihl := readS_items n l st (top ++ [.mk q]) r (by rw [K.sz_mk]; omega)
    rw [itemsK_cons, List.append_assoc]
    cases q with
    | nil =>
      rw [itemK_nil, readS_item (r := itemsK l ++ r) (by rfl) (cutP_app _ _), ihl]
      simp
    | cons x q =>
      have ihq := readS_items n (x :: q) (top :: st) [] (sShut ++ (itemsK l ++ r)) (by omega)
      rw [itemK_some (by simp), List.append_assoc, List.append_assoc]
      show readS st top (sOpen ++ _) = _
      rw [readS_open (r := itemsK (x :: q) ++ (sShut ++ (itemsK l ++ r))) (cutP_app sOpen _), ihq]
      rw [List.nil_append, readS_shut (r := itemsK l ++ r) (by rfl) (by rfl) (cutP_app _ _) (by simp), ihl]
      simp
theorem readS_print (k : K) : readS [] [] (printK k) = some k := by
  cases k with
  | mk l =>
    rw [printK_mk, readS_items _ l [] [] [42] (Nat.le_refl _), List.nil_append]
    rw [readS_end (by rfl) (by rfl) (.inr (.inl rfl)), if_pos ⟨rfl, rfl⟩]
theorem readS_sound {s : List UInt8} {k : K} (h : readS [] [] s = some k) : printK k = s := by
  have := readM_sound _ _ _ _ _ h
  simpa [preM, itemsK] using this
end Go.Proofs.Ytomhojpoaicioaa
