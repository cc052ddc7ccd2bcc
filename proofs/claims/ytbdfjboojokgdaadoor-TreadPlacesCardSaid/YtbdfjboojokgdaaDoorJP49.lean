/- Both sides of chapter 5's reading, in one form: what is told of a type, of predicates, of a scheme, by numbers and values that do not hang on the case. Conditions: at most 4001 tokens, the last one an end, texts of at most 4000 bytes. The contract of the document's Context (chapter 5): predicates made of numbers. Conditions: the slice reads as numbers; at most 2^20 predicates. -/
import Derived.Test.YtbdfjboojokgdaaDoorJP36
import Derived.Test.YtbdfjboojokgdaaDoorJP42
import Derived.Test.YtbdfjboojokgdaaDoorJP48
import Derived.Test.YtbdfjboojokgdaaDoorJP43
import Derived.Test.YtbdfjboojokgdaaDoorJP18
namespace Go.Proofs.YtbdfjboojokgdaaDoor
open Go.RowKit Lx

def gI (toks : List Tok) : Got → Int
  | .ok _ q => ((toks.length - q.length : Nat) : Int)
  | .no _ _ => 0
def gE : Got → Int
  | .ok _ _ => 0
  | .no e _ => e
def gP : Got → Int
  | .ok _ _ => 0
  | .no _ p => p
/-- The type that was told; or none. -/
def ResTy (w : World) (res : Got) (f n : Int) (s : ByteArray) (A : Option Addr) (l c : Nat) : Prop :=
  match res with
  | .ok t _ => TyAt (fun b => b < w.heap.size) w t (.agg #[.int .i64 f, .int .i64 n, .string s, .slice A l c])
  | .no _ _ => f = 0 ∧ n = 0 ∧ s = ⟨#[]⟩ ∧ A = none ∧ l = 0 ∧ c = 0
theorem ResTy.on {w w' : World} {res : Got} {f n : Int} {s : ByteArray} {A : Option Addr} {l c : Nat} (h : ResTy w res f n s A l c) (hb : Below w.heap.size w w') : ResTy w' res f n s A l c := by
  cases res with
  | ok t q => exact (TyAt.on h hb).mono (fun b (hb2 : b < w.heap.size) => Nat.lt_of_lt_of_le hb2 hb.size)
  | no e p => exact h
theorem code_uni {toks : List Tok} {res : Got} {w : World} {F : FuncId} {vs : Array Value} (h : Calls Tryd.prog F vs w (PlaceRes toks res w)) : Calls Tryd.prog F vs w fun e w' => ∃ f n s A l c, e = .returned (.tuple #[.agg #[.int .i64 f, .int .i64 n, .string s, .slice A l c], .int .i64 (gI toks res), .agg #[.int .i64 (gE res), .int .i64 (gP res)]]) ∧ ResTy w' res f n s A l c ∧ Below w.heap.size w w' := by
  refine h.mono (fun e w' hr => ?_)
  cases res with
  | ok t q =>
    obtain ⟨tv, rfl, ht, hb⟩ := hr
    obtain ⟨f, n, s, A, l, c, rfl⟩ := ht.flat
    exact ⟨f, n, s, A, l, c, rfl, ht.bound', hb⟩
  | no e p =>
    obtain ⟨rfl, hb⟩ := hr
    exact ⟨0, 0, ⟨#[]⟩, none, 0, 0, rfl, ⟨rfl, rfl, rfl, rfl, rfl, rfl⟩, hb⟩
theorem doc_uni {toks : List Tok} {res : Got} {w : World} {F : FuncId} {vs : Array Value} (h : Calls Tryd.prog F vs w (XRes toks res w)) : Calls Tryd.prog F vs w fun e w' => ∃ f n s A l c, e = .returned (.agg #[.int .i64 f, .int .i64 n, .string s, .slice A l c, .slice none 0 0, .slice none 0 0, .int .i64 (gI toks res), .int .i64 (gE res), .int .i64 (gP res)]) ∧ ResTy w' res f n s A l c ∧ Below w.heap.size w w' := by
  refine h.mono (fun e w' hr => ?_)
  cases res with
  | ok t q =>
    obtain ⟨f, n, s, A, l, c, rfl, ht, hb⟩ := hr
    exact ⟨f, n, s, A, l, c, rfl, ht.bound', hb⟩
  | no e p =>
    obtain ⟨rfl, hb⟩ := hr
    exact ⟨0, 0, ⟨#[]⟩, none, 0, 0, rfl, ⟨rfl, rfl, rfl, rfl, rfl, rfl⟩, hb⟩
theorem equal_uni {res : Got} {w : World} {f n : Int} {s : ByteArray} {A : Option Addr} {l c : Nat} {f2 n2 : Int} {s2 : ByteArray} {A2 : Option Addr} {l2 c2 : Nat} (h1 : ResTy w res f n s A l c) (h2 : ResTy w res f2 n2 s2 A2 l2 c2) :
    Calls Tryd.prog 28 #[.agg #[.int .i64 f, .int .i64 n, .string s, .slice A l c], .agg #[.int .i64 f2, .int .i64 n2, .string s2, .slice A2 l2 c2]] w (TrueB w) := by
  cases res with
  | ok t q =>
    refine (equal_any _ _ _ t t _ _ w (Nat.le_refl _) h1 h2).mono ?_
    rintro e w' ⟨rfl, hb⟩
    exact ⟨by rw [eqT_true rfl], hb⟩
  | no e p =>
    obtain ⟨rfl, rfl, rfl, rfl, rfl, rfl⟩ := h1
    obtain ⟨rfl, rfl, rfl, rfl, rfl, rfl⟩ := h2
    exact equal_zero w
/-! ### Predicates -/
def pI (toks : List Tok) (i : Nat) : Option (List (ByteArray × Ty) × List Tok) → Int
  | none => i
  | some (ps, q) => if 16 < ps.length then 0 else ((toks.length - q.length : Nat) : Int)
def pE : Option (List (ByteArray × Ty) × List Tok) → Int
  | none => 0
  | some (ps, _) => if 16 < ps.length then 2 else 0
def pP (place : Nat) : Option (List (ByteArray × Ty) × List Tok) → Int
  | none => 0
  | some (ps, _) => if 16 < ps.length then place else 0
def pL : Option (List (ByteArray × Ty) × List Tok) → List (ByteArray × Ty)
  | none => []
  | some (ps, _) => if 16 < ps.length then [] else ps
theorem pL_le (o : Option (List (ByteArray × Ty) × List Tok)) : (pL o).length ≤ 16 := by
  cases o with
  | none => simp [pL]
  | some x => obtain ⟨ps, q⟩ := x; simp only [pL]; split; (· simp); (· omega)
theorem PsP.bound {P : Nat → Prop} {w : World} {ps : List (ByteArray × Ty)} {v : Value} (h : PsP P w ps v) : PsP (fun b => b < w.heap.size) w ps v := by
  obtain ⟨A, c, e, hr⟩ := h
  refine ⟨A, c, e, ?_⟩
  rcases hr with h9 | ⟨b, e2, hlt, hp, hc⟩
  · exact .inl h9
  · refine .inr ⟨b, e2, hlt, hlt, fun i hi => ?_⟩
    obtain ⟨f, n, s, A', l, c', k0, k1, k2, k3, k4, hx⟩ := hc i hi
    exact ⟨f, n, s, A', l, c', k0, k1, k2, k3, k4, hx.bound'⟩
theorem PsP.onB {w w' : World} {ps : List (ByteArray × Ty)} {v : Value} (h : PsP (fun b => b < w.heap.size) w ps v) (hb : Below w.heap.size w w') : PsP (fun b => b < w'.heap.size) w' ps v := (h.on hb).bound
theorem preds_uni {toks : List Tok} {i place : Nat} {out : Option (List (ByteArray × Ty) × List Tok)} {w : World} {F : FuncId} {vs : Array Value} (h : Calls Tryd.prog F vs w (TopRes toks i place out w)) : Calls Tryd.prog F vs w fun e w' => ∃ A c, e = .returned (.tuple #[.slice A (pL out).length c, .int .i64 (pI toks i out), .agg #[.int .i64 (pE out), .int .i64 (pP place out)]]) ∧ PsP (fun b => b < w'.heap.size) w' (pL out) (.slice A (pL out).length c) ∧ Below w.heap.size w w' := by
  refine h.mono (fun e w' hr => ?_)
  cases out with
  | none =>
    obtain ⟨rfl, hb⟩ := hr
    exact ⟨none, 0, rfl, PsP.nil _ _, hb⟩
  | some o =>
    obtain ⟨ps, q⟩ := o
    rcases hr with ⟨h16, rfl, hb⟩ | ⟨h16, A, c, rfl, hr, hb, _, _⟩
    · simp only [pL, pI, pE, pP, if_pos h16]
      exact ⟨none, 0, rfl, PsP.nil _ _, hb⟩
    · have h16' : ¬ 16 < ps.length := by omega
      simp only [pL, pI, pE, pP, if_neg h16']
      exact ⟨A, c, rfl, hr.psP.bound, hb⟩
theorem docpreds_uni {toks : List Tok} {i place : Nat} {out : Option (List (ByteArray × Ty) × List Tok)} {w : World} {F : FuncId} {vs : Array Value} (h : Calls Tryd.prog F vs w (PXRes toks i place out w)) : Calls Tryd.prog F vs w fun e w' => ∃ A c, e = .returned (.agg #[.int .i64 0, .int .i64 0, .string ⟨#[]⟩, .slice none 0 0, .slice A (pL out).length c, .slice none 0 0, .int .i64 (pI toks i out), .int .i64 (pE out), .int .i64 (pP place out)]) ∧ PsP (fun b => b < w'.heap.size) w' (pL out) (.slice A (pL out).length c) ∧ Below w.heap.size w w' := by
  refine h.mono (fun e w' hr => ?_)
  cases out with
  | none =>
    obtain ⟨rfl, hb⟩ := hr
    exact ⟨none, 0, rfl, PsP.nil _ _, hb⟩
  | some o =>
    obtain ⟨ps, q⟩ := o
    rcases hr with ⟨h16, rfl, hb⟩ | ⟨h16, A, c, rfl, hr, hb, _, _⟩
    · simp only [pL, pI, pE, pP, if_pos h16]
      exact ⟨none, 0, rfl, PsP.nil _ _, hb⟩
    · have h16' : ¬ 16 < ps.length := by omega
      simp only [pL, pI, pE, pP, if_neg h16']
      exact ⟨A, c, rfl, hr.psP.bound, hb⟩
/-! ### Schemes -/
def sI (toks : List Tok) : GotS → Int
  | .ok _ _ r => ((toks.length - r.length : Nat) : Int)
  | .no _ _ => 0
def sE : GotS → Int
  | .ok _ _ _ => 0
  | .no e _ => e
def sP : GotS → Int
  | .ok _ _ _ => 0
  | .no _ p => p
def sV : GotS → List ByteArray
  | .ok ps t _ => (funs (ps.map (·.2)) t).free
  | .no _ _ => []
def sL : GotS → List (ByteArray × Ty)
  | .ok ps _ _ => ps
  | .no _ _ => []
def sT : GotS → Got
  | .ok _ t r => .ok t r
  | .no e p => .no e p
theorem StrsAt.bound {P : Nat → Prop} {w : World} {v : Value} {ss : List ByteArray} (h : StrsAt P w v ss) : StrsAt (fun b => b < w.heap.size) w v ss := by
  obtain ⟨A, c, e, h1, h2, hr⟩ := h
  refine ⟨A, c, e, h1, h2, ?_⟩
  rcases hr with h9 | ⟨b, off, e, hp, hlt, hc⟩
  · exact .inl h9
  · exact .inr ⟨b, off, e, hlt, hlt, hc⟩
theorem strs_nil (P : Nat → Prop) (w : World) : StrsAt P w (.slice none 0 0) [] := ⟨none, 0, rfl, Nat.le_refl _, Nat.zero_le _, .inl rfl⟩
/-- What stands for a scheme. -/
structure ResS (w : World) (out : GotS) (Av : Option Addr) (nv cv : Nat) (Ap : Option Addr) (np cp : Nat) (f n : Int) (s : ByteArray) (A : Option Addr) (l c : Nat) : Prop where
  v : StrsAt (fun b => b < w.heap.size) w (.slice Av nv cv) (sV out)
  p : PsP (fun b => b < w.heap.size) w (sL out) (.slice Ap np cp)
  t : ResTy w (sT out) f n s A l c
theorem ResS.on {w w' : World} {out : GotS} {Av : Option Addr} {nv cv : Nat} {Ap : Option Addr} {np cp : Nat} {f n : Int} {s : ByteArray} {A : Option Addr} {l c : Nat} (h : ResS w out Av nv cv Ap np cp f n s A l c) (hb : Below w.heap.size w w') : ResS w' out Av nv cv Ap np cp f n s A l c :=
  ⟨(h.v.on hb).bound, h.p.onB hb, h.t.on hb⟩
theorem scheme_uni {toks : List Tok} {out : GotS} {w : World} {F : FuncId} {vs : Array Value} (h : Calls Tryd.prog F vs w (SchemeRes toks out w)) : Calls Tryd.prog F vs w fun e w' => ∃ Av nv cv Ap np cp f n s A l c, e = .returned (.tuple #[.agg #[.slice Av nv cv, .slice none 0 0, .slice Ap np cp, .int .i64 f, .int .i64 n, .string s, .slice A l c], .int .i64 (sI toks out), .agg #[.int .i64 (sE out), .int .i64 (sP out)]]) ∧ ResS w' out Av nv cv Ap np cp f n s A l c ∧ Below w.heap.size w w' := by
  refine h.mono (fun e w' hr => ?_)
  cases out with
  | ok ps t r =>
    obtain ⟨Av, nv, cv, Ap, cp, f, n, s, A, l, c, rfl, hv, hp, ht, hb⟩ := hr
    exact ⟨Av, nv, cv, Ap, _, cp, f, n, s, A, l, c, rfl, ⟨(OwnS.strs hv).bound, hp.psP.bound, ht.bound'⟩, hb⟩
  | no e p =>
    obtain ⟨rfl, hb⟩ := hr
    exact ⟨none, 0, 0, none, 0, 0, 0, 0, ⟨#[]⟩, none, 0, 0, rfl, ⟨strs_nil _ _, PsP.nil _ _, ⟨rfl, rfl, rfl, rfl, rfl, rfl⟩⟩, hb⟩
theorem docscheme_uni {toks : List Tok} {out : GotS} {w : World} {F : FuncId} {vs : Array Value} (h : Calls Tryd.prog F vs w (XSRes toks out w)) : Calls Tryd.prog F vs w fun e w' => ∃ Av nv cv Ap np cp f n s A l c, e = .returned (.agg #[.int .i64 f, .int .i64 n, .string s, .slice A l c, .slice Ap np cp, .slice Av nv cv, .int .i64 (sI toks out), .int .i64 (sE out), .int .i64 (sP out)]) ∧ ResS w' out Av nv cv Ap np cp f n s A l c ∧ Below w.heap.size w w' := by
  refine h.mono (fun e w' hr => ?_)
  cases out with
  | ok ps t r =>
    obtain ⟨f, n, s, A, l, c, Ap, cp, Av, nv, cv, rfl, hv, hp, ht, hb⟩ := hr
    exact ⟨Av, nv, cv, Ap, _, cp, f, n, s, A, l, c, rfl, ⟨hv.bound, hp.bound, ht.bound'⟩, hb⟩
  | no e p =>
    obtain ⟨rfl, hb⟩ := hr
    exact ⟨none, 0, 0, none, 0, 0, 0, 0, ⟨#[]⟩, none, 0, 0, rfl, ⟨strs_nil _ _, PsP.nil _ _, ⟨rfl, rfl, rfl, rfl, rfl, rfl⟩⟩, hb⟩
theorem sameS_uni {out : GotS} {w : World} (hn : (sL out).length ≤ 1099511627776) {A1 : Option Addr} {n1 c1 : Nat} {A2 : Option Addr} {n2 c2 : Nat} {A3 : Option Addr} {n3 c3 : Nat} {f1 m1 : Int} {s1 : ByteArray} {A4 : Option Addr} {n4 c4 : Nat} {B1 : Option Addr} {l1 d1 : Nat} {B2 : Option Addr} {l2 d2 : Nat} {B3 : Option Addr} {l3 d3 : Nat} {f2 m2 : Int} {s2 : ByteArray} {B4 : Option Addr} {l4 d4 : Nat}
    (h1 : ResS w out A1 n1 c1 A3 n3 c3 f1 m1 s1 A4 n4 c4) (h2 : ResS w out B1 l1 d1 B3 l3 d3 f2 m2 s2 B4 l4 d4) :
    Calls Tryd.prog 46 #[.agg #[.slice A1 n1 c1, .slice A2 n2 c2, .slice A3 n3 c3, .int .i64 f1, .int .i64 m1, .string s1, .slice A4 n4 c4], .agg #[.slice B1 l1 d1, .slice B2 l2 d2, .slice B3 l3 d3, .int .i64 f2, .int .i64 m2, .string s2, .slice B4 l4 d4]] w (TrueB w) :=
  sameScheme_any _ _ _ _ (sV out) (sL out) w hn A1 n1 c1 A2 n2 c2 A3 n3 c3 f1 m1 s1 A4 n4 c4 B1 l1 d1 B2 l2 d2 B3 l3 d3 f2 m2 s2 B4 l4 d4 h1.v h1.p h2.v h2.p (fun _ hy => equal_uni (h1.t.on hy) (h2.t.on hy))
end Go.Proofs.YtbdfjboojokgdaaDoor
namespace Go.Proofs.YtbdfjboojokgdaaDoor
open Go.RowKit

def clsK (k : Int) : ByteArray := if k = 0 then ⟨#[69]⟩ else if k = 1 then ⟨#[79]⟩ else ⟨#[83]⟩
def ctxB (zs : List Int) : Nat → ByteArray
  | 0 => ⟨#[]⟩
  | i + 1 => (if 0 < i then ctxB zs i ++ ⟨#[44, 32]⟩ else ctxB zs i) ++ clsK (aroundI (zs.getD i 0) 3) ++ ⟨#[32]⟩ ++ nameS (zs.getD i 0)
def ctxS (zs : List Int) (m : Nat) : ByteArray :=
  if m = 0 then ⟨#[]⟩ else if m = 1 ∧ zs.length % 2 = 0 then ctxB zs m ++ ⟨#[32, 61, 62, 32]⟩ else ⟨#[40]⟩ ++ ctxB zs m ++ ⟨#[41, 32, 61, 62, 32]⟩
theorem clsK_size (k : Int) : (clsK k).size = 1 := by
  unfold clsK
  split
  · rfl
  · split <;> rfl
theorem nameK_size (k : Int) : (nameK k).size = 1 := by
  unfold nameK
  split
  · rfl
  · split
    · rfl
    · split <;> rfl
theorem ctxB_size (zs : List Int) : ∀ m, (ctxB zs m).size ≤ 5 * m
  | 0 => Nat.zero_le _
  | i + 1 => by
    have := ctxB_size zs i
    have h1 := clsK_size (aroundI (zs.getD i 0) 3)
    have h2 : (nameS (zs.getD i 0)).size = 1 := nameK_size _
    have h3 : (⟨#[32]⟩ : ByteArray).size = 1 := rfl
    have h4 : (⟨#[44, 32]⟩ : ByteArray).size = 2 := rfl
    simp only [ctxB]
    split <;> simp only [ByteArray.size_append] <;> omega
set_option maxRecDepth 100000 in
set_option maxHeartbeats 4000000 in
theorem context_any (P : Nat → Prop) (zs : List Int) (v : Value) (m : Nat) (w : World) (h : IntsAt P w v zs) (hm : m ≤ 1048576) :
    Calls Tryd.prog 50 #[v, .int .i64 m] w fun e w' => e = .returned (.string (ctxS zs m)) ∧ Below w.heap.size w w' := by
  obtain ⟨A, c, rfl, hc, hcm⟩ := h.shape
  unfold maxLen at hcm
  have H1 := Lib.hid h
  have hzl : zs.length ≤ 9223372036854775807 := by omega
  have HZ : Hid (∀ z ∈ zs, -9223372036854775808 ≤ z ∧ z ≤ 9223372036854775807) := by obtain ⟨_, _, _, _, _, h9, _⟩ := h; exact h9
  clear h
  by_cases hm0 : m = 0
  · subst hm0
    go_enter Tryd.func50, Tryd.ntmps50
    go_wp2_with fail
    go_ret
    exact ⟨rfl, Below.refl _ _⟩
  have hmf : ((m : Int) == 0) = false := by rw [beq_eq_false_iff_ne]; omega
  go_enter Tryd.func50, Tryd.ntmps50
  go_wp2_with fail
  go_loopw [5, 6] (fun o i wr => ∃ k : Nat, k ≤ m ∧ i = .int .i64 k ∧ o = .string (ctxB zs k) ∧ Below w.heap.size w wr) (fun _ i _ => m - (intOf i).toNat)
  case atStart => exact ⟨0, Nat.zero_le _, rfl, rfl, Below.refl _ _⟩
  case round =>
    obtain ⟨k, hk, rfl, rfl, hb⟩ := hrel
    have HB := Lib.hid hb
    by_cases hlt : k < m
    · have hki : (k : Int) < (m : Int) := by omega
      have hk0 : (0 : Int) ≤ (k : Int) := by omega
      have hz : -9223372036854775808 ≤ zs.getD k 0 ∧ zs.getD k 0 ≤ 9223372036854775807 := by
        by_cases hkz : k < zs.length
        · have h9 : zs.getD k 0 = zs[k] := by simp [List.getD, List.getElem?_eq_getElem hkz]
          rw [h9]; exact HZ.out _ (List.getElem_mem hkz)
        · have h9 : zs.getD k 0 = 0 := by simp [List.getD, List.getElem?_eq_none (Nat.le_of_not_lt hkz)]
          rw [h9]; omega
      have HOUT : Hid (ctxB zs (k + 1) = (if 0 < k then ctxB zs k ++ ⟨#[44, 32]⟩ else ctxB zs k) ++ clsK (aroundI (zs.getD k 0) 3) ++ ⟨#[32]⟩ ++ nameS (zs.getD k 0)) := rfl
      have HA := Lib.hid (fun W => around_is (zs.getD k 0) 3 W hz.1 hz.2 (by omega) (by omega))
      have HN := Lib.hid (fun W => name_any (zs.getD k 0) W hz.1 hz.2)
      have hbd := aroundI_bd (zs.getD k 0) 3 (by omega)
      have hs1 := ctxB_size zs k
      have hn1 : (nameS (zs.getD k 0)).size = 1 := nameK_size _
      have HC : Hid ((k < zs.length ∧ ∃ b off, A = some ⟨b, off, none⟩ ∧ wr.cell? ⟨b, off + k, none⟩ = some (.int .i64 (zs.getD k 0)) ∧ b < wr.heap.size) ∨ (¬ k < zs.length ∧ zs.getD k 0 = 0)) := by
        by_cases hkz : k < zs.length
        · obtain ⟨b1, o1, e1, l1, k1⟩ := (H1.out.on hb).at k hkz
          exact .inl ⟨hkz, b1, o1, e1, by simpa [List.getD, List.getElem?_eq_getElem hkz] using k1, l1⟩
        · exact .inr ⟨hkz, by simp [List.getD, List.getElem?_eq_none (Nat.le_of_not_lt hkz)]⟩
      generalize zs.getD k 0 = z at *
      generalize hout : ctxB zs k = B at *
      generalize nameS z = N at *
      generalize aroundI z 3 = a at *
      clear hb hz hout
      have HK : Hid (∀ (w' : World), Below wr.heap.size wr w' → Below w.heap.size w w') := fun w' h9 => HB.out.trans (h9.mono HB.out.size)
      obtain ⟨O, hO⟩ : ∃ O : ByteArray, O = (if 0 < k then B ++ ⟨#[44, 32]⟩ else B) := ⟨_, rfl⟩
      have hOs : O.size ≤ B.size + 2 := by
        have h2 : (⟨#[44, 32]⟩ : ByteArray).size = 2 := rfl
        rw [hO]; split
        · rw [ByteArray.size_append]; omega
        · omega
      have ha : (a = 0 ∧ clsK a = ⟨#[69]⟩) ∨ (a = 1 ∧ clsK a = ⟨#[79]⟩) ∨ (a = 2 ∧ clsK a = ⟨#[83]⟩) := by
        have h9 : a = 0 ∨ a = 1 ∨ a = 2 := by omega
        rcases h9 with rfl | rfl | rfl
        · exact .inl ⟨rfl, rfl⟩
        · exact .inr (.inl ⟨rfl, rfl⟩)
        · exact .inr (.inr ⟨rfl, rfl⟩)
      have HFIN : Hid (ctxB zs (k + 1) = O ++ clsK a ++ ⟨#[32]⟩ ++ N) := by show _ = _; rw [HOUT.out, hO]
      have hd1 : ∀ q : World, (Op.stringOp .add B ⟨#[44, 32]⟩).run Tryd.prog q = .ok (.string (B ++ ⟨#[44, 32]⟩)) q := fun q => run_string_add_sum q _ _ (by show _ + 2 ≤ _; omega)
      have hcs := clsK_size a
      generalize clsK a = C at *
      have hd2 : ∀ q : World, (Op.stringOp .add O C).run Tryd.prog q = .ok (.string (O ++ C)) q := fun q => run_string_add_sum q _ _ (by omega)
      have hd3 : ∀ q : World, (Op.stringOp .add (O ++ C) ⟨#[32]⟩).run Tryd.prog q = .ok (.string (O ++ C ++ ⟨#[32]⟩)) q := fun q => run_string_add_sum q _ _ (by rw [ByteArray.size_append]; show _ + 1 ≤ _; omega)
      have hd4 : ∀ q : World, (Op.stringOp .add (O ++ C ++ ⟨#[32]⟩) N).run Tryd.prog q = .ok (.string (O ++ C ++ ⟨#[32]⟩ ++ N)) q := fun q => run_string_add_sum q _ _ (by rw [ByteArray.size_append, ByteArray.size_append]; show _ + _ + 1 + _ ≤ _; omega)
      have HN0 : Hid (Calls Tryd.prog 23 #[.int .i64 z] wr.drew fun e u => e = .returned (.string N) ∧ Below wr.heap.size wr u) := (HN.out wr.drew).mono (fun e u h => ⟨h.1, (Below.refl _ wr).drew.trans h.2⟩)
      have HN1 : Hid (Calls Tryd.prog 23 #[.int .i64 z] (wr.alloc (.cells #[.string ⟨#[69]⟩, .string ⟨#[79]⟩, .string ⟨#[83]⟩] 9)).drew fun e u => e = .returned (.string N) ∧ Below wr.heap.size wr u ∧ u.cell? ⟨wr.heap.size, 0, none⟩ = some (.string ⟨#[69]⟩) ∧ u.cell? ⟨wr.heap.size, 1, none⟩ = some (.string ⟨#[79]⟩) ∧ u.cell? ⟨wr.heap.size, 2, none⟩ = some (.string ⟨#[83]⟩)) := by
        have h5 := (MapKept.heap_alloc wr (.cells #[.string ⟨#[69]⟩, .string ⟨#[79]⟩, .string ⟨#[83]⟩] 9)).1
        have h6 := below_new wr (.cells #[.string ⟨#[69]⟩, .string ⟨#[79]⟩, .string ⟨#[83]⟩] 9)
        refine (HN.out _).mono (fun e u h => ⟨h.1, ?_⟩)
        have h7 : u.heap[wr.heap.size]? = some (.cells #[.string ⟨#[69]⟩, .string ⟨#[79]⟩, .string ⟨#[83]⟩] 9) := (h.2.block wr.heap.size (by simp)).trans h5
        exact ⟨h6.trans (h6.drew.trans (h.2.mono (by simp)) |> fun h8 => (Below.refl _ _).drew.trans (h.2.mono (by simp))), by simp [World.cell?, h7], by simp [World.cell?, h7], by simp [World.cell?, h7]⟩
      clear HOUT hs1 hn1 hOs hbd hcs
      by_cases hk9 : 0 < k
      · have hk9i : (0 : Int) < (k : Int) := by omega
        rw [if_pos hk9] at hO
        subst hO
        rcases HC.out with ⟨hkz, b, off, rfl, hcell, hbl⟩ | ⟨hkz, rfl⟩
        · have hkzi : (k : Int) < (zs.length : Int) := by omega
          clear HC
          rcases ha with ⟨rfl, rfl⟩ | ⟨rfl, rfl⟩ | ⟨rfl, rfl⟩
          all_goals
            go_upto_region 12 with (fail)
            go_region_law (first | (go_simp; go_at_call 36; (with_reducible refine (HA.out _).mono ?_); rintro e3 v ⟨rfl, rfl⟩) | (go_simp; go_at_call 23; (with_reducible refine HN0.out.mono ?_); rintro e4 u ⟨rfl, hu⟩) | (go_simp; go_at_call 23; (with_reducible refine HN1.out.mono ?_); rintro e4 u ⟨rfl, hu, hu0, hu1, hu2⟩))
            all_goals
              go_wp2
              go_roundw
              case rel => first | exact ⟨k + 1, by omega, by go_num, by rw [HFIN.out], by first | exact HK.out _ hu | exact HK.out _ (hu.trans ((below_new _ _).mono hu.size))⟩ | exact ⟨0 + 1, by omega, by go_num, by rw [HFIN.out], by first | exact HK.out _ hu | exact HK.out _ (hu.trans ((below_new _ _).mono hu.size))⟩
              case measure => simp [intOf]; omega
        · have hkzi : ¬ (k : Int) < (zs.length : Int) := by omega
          have hkzd : decide (k < zs.length) = false := by simpa using hkz
          clear HC
          rcases ha with ⟨rfl, rfl⟩ | ⟨rfl, rfl⟩ | ⟨rfl, rfl⟩
          all_goals
            go_upto_region 12 with (fail)
            go_region_law (first | (go_simp; go_at_call 36; (with_reducible refine (HA.out _).mono ?_); rintro e3 v ⟨rfl, rfl⟩) | (go_simp; go_at_call 23; (with_reducible refine HN0.out.mono ?_); rintro e4 u ⟨rfl, hu⟩) | (go_simp; go_at_call 23; (with_reducible refine HN1.out.mono ?_); rintro e4 u ⟨rfl, hu, hu0, hu1, hu2⟩))
            all_goals
              go_wp2
              go_roundw
              case rel => first | exact ⟨k + 1, by omega, by go_num, by rw [HFIN.out], by first | exact HK.out _ hu | exact HK.out _ (hu.trans ((below_new _ _).mono hu.size))⟩ | exact ⟨0 + 1, by omega, by go_num, by rw [HFIN.out], by first | exact HK.out _ hu | exact HK.out _ (hu.trans ((below_new _ _).mono hu.size))⟩
              case measure => simp [intOf]; omega
      · have hk9i : ¬ (0 : Int) < (k : Int) := by omega
        obtain rfl : k = 0 := by omega
        rw [if_neg (by omega)] at hO
        subst hO
        rcases HC.out with ⟨hkz, b, off, rfl, hcell, hbl⟩ | ⟨hkz, rfl⟩
        · have hkzi : (0 : Int) < (zs.length : Int) := by omega
          rw [Nat.add_zero] at hcell
          clear HC
          rcases ha with ⟨rfl, rfl⟩ | ⟨rfl, rfl⟩ | ⟨rfl, rfl⟩
          all_goals
            go_upto_region 12 with (fail)
            go_region_law (first | (go_simp; go_at_call 36; (with_reducible refine (HA.out _).mono ?_); rintro e3 v ⟨rfl, rfl⟩) | (go_simp; go_at_call 23; (with_reducible refine HN0.out.mono ?_); rintro e4 u ⟨rfl, hu⟩) | (go_simp; go_at_call 23; (with_reducible refine HN1.out.mono ?_); rintro e4 u ⟨rfl, hu, hu0, hu1, hu2⟩))
            all_goals
              go_wp2
              go_roundw
              case rel => first | exact ⟨k + 1, by omega, by go_num, by rw [HFIN.out], by first | exact HK.out _ hu | exact HK.out _ (hu.trans ((below_new _ _).mono hu.size))⟩ | exact ⟨0 + 1, by omega, by go_num, by rw [HFIN.out], by first | exact HK.out _ hu | exact HK.out _ (hu.trans ((below_new _ _).mono hu.size))⟩
              case measure => simp [intOf]; omega
        · have hkzi : ¬ (0 : Int) < (zs.length : Int) := by omega
          have hkzd : decide (0 < zs.length) = false := by simpa using hkz
          clear HC
          rcases ha with ⟨rfl, rfl⟩ | ⟨rfl, rfl⟩ | ⟨rfl, rfl⟩
          all_goals
            go_upto_region 12 with (fail)
            go_region_law (first | (go_simp; go_at_call 36; (with_reducible refine (HA.out _).mono ?_); rintro e3 v ⟨rfl, rfl⟩) | (go_simp; go_at_call 23; (with_reducible refine HN0.out.mono ?_); rintro e4 u ⟨rfl, hu⟩) | (go_simp; go_at_call 23; (with_reducible refine HN1.out.mono ?_); rintro e4 u ⟨rfl, hu, hu0, hu1, hu2⟩))
            all_goals
              go_wp2
              go_roundw
              case rel => first | exact ⟨k + 1, by omega, by go_num, by rw [HFIN.out], by first | exact HK.out _ hu | exact HK.out _ (hu.trans ((below_new _ _).mono hu.size))⟩ | exact ⟨0 + 1, by omega, by go_num, by rw [HFIN.out], by first | exact HK.out _ hu | exact HK.out _ (hu.trans ((below_new _ _).mono hu.size))⟩
              case measure => simp [intOf]; omega
    · have hd : decide (k < m) = false := by simpa using hlt
      obtain rfl : k = m := by omega
      clear hb
      have hs1 := ctxB_size zs k
      have he1 : ∀ q : World, (Op.stringOp .add (ctxB zs k) ⟨#[32, 61, 62, 32]⟩).run Tryd.prog q = .ok (.string (ctxB zs k ++ ⟨#[32, 61, 62, 32]⟩)) q := fun q => run_string_add_sum q _ _ (by show _ + 4 ≤ _; omega)
      have he2 : ∀ q : World, (Op.stringOp .add ⟨#[40]⟩ (ctxB zs k)).run Tryd.prog q = .ok (.string (⟨#[40]⟩ ++ ctxB zs k)) q := fun q => run_string_add_sum q _ _ (by show 1 + _ ≤ _; omega)
      have he3 : ∀ q : World, (Op.stringOp .add (⟨#[40]⟩ ++ ctxB zs k) ⟨#[41, 32, 61, 62, 32]⟩).run Tryd.prog q = .ok (.string (⟨#[40]⟩ ++ ctxB zs k ++ ⟨#[41, 32, 61, 62, 32]⟩)) q := fun q => run_string_add_sum q _ _ (by rw [ByteArray.size_append]; show 1 + _ + 5 ≤ _; omega)
      have hm2 : (zs.length : Int).tmod 2 = ((zs.length % 2 : Nat) : Int) := by rw [Int.tmod_eq_emod_of_nonneg (by omega)]; omega
      have hm3 : (zs.length : Int) % 2 = ((zs.length % 2 : Nat) : Int) := by omega
      have hl0 : (0 : Int) ≤ (zs.length : Int) := by omega
      have hl1 : (zs.length : Int) ≤ 9223372036854775807 := by omega
      have HR : Hid (ctxS zs k = if k = 0 then ⟨#[]⟩ else if k = 1 ∧ zs.length % 2 = 0 then ctxB zs k ++ ⟨#[32, 61, 62, 32]⟩ else ⟨#[40]⟩ ++ ctxB zs k ++ ⟨#[41, 32, 61, 62, 32]⟩) := rfl
      generalize ctxB zs k = B at *
      by_cases h1 : k = 1
      · have h1i : ((k : Int) == 1) = true := by rw [h1]; rfl
        by_cases h2 : zs.length % 2 = 0
        · have h2i : (((zs.length % 2 : Nat) : Int) == 0) = true := by rw [h2]; rfl
          have HE : Hid (B ++ ⟨#[32, 61, 62, 32]⟩ = ctxS zs k) := by show _ = _; rw [HR.out, if_neg (by omega), if_pos ⟨h1, h2⟩]
          have h2j : ((zs.length : Int).tmod 2 == 0) = true := by rw [hm2]; exact h2i
          have h2k : ((zs.length : Int) % 2 == 0) = true := by rw [hm3]; exact h2i
          clear h2 HR h1 hm2 hm3
          go_wp2
          go_ret
          exact ⟨by rw [← HE.out]; rfl, HB.out⟩
        · have h2i : (((zs.length % 2 : Nat) : Int) == 0) = false := by rw [beq_eq_false_iff_ne]; omega
          have HE : Hid (⟨#[40]⟩ ++ B ++ ⟨#[41, 32, 61, 62, 32]⟩ = ctxS zs k) := by show _ = _; rw [HR.out, if_neg (by omega), if_neg (by rintro ⟨_, h⟩; exact h2 h)]
          have h2j : ((zs.length : Int).tmod 2 == 0) = false := by rw [hm2]; exact h2i
          have h2k : ((zs.length : Int) % 2 == 0) = false := by rw [hm3]; exact h2i
          clear h2 HR h1 hm2 hm3
          go_wp2
          go_ret
          exact ⟨by rw [← HE.out]; rfl, HB.out⟩
      · have h1i : ((k : Int) == 1) = false := by rw [beq_eq_false_iff_ne]; omega
        have HE : Hid (⟨#[40]⟩ ++ B ++ ⟨#[41, 32, 61, 62, 32]⟩ = ctxS zs k) := by show _ = _; rw [HR.out, if_neg hm0, if_neg (by rintro ⟨h, _⟩; exact h1 h)]
        clear HR h1
        go_wp2
        go_ret
        exact ⟨by rw [← HE.out]; rfl, HB.out⟩
end Go.Proofs.YtbdfjboojokgdaaDoor
