/- Plain mathematics of chapter 5: what stands among tokens: types, predicates, schemes. No program, no world. Tokens in memory and a reader of them (tread of chapter 5): the token that is next, symbols, refusals. No conditions but those that each theorem names. The contracts of tread's atom and inBrackets (chapter 5). Conditions: at most 2^40 tokens, the last one an end; symbols bear no number. -/
import Derived.Test.YtbdfjboojokgdaaGreatDoorM15
import Derived.Test.YtbdfjboojokgdaaGreatDoorM13
import Derived.Test.YtbdfjboojokgdaaGreatDoorM18
import Derived.Test.YtbdfjboojokgdaaGreatDoorM17
namespace Go.Proofs.YtbdfjboojokgdaaGreatDoor
open Lx

/-- What is read: a type, and the tokens behind it; or a refusal. -/
inductive Got
  | ok (t : Ty) (r : List Tok)
  | no (e p : Nat)
def isSym (t : Tok) (x : List UInt8) : Bool := t.kind == 4 && t.text == x
def mkB (l : List UInt8) : ByteArray := ⟨l.toArray⟩
def begT (t : Tok) : Bool := t.kind == 1 || t.kind == 2 || isSym t [40]
mutual
def atomN : Nat → List Tok → Nat → Option Got
  | 0, _, _ => none
  | _ + 1, [], _ => none
  | n + 1, t :: r, o =>
    if t.kind = 2 then some (.ok (.con (mkB t.text)) r)
    else if t.kind = 1 then some (.ok (.var (mkB t.text)) r)
    else if isSym t [40] = false then some (.no 12 t.place)
    else if 40 ≤ o then some (.no 13 t.place)
    else match typeN n r (o + 1) with
      | some (.ok x (c :: q)) => if isSym c [41] = true then some (.ok x q) else some (.no 12 c.place)
      | some (.ok _ []) => none
      | some (.no e p) => some (.no e p)
      | none => none
def appsN : Nat → Ty → List Tok → Nat → Option Got
  | 0, _, _, _ => none
  | _ + 1, _, [], _ => none
  | n + 1, x, t :: r, o =>
    if begT t = true then match atomN n (t :: r) o with
      | some (.ok a q) => appsN n (.app x a) q o
      | some (.no e p) => some (.no e p)
      | none => none
    else some (.ok x (t :: r))
def typeN : Nat → List Tok → Nat → Option Got
  | 0, _, _ => none
  | n + 1, l, o => match atomN n l o with
    | some (.ok x q) => match appsN n x q o with
      | some (.ok y (c :: s)) => if isSym c [45, 62] = true then match typeN n s o with
          | some (.ok z u) => some (.ok (.fn y z) u)
          | some (.no e p) => some (.no e p)
          | none => none
        else some (.ok y (c :: s))
      | some (.ok _ []) => none
      | some (.no e p) => some (.no e p)
      | none => none
    | some (.no e p) => some (.no e p)
    | none => none
end
/-- The last token is an end, and no other one is. -/
def EndsT (l : List Tok) : Prop := ∃ r t, l = r ++ [t] ∧ t.kind = 6
theorem EndsT.ne {l : List Tok} (h : EndsT l) : l ≠ [] := by obtain ⟨r, t, e, _⟩ := h; rw [e]; simp
theorem EndsT.tail {t : Tok} {r : List Tok} (h : EndsT (t :: r)) (ht : t.kind ≠ 6) : EndsT r := by
  obtain ⟨q, u, e, hu⟩ := h
  cases q with
  | nil => simp at e; exact absurd (e.1 ▸ hu) ht
  | cons a q => simp at e; exact ⟨q, u, e.2, hu⟩
theorem sym_kind {t : Tok} {x : List UInt8} (h : isSym t x = true) : t.kind ≠ 6 := by
  unfold isSym at h; intro e; rw [e] at h; simp at h
/-- What is known of what is read. -/
def Fits (l : List Tok) (k : Nat) (g : Option Got) : Prop := ∃ r, g = some r ∧ ∀ t q, r = .ok t q → EndsT q ∧ q <:+ l ∧ q.length + k ≤ l.length ∧ t.sz + 1 ≤ 4 * (l.length - q.length)
theorem fn_sz (a b : Ty) : (Ty.fn a b).sz = a.sz + b.sz + 3 := by simp [Ty.fn, Ty.sz]; omega
theorem fits_all : ∀ n : Nat, (∀ l o, EndsT l → 3 * l.length ≤ n → Fits l 1 (atomN n l o)) ∧
    (∀ x l o, EndsT l → 3 * l.length + 1 ≤ n → ∃ r, appsN n x l o = some r ∧ ∀ t q, r = .ok t q → EndsT q ∧ q <:+ l ∧ t.sz ≤ x.sz + 4 * (l.length - q.length)) ∧
    (∀ l o, EndsT l → 3 * l.length + 2 ≤ n → Fits l 1 (typeN n l o))
  | 0 => by
    refine ⟨fun l o h hn => ?_, fun x l o h hn => absurd hn (by omega), fun l o h hn => absurd hn (by omega)⟩
    have := List.length_pos_iff.2 h.ne; omega
  | n + 1 => by
    obtain ⟨iha, ihp, iht⟩ := fits_all n
    refine ⟨fun l o h hn => ?_, fun x l o h hn => ?_, fun l o h hn => ?_⟩
    · match l, h, hn with
      | [], h, _ => exact absurd rfl h.ne
      | t :: r, h, hn =>
        simp only [List.length_cons] at hn
        simp only [atomN]
        by_cases h2 : t.kind = 2
        · rw [if_pos h2]
          exact ⟨_, rfl, fun _ _ e => by injection e with e1 e2; subst e1 e2; exact ⟨h.tail (by omega), List.suffix_cons _ _, by simp, by simp [Ty.sz]⟩⟩
        · rw [if_neg h2]
          by_cases h1 : t.kind = 1
          · rw [if_pos h1]
            exact ⟨_, rfl, fun _ _ e => by injection e with e1 e2; subst e1 e2; exact ⟨h.tail (by omega), List.suffix_cons _ _, by simp, by simp [Ty.sz]⟩⟩
          · rw [if_neg h1]
            cases hs : isSym t [40] with
            | false => exact ⟨_, if_pos rfl, fun _ _ e => by cases e⟩
            | true =>
              rw [if_neg (by simp)]
              by_cases ho : 40 ≤ o
              · rw [if_pos ho]; exact ⟨_, rfl, fun _ _ e => by cases e⟩
              · rw [if_neg ho]
                have hr := h.tail (sym_kind hs)
                obtain ⟨g, hg, hq⟩ := iht r (o + 1) hr (by omega)
                rw [hg]
                cases g with
                | no e p => exact ⟨_, rfl, fun _ _ e => by cases e⟩
                | ok x q =>
                  obtain ⟨q1, q2, q3, q4⟩ := hq x q rfl
                  match q, q1, q2, q3, q4 with
                  | [], q1, _, _, _ => exact absurd rfl q1.ne
                  | c :: q, q1, q2, q3, q4 =>
                    simp only [List.length_cons] at q3 q4
                    cases hc : isSym c [41] with
                    | false => exact ⟨.no 12 c.place, if_neg (by rw [hc]; simp), fun _ _ e => by cases e⟩
                    | true =>
                      exact ⟨.ok x q, if_pos hc, fun _ _ e => by
                        injection e with e1 e2; subst e1 e2
                        exact ⟨q1.tail (sym_kind hc), ((List.suffix_cons _ _).trans q2).trans (List.suffix_cons _ _), by simp; omega, by simp; omega⟩⟩
    · match l, h, hn with
      | [], h, _ => exact absurd rfl h.ne
      | t :: r, h, hn =>
        simp only [appsN]
        cases hb : begT t with
        | false => simp only [Bool.false_eq_true, if_false]; exact ⟨_, rfl, fun _ _ e => by injection e with e1 e2; subst e1 e2; exact ⟨h, List.suffix_refl _, by omega⟩⟩
        | true =>
          simp only [if_true]
          obtain ⟨g, hg, hq⟩ := iha (t :: r) o h (by omega)
          rw [hg]
          cases g with
          | no e p => exact ⟨_, rfl, fun _ _ e => by cases e⟩
          | ok a q =>
            obtain ⟨q1, q2, q3, q4⟩ := hq a q rfl
            obtain ⟨g2, hg2, hq2⟩ := ihp (.app x a) q o q1 (by omega)
            simp only
            rw [hg2]
            refine ⟨_, rfl, fun t' q' e => ?_⟩
            obtain ⟨s1, s2, s3⟩ := hq2 t' q' e
            have := s2.length_le
            exact ⟨s1, s2.trans q2, by simp only [Ty.sz] at s3; omega⟩
    · simp only [typeN]
      obtain ⟨g, hg, hq⟩ := iha l o h (by omega)
      rw [hg]
      cases g with
      | no e p => exact ⟨_, rfl, fun _ _ e => by cases e⟩
      | ok x q =>
        obtain ⟨q1, q2, q3, q4⟩ := hq x q rfl
        obtain ⟨g2, hg2, hq2⟩ := ihp x q o q1 (by omega)
        simp only
        rw [hg2]
        cases g2 with
        | no e p => exact ⟨_, rfl, fun _ _ e => by cases e⟩
        | ok y s =>
          obtain ⟨s1, s2, s3⟩ := hq2 y s rfl
          have hsl := s2.length_le
          match s, s1, s2, s3, hsl with
          | [], s1, _, _, _ => exact absurd rfl s1.ne
          | c :: s, s1, s2, s3, hsl =>
            simp only [List.length_cons] at s3 hsl
            simp only
            cases hc : isSym c [45, 62] with
            | false => simp only [Bool.false_eq_true, if_false]; exact ⟨_, rfl, fun _ _ e => by injection e with e1 e2; subst e1 e2; exact ⟨s1, s2.trans q2, by simp; omega, by simp; omega⟩⟩
            | true =>
              simp only [if_true]
              obtain ⟨g3, hg3, hq3⟩ := iht s o (s1.tail (sym_kind hc)) (by omega)
              rw [hg3]
              cases g3 with
              | no e p => exact ⟨_, rfl, fun _ _ e => by cases e⟩
              | ok z u =>
                obtain ⟨u1, u2, u3, u4⟩ := hq3 z u rfl
                simp only
                refine ⟨_, rfl, fun _ _ e => ?_⟩
                injection e with e1 e2; subst e1 e2
                refine ⟨u1, ((u2.trans (List.suffix_cons _ _)).trans s2).trans q2, by omega, ?_⟩
                rw [fn_sz]; omega
def atomL (l : List Tok) (o : Nat) : Got := (atomN (3 * l.length) l o).getD (.no 0 0)
def typeL (l : List Tok) (o : Nat) : Got := (typeN (3 * l.length + 2) l o).getD (.no 0 0)
theorem atomL_is {l : List Tok} (h : EndsT l) (o : Nat) : atomN (3 * l.length) l o = some (atomL l o) := by
  obtain ⟨r, hr, _⟩ := (fits_all _).1 l o h (Nat.le_refl _)
  unfold atomL; rw [hr]; rfl
theorem typeL_is {l : List Tok} (h : EndsT l) (o : Nat) : typeN (3 * l.length + 2) l o = some (typeL l o) := by
  obtain ⟨r, hr, _⟩ := (fits_all _).2.2 l o h (Nat.le_refl _)
  unfold typeL; rw [hr]; rfl
theorem atomL_ok {l q : List Tok} {o : Nat} {t : Ty} (h : EndsT l) (e : atomL l o = .ok t q) : EndsT q ∧ q <:+ l ∧ q.length + 1 ≤ l.length ∧ t.sz + 1 ≤ 4 * (l.length - q.length) := by
  obtain ⟨r, hr, hf⟩ := (fits_all _).1 l o h (Nat.le_refl _)
  have := atomL_is h o; rw [hr] at this; injection this with this
  exact hf t q (this.trans e)
theorem typeL_ok {l q : List Tok} {o : Nat} {t : Ty} (h : EndsT l) (e : typeL l o = .ok t q) : EndsT q ∧ q <:+ l ∧ q.length + 1 ≤ l.length ∧ t.sz + 1 ≤ 4 * (l.length - q.length) := by
  obtain ⟨r, hr, hf⟩ := (fits_all _).2.2 l o h (Nat.le_refl _)
  have := typeL_is h o; rw [hr] at this; injection this with this
  exact hf t q (this.trans e)
/-- Predicates, one behind the other; none, if they do not stand there. -/
def predL : Nat → List Tok → Nat → List (ByteArray × Ty) → Option (List (ByteArray × Ty) × List Tok)
  | 0, _, _, _ => none
  | _ + 1, [], _, _ => none
  | n + 1, t :: r, o, acc =>
    if t.kind = 2 then match atomL r o with
      | .ok x (c :: q) => if o = 0 ∨ isSym c [44] = false then some (acc ++ [(mkB t.text, x)], c :: q) else predL n q o (acc ++ [(mkB t.text, x)])
      | _ => none
    else none
/-- What is told of predicates: they do not stand there; they are too many; they are these, and what is behind. -/
inductive GotP
  | none
  | long (p : Nat)
  | ok (ps : List (ByteArray × Ty)) (r : List Tok)
def predsL (l : List Tok) : GotP :=
  match l with
  | [] => .none
  | t :: r =>
    if isSym t [40] = true then match predL r.length r 1 [] with
      | some (ps, c :: d :: q) => if isSym c [41] = true ∧ isSym d [61, 62] = true then (if 16 < ps.length then .long t.place else .ok ps q) else .none
      | _ => .none
    else match predL (r.length + 1) (t :: r) 0 [] with
      | some (ps, d :: q) => if isSym d [61, 62] = true then (if 16 < ps.length then .long t.place else .ok ps q) else .none
      | _ => .none
end Go.Proofs.YtbdfjboojokgdaaGreatDoor
namespace Go.Proofs.YtbdfjboojokgdaaGreatDoor
open Go.RowKit Lx

def tokV (t : Tok) : Value := .agg #[.int .i64 t.kind, .string (mkB t.text), .int .i64 t.num, .int .i64 t.place]
/-- Tokens lie in this block. -/
def TokC (w : World) (g : Nat) (l : List Tok) : Prop := ∀ j (h : j < l.length), w.cell? ⟨g, j * 4, none⟩ = some (.int .i64 l[j].kind) ∧ w.cell? ⟨g, j * 4 + 1, none⟩ = some (.string (mkB l[j].text)) ∧ w.cell? ⟨g, j * 4 + 2, none⟩ = some (.int .i64 l[j].num) ∧ w.cell? ⟨g, j * 4 + 3, none⟩ = some (.int .i64 l[j].place)
structure Rd (toks : List Tok) (rb g cap : Nat) (i o : Nat) (w : World) : Prop where
  blk : w.heap[rb]? = some (.cells #[.slice (some ⟨g, 0, none⟩) toks.length cap, .int .i64 i, .int .i64 o] 85)
  ne : g ≠ rb
  lt : g < w.heap.size
  toks : TokC w g toks
theorem Rd.rb_lt {toks : List Tok} {rb g cap i o : Nat} {w : World} (h : Rd toks rb g cap i o w) : rb < w.heap.size := lt_of_block h.blk
theorem TokC.block {w w' : World} {g : Nat} {l : List Tok} (h : TokC w g l) (hb : w'.heap[g]? = w.heap[g]?) : TokC w' g l := fun j hj => by
  have hc : ∀ o, w'.cell? ⟨g, o, none⟩ = w.cell? ⟨g, o, none⟩ := fun o => World.cell?_of_block (a := ⟨g, o, none⟩) hb
  rw [hc, hc, hc, hc]; exact h j hj
theorem Rd.on {toks : List Tok} {rb g cap i o : Nat} {w w' : World} (h : Rd toks rb g cap i o w) (hb : Below w.heap.size w w') : Rd toks rb g cap i o w' :=
  ⟨(hb.block rb h.rb_lt).trans h.blk, h.ne, Nat.lt_of_lt_of_le h.lt hb.size, h.toks.block (hb.block g h.lt)⟩
theorem three_cells {w : World} {b : Nat} {v1 v2 v3 : Value} {t : TypeId} (h : w.heap[b]? = some (.cells #[v1, v2, v3] t)) : w.cell? ⟨b, 0, none⟩ = some v1 ∧ w.cell? ⟨b, 1, none⟩ = some v2 ∧ w.cell? ⟨b, 2, none⟩ = some v3 ∧ w.frozen? ⟨b, 0, none⟩ = false ∧ w.frozen? ⟨b, 1, none⟩ = false ∧ w.frozen? ⟨b, 2, none⟩ = false ∧ b < w.heap.size :=
  ⟨by simp [World.cell?, h], by simp [World.cell?, h], by simp [World.cell?, h], by simp [World.frozen?, h], by simp [World.frozen?, h], by simp [World.frozen?, h], lt_of_block h⟩
theorem three_put1 {w : World} {b : Nat} {v1 v2 v3 u : Value} {t : TypeId} (h : w.heap[b]? = some (.cells #[v1, v2, v3] t)) : (w.setCell ⟨b, 1, none⟩ u).heap[b]? = some (.cells #[v1, u, v3] t) := by
  have hlt := lt_of_block h
  have h' : w.heap[b] = .cells #[v1, v2, v3] t := by simpa [Array.getElem?_eq_getElem hlt] using h
  show (w.heap.modify b _)[b]? = _
  rw [Array.getElem?_eq_getElem (by simpa using hlt), Array.getElem_modify_self, h']
  rfl
theorem three_put2 {w : World} {b : Nat} {v1 v2 v3 u : Value} {t : TypeId} (h : w.heap[b]? = some (.cells #[v1, v2, v3] t)) : (w.setCell ⟨b, 2, none⟩ u).heap[b]? = some (.cells #[v1, v2, u] t) := by
  have hlt := lt_of_block h
  have h' : w.heap[b] = .cells #[v1, v2, v3] t := by simpa [Array.getElem?_eq_getElem hlt] using h
  show (w.heap.modify b _)[b]? = _
  rw [Array.getElem?_eq_getElem (by simpa using hlt), Array.getElem_modify_self, h']
  rfl
theorem Rd.place {toks : List Tok} {rb g cap i o : Nat} {w : World} (h : Rd toks rb g cap i o w) (i' : Nat) : Rd toks rb g cap i' o (w.setCell ⟨rb, 1, none⟩ (.int .i64 i')) :=
  ⟨three_put1 h.blk, h.ne, by simpa using h.lt, h.toks.block (Below.heap_setCell _ _ _ _ h.ne)⟩
theorem Rd.opened {toks : List Tok} {rb g cap i o : Nat} {w : World} (h : Rd toks rb g cap i o w) (o' : Nat) : Rd toks rb g cap i o' (w.setCell ⟨rb, 2, none⟩ (.int .i64 o')) :=
  ⟨three_put2 h.blk, h.ne, by simpa using h.lt, h.toks.block (Below.heap_setCell _ _ _ _ h.ne)⟩
/-- A store into the reader's block. -/
theorem rd_fr (w : World) (rb k : Nat) (u : Value) : Fr (fun b => b = rb) w (w.setCell ⟨rb, k, none⟩ u) := ⟨rfl, rfl, rfl, by simp, fun b _ hb => Below.heap_setCell _ _ _ _ hb⟩
set_option maxRecDepth 100000 in
set_option maxHeartbeats 1000000 in
theorem token_any (toks : List Tok) (rb g cap i o : Nat) (w : World) (h : Rd toks rb g cap i o w) (hi : i < toks.length) :
    Calls Tryz.prog 77 #[.pointer (some ⟨rb, 0, none⟩)] w fun e w' => e = .returned (tokV toks[i]) ∧ Below w.heap.size w w' := by
  have HT : Hid (tokV toks[i] = .agg #[.int .i64 toks[i].kind, .string (mkB toks[i].text), .int .i64 toks[i].num, .int .i64 toks[i].place]) := rfl
  obtain ⟨W, eW, q1, b1, z1⟩ := one_box w (.int .i64 0) (.string ⟨#[]⟩) (.int .i64 0) (.int .i64 0) 82
  have hW := h.on b1
  obtain ⟨p0, p1, p2, p3, p4, p5, p6⟩ := three_cells hW.blk
  obtain ⟨c0, c1, c2, c3⟩ := hW.toks i hi
  have hg := hW.lt
  have hii : (i : Int) < (toks.length : Int) := by omega
  have hi0 : (0 : Int) ≤ (i : Int) := by omega
  have HEW := Lib.hid eW
  have HB := Lib.hid b1
  have hd1 : decide ((0 : Int) ≤ (i : Int)) = true := by simp
  have hd2 : decide ((i : Int) < (toks.length : Int)) = true := by simp; omega
  rw [HT.out]
  have HR := Lib.hid hW
  have HQ := Lib.hid q1
  generalize he0 : (toks[i]).kind = tk at *
  generalize he1 : mkB (toks[i]).text = tx at *
  generalize he2 : (toks[i]).num = tn at *
  generalize he3 : (toks[i]).place = tp at *
  have HE0 := Lib.hid he0
  have HE1 := Lib.hid he1
  have HE2 := Lib.hid he2
  have HE3 := Lib.hid he3
  have hgw := h.lt
  clear he0 he1 he2 he3 q1
  clear eW hW h b1
  go_enter Tryz.func77, Tryz.ntmps77
  go_upto_region 1 with (fail)
  rw [HEW.out]
  go_quiet (fail)
  obtain ⟨V, eV⟩ : ∃ V, W.drewN nq = V := ⟨_, rfl⟩
  have bV : Below W.heap.size W V := by rw [← eV]; exact ⟨rfl, rfl, rfl, Nat.le_refl _, fun _ _ => rfl⟩
  rw [eV]
  obtain ⟨x0, x1, x2, x3, x4, x5, x6, x7, x8⟩ := HQ.out.on bV
  obtain ⟨r0, r1, r2, _, _, _, r6⟩ := three_cells (HR.out.on bV).blk
  obtain ⟨k0, k1, k2, k3⟩ := (HR.out.on bV).toks i hi
  have hgV := (HR.out.on bV).lt
  have HBV := Lib.hid (HB.out.trans (bV.mono HB.out.size))
  rw [HE0.out] at k0
  rw [HE1.out] at k1
  rw [HE2.out] at k2
  rw [HE3.out] at k3
  have hne : w.heap.size ≠ g := by omega
  clear eV bV c0 c1 c2 c3 p0 p1 p2 p3 p4 p5 p6
  go_wp2_with fail
  go_region
  go_wp2_with fail
  exact bodyPost_ret (v := .agg #[.int .i64 tk, .string tx, .int .i64 tn, .int .i64 tp]) (by simp [results, Tryz.results77, go_sem, x1, x2, x3, x4]) rfl ⟨rfl, below_box HBV.out.drew (Nat.le_refl _) _ _ _ _⟩
theorem eq_tokc (a a' c c' d d' : Int) (b b' : ByteArray) (w : World) : (Op.equalIn 10000 82 (.agg #[.int .i64 a, .string b, .int .i64 c, .int .i64 d]) (.agg #[.int .i64 a', .string b', .int .i64 c', .int .i64 d'])).run Tryz.prog w = .ok (a == a' && b.toList == b'.toList && c == c' && d == d') w := by
  have u3 := Tryz.underlying3
  have a3 := Tryz.isAgg3
  have z3 := Tryz.sizeOf3
  have u9 := Tryz.underlying9
  have a9 := Tryz.isAgg9
  have z9 := Tryz.sizeOf9
  have hS : Tryz.prog.underlying 82 = some (.struct (Tryz.prog.fieldsOf 82)) := by kernel_rfl
  have hp : Tryz.prog.stoodInHeld 82 = false := by kernel_rfl
  rw [show (10000 : Nat) = 9999 + 1 from rfl, run_equalIn_agg w 9999 82 _ _ hS hp]
  simp only [Program.fieldsOf, Tryz.underlying82]
  go_simp
  by_cases h1 : a = a' <;> by_cases h2 : b.toList = b'.toList <;> by_cases h3 : c = c' <;> by_cases h4 : d = d' <;> simp [h1, h2, h3, h4]
theorem guard_tokc : Tryz.prog.eqGuardType Tryz.prog.depth 82 = false := by kernel_rfl
theorem mkB_list (l : List UInt8) : (mkB l).toList = l := by unfold mkB; rw [Lib.toList_data]
/-- Symbols bear no number. -/
def SymZ (t : Tok) : Prop := t.kind = 4 → t.num = 0
theorem sym_eq {t : Tok} (h : SymZ t) (x : List UInt8) : (((t.kind : Int) == 4) && ((mkB t.text).toList == (mkB x).toList) && ((t.num : Int) == 0)) = isSym t x := by
  rw [mkB_list, mkB_list]
  unfold isSym
  by_cases hk : t.kind = 4
  · have := h hk; simp [hk, this]
  · have h1 : ((t.kind : Int) == 4) = false := by rw [beq_eq_false_iff_ne]; omega
    have h2 : (t.kind == 4) = false := by simpa using hk
    rw [h1, h2]; simp
set_option maxRecDepth 100000 in
set_option maxHeartbeats 1000000 in
theorem symbol_any (t : Tok) (x : List UInt8) (w : World) (h : SymZ t) : Calls Tryz.prog 92 #[tokV t, .string (mkB x)] w fun e w' => e = .returned (.bool (isSym t x)) ∧ Below w.heap.size w w' := by
  have HE := Lib.hid (sym_eq h x)
  have heq := eq_tokc
  have hgd := guard_tokc
  obtain ⟨W, eW, q1, b1, z1⟩ := one_box w (.int .i64 t.kind) (.string (mkB t.text)) (.int .i64 t.num) (.int .i64 t.place) 82
  have HEW := Lib.hid eW
  have HB := Lib.hid b1
  obtain ⟨x0, x1, x2, x3, x4, _⟩ := q1
  show Calls Tryz.prog 92 #[.agg #[.int .i64 t.kind, .string (mkB t.text), .int .i64 t.num, .int .i64 t.place], .string (mkB x)] w _
  clear eW b1 h
  generalize isSym t x = r at *
  generalize t.kind = tk at *
  generalize mkB t.text = tx at *
  generalize t.num = tn at *
  generalize t.place = tp at *
  generalize mkB x = xx at *
  go_enter Tryz.func92, Tryz.ntmps92
  go_upto_region 1 with (fail)
  rw [HEW.out]
  go_wp2_with fail
  go_ret
  exact ⟨ret_bool HE.out, HB.out⟩
set_option maxRecDepth 100000 in
set_option maxHeartbeats 1000000 in
theorem refusal_any (n : Int) (t : Tok) (w : World) : Calls Tryz.prog 40 #[.int .i64 n, tokV t] w fun e w' => e = .returned (.agg #[.int .i64 n, .int .i64 t.place]) ∧ Below w.heap.size w w' := by
  show Calls Tryz.prog 40 #[.int .i64 n, .agg #[.int .i64 t.kind, .string (mkB t.text), .int .i64 t.num, .int .i64 t.place]] w _
  generalize t.kind = tk at *
  generalize mkB t.text = tx at *
  generalize t.num = tn at *
  generalize t.place = tp at *
  go_enter Tryz.func40, Tryz.ntmps40
  go_wp2_with fail
  exact bodyPost_ret (v := .agg #[.int .i64 n, .int .i64 tp]) (by simp [results, Tryz.results40, go_sem]) rfl ⟨rfl, below2 w _ _⟩
/-- The place moves on. -/
theorem rd_next {toks : List Tok} {rb g cap i o : Nat} {w0 w : World} (h : Rd toks rb g cap i o w) (hb : Below w0.heap.size w0 w) : Rd toks rb g cap (i + 1) o (w.setCell ⟨rb, 1, none⟩ (.int .i64 ((i : Int) + 1))) ∧ Fr (fun b => b = rb) w0 (w.setCell ⟨rb, 1, none⟩ (.int .i64 ((i : Int) + 1))) := by
  have h1 := h.place (i + 1)
  rw [show (((i + 1 : Nat)) : Int) = (i : Int) + 1 by push_cast; rfl] at h1
  exact ⟨h1, (Fr.of_below hb).trans (rd_fr w rb 1 _)⟩
/-- What takes told. -/
def TakeRes (toks : List Tok) (rb g cap i o : Nat) (q : Bool) (w : World) (e : Ending) (w' : World) : Prop := e = .returned (.bool q) ∧ Rd toks rb g cap (if q = true then i + 1 else i) o w' ∧ Fr (fun b => b = rb) w w'
set_option maxRecDepth 100000 in
set_option maxHeartbeats 1000000 in
theorem takes_any (toks : List Tok) (rb g cap i o : Nat) (x : List UInt8) (w : World) (h : Rd toks rb g cap i o w) (hi : i < toks.length) (hl : toks.length ≤ 1099511627776) (hz : SymZ toks[i]) :
    Calls Tryz.prog 66 #[.pointer (some ⟨rb, 0, none⟩), .string (mkB x)] w (TakeRes toks rb g cap i o (isSym toks[i] x) w) := by
  have HT := Lib.hid (token_any toks rb g cap i o w h hi)
  have HS := Lib.hid (fun w => symbol_any toks[i] x w hz)
  have HR := Lib.hid h
  clear h hz
  generalize toks[i] = t at *
  cases hq : isSym t x with
  | true =>
    rw [hq] at HS
    clear hq
    generalize mkB x = xx at *
    go_enter Tryz.func66, Tryz.ntmps66
    go_wp2_with fail
    (with_reducible refine HT.out.mono ?_)
    rintro e w1 ⟨rfl, hb1⟩
    have HB1 := Lib.hid hb1
    clear hb1
    go_wp2_with fail
    (with_reducible refine (HS.out _).mono ?_)
    rintro e w2 ⟨rfl, hb2⟩
    have hb := HB1.out.trans (hb2.mono HB1.out.size)
    have hr := HR.out.on hb
    obtain ⟨p0, p1, p2, p3, p4, p5, p6⟩ := three_cells hr.blk
    have HP := Lib.hid (rd_next hr hb)
    clear hb2 hb hr
    go_wp2
    go_ret
    exact ⟨rfl, HP.out.1, HP.out.2⟩
  | false =>
    rw [hq] at HS
    clear hq
    generalize mkB x = xx at *
    go_enter Tryz.func66, Tryz.ntmps66
    go_wp2_with fail
    (with_reducible refine HT.out.mono ?_)
    rintro e w1 ⟨rfl, hb1⟩
    have HB1 := Lib.hid hb1
    clear hb1
    go_wp2_with fail
    (with_reducible refine (HS.out _).mono ?_)
    rintro e w2 ⟨rfl, hb2⟩
    have hb := HB1.out.trans (hb2.mono HB1.out.size)
    have HP : Hid (TakeRes toks rb g cap i o false w (.returned (.bool false)) w2) := ⟨rfl, HR.out.on hb, Fr.of_below hb⟩
    clear hb2 hb
    go_wp2
    go_ret
    exact HP.out
set_option maxRecDepth 100000 in
set_option maxHeartbeats 1000000 in
theorem begins_any (toks : List Tok) (rb g cap i o pb : Nat) (w : World) (h : Rd toks rb g cap i o w) (hp : w.heap[pb]? = some (.cells #[.pointer (some ⟨rb, 0, none⟩)] 117)) (hi : i < toks.length) (hz : SymZ toks[i]) :
    Calls Tryz.prog 91 #[.pointer (some ⟨pb, 0, none⟩)] w fun e w' => e = .returned (.bool (begT toks[i])) ∧ Below w.heap.size w w' := by
  have HT := Lib.hid (token_any toks rb g cap i o w h hi)
  have HS : Hid (∀ w, Calls Tryz.prog 92 #[tokV toks[i], .string ⟨#[40]⟩] w fun e w' => e = .returned (.bool (isSym toks[i] [40])) ∧ Below w.heap.size w w') := fun w => symbol_any toks[i] [40] w hz
  have c0 := cell_of_one hp
  have hpl := lt_of_block hp
  have HBG : Hid (begT toks[i] = (toks[i].kind == 1 || toks[i].kind == 2 || isSym toks[i] [40])) := rfl
  clear h hz hp
  generalize toks[i] = t at *
  generalize isSym t [40] = q at *
  generalize begT t = bt at *
  go_enter Tryz.func91, Tryz.ntmps91
  go_wp2_with fail
  (with_reducible refine HT.out.mono ?_)
  rintro e w1 ⟨rfl, hb1⟩
  obtain ⟨W, eW, q1, b1, z1⟩ := one_box w1 (.int .i64 t.kind) (.string (mkB t.text)) (.int .i64 t.num) (.int .i64 t.place) 82
  have HEW := Lib.hid eW
  have HB := Lib.hid (hb1.trans (b1.mono hb1.size))
  obtain ⟨x0, x1, x2, x3, x4, _⟩ := q1
  have HSW := Lib.hid (HS.out W)
  have HTV : Hid (tokV t = .agg #[.int .i64 t.kind, .string (mkB t.text), .int .i64 t.num, .int .i64 t.place]) := rfl
  rw [HTV.out] at HSW ⊢
  clear eW hb1 b1
  generalize t.kind = tk at *
  generalize mkB t.text = tx at *
  generalize t.num = tn at *
  generalize t.place = tp at *
  by_cases h2 : tk = 2
  · have HE : Hid (bt = true) := by show _ = _; rw [HBG.out]; simp [h2]
    have hz2 : (tk : Int) = 2 := by omega
    generalize (tk : Int) = zk at *
    subst hz2
    go_upto_region 2 with (fail)
    rw [HEW.out]
    go_wp2
    go_ret
    exact ⟨ret_bool HE.out.symm, HB.out⟩
  · have hk2 : ((tk : Int) == 2) = false := by rw [beq_eq_false_iff_ne]; omega
    by_cases h1 : tk = 1
    · have HE : Hid (bt = true) := by show _ = _; rw [HBG.out]; simp [h1]
      have hz1 : (tk : Int) = 1 := by omega
      clear hk2
      generalize (tk : Int) = zk at *
      subst hz1
      go_upto_region 2 with (fail)
      rw [HEW.out]
      go_wp2
      go_ret
      exact ⟨ret_bool HE.out.symm, HB.out⟩
    · have hk1 : ((tk : Int) == 1) = false := by rw [beq_eq_false_iff_ne]; omega
      have HE : Hid (bt = q) := by show _ = _; rw [HBG.out]; simp [h1, h2]
      generalize (tk : Int) = zk at *
      go_upto_region 2 with (fail)
      rw [HEW.out]
      go_wp2_with fail
      (with_reducible refine HSW.out.mono ?_)
      rintro e w2 ⟨rfl, hb2⟩
      have HB2 := Lib.hid (HB.out.trans (hb2.mono HB.out.size))
      clear hb2
      go_wp2
      go_ret
      exact ⟨ret_bool HE.out.symm, HB2.out⟩
end Go.Proofs.YtbdfjboojokgdaaGreatDoor
namespace Go.Proofs.YtbdfjboojokgdaaGreatDoor
open Go.RowKit Lx

/-- What a method of the reader told. -/
def ReadRes (toks : List Tok) (rb g cap o : Nat) (res : Got) (w : World) (e : Ending) (w' : World) : Prop :=
  match res with
  | .ok t q => ∃ tv, e = .returned (.tuple #[tv, .agg #[.int .i64 0, .int .i64 0]]) ∧ TyAt (fun b => w.heap.size ≤ b) w' t tv ∧ Rd toks rb g cap (toks.length - q.length) o w' ∧ Fr (fun b => b = rb) w w'
  | .no ec p => e = .returned (.tuple #[.agg #[.int .i64 0, .int .i64 0, .string ⟨#[]⟩, .slice none 0 0], .agg #[.int .i64 ec, .int .i64 p]]) ∧ (∃ i' o', Rd toks rb g cap i' o' w') ∧ Fr (fun b => b = rb) w w'
def AtomIs (toks : List Tok) (rb g cap n : Nat) : Prop := ∀ (i o : Nat) (w : World) (res : Got), Rd toks rb g cap i o w → o ≤ 40 → atomN n (toks.drop i) o = some res → Calls Tryz.prog 93 #[.pointer (some ⟨rb, 0, none⟩)] w (ReadRes toks rb g cap o res w)
def TypeIs (toks : List Tok) (rb g cap n : Nat) : Prop := ∀ (i o : Nat) (w : World) (res : Got), Rd toks rb g cap i o w → o ≤ 40 → typeN n (toks.drop i) o = some res → Calls Tryz.prog 41 #[.pointer (some ⟨rb, 0, none⟩)] w (ReadRes toks rb g cap o res w)
theorem suff_all : ∀ n : Nat, (∀ l o t q, atomN n l o = some (.ok t q) → q <:+ l ∧ q.length < l.length) ∧ (∀ x l o t q, appsN n x l o = some (.ok t q) → q <:+ l ∧ q ≠ []) ∧ (∀ l o t q, typeN n l o = some (.ok t q) → q <:+ l ∧ q.length < l.length ∧ q ≠ [])
  | 0 => ⟨fun _ _ _ _ h => by simp [atomN] at h, fun _ _ _ _ _ h => by simp [appsN] at h, fun _ _ _ _ h => by simp [typeN] at h⟩
  | n + 1 => by
    obtain ⟨iha, ihp, iht⟩ := suff_all n
    refine ⟨fun l o t q h => ?_, fun x l o t q h => ?_, fun l o t q h => ?_⟩
    · match l, h with
      | [], h => simp [atomN] at h
      | c :: r, h =>
        simp only [atomN] at h
        split at h
        · injection h with h; injection h with h1 h2; subst h2; exact ⟨List.suffix_cons _ _, by simp⟩
        · split at h
          · injection h with h; injection h with h1 h2; subst h2; exact ⟨List.suffix_cons _ _, by simp⟩
          · split at h
            · injection h with h; cases h
            · split at h
              · injection h with h; cases h
              · split at h
                · rename_i x d s he
                  split at h
                  · injection h with h; injection h with h1 h2; subst h2
                    have h9 := (iht _ _ _ _ he).1
                    have := h9.length_le
                    exact ⟨((List.suffix_cons _ _).trans h9).trans (List.suffix_cons _ _), by simp at this ⊢; omega⟩
                  · injection h with h; cases h
                · cases h
                · injection h with h; cases h
                · cases h
    · match l, h with
      | [], h => simp [appsN] at h
      | c :: r, h =>
        simp only [appsN] at h
        split at h
        · split at h
          · rename_i a s he
            have h1 := ihp _ _ _ _ _ h
            exact ⟨h1.1.trans (iha _ _ _ _ he).1, h1.2⟩
          · injection h with h; cases h
          · cases h
        · injection h with h; injection h with h1 h2; subst h2; exact ⟨List.suffix_refl _, by simp⟩
    · simp only [typeN] at h
      split at h
      · rename_i x s he
        have h1 := iha _ _ _ _ he
        split at h
        · rename_i y d u hp
          have h2 := ihp _ _ _ _ _ hp
          have h2l := h2.1.length_le
          split at h
          · split at h
            · rename_i z u' ht
              injection h with h; injection h with h3 h4; subst h4
              have h5 := iht _ _ _ _ ht
              have h5l := h5.1.length_le
              exact ⟨((h5.1.trans (List.suffix_cons _ _)).trans h2.1).trans h1.1, by simp at h2l; omega, h5.2.2⟩
            · injection h with h; cases h
            · cases h
          · injection h with h; injection h with h3 h4; subst h4
            exact ⟨h2.1.trans h1.1, by omega, by simp⟩
        · cases h
        · injection h with h; cases h
        · cases h
      · injection h with h; cases h
      · cases h
theorem drop_suf {l q : List Tok} {i : Nat} (h : q <:+ l.drop i) : l.drop (l.length - q.length) = q := (List.suffix_iff_eq_drop.1 (h.trans (List.drop_suffix _ _))).symm
/-- What is behind, by its place. -/
theorem drop_at {l q : List Tok} {i : Nat} {t : Tok} (h : l.drop i = t :: q) : ∃ hi : i < l.length, l[i] = t ∧ l.drop (i + 1) = q ∧ l.length - q.length = i + 1 := by
  have hi : i < l.length := by
    rcases Nat.lt_or_ge i l.length with h9 | h9
    · exact h9
    · rw [List.drop_eq_nil_of_le h9] at h; cases h
  have h1 := List.drop_eq_getElem_cons hi
  rw [h1] at h
  injection h with h2 h3
  refine ⟨hi, h2, h3, ?_⟩
  rw [← h3, List.length_drop]; omega
theorem nil2 (w : World) : ∃ W, (w.alloc (.cells #[.int .i64 0, .int .i64 0, .string ⟨#[]⟩, .slice none 0 0] 27)).alloc (.cells #[.int .i64 0, .int .i64 0] 30) = W ∧ W.heap[w.heap.size]? = some (.cells #[.int .i64 0, .int .i64 0, .string ⟨#[]⟩, .slice none 0 0] 27) ∧ W.heap[w.heap.size + 1]? = some (.cells #[.int .i64 0, .int .i64 0] 30) ∧ Below w.heap.size w W ∧ W.heap.size = w.heap.size + 2 := by
  refine ⟨_, rfl, ?_, ?_, below2 w _ _, by simp⟩
  · have h := (MapKept.heap_alloc w (.cells #[.int .i64 0, .int .i64 0, .string ⟨#[]⟩, .slice none 0 0] 27)).1
    exact ((below_new _ _).block _ (by simp)).trans h
  · have h := (MapKept.heap_alloc (w.alloc (.cells #[.int .i64 0, .int .i64 0, .string ⟨#[]⟩, .slice none 0 0] 27)) (.cells #[.int .i64 0, .int .i64 0] 30)).1
    simpa using h
theorem four_cells {w : World} {b : Nat} {v1 v2 v3 v4 : Value} {t : TypeId} (h : w.heap[b]? = some (.cells #[v1, v2, v3, v4] t)) : w.cell? ⟨b, 0, none⟩ = some v1 ∧ w.cell? ⟨b, 1, none⟩ = some v2 ∧ w.cell? ⟨b, 2, none⟩ = some v3 ∧ w.cell? ⟨b, 3, none⟩ = some v4 ∧ w.frozen? ⟨b, 0, none⟩ = false ∧ w.frozen? ⟨b, 1, none⟩ = false ∧ w.frozen? ⟨b, 2, none⟩ = false ∧ w.frozen? ⟨b, 3, none⟩ = false ∧ b < w.heap.size :=
  ⟨by simp [World.cell?, h], by simp [World.cell?, h], by simp [World.cell?, h], by simp [World.cell?, h], by simp [World.frozen?, h], by simp [World.frozen?, h], by simp [World.frozen?, h], by simp [World.frozen?, h], lt_of_block h⟩
theorem ty_fr {w w' : World} {t : Ty} {v : Value} {rb k : Nat} (h : TyAt (fun b => k ≤ b) w t v) (hf : Fr (fun b => b = rb) w w') (hk : rb < k) : TyAt (fun b => k ≤ b) w' t v :=
  h.keep ⟨hf.size, fun b off hb hlt => World.cell?_of_block (a := ⟨b, off, none⟩) (hf.block b hlt (fun e => by omega))⟩
/-- Six stores: a type and a place into their boxes. -/
def put6 (w : World) (b c : Nat) (x0 x1 x2 x3 y0 y1 : Value) : World := (((((w.setCell ⟨b, 0, none⟩ x0).setCell ⟨b, 1, none⟩ x1).setCell ⟨b, 2, none⟩ x2).setCell ⟨b, 3, none⟩ x3).setCell ⟨c, 0, none⟩ y0).setCell ⟨c, 1, none⟩ y1
theorem put6_block (w : World) (b c : Nat) (x0 x1 x2 x3 y0 y1 : Value) (k : Nat) (hb : k ≠ b) (hc : k ≠ c) : (put6 w b c x0 x1 x2 x3 y0 y1).heap[k]? = w.heap[k]? := by
  unfold put6
  rw [Below.heap_setCell _ _ _ _ hc, Below.heap_setCell _ _ _ _ hc, Below.heap_setCell _ _ _ _ hb, Below.heap_setCell _ _ _ _ hb, Below.heap_setCell _ _ _ _ hb, Below.heap_setCell _ _ _ _ hb]
theorem put6_size (w : World) (b c : Nat) (x0 x1 x2 x3 y0 y1 : Value) : (put6 w b c x0 x1 x2 x3 y0 y1).heap.size = w.heap.size := by simp [put6]
theorem Rd.fr {toks : List Tok} {rb g cap i o : Nat} {w w' : World} (h : Rd toks rb g cap i o w) (hs : w.heap.size ≤ w'.heap.size) (h1 : w'.heap[rb]? = w.heap[rb]?) (h2 : w'.heap[g]? = w.heap[g]?) : Rd toks rb g cap i o w' :=
  ⟨h1.trans h.blk, h.ne, Nat.lt_of_lt_of_le h.lt hs, h.toks.block h2⟩
theorem put6_zero (w : World) (b c : Nat) (x0 x1 x2 x3 y0 y1 : Value) : Below 0 w (put6 w b c x0 x1 x2 x3 y0 y1) := by
  unfold put6
  exact ((((((Below.refl 0 w).setCell (Nat.zero_le _) _).setCell (Nat.zero_le _) _).setCell (Nat.zero_le _) _).setCell (Nat.zero_le _) _).setCell (Nat.zero_le _) _).setCell (Nat.zero_le _) _
theorem end_of {toks : List Tok} {rb g cap i o k : Nat} {w0 w V : World} (hr : Rd toks rb g cap i o w) (hf : Fr (fun b => b = rb) w0 w) (hk : w0.heap.size ≤ k) (hg : g < w0.heap.size) (hrb : rb < w0.heap.size) (hb : ∀ j, j ≠ k → j ≠ k + 1 → V.heap[j]? = w.heap[j]?) (hz : V.heap.size = w.heap.size) (e1 : V.os = w.os) (e2 : V.tape = w.tape) (e3 : V.output = w.output) :
    Rd toks rb g cap i o V ∧ Fr (fun b => b = rb) w0 V := by
  have hs := hf.size
  exact ⟨hr.fr (by omega) (hb rb (by omega) (by omega)) (hb g (by omega) (by omega)), e1.trans hf.os, e2.trans hf.tape, e3.trans hf.output, by omega, fun j hj hn => (hb j (by omega) (by omega)).trans (hf.block j hj hn)⟩
/-- What the end of such a method leaves. -/
theorem put6_end {toks : List Tok} {rb g cap i o k : Nat} {w0 w : World} (hr : Rd toks rb g cap i o w) (hf : Fr (fun b => b = rb) w0 w) (hk : w0.heap.size ≤ k) (hg : g < w0.heap.size) (hrb : rb < w0.heap.size) (x0 x1 x2 x3 y0 y1 : Value) :
    Rd toks rb g cap i o (put6 w k (k + 1) x0 x1 x2 x3 y0 y1) ∧ Fr (fun b => b = rb) w0 (put6 w k (k + 1) x0 x1 x2 x3 y0 y1) :=
  end_of hr hf hk hg hrb (fun j h1 h2 => put6_block w k (k + 1) x0 x1 x2 x3 y0 y1 j h1 h2) (put6_size w k (k + 1) x0 x1 x2 x3 y0 y1) (put6_zero w k (k + 1) x0 x1 x2 x3 y0 y1).os (put6_zero w k (k + 1) x0 x1 x2 x3 y0 y1).tape (put6_zero w k (k + 1) x0 x1 x2 x3 y0 y1).output
theorem put6_ty {w : World} {t : Ty} {v : Value} {k c : Nat} (h : TyAt (fun b => c ≤ b) w t v) (hk : k + 1 < c) (x0 x1 x2 x3 y0 y1 : Value) : TyAt (fun b => c ≤ b) (put6 w k (k + 1) x0 x1 x2 x3 y0 y1) t v :=
  h.keep ⟨by rw [put6_size]; exact Nat.le_refl _, fun b off (hb : c ≤ b) _ => World.cell?_of_block (a := ⟨b, off, none⟩) (put6_block w k (k + 1) x0 x1 x2 x3 y0 y1 b (by omega) (by omega))⟩
end Go.Proofs.YtbdfjboojokgdaaGreatDoor
