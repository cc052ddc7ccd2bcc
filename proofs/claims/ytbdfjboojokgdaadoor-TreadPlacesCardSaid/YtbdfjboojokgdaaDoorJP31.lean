/- The document's reading of types in memory (chapter 5): what it tells, and the contracts of Is, Bad, begins. No conditions. The contract of the document's Atom (chapter 5). Condition: at most 2^40 tokens. -/
import Derived.Test.YtbdfjboojokgdaaDoorJP30
namespace Go.Proofs.YtbdfjboojokgdaaDoor
open Go.RowKit Lx

/-- The nine cells of what is read, stored. -/
def putX (w : World) (b : Nat) (x0 x1 x2 x3 x4 x5 x6 x7 x8 : Value) : World :=
  ((((((((w.setCell ⟨b, 0, none⟩ x0).setCell ⟨b, 1, none⟩ x1).setCell ⟨b, 2, none⟩ x2).setCell ⟨b, 3, none⟩ x3).setCell ⟨b, 4, none⟩ x4).setCell ⟨b, 5, none⟩ x5).setCell ⟨b, 6, none⟩ x6).setCell ⟨b, 7, none⟩ x7).setCell ⟨b, 8, none⟩ x8
theorem putX_ne (w : World) (b : Nat) (x0 x1 x2 x3 x4 x5 x6 x7 x8 : Value) (k : Nat) (hb : k ≠ b) : (putX w b x0 x1 x2 x3 x4 x5 x6 x7 x8).heap[k]? = w.heap[k]? := by
  unfold putX
  rw [Below.heap_setCell _ _ _ _ hb, Below.heap_setCell _ _ _ _ hb, Below.heap_setCell _ _ _ _ hb, Below.heap_setCell _ _ _ _ hb, Below.heap_setCell _ _ _ _ hb, Below.heap_setCell _ _ _ _ hb, Below.heap_setCell _ _ _ _ hb, Below.heap_setCell _ _ _ _ hb, Below.heap_setCell _ _ _ _ hb]
theorem putX_size (w : World) (b : Nat) (x0 x1 x2 x3 x4 x5 x6 x7 x8 : Value) : (putX w b x0 x1 x2 x3 x4 x5 x6 x7 x8).heap.size = w.heap.size := by simp [putX]
theorem putX_below {B : Nat} {w w' : World} {k : Nat} (h : Below B w w') (hk : B ≤ k) (x0 x1 x2 x3 x4 x5 x6 x7 x8 : Value) : Below B w (putX w' k x0 x1 x2 x3 x4 x5 x6 x7 x8) := by
  unfold putX
  exact ((((((((h.setCell hk _).setCell hk _).setCell hk _).setCell hk _).setCell hk _).setCell hk _).setCell hk _).setCell hk _).setCell hk _
theorem putX_self {w : World} {b : Nat} {y0 y1 y2 y3 y4 y5 y6 y7 y8 : Value} {t : TypeId} (h : w.heap[b]? = some (.cells #[y0, y1, y2, y3, y4, y5, y6, y7, y8] t)) (x0 x1 x2 x3 x4 x5 x6 x7 x8 : Value) : (putX w b x0 x1 x2 x3 x4 x5 x6 x7 x8).heap[b]? = some (.cells #[x0, x1, x2, x3, x4, x5, x6, x7, x8] t) := by
  unfold putX
  have h0 : (w.setCell ⟨b, 0, none⟩ x0).heap[b]? = some (.cells #[x0, y1, y2, y3, y4, y5, y6, y7, y8] t) := heap_setCell_same _ b 0 _ t x0 h
  have h1 : ((w.setCell ⟨b, 0, none⟩ x0).setCell ⟨b, 1, none⟩ x1).heap[b]? = some (.cells #[x0, x1, y2, y3, y4, y5, y6, y7, y8] t) := heap_setCell_same _ b 1 _ t x1 h0
  have h2 : (((w.setCell ⟨b, 0, none⟩ x0).setCell ⟨b, 1, none⟩ x1).setCell ⟨b, 2, none⟩ x2).heap[b]? = some (.cells #[x0, x1, x2, y3, y4, y5, y6, y7, y8] t) := heap_setCell_same _ b 2 _ t x2 h1
  have h3 : ((((w.setCell ⟨b, 0, none⟩ x0).setCell ⟨b, 1, none⟩ x1).setCell ⟨b, 2, none⟩ x2).setCell ⟨b, 3, none⟩ x3).heap[b]? = some (.cells #[x0, x1, x2, x3, y4, y5, y6, y7, y8] t) := heap_setCell_same _ b 3 _ t x3 h2
  have h4 : (((((w.setCell ⟨b, 0, none⟩ x0).setCell ⟨b, 1, none⟩ x1).setCell ⟨b, 2, none⟩ x2).setCell ⟨b, 3, none⟩ x3).setCell ⟨b, 4, none⟩ x4).heap[b]? = some (.cells #[x0, x1, x2, x3, x4, y5, y6, y7, y8] t) := heap_setCell_same _ b 4 _ t x4 h3
  have h5 : ((((((w.setCell ⟨b, 0, none⟩ x0).setCell ⟨b, 1, none⟩ x1).setCell ⟨b, 2, none⟩ x2).setCell ⟨b, 3, none⟩ x3).setCell ⟨b, 4, none⟩ x4).setCell ⟨b, 5, none⟩ x5).heap[b]? = some (.cells #[x0, x1, x2, x3, x4, x5, y6, y7, y8] t) := heap_setCell_same _ b 5 _ t x5 h4
  have h6 : (((((((w.setCell ⟨b, 0, none⟩ x0).setCell ⟨b, 1, none⟩ x1).setCell ⟨b, 2, none⟩ x2).setCell ⟨b, 3, none⟩ x3).setCell ⟨b, 4, none⟩ x4).setCell ⟨b, 5, none⟩ x5).setCell ⟨b, 6, none⟩ x6).heap[b]? = some (.cells #[x0, x1, x2, x3, x4, x5, x6, y7, y8] t) := heap_setCell_same _ b 6 _ t x6 h5
  have h7 : ((((((((w.setCell ⟨b, 0, none⟩ x0).setCell ⟨b, 1, none⟩ x1).setCell ⟨b, 2, none⟩ x2).setCell ⟨b, 3, none⟩ x3).setCell ⟨b, 4, none⟩ x4).setCell ⟨b, 5, none⟩ x5).setCell ⟨b, 6, none⟩ x6).setCell ⟨b, 7, none⟩ x7).heap[b]? = some (.cells #[x0, x1, x2, x3, x4, x5, x6, x7, y8] t) := heap_setCell_same _ b 7 _ t x7 h6
  have h8 : (((((((((w.setCell ⟨b, 0, none⟩ x0).setCell ⟨b, 1, none⟩ x1).setCell ⟨b, 2, none⟩ x2).setCell ⟨b, 3, none⟩ x3).setCell ⟨b, 4, none⟩ x4).setCell ⟨b, 5, none⟩ x5).setCell ⟨b, 6, none⟩ x6).setCell ⟨b, 7, none⟩ x7).setCell ⟨b, 8, none⟩ x8).heap[b]? = some (.cells #[x0, x1, x2, x3, x4, x5, x6, x7, x8] t) := heap_setCell_same _ b 8 _ t x8 h7
  exact h8
theorem putX_ty {w : World} {t : Ty} {v : Value} {k c : Nat} (h : TyAt (fun b => c ≤ b) w t v) (hk : k < c) (x0 x1 x2 x3 x4 x5 x6 x7 x8 : Value) : TyAt (fun b => c ≤ b) (putX w k x0 x1 x2 x3 x4 x5 x6 x7 x8) t v :=
  h.keep ⟨by rw [putX_size]; exact Nat.le_refl _, fun b off (hb : c ≤ b) _ => World.cell?_of_block (a := ⟨b, off, none⟩) (putX_ne w k x0 x1 x2 x3 x4 x5 x6 x7 x8 b (by omega))⟩
theorem nine_cells {w : World} {b : Nat} {v0 v1 v2 v3 v4 v5 v6 v7 v8 : Value} {t : TypeId} (h : w.heap[b]? = some (.cells #[v0, v1, v2, v3, v4, v5, v6, v7, v8] t)) : w.cell? ⟨b, 0, none⟩ = some v0 ∧ w.cell? ⟨b, 1, none⟩ = some v1 ∧ w.cell? ⟨b, 2, none⟩ = some v2 ∧ w.cell? ⟨b, 3, none⟩ = some v3 ∧ w.cell? ⟨b, 4, none⟩ = some v4 ∧ w.cell? ⟨b, 5, none⟩ = some v5 ∧ w.cell? ⟨b, 6, none⟩ = some v6 ∧ w.cell? ⟨b, 7, none⟩ = some v7 ∧ w.cell? ⟨b, 8, none⟩ = some v8 ∧ w.frozen? ⟨b, 0, none⟩ = false ∧ w.frozen? ⟨b, 1, none⟩ = false ∧ w.frozen? ⟨b, 2, none⟩ = false ∧ w.frozen? ⟨b, 3, none⟩ = false ∧ w.frozen? ⟨b, 4, none⟩ = false ∧ w.frozen? ⟨b, 5, none⟩ = false ∧ w.frozen? ⟨b, 6, none⟩ = false ∧ w.frozen? ⟨b, 7, none⟩ = false ∧ w.frozen? ⟨b, 8, none⟩ = false ∧ b < w.heap.size :=
  ⟨by simp [World.cell?, h], by simp [World.cell?, h], by simp [World.cell?, h], by simp [World.cell?, h], by simp [World.cell?, h], by simp [World.cell?, h], by simp [World.cell?, h], by simp [World.cell?, h], by simp [World.cell?, h], by simp [World.frozen?, h], by simp [World.frozen?, h], by simp [World.frozen?, h], by simp [World.frozen?, h], by simp [World.frozen?, h], by simp [World.frozen?, h], by simp [World.frozen?, h], by simp [World.frozen?, h], by simp [World.frozen?, h], lt_of_block h⟩
theorem box9 (w : World) (x0 x1 x2 x3 x4 x5 x6 x7 x8 : Value) (t : TypeId) : ∃ W, w.alloc (.cells #[x0, x1, x2, x3, x4, x5, x6, x7, x8] t) = W ∧ W.heap[w.heap.size]? = some (.cells #[x0, x1, x2, x3, x4, x5, x6, x7, x8] t) ∧ Below w.heap.size w W ∧ W.heap.size = w.heap.size + 1 :=
  ⟨_, rfl, (MapKept.heap_alloc w _).1, below_new w _, by simp⟩
/-- What the document's Type and Atom tell. -/
def XRes (toks : List Tok) (res : Got) (w : World) (e : Ending) (w' : World) : Prop :=
  match res with
  | .ok t q => ∃ f n s A l c, e = .returned (.agg #[.int .i64 f, .int .i64 n, .string s, .slice A l c, .slice none 0 0, .slice none 0 0, .int .i64 ((toks.length - q.length : Nat) : Int), .int .i64 0, .int .i64 0]) ∧ TyAt (fun b => w.heap.size ≤ b) w' t (.agg #[.int .i64 f, .int .i64 n, .string s, .slice A l c]) ∧ Below w.heap.size w w'
  | .no ec p => e = .returned (.agg #[.int .i64 0, .int .i64 0, .string ⟨#[]⟩, .slice none 0 0, .slice none 0 0, .slice none 0 0, .int .i64 0, .int .i64 ec, .int .i64 p]) ∧ Below w.heap.size w w'
theorem x_no {toks : List Tok} {w W : World} {ec p : Nat} (hb : Below w.heap.size w W) (x0 x1 x2 x3 x4 x5 x6 x7 x8 : Value) : XRes toks (.no ec p) w (.returned (.agg #[.int .i64 0, .int .i64 0, .string ⟨#[]⟩, .slice none 0 0, .slice none 0 0, .slice none 0 0, .int .i64 0, .int .i64 ec, .int .i64 p])) (putX W w.heap.size x0 x1 x2 x3 x4 x5 x6 x7 x8) :=
  ⟨rfl, putX_below hb (Nat.le_refl _) x0 x1 x2 x3 x4 x5 x6 x7 x8⟩
theorem x_ok {toks : List Tok} {w W : World} {t : Ty} {q : List Tok} {f n : Int} {s : ByteArray} {A : Option Addr} {l c : Nat} {i : Int} (hi : i = ((toks.length - q.length : Nat) : Int)) (ht : TyAt (fun b => w.heap.size + 1 ≤ b) W t (.agg #[.int .i64 f, .int .i64 n, .string s, .slice A l c])) (hb : Below w.heap.size w W) (x0 x1 x2 x3 x4 x5 x6 x7 x8 : Value) : XRes toks (.ok t q) w (.returned (.agg #[.int .i64 f, .int .i64 n, .string s, .slice A l c, .slice none 0 0, .slice none 0 0, .int .i64 i, .int .i64 0, .int .i64 0])) (putX W w.heap.size x0 x1 x2 x3 x4 x5 x6 x7 x8) :=
  ⟨f, n, s, A, l, c, by rw [hi], (putX_ty ht (Nat.lt_succ_self _) x0 x1 x2 x3 x4 x5 x6 x7 x8).mono (fun b (hb : w.heap.size + 1 ≤ b) => (by omega : w.heap.size ≤ b)), putX_below hb (Nat.le_refl _) x0 x1 x2 x3 x4 x5 x6 x7 x8⟩
theorem is_eq (t : Tok) (x : List UInt8) : (((t.kind : Int) == 4) && ((mkB t.text).toList == (mkB x).toList)) = isSym t x := by
  rw [mkB_list, mkB_list]
  unfold isSym
  by_cases hk : t.kind = 4
  · simp [hk]
  · have h1 : ((t.kind : Int) == 4) = false := by rw [beq_eq_false_iff_ne]; omega
    have h2 : (t.kind == 4) = false := by simpa using hk
    rw [h1, h2]
set_option maxRecDepth 100000 in
set_option maxHeartbeats 1000000 in
theorem is_any (t : Tok) (x : List UInt8) (w : World) : Calls Tryd.prog 87 #[.agg #[.int .i64 t.kind, .string (mkB t.text), .int .i64 t.num, .int .i64 t.place], .string (mkB x)] w fun e w' => e = .returned (.bool (isSym t x)) ∧ Below w.heap.size w w' := by
  have HE := Lib.hid (is_eq t x)
  obtain ⟨W, eW, q1, b1, z1⟩ := one_box w (.int .i64 t.kind) (.string (mkB t.text)) (.int .i64 t.num) (.int .i64 t.place) 138
  have HEW := Lib.hid eW
  have HB := Lib.hid b1
  obtain ⟨x0, x1, x2, x3, x4, _⟩ := q1
  clear eW b1
  generalize isSym t x = r at *
  generalize (t.kind : Int) = tk at *
  generalize mkB t.text = tx at *
  generalize t.num = tn at *
  generalize t.place = tp at *
  generalize mkB x = xx at *
  by_cases hk : tk = 4
  · subst hk
    go_enter Tryd.func87, Tryd.ntmps87
    go_upto_region 1 with (fail)
    rw [HEW.out]
    go_wp2_with fail
    go_ret
    exact ⟨ret_bool (by rw [← HE.out]; simp), HB.out⟩
  · have hk' : (tk == 4) = false := by rw [beq_eq_false_iff_ne]; exact hk
    go_enter Tryd.func87, Tryd.ntmps87
    go_upto_region 1 with (fail)
    rw [HEW.out]
    go_wp2_with fail
    go_ret
    exact ⟨ret_bool (by rw [← HE.out, hk']; rfl), HB.out⟩
set_option maxRecDepth 100000 in
set_option maxHeartbeats 1000000 in
theorem bad_any (n : Int) (t : Tok) (w : World) : Calls Tryd.prog 90 #[.agg #[.int .i64 t.kind, .string (mkB t.text), .int .i64 t.num, .int .i64 t.place], .int .i64 n] w fun e w' => e = .returned (.agg #[.int .i64 0, .int .i64 0, .string ⟨#[]⟩, .slice none 0 0, .slice none 0 0, .slice none 0 0, .int .i64 0, .int .i64 n, .int .i64 t.place]) ∧ Below w.heap.size w w' := by
  generalize (t.kind : Int) = tk at *
  generalize mkB t.text = tx at *
  generalize t.num = tn at *
  generalize t.place = tp at *
  go_enter Tryd.func90, Tryd.ntmps90
  go_wp2_with fail
  exact bodyPost_ret (v := .agg #[.int .i64 0, .int .i64 0, .string ⟨#[]⟩, .slice none 0 0, .slice none 0 0, .slice none 0 0, .int .i64 0, .int .i64 n, .int .i64 tp]) (by simp [results, Tryd.results90, go_sem]) rfl ⟨rfl, below2 w _ _⟩
set_option maxRecDepth 100000 in
set_option maxHeartbeats 1000000 in
theorem refbegins_any (t : Tok) (w : World) : Calls Tryd.prog 86 #[.agg #[.int .i64 t.kind, .string (mkB t.text), .int .i64 t.num, .int .i64 t.place]] w fun e w' => e = .returned (.bool (begT t)) ∧ Below w.heap.size w w' := by
  have HS := Lib.hid (fun w => is_any t [40] w)
  have HBG : Hid (begT t = (t.kind == 1 || t.kind == 2 || isSym t [40])) := rfl
  obtain ⟨W, eW, q1, b1, z1⟩ := one_box w (.int .i64 t.kind) (.string (mkB t.text)) (.int .i64 t.num) (.int .i64 t.place) 138
  have HEW := Lib.hid eW
  have HQ := Lib.hid q1
  have HB := Lib.hid b1
  obtain ⟨x0, x1, x2, x3, x4, _⟩ := q1
  clear eW b1
  have HSW : Hid (Calls Tryd.prog 87 #[.agg #[.int .i64 t.kind, .string (mkB t.text), .int .i64 t.num, .int .i64 t.place], .string ⟨#[40]⟩] W fun e w' => e = .returned (.bool (isSym t [40])) ∧ Below W.heap.size W w') := HS.out W
  generalize isSym t [40] = q at *
  generalize begT t = bt at *
  generalize t.kind = tk at *
  generalize mkB t.text = tx at *
  generalize t.num = tn at *
  generalize t.place = tp at *
  go_enter Tryd.func86, Tryd.ntmps86
  go_upto_region 1 with (fail)
  rw [HEW.out]
  go_wp2_with fail
  (with_reducible refine HSW.out.mono ?_)
  rintro e w2 ⟨rfl, hb2⟩
  have hbW := HB.out.trans (hb2.mono HB.out.size)
  obtain ⟨y0, y1, y2, y3, y4, _⟩ := HQ.out.on hb2
  have HB2 := Lib.hid hbW
  clear hb2 hbW x0 x1 x2 x3 x4
  by_cases h1 : tk = 1
  · have HE : Hid (bt = true) := by show _ = _; rw [HBG.out]; simp [h1]
    have hz1 : (tk : Int) = 1 := by omega
    generalize (tk : Int) = zk at *
    subst hz1
    go_wp2_with fail
    go_ret
    exact ⟨ret_bool HE.out.symm, HB2.out⟩
  · have hk1 : ((tk : Int) == 1) = false := by rw [beq_eq_false_iff_ne]; omega
    by_cases h2 : tk = 2
    · have HE : Hid (bt = true) := by show _ = _; rw [HBG.out]; simp [h2]
      have hz2 : (tk : Int) = 2 := by omega
      generalize (tk : Int) = zk at *
      subst hz2
      go_wp2_with fail
      go_ret
      exact ⟨ret_bool HE.out.symm, HB2.out⟩
    · have hk2 : ((tk : Int) == 2) = false := by rw [beq_eq_false_iff_ne]; omega
      have HE : Hid (bt = q) := by show _ = _; rw [HBG.out]; simp [h1, h2]
      generalize (tk : Int) = zk at *
      go_wp2_with fail
      go_ret
      exact ⟨ret_bool HE.out.symm, HB2.out⟩
end Go.Proofs.YtbdfjboojokgdaaDoor
namespace Go.Proofs.YtbdfjboojokgdaaDoor
open Go.RowKit Lx

def AtomX (toks : List Tok) (g cap n : Nat) : Prop := ∀ (i o : Nat) (w : World) (res : Got), TokC w g toks → g < w.heap.size → o ≤ 40 → atomN n (toks.drop i) o = some res → Calls Tryd.prog 40 #[.slice (some ⟨g, 0, none⟩) toks.length cap, .int .i64 i, .int .i64 o] w (XRes toks res w)
def TypeX (toks : List Tok) (g cap n : Nat) : Prop := ∀ (i o : Nat) (w : World) (res : Got), TokC w g toks → g < w.heap.size → o ≤ 40 → typeN n (toks.drop i) o = some res → Calls Tryd.prog 38 #[.slice (some ⟨g, 0, none⟩) toks.length cap, .int .i64 i, .int .i64 o] w (XRes toks res w)
def closeG : Got → Option Got
  | .ok x (c :: s) => if isSym c [41] = true then some (Got.ok x s) else some (.no 12 c.place)
  | .ok _ [] => none
  | .no e p => some (.no e p)
theorem leaf_ty (P : Nat → Prop) (w : World) (t : Ty) (h : t.args = []) : TyAt P w t (.agg #[.int .i64 t.form, .int .i64 t.num, .string t.name, .slice none 0 0]) := by
  have := ty_leaf P w t h none 0 (Nat.zero_le _)
  exact this
set_option maxRecDepth 100000 in
set_option maxHeartbeats 1000000 in
theorem atomX_of (toks : List Tok) (g cap n : Nat) (ih : TypeX toks g cap n) (hl : toks.length ≤ 1099511627776) : AtomX toks g cap (n + 1) := by
  intro i o w res hT hg ho hres
  cases hd : toks.drop i with
  | nil => rw [hd] at hres; simp [atomN] at hres
  | cons t q =>
  rw [hd] at hres
  obtain ⟨hi, ht, hdq, hlen⟩ := drop_at hd
  obtain ⟨W, eW, k0, b1, z1⟩ := box9 w (.int .i64 0) (.int .i64 0) (.string ⟨#[]⟩) (.slice none 0 0) (.slice none 0 0) (.slice none 0 0) (.int .i64 0) (.int .i64 0) (.int .i64 0) 62
  have hTW := hT.block (b1.block g hg)
  have hgW : g < W.heap.size := by omega
  obtain ⟨c0, c1, c2, c3⟩ := hTW i hi
  rw [ht] at c0 c1 c2 c3
  have HT9 := Lib.hid ht
  have HEW := Lib.hid eW
  have HB := Lib.hid b1
  have HK0 := Lib.hid k0
  have HZ1 := Lib.hid z1
  have HTW := Lib.hid hTW
  have hiI : (i : Int) < (toks.length : Int) := by omega
  have hi0 : (0 : Int) ≤ (i : Int) := by omega
  have hi40 : (i : Int) ≤ 1099511627776 := by omega
  have hi2 : ((toks.length - q.length : Nat) : Int) = (i : Int) + 1 := by omega
  have hTY : ∀ y, Below W.heap.size W y → TokC y g toks ∧ g < y.heap.size ∧ y.heap[w.heap.size]? = some (.cells #[.int .i64 0, .int .i64 0, .string ⟨#[]⟩, .slice none 0 0, .slice none 0 0, .slice none 0 0, .int .i64 0, .int .i64 0, .int .i64 0] 62) ∧ Below w.heap.size w y := fun y hb =>
    ⟨HTW.out.block (hb.block g hgW), Nat.lt_of_lt_of_le hgW hb.size, (hb.block _ (by omega)).trans HK0.out, HB.out.trans (hb.mono HB.out.size)⟩
  have HTY := Lib.hid hTY
  clear eW b1 k0 z1 hTW hT hTY
  by_cases h2 : t.kind = 2
  · have hr2 : res = .ok (.con (mkB t.text)) q := by simp only [atomN, if_pos h2, Option.some.injEq] at hres; exact hres.symm
    subst hr2
    have hk : (t.kind : Int) = 2 := by omega
    obtain ⟨u0, u1, u2, u3, u4, u5, u6, u7, u8, f0, f1, f2, f3, f4, f5, f6, f7, f8, hw0⟩ := nine_cells HK0.out
    have HE := Lib.hid (x_ok (toks := toks) (q := q) hi2.symm (leaf_ty (fun b => w.heap.size + 1 ≤ b) W (.con (mkB t.text)) rfl) HB.out (.int .i64 3) (.int .i64 0) (.string (mkB t.text)) (.slice none 0 0) (.slice none 0 0) (.slice none 0 0) (.int .i64 ((i : Int) + 1)) (.int .i64 0) (.int .i64 0))
    clear hres hd ht hdq
    generalize (t.kind : Int) = tk at *
    subst hk
    go_enter Tryd.func40, Tryd.ntmps40
    go_upto_region 1 with (fail)
    rw [HEW.out]
    go_wp2_with fail
    exact bodyPost_ret (v := .agg #[.int .i64 3, .int .i64 0, .string (mkB t.text), .slice none 0 0, .slice none 0 0, .slice none 0 0, .int .i64 ((i : Int) + 1), .int .i64 0, .int .i64 0]) (by simp [results, Tryd.results40, go_sem, u0, u1, u2, u3, u4, u5, u6, u7, u8]) rfl HE.out
  · have hk2 : ((t.kind : Int) == 2) = false := by rw [beq_eq_false_iff_ne]; omega
    by_cases h1 : t.kind = 1
    · have hr1 : res = .ok (.var (mkB t.text)) q := by simp only [atomN, if_neg h2, if_pos h1, Option.some.injEq] at hres; exact hres.symm
      subst hr1
      have hk : (t.kind : Int) = 1 := by omega
      obtain ⟨u0, u1, u2, u3, u4, u5, u6, u7, u8, f0, f1, f2, f3, f4, f5, f6, f7, f8, hw0⟩ := nine_cells HK0.out
      have HE := Lib.hid (x_ok (toks := toks) (q := q) hi2.symm (leaf_ty (fun b => w.heap.size + 1 ≤ b) W (.var (mkB t.text)) rfl) HB.out (.int .i64 2) (.int .i64 0) (.string (mkB t.text)) (.slice none 0 0) (.slice none 0 0) (.slice none 0 0) (.int .i64 ((i : Int) + 1)) (.int .i64 0) (.int .i64 0))
      clear hres hd ht hdq hk2
      generalize (t.kind : Int) = tk at *
      subst hk
      go_enter Tryd.func40, Tryd.ntmps40
      go_upto_region 1 with (fail)
      rw [HEW.out]
      go_wp2_with fail
      exact bodyPost_ret (v := .agg #[.int .i64 2, .int .i64 0, .string (mkB t.text), .slice none 0 0, .slice none 0 0, .slice none 0 0, .int .i64 ((i : Int) + 1), .int .i64 0, .int .i64 0]) (by simp [results, Tryd.results40, go_sem, u0, u1, u2, u3, u4, u5, u6, u7, u8]) rfl HE.out
    · have hk1 : ((t.kind : Int) == 1) = false := by rw [beq_eq_false_iff_ne]; omega
      have HIS : Hid (Calls Tryd.prog 87 #[.agg #[.int .i64 t.kind, .string (mkB t.text), .int .i64 t.num, .int .i64 t.place], .string ⟨#[40]⟩] W fun e w' => e = .returned (.bool (isSym t [40])) ∧ Below W.heap.size W w') := is_any t [40] W
      have HBD := Lib.hid (fun n y => bad_any n t y)
      cases hq : isSym t [40] with
      | false =>
        rw [hq] at HIS
        have hrn : res = .no 12 t.place := by
          simp only [atomN, if_neg h2, if_neg h1, hq, if_true, Option.some.injEq] at hres; exact hres.symm
        subst hrn
        have HBW := Lib.hid (HBD.out 12)
        clear hres hd ht hdq hq HBD
        go_enter Tryd.func40, Tryd.ntmps40
        go_upto_region 1 with (fail)
        rw [HEW.out]
        go_wp2_with fail
        (with_reducible refine HIS.out.mono ?_)
        rintro e1 y ⟨rfl, hb⟩
        obtain ⟨hTy, hgy, hky, hby⟩ := HTY.out y hb
        obtain ⟨d0, d1, d2, d3⟩ := hTy i hi
        rw [HT9.out] at d0 d1 d2 d3
        have HBY := Lib.hid (HBW.out y)
        have HKY := Lib.hid hky
        have HBB := Lib.hid hby
        have hwy := lt_of_block hky
        clear hTy hb hky hby c0 c1 c2 c3
        go_wp2_with fail
        (with_reducible refine HBY.out.mono ?_)
        rintro e2 z ⟨rfl, hbz⟩
        obtain ⟨u0, u1, u2, u3, u4, u5, u6, u7, u8, f0, f1, f2, f3, f4, f5, f6, f7, f8, hw0⟩ := nine_cells ((hbz.block _ hwy).trans HKY.out)
        have HE := Lib.hid (x_no (toks := toks) (ec := 12) (p := t.place) (HBB.out.trans (hbz.mono HBB.out.size)) (.int .i64 0) (.int .i64 0) (.string ⟨#[]⟩) (.slice none 0 0) (.slice none 0 0) (.slice none 0 0) (.int .i64 0) (.int .i64 12) (.int .i64 t.place))
        clear hbz
        go_wp2_with fail
        exact bodyPost_ret (v := .agg #[.int .i64 0, .int .i64 0, .string ⟨#[]⟩, .slice none 0 0, .slice none 0 0, .slice none 0 0, .int .i64 0, .int .i64 12, .int .i64 t.place]) (by simp [results, Tryd.results40, go_sem, u0, u1, u2, u3, u4, u5, u6, u7, u8]) rfl HE.out
      | true =>
        rw [hq] at HIS
        by_cases ho4 : 40 ≤ o
        · have hrn : res = .no 13 t.place := by
            simp only [atomN, if_neg h2, if_neg h1, hq, if_pos ho4] at hres
            simpa using hres.symm
          subst hrn
          have HBW := Lib.hid (HBD.out 13)
          have hoI : (40 : Int) ≤ (o : Int) := by omega
          clear hres hd ht hdq hq HBD
          go_enter Tryd.func40, Tryd.ntmps40
          go_upto_region 1 with (fail)
          rw [HEW.out]
          go_wp2_with fail
          (with_reducible refine HIS.out.mono ?_)
          rintro e1 y ⟨rfl, hb⟩
          obtain ⟨hTy, hgy, hky, hby⟩ := HTY.out y hb
          obtain ⟨d0, d1, d2, d3⟩ := hTy i hi
          rw [HT9.out] at d0 d1 d2 d3
          have HBY := Lib.hid (HBW.out y)
          have HKY := Lib.hid hky
          have HBB := Lib.hid hby
          have hwy := lt_of_block hky
          clear hTy hb hky hby c0 c1 c2 c3
          go_wp2_with fail
          (with_reducible refine HBY.out.mono ?_)
          rintro e2 z ⟨rfl, hbz⟩
          obtain ⟨u0, u1, u2, u3, u4, u5, u6, u7, u8, f0, f1, f2, f3, f4, f5, f6, f7, f8, hw0⟩ := nine_cells ((hbz.block _ hwy).trans HKY.out)
          have HE := Lib.hid (x_no (toks := toks) (ec := 13) (p := t.place) (HBB.out.trans (hbz.mono HBB.out.size)) (.int .i64 0) (.int .i64 0) (.string ⟨#[]⟩) (.slice none 0 0) (.slice none 0 0) (.slice none 0 0) (.int .i64 0) (.int .i64 13) (.int .i64 t.place))
          clear hbz
          go_wp2_with fail
          exact bodyPost_ret (v := .agg #[.int .i64 0, .int .i64 0, .string ⟨#[]⟩, .slice none 0 0, .slice none 0 0, .slice none 0 0, .int .i64 0, .int .i64 13, .int .i64 t.place]) (by simp [results, Tryd.results40, go_sem, u0, u1, u2, u3, u4, u5, u6, u7, u8]) rfl HE.out
        · have hoI : ¬ (40 : Int) ≤ (o : Int) := by omega
          obtain ⟨r2, hr2⟩ : ∃ r2, typeN n q (o + 1) = some r2 := by
            cases ha : typeN n q (o + 1) with
            | none => simp [atomN, if_neg h2, if_neg h1, hq, if_neg ho4, ha] at hres
            | some r2 => exact ⟨r2, rfl⟩
          have hres2 : closeG r2 = some res := by
            simp only [atomN, if_neg h2, if_neg h1, hq, if_neg ho4, hr2] at hres
            rw [if_neg (by simp)] at hres
            rw [← hres]
            unfold closeG
            cases r2 with
            | no e p => rfl
            | ok x s => cases s <;> rfl
          have herr := fun e p (h : r2 = .no e p) => (err_all n).2.2 _ _ e p (hr2.trans (by rw [h]))
          have hsf := fun x s (h : r2 = .ok x s) => (suff_all n).2.2 _ _ x s (hr2.trans (by rw [h]))
          rw [← hdq] at hr2
          have HIH : Hid (∀ y, Below W.heap.size W y → Calls Tryd.prog 38 #[.slice (some ⟨g, 0, none⟩) toks.length cap, .int .i64 ((i : Int) + 1), .int .i64 ((o : Int) + 1)] y (XRes toks r2 y)) := fun y hb => by
            have h9 := ih (i + 1) (o + 1) y r2 (HTY.out y hb).1 (HTY.out y hb).2.1 (by omega) hr2
            rw [show (((i + 1 : Nat)) : Int) = (i : Int) + 1 by push_cast; rfl, show (((o + 1 : Nat)) : Int) = (o : Int) + 1 by push_cast; rfl] at h9
            exact h9
          clear hres hr2 hq
          go_enter Tryd.func40, Tryd.ntmps40
          go_upto_region 1 with (fail)
          rw [HEW.out]
          go_wp2_with fail
          (with_reducible refine HIS.out.mono ?_)
          rintro e1 y ⟨rfl, hb⟩
          have HBY := Lib.hid hb
          have HC := Lib.hid (HIH.out y hb)
          clear hb c0 c1 c2 c3
          go_wp2_with fail
          (with_reducible refine HC.out.mono ?_)
          intro e2 z hz
          cases r2 with
          | no e p =>
            obtain ⟨rfl, hbz⟩ := hz
            simp only [closeG, Option.some.injEq] at hres2
            subst hres2
            have he := herr e p rfl
            have he0 : ((e : Int) == 0) = false := by rw [beq_eq_false_iff_ne]; omega
            obtain ⟨Z, eZ, k1, b2, z2⟩ := box9 z (.int .i64 0) (.int .i64 0) (.string ⟨#[]⟩) (.slice none 0 0) (.slice none 0 0) (.slice none 0 0) (.int .i64 0) (.int .i64 e) (.int .i64 p) 62
            have hbZ := HBY.out.trans ((hbz.trans (b2.mono hbz.size)).mono HBY.out.size)
            obtain ⟨_, _, hkZ, hbw⟩ := HTY.out Z hbZ
            obtain ⟨v0, v1, v2, v3, v4, v5, v6, v7, v8, _⟩ := nine_cells k1
            obtain ⟨u0, u1, u2, u3, u4, u5, u6, u7, u8, f0, f1, f2, f3, f4, f5, f6, f7, f8, hw0⟩ := nine_cells hkZ
            have hne : w.heap.size < z.heap.size := by have := HBY.out.size; have := hbz.size; have := HZ1.out; omega
            have HEZ := Lib.hid eZ
            have HE := Lib.hid (x_no (toks := toks) (ec := e) (p := p) hbw (.int .i64 0) (.int .i64 0) (.string ⟨#[]⟩) (.slice none 0 0) (.slice none 0 0) (.slice none 0 0) (.int .i64 0) (.int .i64 e) (.int .i64 p))
            clear hbz eZ k1 b2 hbZ hkZ hbw herr hsf
            go_upto_region 11 with (fail)
            rw [HEZ.out]
            go_wp2_with fail
            exact bodyPost_ret (v := .agg #[.int .i64 0, .int .i64 0, .string ⟨#[]⟩, .slice none 0 0, .slice none 0 0, .slice none 0 0, .int .i64 0, .int .i64 e, .int .i64 p]) (by simp [results, Tryd.results40, go_sem, u0, u1, u2, u3, u4, u5, u6, u7, u8]) rfl HE.out
          | ok x s =>
            obtain ⟨f1, n1, s1, A1, l1, c1, rfl, hty, hbz⟩ := hz
            have hs9 := hsf x s rfl
            match s, hs9, hres2, hty with
            | [], hs9, _, _ => exact absurd rfl hs9.2.2
            | c :: s, hs9, hres2, hty =>
            have hdc : toks.drop (toks.length - (c :: s).length) = c :: s := drop_suf (i := i + 1) (by rw [hdq]; exact hs9.1)
            obtain ⟨hci, hct, hcd, hcl⟩ := drop_at hdc
            have hplace : toks.length - (c :: s).length + 1 = toks.length - s.length := hcl.symm
            generalize hP : toks.length - (c :: s).length = P at *
            obtain ⟨Z, eZ, k1, b2, z2⟩ := box9 z (.int .i64 f1) (.int .i64 n1) (.string s1) (.slice A1 l1 c1) (.slice none 0 0) (.slice none 0 0) (.int .i64 P) (.int .i64 0) (.int .i64 0) 62
            have hbZ := HBY.out.trans ((hbz.trans (b2.mono hbz.size)).mono HBY.out.size)
            have hne : w.heap.size < z.heap.size := by have := HBY.out.size; have := hbz.size; have := HZ1.out; omega
            have hyz : y.heap.size ≤ z.heap.size := hbz.size
            have hwy1 : w.heap.size + 1 ≤ y.heap.size := by have := HBY.out.size; have := HZ1.out; omega
            obtain ⟨hTZ, hgZ, hkZ, hbw⟩ := HTY.out Z hbZ
            obtain ⟨d0, d1, d2, d3⟩ := hTZ P hci
            rw [hct] at d0 d1 d2 d3
            obtain ⟨v0, v1, v2, v3, v4, v5, v6, v7, v8, _⟩ := nine_cells k1
            have HIS2 : Hid (Calls Tryd.prog 87 #[.agg #[.int .i64 c.kind, .string (mkB c.text), .int .i64 c.num, .int .i64 c.place], .string ⟨#[41]⟩] Z fun e w' => e = .returned (.bool (isSym c [41])) ∧ Below Z.heap.size Z w') := is_any c [41] Z
            have HEZ := Lib.hid eZ
            have HK1 := Lib.hid k1
            have HKZ := Lib.hid hkZ
            have HBZ := Lib.hid hbZ
            have HBw := Lib.hid hbw
            have HTYZ := Lib.hid ((hty.bound.mono (Q := fun b => w.heap.size + 1 ≤ b ∧ b ≠ z.heap.size) (fun b hb => ⟨by have := hb.1; omega, by have := hb.2; omega⟩)).on b2)
            have HZ2 := Lib.hid z2
            have hPI : (P : Int) < (toks.length : Int) := by omega
            have hP0 : (0 : Int) ≤ (P : Int) := by omega
            have hgz : g < z.heap.size := by have := HBY.out.size; omega
            have HCT := Lib.hid hct
            have HPL := Lib.hid hplace
            simp only [closeG] at hres2
            have HTZc := Lib.hid hTZ
            clear hbz eZ k1 b2 hbZ hkZ hbw herr hsf hs9 hty hTZ hdc hcd hcl hP hct hplace
            go_upto_region 11 with (fail)
            rw [HEZ.out]
            go_wp2_with fail
            (with_reducible refine HIS2.out.mono ?_)
            rintro e3 v ⟨rfl, hbv⟩
            have hTv := HTZc.out.block (w' := v) (hbv.block g (by omega))
            obtain ⟨d0, d1, d2, d3⟩ := hTv P hci
            rw [HCT.out] at d0 d1 d2 d3
            obtain ⟨v0, v1, v2, v3, v4, v5, v6, v7, v8, j0, j1, j2, j3, j4, j5, j6, j7, j8, hj⟩ := nine_cells ((hbv.block _ (by omega)).trans HK1.out)
            have HKv := Lib.hid ((hbv.block _ (by omega)).trans HKZ.out)
            have HBv := Lib.hid (HBw.out.trans (hbv.mono HBw.out.size))
            have HTv := Lib.hid (HTYZ.out.on hbv)
            have hgv : g < v.heap.size := by have := hbv.size; omega
            have hKb := (hbv.block z.heap.size (by omega)).trans HK1.out
            have HKb := Lib.hid hKb
            cases hq2 : isSym c [41] with
            | false =>
              rw [hq2] at hres2
              simp only [Bool.false_eq_true, if_false, Option.some.injEq] at hres2
              subst hres2
              have HBY3 : Hid (Calls Tryd.prog 90 #[.agg #[.int .i64 c.kind, .string (mkB c.text), .int .i64 c.num, .int .i64 c.place], .int .i64 12] v fun e w' => e = .returned (.agg #[.int .i64 0, .int .i64 0, .string ⟨#[]⟩, .slice none 0 0, .slice none 0 0, .slice none 0 0, .int .i64 0, .int .i64 12, .int .i64 c.place]) ∧ Below v.heap.size v w') := bad_any 12 c v
              clear hbv hTv hKb hq2
              go_wp2_with fail
              (with_reducible refine HBY3.out.mono ?_)
              rintro e4 u ⟨rfl, hbu⟩
              obtain ⟨u0, u1, u2, u3, u4, u5, u6, u7, u8, f0, f1, f2, f3, f4, f5, f6, f7, f8, hw0⟩ := nine_cells ((hbu.block _ (by omega)).trans HKv.out)
              have HE := Lib.hid (x_no (toks := toks) (ec := 12) (p := c.place) (HBv.out.trans (hbu.mono HBv.out.size)) (.int .i64 0) (.int .i64 0) (.string ⟨#[]⟩) (.slice none 0 0) (.slice none 0 0) (.slice none 0 0) (.int .i64 0) (.int .i64 12) (.int .i64 c.place))
              clear hbu
              go_wp2_with fail
              exact bodyPost_ret (v := .agg #[.int .i64 0, .int .i64 0, .string ⟨#[]⟩, .slice none 0 0, .slice none 0 0, .slice none 0 0, .int .i64 0, .int .i64 12, .int .i64 c.place]) (by simp [results, Tryd.results40, go_sem, u0, u1, u2, u3, u4, u5, u6, u7, u8]) rfl HE.out
            | true =>
              rw [hq2] at hres2
              simp only [if_true, Option.some.injEq] at hres2
              subst hres2
              obtain ⟨U, eU⟩ : ∃ U, v.setCell ⟨z.heap.size, 6, none⟩ (.int .i64 ((P : Int) + 1)) = U := ⟨_, rfl⟩
              have hUn : ∀ k, k ≠ z.heap.size → U.heap[k]? = v.heap[k]? := fun k hk => by rw [← eU]; exact Below.heap_setCell _ _ _ _ hk
              have hUb : U.heap[z.heap.size]? = some (.cells #[.int .i64 f1, .int .i64 n1, .string s1, .slice A1 l1 c1, .slice none 0 0, .slice none 0 0, .int .i64 ((P : Int) + 1), .int .i64 0, .int .i64 0] 62) := by rw [← eU]; exact heap_setCell_same _ z.heap.size 6 _ _ _ hKb
              have hUs : U.heap.size = v.heap.size := by rw [← eU]; simp
              obtain ⟨u0, u1, u2, u3, u4, u5, u6, u7, u8, f0, f1', f2, f3, f4, f5, f6, f7, f8, hw0⟩ := nine_cells ((hUn _ (by omega)).trans HKv.out)
              obtain ⟨m0, m1, m2, m3, m4, m5, m6, m7, m8, _⟩ := nine_cells hUb
              have hUB : Below w.heap.size w U := by rw [← eU]; exact HBv.out.setCell (by show w.heap.size ≤ z.heap.size; omega) _
              have hUT : TyAt (fun b => w.heap.size + 1 ≤ b) U x (.agg #[.int .i64 f1, .int .i64 n1, .string s1, .slice A1 l1 c1]) := by
                exact (HTv.out.keep ⟨by omega, fun b off hb _ => World.cell?_of_block (a := ⟨b, off, none⟩) (hUn b hb.2)⟩).mono (fun b hb => hb.1)
              have HE := Lib.hid (x_ok (toks := toks) (t := x) (q := s) (i := (P : Int) + 1) (by rw [← HPL.out]; push_cast; rfl) hUT hUB (.int .i64 f1) (.int .i64 n1) (.string s1) (.slice A1 l1 c1) (.slice none 0 0) (.slice none 0 0) (.int .i64 ((P : Int) + 1)) (.int .i64 0) (.int .i64 0))
              have HEU := Lib.hid eU
              clear hbv hTv hKb hq2 eU hUn hUb hUB hUT
              go_upto_region 17 with (fail)
              rw [HEU.out]
              go_wp2_with fail
              exact bodyPost_ret (v := .agg #[.int .i64 f1, .int .i64 n1, .string s1, .slice A1 l1 c1, .slice none 0 0, .slice none 0 0, .int .i64 ((P : Int) + 1), .int .i64 0, .int .i64 0]) (by simp [results, Tryd.results40, go_sem, u0, u1, u2, u3, u4, u5, u6, u7, u8]) rfl HE.out
end Go.Proofs.YtbdfjboojokgdaaDoor
