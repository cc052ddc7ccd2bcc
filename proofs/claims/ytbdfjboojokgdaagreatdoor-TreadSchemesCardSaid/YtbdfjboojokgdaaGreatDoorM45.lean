/- The document's reading of types in memory (chapter 5): what it tells, and the contracts of Is, Bad, begins. No conditions. The contract of the document's Atom (chapter 5). Condition: at most 2^40 tokens. The contract of the document's Type (chapter 5). Condition: at most 2^40 tokens. -/
import Derived.Test.YtbdfjboojokgdaaGreatDoorM30
namespace Go.Proofs.YtbdfjboojokgdaaGreatDoor
open Go.RowKit Lx

/-- The nine cells of what is read, stored. -/
def putX (w : World) (b : Nat) (x0 x1 x2 x3 x4 x5 x6 x7 x8 : Value) : World :=
  ((((((((w.setCell ⟨b, 0, none⟩ x0).setCell ⟨b, 1, none⟩ x1).setCell ⟨b, 2, none⟩ x2).setCell ⟨b, 3, none⟩ x3).setCell ⟨b, 4, none⟩ x4).setCell ⟨b, 5, none⟩ x5).setCell ⟨b, 6, none⟩ x6).setCell ⟨b, 7, none⟩ x7).setCell ⟨b, 8, none⟩ x8
theorem putX_ne (w : World) (b : Nat) (x0 x1 x2 x3 x4 x5 x6 x7 x8 : Value) (k : Nat) (hb : k ≠ b) : (putX w b x0 x1 x2 x3 x4 x5 x6 x7 x8).heap[k]? = w.heap[k]? := by
  unfold putX
  rw [Below.heap_setCell _ _ _ _ hb, Below.heap_setCell _ _ _ _ hb, Below.heap_setCell _ _ _ _ hb, Below.heap_setCell _ _ _ _ hb, Below.heap_setCell _ _ _ _ hb, Below.heap_setCell _ _ _ _ hb, Below.heap_setCell _ _ _ _ hb, Below.heap_setCell _ _ _ _ hb, Below.heap_setCell _ _ _ _ hb]
theorem putX_size (w : World) (b : Nat) (x0 x1 x2 x3 x4 x5 x6 x7 x8 : Value) : (putX w b x0 x1 x2 x3 x4 x5 x6 x7 x8).heap.size = w.heap.size := by simp [putX]
theorem putX_below {B : Nat} {w w' : World} {k : Nat} (h : Below B w w') (hk : B ≤ k) (x0 x1 x2 x3 x4 x5 x6 x7 x8 : Value) : Below B w (putX w' k x0 x1 x2 x3 x4 x5 x6 x7 x8) := by
  unfold putX
  exact ((((((((h.setCell hk _).setCell hk _).setCell hk _).setCell hk _).setCell hk _).setCell hk _).setCell hk _).setCell hk _).setCell hk _
theorem putX_self {w : World} {b : Nat} {y0 y1 y2 y3 y4 y5 y6 y7 y8 : Value} {t : TypeId} (h : w.heap[b]? = some (.cells #[y0, y1, y2, y3, y4, y5, y6, y7, y8] t)) (x0 x1 x2 x3 x4 x5 x6 x7 x8 : Value) : (putX w b x0 x1 x2 x3 x4 x5 x6 x7 x8).heap[b]? = some (.cells #[x0, x1, x2, x3, x4, x5, x6, x7, x8] t) := by
  unfold putX
  have h0 : (w.setCell ⟨b, 0, none⟩ x0).heap[b]? = some (.cells #[x0, y1, y2, y3, y4, y5, y6, y7, y8] t) := heap_setCell_same _ b 0 _ t x0 h
  have h1 : ((w.setCell ⟨b, 0, none⟩ x0).setCell ⟨b, 1, none⟩ x1).heap[b]? = some (.cells #[x0, x1, y2, y3, y4, y5, y6, y7, y8] t) := heap_setCell_same _ b 1 _ t x1 h0
  have h2 : (((w.setCell ⟨b, 0, none⟩ x0).setCell ⟨b, 1, none⟩ x1).setCell ⟨b, 2, none⟩ x2).heap[b]? = some (.cells #[x0, x1, x2, y3, y4, y5, y6, y7, y8] t) := heap_setCell_same _ b 2 _ t x2 h1
  have h3 : ((((w.setCell ⟨b, 0, none⟩ x0).setCell ⟨b, 1, none⟩ x1).setCell ⟨b, 2, none⟩ x2).setCell ⟨b, 3, none⟩ x3).heap[b]? = some (.cells #[x0, x1, x2, x3, y4, y5, y6, y7, y8] t) := heap_setCell_same _ b 3 _ t x3 h2
  have h4 : (((((w.setCell ⟨b, 0, none⟩ x0).setCell ⟨b, 1, none⟩ x1).setCell ⟨b, 2, none⟩ x2).setCell ⟨b, 3, none⟩ x3).setCell ⟨b, 4, none⟩ x4).heap[b]? = some (.cells #[x0, x1, x2, x3, x4, y5, y6, y7, y8] t) := heap_setCell_same _ b 4 _ t x4 h3
  have h5 : ((((((w.setCell ⟨b, 0, none⟩ x0).setCell ⟨b, 1, none⟩ x1).setCell ⟨b, 2, none⟩ x2).setCell ⟨b, 3, none⟩ x3).setCell ⟨b, 4, none⟩ x4).setCell ⟨b, 5, none⟩ x5).heap[b]? = some (.cells #[x0, x1, x2, x3, x4, x5, y6, y7, y8] t) := heap_setCell_same _ b 5 _ t x5 h4
  have h6 : (((((((w.setCell ⟨b, 0, none⟩ x0).setCell ⟨b, 1, none⟩ x1).setCell ⟨b, 2, none⟩ x2).setCell ⟨b, 3, none⟩ x3).setCell ⟨b, 4, none⟩ x4).setCell ⟨b, 5, none⟩ x5).setCell ⟨b, 6, none⟩ x6).heap[b]? = some (.cells #[x0, x1, x2, x3, x4, x5, x6, y7, y8] t) := heap_setCell_same _ b 6 _ t x6 h5
  have h7 : ((((((((w.setCell ⟨b, 0, none⟩ x0).setCell ⟨b, 1, none⟩ x1).setCell ⟨b, 2, none⟩ x2).setCell ⟨b, 3, none⟩ x3).setCell ⟨b, 4, none⟩ x4).setCell ⟨b, 5, none⟩ x5).setCell ⟨b, 6, none⟩ x6).setCell ⟨b, 7, none⟩ x7).heap[b]? = some (.cells #[x0, x1, x2, x3, x4, x5, x6, x7, y8] t) := heap_setCell_same _ b 7 _ t x7 h6
  have h8 : (((((((((w.setCell ⟨b, 0, none⟩ x0).setCell ⟨b, 1, none⟩ x1).setCell ⟨b, 2, none⟩ x2).setCell ⟨b, 3, none⟩ x3).setCell ⟨b, 4, none⟩ x4).setCell ⟨b, 5, none⟩ x5).setCell ⟨b, 6, none⟩ x6).setCell ⟨b, 7, none⟩ x7).setCell ⟨b, 8, none⟩ x8).heap[b]? = some (.cells #[x0, x1, x2, x3, x4, x5, x6, x7, x8] t) := heap_setCell_same _ b 8 _ t x8 h7
  exact h8
theorem putX_ty {w : World} {t : Ty} {v : Value} {k c : Nat} (h : TyAt (fun b => c ≤ b) w t v) (hk : k < c) (x0 x1 x2 x3 x4 x5 x6 x7 x8 : Value) : TyAt (fun b => c ≤ b) (putX w k x0 x1 x2 x3 x4 x5 x6 x7 x8) t v :=
  h.keep ⟨by rw [putX_size]; exact Nat.le_refl _, fun b off (hb : c ≤ b) _ => World.cell?_of_block (a := ⟨b, off, none⟩) (putX_ne w k x0 x1 x2 x3 x4 x5 x6 x7 x8 b (by omega))⟩
theorem nine_cells {w : World} {b : Nat} {v0 v1 v2 v3 v4 v5 v6 v7 v8 : Value} {t : TypeId} (h : w.heap[b]? = some (.cells #[v0, v1, v2, v3, v4, v5, v6, v7, v8] t)) : w.cell? ⟨b, 0, none⟩ = some v0 ∧ w.cell? ⟨b, 1, none⟩ = some v1 ∧ w.cell? ⟨b, 2, none⟩ = some v2 ∧ w.cell? ⟨b, 3, none⟩ = some v3 ∧ w.cell? ⟨b, 4, none⟩ = some v4 ∧ w.cell? ⟨b, 5, none⟩ = some v5 ∧ w.cell? ⟨b, 6, none⟩ = some v6 ∧ w.cell? ⟨b, 7, none⟩ = some v7 ∧ w.cell? ⟨b, 8, none⟩ = some v8 ∧ w.frozen? ⟨b, 0, none⟩ = false ∧ w.frozen? ⟨b, 1, none⟩ = false ∧ w.frozen? ⟨b, 2, none⟩ = false ∧ w.frozen? ⟨b, 3, none⟩ = false ∧ w.frozen? ⟨b, 4, none⟩ = false ∧ w.frozen? ⟨b, 5, none⟩ = false ∧ w.frozen? ⟨b, 6, none⟩ = false ∧ w.frozen? ⟨b, 7, none⟩ = false ∧ w.frozen? ⟨b, 8, none⟩ = false ∧ b < w.heap.size :=
  ⟨by simp [World.cell?, h], by simp [World.cell?, h], by simp [World.cell?, h], by simp [World.cell?, h], by simp [World.cell?, h], by simp [World.cell?, h], by simp [World.cell?, h], by simp [World.cell?, h], by simp [World.cell?, h], by simp [World.frozen?, h], by simp [World.frozen?, h], by simp [World.frozen?, h], by simp [World.frozen?, h], by simp [World.frozen?, h], by simp [World.frozen?, h], by simp [World.frozen?, h], by simp [World.frozen?, h], by simp [World.frozen?, h], lt_of_block h⟩
theorem box9 (w : World) (x0 x1 x2 x3 x4 x5 x6 x7 x8 : Value) (t : TypeId) : ∃ W, w.alloc (.cells #[x0, x1, x2, x3, x4, x5, x6, x7, x8] t) = W ∧ W.heap[w.heap.size]? = some (.cells #[x0, x1, x2, x3, x4, x5, x6, x7, x8] t) ∧ Below w.heap.size w W ∧ W.heap.size = w.heap.size + 1 :=
  ⟨_, rfl, (MapKept.heap_alloc w _).1, below_new w _, by simp⟩
/-- What the document's Type and Atom tell. -/
def XRes (toks : List Tok) (res : Got) (w : World) (e : Ending) (w' : World) : Prop :=
  match res with
  | .ok t q => ∃ f n s A l c, e = .returned (.agg #[.int .i64 f, .int .i64 n, .string s, .slice A l c, .slice none 0 0, .slice none 0 0, .int .i64 ((toks.length - q.length : Nat) : Int), .int .i64 0, .int .i64 0]) ∧ TyAt (fun b => w.heap.size ≤ b) w' t (.agg #[.int .i64 f, .int .i64 n, .string s, .slice A l c]) ∧ Below w.heap.size w w'
  | .no ec p => e = .returned (.agg #[.int .i64 0, .int .i64 0, .string ⟨#[]⟩, .slice none 0 0, .slice none 0 0, .slice none 0 0, .int .i64 0, .int .i64 ec, .int .i64 p]) ∧ Below w.heap.size w w'
theorem x_no {toks : List Tok} {w W : World} {ec p : Nat} (hb : Below w.heap.size w W) (x0 x1 x2 x3 x4 x5 x6 x7 x8 : Value) : XRes toks (.no ec p) w (.returned (.agg #[.int .i64 0, .int .i64 0, .string ⟨#[]⟩, .slice none 0 0, .slice none 0 0, .slice none 0 0, .int .i64 0, .int .i64 ec, .int .i64 p])) (putX W w.heap.size x0 x1 x2 x3 x4 x5 x6 x7 x8) :=
  ⟨rfl, putX_below hb (Nat.le_refl _) x0 x1 x2 x3 x4 x5 x6 x7 x8⟩
theorem x_ok {toks : List Tok} {w W : World} {t : Ty} {q : List Tok} {f n : Int} {s : ByteArray} {A : Option Addr} {l c : Nat} {i : Int} (hi : i = ((toks.length - q.length : Nat) : Int)) (ht : TyAt (fun b => w.heap.size + 1 ≤ b) W t (.agg #[.int .i64 f, .int .i64 n, .string s, .slice A l c])) (hb : Below w.heap.size w W) (x0 x1 x2 x3 x4 x5 x6 x7 x8 : Value) : XRes toks (.ok t q) w (.returned (.agg #[.int .i64 f, .int .i64 n, .string s, .slice A l c, .slice none 0 0, .slice none 0 0, .int .i64 i, .int .i64 0, .int .i64 0])) (putX W w.heap.size x0 x1 x2 x3 x4 x5 x6 x7 x8) :=
  ⟨f, n, s, A, l, c, by rw [hi], (putX_ty ht (Nat.lt_succ_self _) x0 x1 x2 x3 x4 x5 x6 x7 x8).mono (fun b (hb : w.heap.size + 1 ≤ b) => (by omega : w.heap.size ≤ b)), putX_below hb (Nat.le_refl _) x0 x1 x2 x3 x4 x5 x6 x7 x8⟩
theorem is_eq (t : Tok) (x : List UInt8) : (((t.kind : Int) == 4) && ((mkB t.text).toList == (mkB x).toList)) = isSym t x := by
  rw [mkB_list, mkB_list]
  unfold isSym
  by_cases hk : t.kind = 4
  · simp [hk]
  · have h1 : ((t.kind : Int) == 4) = false := by rw [beq_eq_false_iff_ne]; omega
    have h2 : (t.kind == 4) = false := by simpa using hk
    rw [h1, h2]
set_option maxRecDepth 100000 in
set_option maxHeartbeats 1000000 in
theorem is_any (t : Tok) (x : List UInt8) (w : World) : Calls Tryz.prog 47 #[.agg #[.int .i64 t.kind, .string (mkB t.text), .int .i64 t.num, .int .i64 t.place], .string (mkB x)] w fun e w' => e = .returned (.bool (isSym t x)) ∧ Below w.heap.size w w' := by
  have HE := Lib.hid (is_eq t x)
  obtain ⟨W, eW, q1, b1, z1⟩ := one_box w (.int .i64 t.kind) (.string (mkB t.text)) (.int .i64 t.num) (.int .i64 t.place) 62
  have HEW := Lib.hid eW
  have HB := Lib.hid b1
  obtain ⟨x0, x1, x2, x3, x4, _⟩ := q1
  clear eW b1
  generalize isSym t x = r at *
  generalize (t.kind : Int) = tk at *
  generalize mkB t.text = tx at *
  generalize t.num = tn at *
  generalize t.place = tp at *
  generalize mkB x = xx at *
  by_cases hk : tk = 4
  · subst hk
    go_enter Tryz.func47, Tryz.ntmps47
    go_upto_region 1 with (fail)
    rw [HEW.out]
    go_wp2_with fail
    go_ret
    exact ⟨ret_bool (by rw [← HE.out]; simp), HB.out⟩
  · have hk' : (tk == 4) = false := by rw [beq_eq_false_iff_ne]; exact hk
    go_enter Tryz.func47, Tryz.ntmps47
    go_upto_region 1 with (fail)
    rw [HEW.out]
    go_wp2_with fail
    go_ret
    exact ⟨ret_bool (by rw [← HE.out, hk']; rfl), HB.out⟩
set_option maxRecDepth 100000 in
set_option maxHeartbeats 1000000 in
theorem bad_any (n : Int) (t : Tok) (w : World) : Calls Tryz.prog 25 #[.agg #[.int .i64 t.kind, .string (mkB t.text), .int .i64 t.num, .int .i64 t.place], .int .i64 n] w fun e w' => e = .returned (.agg #[.int .i64 0, .int .i64 0, .string ⟨#[]⟩, .slice none 0 0, .slice none 0 0, .slice none 0 0, .int .i64 0, .int .i64 n, .int .i64 t.place]) ∧ Below w.heap.size w w' := by
  generalize (t.kind : Int) = tk at *
  generalize mkB t.text = tx at *
  generalize t.num = tn at *
  generalize t.place = tp at *
  go_enter Tryz.func25, Tryz.ntmps25
  go_wp2_with fail
  exact bodyPost_ret (v := .agg #[.int .i64 0, .int .i64 0, .string ⟨#[]⟩, .slice none 0 0, .slice none 0 0, .slice none 0 0, .int .i64 0, .int .i64 n, .int .i64 tp]) (by simp [results, Tryz.results25, go_sem]) rfl ⟨rfl, below2 w _ _⟩
set_option maxRecDepth 100000 in
set_option maxHeartbeats 1000000 in
theorem refbegins_any (t : Tok) (w : World) : Calls Tryz.prog 46 #[.agg #[.int .i64 t.kind, .string (mkB t.text), .int .i64 t.num, .int .i64 t.place]] w fun e w' => e = .returned (.bool (begT t)) ∧ Below w.heap.size w w' := by
  have HS := Lib.hid (fun w => is_any t [40] w)
  have HBG : Hid (begT t = (t.kind == 1 || t.kind == 2 || isSym t [40])) := rfl
  obtain ⟨W, eW, q1, b1, z1⟩ := one_box w (.int .i64 t.kind) (.string (mkB t.text)) (.int .i64 t.num) (.int .i64 t.place) 62
  have HEW := Lib.hid eW
  have HQ := Lib.hid q1
  have HB := Lib.hid b1
  obtain ⟨x0, x1, x2, x3, x4, _⟩ := q1
  clear eW b1
  have HSW : Hid (Calls Tryz.prog 47 #[.agg #[.int .i64 t.kind, .string (mkB t.text), .int .i64 t.num, .int .i64 t.place], .string ⟨#[40]⟩] W fun e w' => e = .returned (.bool (isSym t [40])) ∧ Below W.heap.size W w') := HS.out W
  generalize isSym t [40] = q at *
  generalize begT t = bt at *
  generalize t.kind = tk at *
  generalize mkB t.text = tx at *
  generalize t.num = tn at *
  generalize t.place = tp at *
  go_enter Tryz.func46, Tryz.ntmps46
  go_upto_region 1 with (fail)
  rw [HEW.out]
  go_wp2_with fail
  (with_reducible refine HSW.out.mono ?_)
  rintro e w2 ⟨rfl, hb2⟩
  have hbW := HB.out.trans (hb2.mono HB.out.size)
  obtain ⟨y0, y1, y2, y3, y4, _⟩ := HQ.out.on hb2
  have HB2 := Lib.hid hbW
  clear hb2 hbW x0 x1 x2 x3 x4
  by_cases h1 : tk = 1
  · have HE : Hid (bt = true) := by show _ = _; rw [HBG.out]; simp [h1]
    have hz1 : (tk : Int) = 1 := by omega
    generalize (tk : Int) = zk at *
    subst hz1
    go_wp2_with fail
    go_ret
    exact ⟨ret_bool HE.out.symm, HB2.out⟩
  · have hk1 : ((tk : Int) == 1) = false := by rw [beq_eq_false_iff_ne]; omega
    by_cases h2 : tk = 2
    · have HE : Hid (bt = true) := by show _ = _; rw [HBG.out]; simp [h2]
      have hz2 : (tk : Int) = 2 := by omega
      generalize (tk : Int) = zk at *
      subst hz2
      go_wp2_with fail
      go_ret
      exact ⟨ret_bool HE.out.symm, HB2.out⟩
    · have hk2 : ((tk : Int) == 2) = false := by rw [beq_eq_false_iff_ne]; omega
      have HE : Hid (bt = q) := by show _ = _; rw [HBG.out]; simp [h1, h2]
      generalize (tk : Int) = zk at *
      go_wp2_with fail
      go_ret
      exact ⟨ret_bool HE.out.symm, HB2.out⟩
end Go.Proofs.YtbdfjboojokgdaaGreatDoor
namespace Go.Proofs.YtbdfjboojokgdaaGreatDoor
open Go.RowKit Lx

def AtomX (toks : List Tok) (g cap n : Nat) : Prop := ∀ (i o : Nat) (w : World) (res : Got), TokC w g toks → g < w.heap.size → o ≤ 40 → atomN n (toks.drop i) o = some res → Calls Tryz.prog 45 #[.slice (some ⟨g, 0, none⟩) toks.length cap, .int .i64 i, .int .i64 o] w (XRes toks res w)
def TypeX (toks : List Tok) (g cap n : Nat) : Prop := ∀ (i o : Nat) (w : World) (res : Got), TokC w g toks → g < w.heap.size → o ≤ 40 → typeN n (toks.drop i) o = some res → Calls Tryz.prog 23 #[.slice (some ⟨g, 0, none⟩) toks.length cap, .int .i64 i, .int .i64 o] w (XRes toks res w)
def closeG : Got → Option Got
  | .ok x (c :: s) => if isSym c [41] = true then some (Got.ok x s) else some (.no 12 c.place)
  | .ok _ [] => none
  | .no e p => some (.no e p)
theorem leaf_ty (P : Nat → Prop) (w : World) (t : Ty) (h : t.args = []) : TyAt P w t (.agg #[.int .i64 t.form, .int .i64 t.num, .string t.name, .slice none 0 0]) := by
  have := ty_leaf P w t h none 0 (Nat.zero_le _)
  exact this
set_option maxRecDepth 100000 in
set_option maxHeartbeats 1000000 in
theorem atomX_of (toks : List Tok) (g cap n : Nat) (ih : TypeX toks g cap n) (hl : toks.length ≤ 1099511627776) : AtomX toks g cap (n + 1) := by
  intro i o w res hT hg ho hres
  cases hd : toks.drop i with
  | nil => rw [hd] at hres; simp [atomN] at hres
  | cons t q =>
  rw [hd] at hres
  obtain ⟨hi, ht, hdq, hlen⟩ := drop_at hd
  obtain ⟨W, eW, k0, b1, z1⟩ := box9 w (.int .i64 0) (.int .i64 0) (.string ⟨#[]⟩) (.slice none 0 0) (.slice none 0 0) (.slice none 0 0) (.int .i64 0) (.int .i64 0) (.int .i64 0) 35
  have hTW := hT.block (b1.block g hg)
  have hgW : g < W.heap.size := by omega
  obtain ⟨c0, c1, c2, c3⟩ := hTW i hi
  rw [ht] at c0 c1 c2 c3
  have HT9 := Lib.hid ht
  have HEW := Lib.hid eW
  have HB := Lib.hid b1
  have HK0 := Lib.hid k0
  have HZ1 := Lib.hid z1
  have HTW := Lib.hid hTW
  have hiI : (i : Int) < (toks.length : Int) := by omega
  have hi0 : (0 : Int) ≤ (i : Int) := by omega
  have hi40 : (i : Int) ≤ 1099511627776 := by omega
  have hi2 : ((toks.length - q.length : Nat) : Int) = (i : Int) + 1 := by omega
  have hTY : ∀ y, Below W.heap.size W y → TokC y g toks ∧ g < y.heap.size ∧ y.heap[w.heap.size]? = some (.cells #[.int .i64 0, .int .i64 0, .string ⟨#[]⟩, .slice none 0 0, .slice none 0 0, .slice none 0 0, .int .i64 0, .int .i64 0, .int .i64 0] 35) ∧ Below w.heap.size w y := fun y hb =>
    ⟨HTW.out.block (hb.block g hgW), Nat.lt_of_lt_of_le hgW hb.size, (hb.block _ (by omega)).trans HK0.out, HB.out.trans (hb.mono HB.out.size)⟩
  have HTY := Lib.hid hTY
  clear eW b1 k0 z1 hTW hT hTY
  by_cases h2 : t.kind = 2
  · have hr2 : res = .ok (.con (mkB t.text)) q := by simp only [atomN, if_pos h2, Option.some.injEq] at hres; exact hres.symm
    subst hr2
    have hk : (t.kind : Int) = 2 := by omega
    obtain ⟨u0, u1, u2, u3, u4, u5, u6, u7, u8, f0, f1, f2, f3, f4, f5, f6, f7, f8, hw0⟩ := nine_cells HK0.out
    have HE := Lib.hid (x_ok (toks := toks) (q := q) hi2.symm (leaf_ty (fun b => w.heap.size + 1 ≤ b) W (.con (mkB t.text)) rfl) HB.out (.int .i64 3) (.int .i64 0) (.string (mkB t.text)) (.slice none 0 0) (.slice none 0 0) (.slice none 0 0) (.int .i64 ((i : Int) + 1)) (.int .i64 0) (.int .i64 0))
    clear hres hd ht hdq
    generalize (t.kind : Int) = tk at *
    subst hk
    go_enter Tryz.func45, Tryz.ntmps45
    go_upto_region 1 with (fail)
    rw [HEW.out]
    go_wp2_with fail
    exact bodyPost_ret (v := .agg #[.int .i64 3, .int .i64 0, .string (mkB t.text), .slice none 0 0, .slice none 0 0, .slice none 0 0, .int .i64 ((i : Int) + 1), .int .i64 0, .int .i64 0]) (by simp [results, Tryz.results45, go_sem, u0, u1, u2, u3, u4, u5, u6, u7, u8]) rfl HE.out
  · have hk2 : ((t.kind : Int) == 2) = false := by rw [beq_eq_false_iff_ne]; omega
    by_cases h1 : t.kind = 1
    · have hr1 : res = .ok (.var (mkB t.text)) q := by simp only [atomN, if_neg h2, if_pos h1, Option.some.injEq] at hres; exact hres.symm
      subst hr1
      have hk : (t.kind : Int) = 1 := by omega
      obtain ⟨u0, u1, u2, u3, u4, u5, u6, u7, u8, f0, f1, f2, f3, f4, f5, f6, f7, f8, hw0⟩ := nine_cells HK0.out
      have HE := Lib.hid (x_ok (toks := toks) (q := q) hi2.symm (leaf_ty (fun b => w.heap.size + 1 ≤ b) W (.var (mkB t.text)) rfl) HB.out (.int .i64 2) (.int .i64 0) (.string (mkB t.text)) (.slice none 0 0) (.slice none 0 0) (.slice none 0 0) (.int .i64 ((i : Int) + 1)) (.int .i64 0) (.int .i64 0))
      clear hres hd ht hdq hk2
      generalize (t.kind : Int) = tk at *
      subst hk
      go_enter Tryz.func45, Tryz.ntmps45
      go_upto_region 1 with (fail)
      rw [HEW.out]
      go_wp2_with fail
      exact bodyPost_ret (v := .agg #[.int .i64 2, .int .i64 0, .string (mkB t.text), .slice none 0 0, .slice none 0 0, .slice none 0 0, .int .i64 ((i : Int) + 1), .int .i64 0, .int .i64 0]) (by simp [results, Tryz.results45, go_sem, u0, u1, u2, u3, u4, u5, u6, u7, u8]) rfl HE.out
    · have hk1 : ((t.kind : Int) == 1) = false := by rw [beq_eq_false_iff_ne]; omega
      have HIS : Hid (Calls Tryz.prog 47 #[.agg #[.int .i64 t.kind, .string (mkB t.text), .int .i64 t.num, .int .i64 t.place], .string ⟨#[40]⟩] W fun e w' => e = .returned (.bool (isSym t [40])) ∧ Below W.heap.size W w') := is_any t [40] W
      have HBD := Lib.hid (fun n y => bad_any n t y)
      cases hq : isSym t [40] with
      | false =>
        rw [hq] at HIS
        have hrn : res = .no 12 t.place := by
          simp only [atomN, if_neg h2, if_neg h1, hq, if_true, Option.some.injEq] at hres; exact hres.symm
        subst hrn
        have HBW := Lib.hid (HBD.out 12)
        clear hres hd ht hdq hq HBD
        go_enter Tryz.func45, Tryz.ntmps45
        go_upto_region 1 with (fail)
        rw [HEW.out]
        go_wp2_with fail
        (with_reducible refine HIS.out.mono ?_)
        rintro e1 y ⟨rfl, hb⟩
        obtain ⟨hTy, hgy, hky, hby⟩ := HTY.out y hb
        obtain ⟨d0, d1, d2, d3⟩ := hTy i hi
        rw [HT9.out] at d0 d1 d2 d3
        have HBY := Lib.hid (HBW.out y)
        have HKY := Lib.hid hky
        have HBB := Lib.hid hby
        have hwy := lt_of_block hky
        clear hTy hb hky hby c0 c1 c2 c3
        go_wp2_with fail
        (with_reducible refine HBY.out.mono ?_)
        rintro e2 z ⟨rfl, hbz⟩
        obtain ⟨u0, u1, u2, u3, u4, u5, u6, u7, u8, f0, f1, f2, f3, f4, f5, f6, f7, f8, hw0⟩ := nine_cells ((hbz.block _ hwy).trans HKY.out)
        have HE := Lib.hid (x_no (toks := toks) (ec := 12) (p := t.place) (HBB.out.trans (hbz.mono HBB.out.size)) (.int .i64 0) (.int .i64 0) (.string ⟨#[]⟩) (.slice none 0 0) (.slice none 0 0) (.slice none 0 0) (.int .i64 0) (.int .i64 12) (.int .i64 t.place))
        clear hbz
        go_wp2_with fail
        exact bodyPost_ret (v := .agg #[.int .i64 0, .int .i64 0, .string ⟨#[]⟩, .slice none 0 0, .slice none 0 0, .slice none 0 0, .int .i64 0, .int .i64 12, .int .i64 t.place]) (by simp [results, Tryz.results45, go_sem, u0, u1, u2, u3, u4, u5, u6, u7, u8]) rfl HE.out
      | true =>
        rw [hq] at HIS
        by_cases ho4 : 40 ≤ o
        · have hrn : res = .no 13 t.place := by
            simp only [atomN, if_neg h2, if_neg h1, hq, if_pos ho4] at hres
            simpa using hres.symm
          subst hrn
          have HBW := Lib.hid (HBD.out 13)
          have hoI : (40 : Int) ≤ (o : Int) := by omega
          clear hres hd ht hdq hq HBD
          go_enter Tryz.func45, Tryz.ntmps45
          go_upto_region 1 with (fail)
          rw [HEW.out]
          go_wp2_with fail
          (with_reducible refine HIS.out.mono ?_)
          rintro e1 y ⟨rfl, hb⟩
          obtain ⟨hTy, hgy, hky, hby⟩ := HTY.out y hb
          obtain ⟨d0, d1, d2, d3⟩ := hTy i hi
          rw [HT9.out] at d0 d1 d2 d3
          have HBY := Lib.hid (HBW.out y)
          have HKY := Lib.hid hky
          have HBB := Lib.hid hby
          have hwy := lt_of_block hky
          clear hTy hb hky hby c0 c1 c2 c3
          go_wp2_with fail
          (with_reducible refine HBY.out.mono ?_)
          rintro e2 z ⟨rfl, hbz⟩
          obtain ⟨u0, u1, u2, u3, u4, u5, u6, u7, u8, f0, f1, f2, f3, f4, f5, f6, f7, f8, hw0⟩ := nine_cells ((hbz.block _ hwy).trans HKY.out)
          have HE := Lib.hid (x_no (toks := toks) (ec := 13) (p := t.place) (HBB.out.trans (hbz.mono HBB.out.size)) (.int .i64 0) (.int .i64 0) (.string ⟨#[]⟩) (.slice none 0 0) (.slice none 0 0) (.slice none 0 0) (.int .i64 0) (.int .i64 13) (.int .i64 t.place))
          clear hbz
          go_wp2_with fail
          exact bodyPost_ret (v := .agg #[.int .i64 0, .int .i64 0, .string ⟨#[]⟩, .slice none 0 0, .slice none 0 0, .slice none 0 0, .int .i64 0, .int .i64 13, .int .i64 t.place]) (by simp [results, Tryz.results45, go_sem, u0, u1, u2, u3, u4, u5, u6, u7, u8]) rfl HE.out
        · have hoI : ¬ (40 : Int) ≤ (o : Int) := by omega
          obtain ⟨r2, hr2⟩ : ∃ r2, typeN n q (o + 1) = some r2 := by
            cases ha : typeN n q (o + 1) with
            | none => simp [atomN, if_neg h2, if_neg h1, hq, if_neg ho4, ha] at hres
            | some r2 => exact ⟨r2, rfl⟩
          have hres2 : closeG r2 = some res := by
            simp only [atomN, if_neg h2, if_neg h1, hq, if_neg ho4, hr2] at hres
            rw [if_neg (by simp)] at hres
            rw [← hres]
            unfold closeG
            cases r2 with
            | no e p => rfl
            | ok x s => cases s <;> rfl
          have herr := fun e p (h : r2 = .no e p) => (err_all n).2.2 _ _ e p (hr2.trans (by rw [h]))
          have hsf := fun x s (h : r2 = .ok x s) => (suff_all n).2.2 _ _ x s (hr2.trans (by rw [h]))
          rw [← hdq] at hr2
          have HIH : Hid (∀ y, Below W.heap.size W y → Calls Tryz.prog 23 #[.slice (some ⟨g, 0, none⟩) toks.length cap, .int .i64 ((i : Int) + 1), .int .i64 ((o : Int) + 1)] y (XRes toks r2 y)) := fun y hb => by
            have h9 := ih (i + 1) (o + 1) y r2 (HTY.out y hb).1 (HTY.out y hb).2.1 (by omega) hr2
            rw [show (((i + 1 : Nat)) : Int) = (i : Int) + 1 by push_cast; rfl, show (((o + 1 : Nat)) : Int) = (o : Int) + 1 by push_cast; rfl] at h9
            exact h9
          clear hres hr2 hq
          go_enter Tryz.func45, Tryz.ntmps45
          go_upto_region 1 with (fail)
          rw [HEW.out]
          go_wp2_with fail
          (with_reducible refine HIS.out.mono ?_)
          rintro e1 y ⟨rfl, hb⟩
          have HBY := Lib.hid hb
          have HC := Lib.hid (HIH.out y hb)
          clear hb c0 c1 c2 c3
          go_wp2_with fail
          (with_reducible refine HC.out.mono ?_)
          intro e2 z hz
          cases r2 with
          | no e p =>
            obtain ⟨rfl, hbz⟩ := hz
            simp only [closeG, Option.some.injEq] at hres2
            subst hres2
            have he := herr e p rfl
            have he0 : ((e : Int) == 0) = false := by rw [beq_eq_false_iff_ne]; omega
            obtain ⟨Z, eZ, k1, b2, z2⟩ := box9 z (.int .i64 0) (.int .i64 0) (.string ⟨#[]⟩) (.slice none 0 0) (.slice none 0 0) (.slice none 0 0) (.int .i64 0) (.int .i64 e) (.int .i64 p) 35
            have hbZ := HBY.out.trans ((hbz.trans (b2.mono hbz.size)).mono HBY.out.size)
            obtain ⟨_, _, hkZ, hbw⟩ := HTY.out Z hbZ
            obtain ⟨v0, v1, v2, v3, v4, v5, v6, v7, v8, _⟩ := nine_cells k1
            obtain ⟨u0, u1, u2, u3, u4, u5, u6, u7, u8, f0, f1, f2, f3, f4, f5, f6, f7, f8, hw0⟩ := nine_cells hkZ
            have hne : w.heap.size < z.heap.size := by have := HBY.out.size; have := hbz.size; have := HZ1.out; omega
            have HEZ := Lib.hid eZ
            have HE := Lib.hid (x_no (toks := toks) (ec := e) (p := p) hbw (.int .i64 0) (.int .i64 0) (.string ⟨#[]⟩) (.slice none 0 0) (.slice none 0 0) (.slice none 0 0) (.int .i64 0) (.int .i64 e) (.int .i64 p))
            clear hbz eZ k1 b2 hbZ hkZ hbw herr hsf
            go_upto_region 11 with (fail)
            rw [HEZ.out]
            go_wp2_with fail
            exact bodyPost_ret (v := .agg #[.int .i64 0, .int .i64 0, .string ⟨#[]⟩, .slice none 0 0, .slice none 0 0, .slice none 0 0, .int .i64 0, .int .i64 e, .int .i64 p]) (by simp [results, Tryz.results45, go_sem, u0, u1, u2, u3, u4, u5, u6, u7, u8]) rfl HE.out
          | ok x s =>
            obtain ⟨f1, n1, s1, A1, l1, c1, rfl, hty, hbz⟩ := hz
            have hs9 := hsf x s rfl
            match s, hs9, hres2, hty with
            | [], hs9, _, _ => exact absurd rfl hs9.2.2
            | c :: s, hs9, hres2, hty =>
            have hdc : toks.drop (toks.length - (c :: s).length) = c :: s := drop_suf (i := i + 1) (by rw [hdq]; exact hs9.1)
            obtain ⟨hci, hct, hcd, hcl⟩ := drop_at hdc
            have hplace : toks.length - (c :: s).length + 1 = toks.length - s.length := hcl.symm
            generalize hP : toks.length - (c :: s).length = P at *
            obtain ⟨Z, eZ, k1, b2, z2⟩ := box9 z (.int .i64 f1) (.int .i64 n1) (.string s1) (.slice A1 l1 c1) (.slice none 0 0) (.slice none 0 0) (.int .i64 P) (.int .i64 0) (.int .i64 0) 35
            have hbZ := HBY.out.trans ((hbz.trans (b2.mono hbz.size)).mono HBY.out.size)
            have hne : w.heap.size < z.heap.size := by have := HBY.out.size; have := hbz.size; have := HZ1.out; omega
            have hyz : y.heap.size ≤ z.heap.size := hbz.size
            have hwy1 : w.heap.size + 1 ≤ y.heap.size := by have := HBY.out.size; have := HZ1.out; omega
            obtain ⟨hTZ, hgZ, hkZ, hbw⟩ := HTY.out Z hbZ
            obtain ⟨d0, d1, d2, d3⟩ := hTZ P hci
            rw [hct] at d0 d1 d2 d3
            obtain ⟨v0, v1, v2, v3, v4, v5, v6, v7, v8, _⟩ := nine_cells k1
            have HIS2 : Hid (Calls Tryz.prog 47 #[.agg #[.int .i64 c.kind, .string (mkB c.text), .int .i64 c.num, .int .i64 c.place], .string ⟨#[41]⟩] Z fun e w' => e = .returned (.bool (isSym c [41])) ∧ Below Z.heap.size Z w') := is_any c [41] Z
            have HEZ := Lib.hid eZ
            have HK1 := Lib.hid k1
            have HKZ := Lib.hid hkZ
            have HBZ := Lib.hid hbZ
            have HBw := Lib.hid hbw
            have HTYZ := Lib.hid ((hty.bound.mono (Q := fun b => w.heap.size + 1 ≤ b ∧ b ≠ z.heap.size) (fun b hb => ⟨by have := hb.1; omega, by have := hb.2; omega⟩)).on b2)
            have HZ2 := Lib.hid z2
            have hPI : (P : Int) < (toks.length : Int) := by omega
            have hP0 : (0 : Int) ≤ (P : Int) := by omega
            have hgz : g < z.heap.size := by have := HBY.out.size; omega
            have HCT := Lib.hid hct
            have HPL := Lib.hid hplace
            simp only [closeG] at hres2
            have HTZc := Lib.hid hTZ
            clear hbz eZ k1 b2 hbZ hkZ hbw herr hsf hs9 hty hTZ hdc hcd hcl hP hct hplace
            go_upto_region 11 with (fail)
            rw [HEZ.out]
            go_wp2_with fail
            (with_reducible refine HIS2.out.mono ?_)
            rintro e3 v ⟨rfl, hbv⟩
            have hTv := HTZc.out.block (w' := v) (hbv.block g (by omega))
            obtain ⟨d0, d1, d2, d3⟩ := hTv P hci
            rw [HCT.out] at d0 d1 d2 d3
            obtain ⟨v0, v1, v2, v3, v4, v5, v6, v7, v8, j0, j1, j2, j3, j4, j5, j6, j7, j8, hj⟩ := nine_cells ((hbv.block _ (by omega)).trans HK1.out)
            have HKv := Lib.hid ((hbv.block _ (by omega)).trans HKZ.out)
            have HBv := Lib.hid (HBw.out.trans (hbv.mono HBw.out.size))
            have HTv := Lib.hid (HTYZ.out.on hbv)
            have hgv : g < v.heap.size := by have := hbv.size; omega
            have hKb := (hbv.block z.heap.size (by omega)).trans HK1.out
            have HKb := Lib.hid hKb
            cases hq2 : isSym c [41] with
            | false =>
              rw [hq2] at hres2
              simp only [Bool.false_eq_true, if_false, Option.some.injEq] at hres2
              subst hres2
              have HBY3 : Hid (Calls Tryz.prog 25 #[.agg #[.int .i64 c.kind, .string (mkB c.text), .int .i64 c.num, .int .i64 c.place], .int .i64 12] v fun e w' => e = .returned (.agg #[.int .i64 0, .int .i64 0, .string ⟨#[]⟩, .slice none 0 0, .slice none 0 0, .slice none 0 0, .int .i64 0, .int .i64 12, .int .i64 c.place]) ∧ Below v.heap.size v w') := bad_any 12 c v
              clear hbv hTv hKb hq2
              go_wp2_with fail
              (with_reducible refine HBY3.out.mono ?_)
              rintro e4 u ⟨rfl, hbu⟩
              obtain ⟨u0, u1, u2, u3, u4, u5, u6, u7, u8, f0, f1, f2, f3, f4, f5, f6, f7, f8, hw0⟩ := nine_cells ((hbu.block _ (by omega)).trans HKv.out)
              have HE := Lib.hid (x_no (toks := toks) (ec := 12) (p := c.place) (HBv.out.trans (hbu.mono HBv.out.size)) (.int .i64 0) (.int .i64 0) (.string ⟨#[]⟩) (.slice none 0 0) (.slice none 0 0) (.slice none 0 0) (.int .i64 0) (.int .i64 12) (.int .i64 c.place))
              clear hbu
              go_wp2_with fail
              exact bodyPost_ret (v := .agg #[.int .i64 0, .int .i64 0, .string ⟨#[]⟩, .slice none 0 0, .slice none 0 0, .slice none 0 0, .int .i64 0, .int .i64 12, .int .i64 c.place]) (by simp [results, Tryz.results45, go_sem, u0, u1, u2, u3, u4, u5, u6, u7, u8]) rfl HE.out
            | true =>
              rw [hq2] at hres2
              simp only [if_true, Option.some.injEq] at hres2
              subst hres2
              obtain ⟨U, eU⟩ : ∃ U, v.setCell ⟨z.heap.size, 6, none⟩ (.int .i64 ((P : Int) + 1)) = U := ⟨_, rfl⟩
              have hUn : ∀ k, k ≠ z.heap.size → U.heap[k]? = v.heap[k]? := fun k hk => by rw [← eU]; exact Below.heap_setCell _ _ _ _ hk
              have hUb : U.heap[z.heap.size]? = some (.cells #[.int .i64 f1, .int .i64 n1, .string s1, .slice A1 l1 c1, .slice none 0 0, .slice none 0 0, .int .i64 ((P : Int) + 1), .int .i64 0, .int .i64 0] 35) := by rw [← eU]; exact heap_setCell_same _ z.heap.size 6 _ _ _ hKb
              have hUs : U.heap.size = v.heap.size := by rw [← eU]; simp
              obtain ⟨u0, u1, u2, u3, u4, u5, u6, u7, u8, f0, f1', f2, f3, f4, f5, f6, f7, f8, hw0⟩ := nine_cells ((hUn _ (by omega)).trans HKv.out)
              obtain ⟨m0, m1, m2, m3, m4, m5, m6, m7, m8, _⟩ := nine_cells hUb
              have hUB : Below w.heap.size w U := by rw [← eU]; exact HBv.out.setCell (by show w.heap.size ≤ z.heap.size; omega) _
              have hUT : TyAt (fun b => w.heap.size + 1 ≤ b) U x (.agg #[.int .i64 f1, .int .i64 n1, .string s1, .slice A1 l1 c1]) := by
                exact (HTv.out.keep ⟨by omega, fun b off hb _ => World.cell?_of_block (a := ⟨b, off, none⟩) (hUn b hb.2)⟩).mono (fun b hb => hb.1)
              have HE := Lib.hid (x_ok (toks := toks) (t := x) (q := s) (i := (P : Int) + 1) (by rw [← HPL.out]; push_cast; rfl) hUT hUB (.int .i64 f1) (.int .i64 n1) (.string s1) (.slice A1 l1 c1) (.slice none 0 0) (.slice none 0 0) (.int .i64 ((P : Int) + 1)) (.int .i64 0) (.int .i64 0))
              have HEU := Lib.hid eU
              clear hbv hTv hKb hq2 eU hUn hUb hUB hUT
              go_upto_region 17 with (fail)
              rw [HEU.out]
              go_wp2_with fail
              exact bodyPost_ret (v := .agg #[.int .i64 f1, .int .i64 n1, .string s1, .slice A1 l1 c1, .slice none 0 0, .slice none 0 0, .int .i64 ((P : Int) + 1), .int .i64 0, .int .i64 0]) (by simp [results, Tryz.results45, go_sem, u0, u1, u2, u3, u4, u5, u6, u7, u8]) rfl HE.out
end Go.Proofs.YtbdfjboojokgdaaGreatDoor
namespace Go.Proofs.YtbdfjboojokgdaaGreatDoor
open Go.RowKit Lx

/-- What the loop of Type knows. -/
def XRel (toks : List Tok) (w : World) (xb o : Nat) (R : Got) (nn k : Nat) (mv : Value) (wr : World) : Prop := k ≤ nn ∧
  ∃ (x : Ty) (c : Tok) (r : List Tok) (f n : Int) (s : ByteArray) (A : Option Addr) (l cc : Nat), mv = .bool (begT c) ∧
    wr.heap[xb]? = some (.cells #[.int .i64 f, .int .i64 n, .string s, .slice A l cc, .slice none 0 0, .slice none 0 0, .int .i64 ((toks.length - (c :: r).length : Nat) : Int), .int .i64 0, .int .i64 0] 35) ∧
    TyAt (fun b => w.heap.size + 1 ≤ b ∧ b ≠ xb) wr x (.agg #[.int .i64 f, .int .i64 n, .string s, .slice A l cc]) ∧ Below w.heap.size w wr ∧
    wr.heap[w.heap.size]? = some (.cells #[.int .i64 0, .int .i64 0, .string ⟨#[]⟩, .slice none 0 0, .slice none 0 0, .slice none 0 0, .int .i64 0, .int .i64 0, .int .i64 0] 35) ∧ (c :: r) <:+ toks ∧ appsN k x (c :: r) o = some R
theorem apps_err {k : Nat} {x : Ty} {l : List Tok} {o e p : Nat} (h : appsN k x l o = some (.no e p)) : e = 12 ∨ e = 13 := (err_all k).2.1 _ _ _ _ _ h
set_option maxRecDepth 100000 in
set_option maxHeartbeats 2000000 in
theorem typeX_of (toks : List Tok) (g cap n : Nat) (ih : ∀ m, m ≤ n → AtomX toks g cap m) (iht : TypeX toks g cap n) (hl : toks.length ≤ 1099511627776) : TypeX toks g cap (n + 1) := by
  intro i o w res hT hg ho hres
  rw [typeN_succ] at hres
  unfold appL at hres
  obtain ⟨ra, hra⟩ : ∃ ra, atomN n (toks.drop i) o = some ra := by
    cases ha : atomN n (toks.drop i) o with
    | none => rw [ha] at hres; simp at hres
    | some ra => exact ⟨ra, rfl⟩
  rw [hra] at hres
  obtain ⟨W, eW, k0, b1, z1⟩ := box9 w (.int .i64 0) (.int .i64 0) (.string ⟨#[]⟩) (.slice none 0 0) (.slice none 0 0) (.slice none 0 0) (.int .i64 0) (.int .i64 0) (.int .i64 0) 35
  have hTW := hT.block (b1.block g hg)
  have HIH := Lib.hid ih
  have HIT := Lib.hid iht
  have HAT := Lib.hid (ih n (Nat.le_refl _) i o W ra hTW (by omega) ho hra)
  have hI : i ≤ 1099511627776 ∨ toks.drop i = [] := by
    by_cases h9 : i ≤ toks.length
    · exact .inl (by omega)
    · exact .inr (List.drop_eq_nil_of_le (by omega))
  have hsuf := (suff_all n).1 (toks.drop i) o
  have herr := (err_all n).1 (toks.drop i) o
  rw [hra] at hsuf herr
  have HT0 := Lib.hid hT
  have HEW := Lib.hid eW
  have HB := Lib.hid b1
  have HK0 := Lib.hid k0
  have HZ1 := Lib.hid z1
  clear eW b1 k0 hTW hT hra ih iht
  go_enter Tryz.func23, Tryz.ntmps23
  go_upto_region 1 with (fail)
  rw [HEW.out]
  go_wp2_with fail
  (with_reducible refine HAT.out.mono ?_)
  intro e1 y hy
  cases ra with
  | no e p =>
    obtain ⟨rfl, hb⟩ := hy
    simp only [Option.some.injEq] at hres
    subst hres
    have he := herr e p rfl
    have he0 : ((e : Int) == 0) = false := by rw [beq_eq_false_iff_ne]; omega
    obtain ⟨Z, eZ, k1, b2, z2⟩ := box9 y (.int .i64 0) (.int .i64 0) (.string ⟨#[]⟩) (.slice none 0 0) (.slice none 0 0) (.slice none 0 0) (.int .i64 0) (.int .i64 e) (.int .i64 p) 35
    have hbZ := hb.trans (b2.mono hb.size)
    have hkZ := (hbZ.block w.heap.size (by omega)).trans HK0.out
    have hbw := HB.out.trans (hbZ.mono HB.out.size)
    obtain ⟨v0, v1, v2, v3, v4, v5, v6, v7, v8, _⟩ := nine_cells k1
    obtain ⟨u0, u1, u2, u3, u4, u5, u6, u7, u8, f0, f1, f2, f3, f4, f5, f6, f7, f8, hw0⟩ := nine_cells hkZ
    have hne : w.heap.size < y.heap.size := by have := hb.size; omega
    have HEZ := Lib.hid eZ
    have HE := Lib.hid (x_no (toks := toks) (ec := e) (p := p) hbw (.int .i64 0) (.int .i64 0) (.string ⟨#[]⟩) (.slice none 0 0) (.slice none 0 0) (.slice none 0 0) (.int .i64 0) (.int .i64 e) (.int .i64 p))
    clear hb eZ k1 b2 hbZ hkZ hbw herr hsuf
    go_upto_region 2 with (fail)
    rw [HEZ.out]
    go_wp2_with fail
    exact bodyPost_ret (v := .agg #[.int .i64 0, .int .i64 0, .string ⟨#[]⟩, .slice none 0 0, .slice none 0 0, .slice none 0 0, .int .i64 0, .int .i64 e, .int .i64 p]) (by simp [results, Tryz.results23, go_sem, u0, u1, u2, u3, u4, u5, u6, u7, u8]) rfl HE.out
  | ok x q =>
    obtain ⟨f1, n1, s1, A1, l1, c1, rfl, hty, hb⟩ := hy
    simp only at hres
    obtain ⟨R, hR⟩ : ∃ R, appsN n x q o = some R := by
      cases ha : appsN n x q o with
      | none => rw [ha] at hres; simp at hres
      | some R => exact ⟨R, rfl⟩
    rw [hR] at hres
    have hs9 := hsuf x q rfl
    cases q with
    | nil => exfalso; cases n with
      | zero => simp [appsN] at hR
      | succ n => simp [appsN] at hR
    | cons c q =>
    have hqt : (c :: q) <:+ toks := hs9.1.trans (List.drop_suffix _ _)
    obtain ⟨Z, eZ, k1, b2, z2⟩ := box9 y (.int .i64 f1) (.int .i64 n1) (.string s1) (.slice A1 l1 c1) (.slice none 0 0) (.slice none 0 0) (.int .i64 ((toks.length - (c :: q).length : Nat) : Int)) (.int .i64 0) (.int .i64 0) 35
    have hbZ := hb.trans (b2.mono hb.size)
    have hkZ := (hbZ.block w.heap.size (by omega)).trans HK0.out
    have hbw := HB.out.trans (hbZ.mono HB.out.size)
    have hne : w.heap.size < y.heap.size := by have := hb.size; omega
    have hREL : ∀ u, Below Z.heap.size Z u → XRel toks w y.heap.size o R n n (.bool (begT c)) u := fun u hu =>
      ⟨Nat.le_refl _, x, c, q, f1, n1, s1, A1, l1, c1, rfl, (hu.block _ (by omega)).trans k1, (((hty.bound.mono (Q := fun b => w.heap.size + 1 ≤ b ∧ b ≠ y.heap.size) (fun b hb => ⟨by have := hb.1; omega, by have := hb.2; omega⟩)).on b2).on hu), hbw.trans (hu.mono hbw.size), (hu.block _ (by omega)).trans hkZ, hqt, hR⟩
    have hdc : toks.drop (toks.length - (c :: q).length) = c :: q := drop_suf (i := 0) (by simpa using hqt)
    obtain ⟨hci, hct, hcd, hcl⟩ := drop_at hdc
    have hTZ : TokC Z g toks := HT0.out.block (hbw.block g hg)
    obtain ⟨d0, d1, d2, d3⟩ := hTZ _ hci
    rw [hct] at d0 d1 d2 d3
    generalize hP : toks.length - (c :: q).length = P at *
    obtain ⟨v0, v1, v2, v3, v4, v5, v6, v7, v8, _⟩ := nine_cells k1
    have HREL := Lib.hid hREL
    have HBG := Lib.hid (refbegins_any c Z)
    have HEZ := Lib.hid eZ
    have hPI : (P : Int) < (toks.length : Int) := by omega
    have hP0 : (0 : Int) ≤ (P : Int) := by omega
    have hgz : g < y.heap.size := by omega
    have HRES := Lib.hid hres
    clear hb eZ k1 b2 hbZ hkZ hbw herr hsuf hs9 hqt hREL hTZ hty hres hR hdc hcd hcl hP hct
    go_upto_region 2 with (fail)
    rw [HEZ.out]
    go_wp2_with fail
    (with_reducible refine HBG.out.mono ?_)
    rintro e2 z ⟨rfl, hbz⟩
    have HR0 := Lib.hid (HREL.out z hbz)
    clear hbz HREL d0 d1 d2 d3 v0 v1 v2 v3 v4 v5 v6 v7 v8
    generalize y.heap.size = xb at *
    go_wp2_with fail
    go_loopg [8] n (fun k mv wr => XRel toks w xb o R n k mv wr)
    case atStart => exact HR0.out
    case round =>
      obtain ⟨hkn, x, c, r, f, nn, s, A, l, cc, rfl, hk1, hty, hbw, hk0, hsx, hap⟩ := hrel
      cases gk with
      | zero => simp [appsN] at hap
      | succ m =>
      have hdc : toks.drop (toks.length - (c :: r).length) = c :: r := drop_suf (i := 0) (by simpa using hsx)
      obtain ⟨hci, hct, hcd, hcl⟩ := drop_at hdc
      have hplace : toks.length - (c :: r).length + 1 = toks.length - r.length := hcl.symm
      have hTr : TokC wr g toks := HT0.out.block (hbw.block g hg)
      generalize hP : toks.length - (c :: r).length = P at *
      obtain ⟨d0, d1, d2, d3⟩ := hTr _ hci
      rw [hct] at d0 d1 d2 d3
      obtain ⟨v0, v1, v2, v3, v4, v5, v6, v7, v8, j0, j1, j2, j3, j4, j5, j6, j7, j8, hj⟩ := nine_cells hk1
      have hPI : (P : Int) < (toks.length : Int) := by omega
      have hP0 : (0 : Int) ≤ (P : Int) := by omega
      have hgr : g < wr.heap.size := by have := hbw.size; omega
      have hxr : xb < wr.heap.size := hj
      have hwr : w.heap.size < wr.heap.size := lt_of_block hk0
      have HTr := Lib.hid hTr
      have HK1 := Lib.hid hk1
      have HKR := Lib.hid hk0
      have HBw := Lib.hid hbw
      have HTY := Lib.hid hty
      have HCT := Lib.hid hct
      have HPL := Lib.hid hplace
      simp only [appsN] at hap
      cases hbg : begT c with
      | true =>
        rw [hbg] at hap
        simp only [if_true] at hap
        obtain ⟨ra, hra⟩ : ∃ ra, atomN m (c :: r) o = some ra := by
          cases ha : atomN m (c :: r) o with
          | none => rw [ha] at hap; simp at hap
          | some ra => exact ⟨ra, rfl⟩
        rw [hra] at hap
        have hsuf := (suff_all m).1 (c :: r) o
        have herr := (err_all m).1 (c :: r) o
        rw [hra] at hsuf herr
        rw [← hdc] at hra
        have HC := Lib.hid (HIH.out m (by omega) P o wr ra HTr.out hgr ho hra)
        have HAP := Lib.hid hap
        have HSX := Lib.hid hsx
        clear hTr hk1 hk0 hbw hty hct hplace hcd hcl hdc hra hap hsx d0 d1 d2 d3
        go_wp2_with fail
        (with_reducible refine HC.out.mono ?_)
        intro e3 y hy
        cases ra with
        | no e p =>
          obtain ⟨rfl, hb⟩ := hy
          have hap := HAP.out
          simp only [Option.some.injEq] at hap
          subst hap
          have hres := HRES.out
          simp only [Option.some.injEq] at hres
          subst hres
          have he := herr e p rfl
          have he0 : ((e : Int) == 0) = false := by rw [beq_eq_false_iff_ne]; omega
          obtain ⟨Z, eZ, k1, b2, z2⟩ := box9 y (.int .i64 0) (.int .i64 0) (.string ⟨#[]⟩) (.slice none 0 0) (.slice none 0 0) (.slice none 0 0) (.int .i64 0) (.int .i64 e) (.int .i64 p) 35
          have hbZ := hb.trans (b2.mono hb.size)
          have hkZ := (hbZ.block w.heap.size (by omega)).trans HKR.out
          have hbw := HBw.out.trans (hbZ.mono HBw.out.size)
          obtain ⟨v0, v1, v2, v3, v4, v5, v6, v7, v8, _⟩ := nine_cells k1
          obtain ⟨u0, u1, u2, u3, u4, u5, u6, u7, u8, f0, f1, f2, f3, f4, f5, f6, f7, f8, hw0⟩ := nine_cells hkZ
          have hne : w.heap.size < y.heap.size := by have := hb.size; omega
          have HEZ := Lib.hid eZ
          have HE := Lib.hid (x_no (toks := toks) (ec := e) (p := p) hbw (.int .i64 0) (.int .i64 0) (.string ⟨#[]⟩) (.slice none 0 0) (.slice none 0 0) (.slice none 0 0) (.int .i64 0) (.int .i64 e) (.int .i64 p))
          clear hb eZ k1 b2 hbZ hkZ hbw herr hsuf
          go_upto_region 7 with (fail)
          rw [HEZ.out]
          go_wp2_with fail
          exact bodyPost_ret (v := .agg #[.int .i64 0, .int .i64 0, .string ⟨#[]⟩, .slice none 0 0, .slice none 0 0, .slice none 0 0, .int .i64 0, .int .i64 e, .int .i64 p]) (by simp [results, Tryz.results23, go_sem, u0, u1, u2, u3, u4, u5, u6, u7, u8]) rfl HE.out
        | ok a q2 =>
          obtain ⟨f2, n2, s2, A2, l2, c2, rfl, hta, hb⟩ := hy
          have hap := HAP.out
          simp only at hap
          have hs9 := hsuf a q2 rfl
          cases q2 with
          | nil => exfalso; cases m with
            | zero => simp [appsN] at hap
            | succ n => simp [appsN] at hap
          | cons d q2 =>
          have hqt : (d :: q2) <:+ toks := hs9.1.trans HSX.out
          obtain ⟨Z, eZ, k2, b2, z2⟩ := box9 y (.int .i64 f2) (.int .i64 n2) (.string s2) (.slice A2 l2 c2) (.slice none 0 0) (.slice none 0 0) (.int .i64 ((toks.length - (d :: q2).length : Nat) : Int)) (.int .i64 0) (.int .i64 0) 35
          have hbZ := hb.trans (b2.mono hb.size)
          have hkZ := (hbZ.block w.heap.size (by omega)).trans HKR.out
          have hk1Z := (hbZ.block xb (by omega)).trans HK1.out
          have hbw := HBw.out.trans (hbZ.mono HBw.out.size)
          have hne : xb < y.heap.size := by have := hb.size; omega
          have hne2 : w.heap.size < y.heap.size := by have := hb.size; omega
          have hqd : toks.drop (toks.length - (d :: q2).length) = d :: q2 := drop_suf (i := 0) (by simpa using hqt)
          obtain ⟨hdi, hdt, hdd, hdl⟩ := drop_at hqd
          have hxZ := HTY.out.on hbZ
          have haZ := ((hta.bound.mono (Q := fun b => w.heap.size + 1 ≤ b ∧ b ≠ xb) (fun b hb => ⟨by have := hb.1; omega, by have := hb.1; omega⟩)).on b2)
          generalize hP2 : toks.length - (d :: q2).length = P2 at *
          obtain ⟨U0, eU0⟩ : ∃ U0, putX Z xb (.int .i64 4) (.int .i64 0) (.string ⟨#[]⟩) (.slice (some ⟨y.heap.size + 1, 0, none⟩) 2 2) (.slice none 0 0) (.slice none 0 0) (.int .i64 P2) (.int .i64 0) (.int .i64 0) = U0 := ⟨_, rfl⟩
          have hUn : ∀ k, k ≠ xb → U0.heap[k]? = Z.heap[k]? := fun k hk => by rw [← eU0]; exact putX_ne _ _ _ _ _ _ _ _ _ _ _ k hk
          have hUb0 := putX_self hk1Z (.int .i64 4) (.int .i64 0) (.string ⟨#[]⟩) (.slice (some ⟨y.heap.size + 1, 0, none⟩) 2 2) (.slice none 0 0) (.slice none 0 0) (.int .i64 P2) (.int .i64 0) (.int .i64 0)
          rw [eU0] at hUb0
          have hUs : U0.heap.size = Z.heap.size := by rw [← eU0]; exact putX_size _ _ _ _ _ _ _ _ _ _ _
          have hUB0 : Below w.heap.size w U0 := by rw [← eU0]; exact putX_below hbw (by omega) _ _ _ _ _ _ _ _ _
          have hKp : Keeps (fun b => w.heap.size + 1 ≤ b ∧ b ≠ xb) Z U0 := ⟨by omega, fun b off hb _ => World.cell?_of_block (a := ⟨b, off, none⟩) (hUn b hb.2)⟩
          have hnew := app_new (hxZ.keep hKp) (haZ.keep hKp) 27
          have hbn := below_new U0 (.cells #[.int .i64 f, .int .i64 nn, .string s, .slice A l cc, .int .i64 f2, .int .i64 n2, .string s2, .slice A2 l2 c2] 27)
          obtain ⟨U, eU⟩ : ∃ U, U0.alloc (.cells #[.int .i64 f, .int .i64 nn, .string s, .slice A l cc, .int .i64 f2, .int .i64 n2, .string s2, .slice A2 l2 c2] 27) = U := ⟨_, rfl⟩
          have hUs2 : U.heap.size = U0.heap.size + 1 := by rw [← eU]; simp
          rw [eU] at hnew hbn
          rw [hUs, z2] at hnew
          have hUb := (hbn.block xb (by omega)).trans hUb0
          have hUB : Below w.heap.size w U := hUB0.trans (hbn.mono hUB0.size)
          have hUT : TyAt (fun b => w.heap.size + 1 ≤ b ∧ b ≠ xb) U (.app x a) (.agg #[.int .i64 4, .int .i64 0, .string ⟨#[]⟩, .slice (some ⟨y.heap.size + 1, 0, none⟩) 2 2]) := by
            refine hnew.mono (Q := fun b => w.heap.size + 1 ≤ b ∧ b ≠ xb) (fun b hb => ?_)
            rcases hb with hb | hb
            · exact hb
            · rw [hb]; exact ⟨by omega, by omega⟩
          have hUR := (hbn.block w.heap.size (by omega)).trans ((hUn w.heap.size (by omega)).trans hkZ)
          have hUTok : TokC U g toks := HT0.out.block (hUB.block g hg)
          have HBG := Lib.hid (refbegins_any d U)
          obtain ⟨y0, y1, y2, y3⟩ := hUTok _ hdi
          rw [hdt] at y0 y1 y2 y3
          have hgU : g < U.heap.size := by omega
          have hREL : ∀ u, Below U.heap.size U u → XRel toks w xb o R n m (.bool (begT d)) u := fun u hu =>
            ⟨by omega, .app x a, d, q2, 4, 0, ⟨#[]⟩, _, 2, 2, rfl, by rw [hP2]; exact (hu.block _ (by omega)).trans hUb, hUT.on hu, hUB.trans (hu.mono hUB.size), (hu.block _ (by omega)).trans hUR, hqt, hap⟩
          have HREL := Lib.hid hREL
          have HEZ := Lib.hid eZ
          have eU2 := eU0
          unfold putX at eU2
          have HEU0 := Lib.hid eU2
          have HEU := Lib.hid eU
          obtain ⟨m0, m1, m2, m3, m4, m5, m6, m7, m8, _⟩ := nine_cells hUb
          obtain ⟨v0, v1, v2, v3, v4, v5, v6, v7, v8, j0, j1, j2, j3, j4, j5, j6, j7, j8, hj⟩ := nine_cells hk1Z
          obtain ⟨a0, a1, a2, a3, a4, a5, a6, a7, a8, _⟩ := nine_cells k2
          have hPI2 : (P2 : Int) < (toks.length : Int) := by omega
          have hP02 : (0 : Int) ≤ (P2 : Int) := by omega
          clear hb eZ eU eU2 eU0 b2 hbZ hbw herr hsuf hs9 hqd hdd hdl hta hxZ haZ hnew hbn hUn hUs hUB hUT hUR hUTok hREL hdt hap hkZ hUb0 hUB0 hKp
          go_upto_region 7 with (fail)
          rw [HEZ.out]
          go_upto_region 10 with (fail)
          rw [HEU0.out, HEU.out]
          go_wp2_with fail
          (with_reducible refine HBG.out.mono ?_)
          rintro e4 u ⟨rfl, hbu⟩
          have HR2 := Lib.hid (HREL.out u hbu)
          clear hbu
          go_wp2_with fail
          go_roundg m
          case rel => exact HR2.out
          case measure => omega
      | false =>
        rw [hbg] at hap
        simp only [Bool.false_eq_true, if_false, Option.some.injEq] at hap
        subst hap
        have hres := HRES.out
        simp only at hres
        have HIS : Hid (Calls Tryz.prog 47 #[.agg #[.int .i64 c.kind, .string (mkB c.text), .int .i64 c.num, .int .i64 c.place], .string ⟨#[45, 62]⟩] wr fun e w' => e = .returned (.bool (isSym c [45, 62])) ∧ Below wr.heap.size wr w') := is_any c [45, 62] wr
        have HCD := Lib.hid hcd
        clear hTr hk1 hk0 hbw hty hct hplace hcd hcl hdc
        go_wp2_with fail
        (with_reducible refine HIS.out.mono ?_)
        rintro e3 v ⟨rfl, hbv⟩
        have hkv := (hbv.block w.heap.size (by omega)).trans HKR.out
        have hk1v := (hbv.block xb (by omega)).trans HK1.out
        have hbw := HBw.out.trans (hbv.mono HBw.out.size)
        have hxv := HTY.out.on hbv
        have hvs := hbv.size
        have hTv : TokC v g toks := HT0.out.block (hbw.block g hg)
        cases hq : isSym c [45, 62] with
        | false =>
          rw [hq] at hres
          simp only [Bool.false_eq_true, if_false, Option.some.injEq] at hres
          subst hres
          obtain ⟨m0, m1, m2, m3, m4, m5, m6, m7, m8, _⟩ := nine_cells hk1v
          obtain ⟨u0, u1, u2, u3, u4, u5, u6, u7, u8, f0, f1, f2, f3, f4, f5, f6, f7, f8, hw0⟩ := nine_cells hkv
          have HE := Lib.hid (x_ok (toks := toks) (t := x) (q := c :: r) (i := (P : Int)) (by rw [hP]) (hxv.mono (fun b hb => hb.1)) hbw (.int .i64 f) (.int .i64 nn) (.string s) (.slice A l cc) (.slice none 0 0) (.slice none 0 0) (.int .i64 (P : Int)) (.int .i64 0) (.int .i64 0))
          clear hbv hkv hk1v hbw hxv hTv hq
          go_wp2_with fail
          exact bodyPost_ret (v := .agg #[.int .i64 f, .int .i64 nn, .string s, .slice A l cc, .slice none 0 0, .slice none 0 0, .int .i64 (P : Int), .int .i64 0, .int .i64 0]) (by simp [results, Tryz.results23, go_sem, u0, u1, u2, u3, u4, u5, u6, u7, u8]) rfl HE.out
        | true =>
          rw [hq] at hres
          simp only [if_true] at hres
          obtain ⟨r3, hr3⟩ : ∃ r3, typeN n r o = some r3 := by
            cases ha : typeN n r o with
            | none => rw [ha] at hres; cases hres
            | some r3 => exact ⟨r3, rfl⟩
          rw [hr3] at hres
          simp only [Option.map_some, Option.some.injEq] at hres
          have herr := (err_all n).2.2 r o
          have hsuf := (suff_all n).2.2 r o
          rw [hr3] at herr hsuf
          have hit := HIT.out (P + 1) o v r3 hTv (by omega) ho (by rw [HCD.out]; exact hr3)
          rw [show (((P + 1 : Nat)) : Int) = (P : Int) + 1 by push_cast; rfl] at hit
          have HC := Lib.hid hit
          obtain ⟨m0, m1, m2, m3, m4, m5, m6, m7, m8, _⟩ := nine_cells hk1v
          have HKv := Lib.hid hkv
          have HK1v := Lib.hid hk1v
          have HBw2 := Lib.hid hbw
          have HXv := Lib.hid hxv
          clear hbv hkv hk1v hbw hxv hTv hq hit hr3
          go_wp2_with fail
          (with_reducible refine HC.out.mono ?_)
          intro e4 y hy
          cases r3 with
          | no e p =>
            obtain ⟨rfl, hb⟩ := hy
            subst hres
            have he := herr e p rfl
            have he0 : ((e : Int) == 0) = false := by rw [beq_eq_false_iff_ne]; omega
            obtain ⟨Z, eZ, k1, b2, z2⟩ := box9 y (.int .i64 0) (.int .i64 0) (.string ⟨#[]⟩) (.slice none 0 0) (.slice none 0 0) (.slice none 0 0) (.int .i64 0) (.int .i64 e) (.int .i64 p) 35
            have hbZ := hb.trans (b2.mono hb.size)
            have hkZ := (hbZ.block w.heap.size (by omega)).trans HKv.out
            have hbw := HBw2.out.trans (hbZ.mono HBw2.out.size)
            obtain ⟨v0, v1, v2, v3, v4, v5, v6, v7, v8, _⟩ := nine_cells k1
            obtain ⟨u0, u1, u2, u3, u4, u5, u6, u7, u8, f0, f1, f2, f3, f4, f5, f6, f7, f8, hw0⟩ := nine_cells hkZ
            have hne : w.heap.size < y.heap.size := by have := hb.size; omega
            have HEZ := Lib.hid eZ
            have HE : Hid (XRes toks (wrapF [x] (.no e p)) w (.returned (.agg #[.int .i64 0, .int .i64 0, .string ⟨#[]⟩, .slice none 0 0, .slice none 0 0, .slice none 0 0, .int .i64 0, .int .i64 e, .int .i64 p])) (putX Z w.heap.size (.int .i64 0) (.int .i64 0) (.string ⟨#[]⟩) (.slice none 0 0) (.slice none 0 0) (.slice none 0 0) (.int .i64 0) (.int .i64 e) (.int .i64 p))) := x_no (toks := toks) (ec := e) (p := p) hbw (.int .i64 0) (.int .i64 0) (.string ⟨#[]⟩) (.slice none 0 0) (.slice none 0 0) (.slice none 0 0) (.int .i64 0) (.int .i64 e) (.int .i64 p)
            clear hb eZ k1 b2 hbZ hkZ hbw herr hsuf
            go_upto_region 15 with (fail)
            rw [HEZ.out]
            go_wp2_with fail
            exact bodyPost_ret (v := .agg #[.int .i64 0, .int .i64 0, .string ⟨#[]⟩, .slice none 0 0, .slice none 0 0, .slice none 0 0, .int .i64 0, .int .i64 e, .int .i64 p]) (by simp [results, Tryz.results23, go_sem, u0, u1, u2, u3, u4, u5, u6, u7, u8]) rfl HE.out
          | ok z q3 =>
            obtain ⟨f2, n2, s2, A2, l2, c2, rfl, htz, hb⟩ := hy
            obtain ⟨Z, eZ, k2, b2, z2⟩ := box9 y (.int .i64 f2) (.int .i64 n2) (.string s2) (.slice A2 l2 c2) (.slice none 0 0) (.slice none 0 0) (.int .i64 ((toks.length - q3.length : Nat) : Int)) (.int .i64 0) (.int .i64 0) 35
            have hbZ := hb.trans (b2.mono hb.size)
            have hkZ := (hbZ.block w.heap.size (by omega)).trans HKv.out
            have hk1Z := (hbZ.block xb (by omega)).trans HK1v.out
            have hbw := HBw2.out.trans (hbZ.mono HBw2.out.size)
            have hne : xb < y.heap.size := by have := hb.size; omega
            have hne2 : w.heap.size < y.heap.size := by have := hb.size; omega
            have hxZ := (HXv.out.on hbZ).mono (Q := fun b => w.heap.size + 1 ≤ b) (fun b hb => hb.1)
            have hzZ := ((htz.mono (Q := fun b => w.heap.size + 1 ≤ b) (fun b (hb : v.heap.size ≤ b) => (by omega : w.heap.size + 1 ≤ b))).on b2)
            generalize hP3 : ((toks.length - q3.length : Nat) : Int) = P3 at *
            have hdrew : Below Z.heap.size Z Z.drew := (Below.refl _ Z).drew
            have HFUN : Hid (Calls Tryz.prog 48 #[.agg #[.int .i64 f, .int .i64 nn, .string s, .slice A l cc], .agg #[.int .i64 f2, .int .i64 n2, .string s2, .slice A2 l2 c2]] Z.drew fun e u => ∃ f5 n5 s5 A5 l5 c5, e = .returned (.agg #[.int .i64 f5, .int .i64 n5, .string s5, .slice A5 l5 c5]) ∧
                XRes toks (wrapF [x] (.ok z q3)) w (.returned (.agg #[.int .i64 f5, .int .i64 n5, .string s5, .slice A5 l5 c5, .slice none 0 0, .slice none 0 0, .int .i64 P3, .int .i64 0, .int .i64 0])) (putX u w.heap.size (.int .i64 f5) (.int .i64 n5) (.string s5) (.slice A5 l5 c5) (.slice none 0 0) (.slice none 0 0) (.int .i64 P3) (.int .i64 0) (.int .i64 0)) ∧ Below Z.heap.size Z u ∧
                u.heap[y.heap.size]? = some (.cells #[.int .i64 f2, .int .i64 n2, .string s2, .slice A2 l2 c2, .slice none 0 0, .slice none 0 0, .int .i64 P3, .int .i64 0, .int .i64 0] 35) ∧ u.heap[w.heap.size]? = some (.cells #[.int .i64 0, .int .i64 0, .string ⟨#[]⟩, .slice none 0 0, .slice none 0 0, .slice none 0 0, .int .i64 0, .int .i64 0, .int .i64 0] 35)) := by
              refine (reffun_any (fun b => w.heap.size + 1 ≤ b) x z _ _ Z.drew (hxZ.on hdrew) (hzZ.on hdrew)).mono ?_
              rintro e u ⟨tv, rfl, htv, hbu⟩
              obtain ⟨f5, n5, s5, A5, l5, c5, rfl⟩ := htv.flat
              have hbu' : Below Z.heap.size Z u := hdrew.trans hbu
              have hty5 : TyAt (fun b => w.heap.size + 1 ≤ b) u (.app (.app (.con ⟨#[45, 62]⟩) x) z) (.agg #[.int .i64 f5, .int .i64 n5, .string s5, .slice A5 l5 c5]) := htv.mono (fun b hb => by
                rcases hb with hb | hb
                · exact hb
                · have : Z.heap.size ≤ b := hb
                  exact (by omega : w.heap.size + 1 ≤ b))
              exact ⟨f5, n5, s5, A5, l5, c5, rfl, x_ok (toks := toks) (t := Ty.fn x z) (q := q3) hP3.symm hty5 (hbw.trans (hbu'.mono hbw.size)) _ _ _ _ _ _ _ _ _, hbu', (hbu'.block _ (by omega)).trans k2, (hbu'.block _ (by omega)).trans hkZ⟩
            obtain ⟨v0, v1, v2, v3, v4, v5, v6, v7, v8, j0, j1, j2, j3, j4, j5, j6, j7, j8, hj⟩ := nine_cells hk1Z
            obtain ⟨a0, a1, a2, a3, a4, a5, a6, a7, a8, _⟩ := nine_cells k2
            have HEZ := Lib.hid eZ
            subst hres
            clear hb eZ k2 b2 hbZ hkZ hbw herr hsuf hxZ hzZ htz hk1Z hdrew
            go_upto_region 15 with (fail)
            rw [HEZ.out]
            go_wp2_with fail
            go_region_law (first | (go_simp; go_at_call 48; (with_reducible refine HFUN.out.mono ?_); rintro e5 u ⟨f5, n5, s5, A5, l5, c5, rfl, hx5, hb5, k5, k6⟩; have HX5 := Lib.hid hx5; obtain ⟨b0, b1, b2, b3, b4, b5, b6, b7, b8, _⟩ := nine_cells k5; obtain ⟨u0, u1, u2, u3, u4, u5, u6, u7, u8, g0, g1, g2, g3, g4, g5, g6, g7, g8, hw0⟩ := nine_cells k6; clear hx5 hb5 k5 k6))
            all_goals
              go_wp2_with fail
              exact bodyPost_ret (v := .agg #[.int .i64 f5, .int .i64 n5, .string s5, .slice A5 l5 c5, .slice none 0 0, .slice none 0 0, .int .i64 P3, .int .i64 0, .int .i64 0]) (by simp [results, Tryz.results23, go_sem, u0, u1, u2, u3, u4, u5, u6, u7, u8]) rfl HX5.out
end Go.Proofs.YtbdfjboojokgdaaGreatDoor
