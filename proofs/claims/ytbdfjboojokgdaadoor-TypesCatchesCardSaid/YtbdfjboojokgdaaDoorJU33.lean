/- What types' (*subst).inAll (chapter 4) stands on: stores into the map of what is put where, rows that grow, what is idle. Conditions: those that each theorem names. What types' (*subst).inAll (chapter 4) asks of its two functions, and rows of puts that are turned. Conditions: those that each theorem names. The contract of types' newPut (chapter 4). Condition: names are of at most 2^40 bytes, the type has at most 2^38 nodes. -/
import Derived.Test.YtbdfjboojokgdaaDoorJU32
import Derived.Test.YtbdfjboojokgdaaDoorJU22
namespace Go.Proofs.YtbdfjboojokgdaaDoor
open Go.RowKit

/-- A store into the map of what is put where. -/
theorem SbSt.store {B sb lb pb ub : Nat} {vs : List (ByteArray × Int)} {es : List Int} {P : ByteArray → Option Ty} {N : Nat} {bh op dp : Int} {w : World} (h : SbSt B sb lb pb ub vs es P N bh op dp w) (hN : N ≤ 1099511627776) {x : ByteArray} (hx : x.size ≤ 1099511627776) (val : Value) (u : Option Ty) (hv : PutV B ub w x (some val) u) :
    ∃ w', (Instr.mapUpdate 116 (.map (some ub)) (.string x) val).run Tryd.prog w = .ok () w' ∧ SbSt B sb lb pb ub vs es (updP P x u) (N + 1) bh op dp w' ∧ w.grownBy w' (some ub) := by
  obtain ⟨sz, f, m1, m2, m3⟩ := h.puts
  obtain ⟨w', r1, r2, r3⟩ := m1.store (t := 116) (e := 113) Tryd.underlying9 Tryd.underlying116 (by unfold maxLen; omega) val (x := x) (by unfold maxLen; omega)
  have hp := h.parts (World.ownsRow_nil w B 113 1) (FrSb.map (g := none) r3)
  refine ⟨w', r1, ⟨⟨h.hB.1, h.hB.2.1, h.hB.2.2.1, h.hB.2.2.2.1, hp.2.2.1⟩, h.ne, hp.1, hp.2.1, ?_, _, _, r2, by split <;> omega, fun y => ?_⟩, r3⟩
  · refine (r3.block sb (lt_of_block h.cell) (fun e => ?_)).trans h.cell
    injection e with e
    exact m1.notCells _ _ (e ▸ h.cell)
  · unfold setS updP
    by_cases e : y = x
    · rw [if_pos e, if_pos e, e]; exact hv.map hp.2.2.2
    · rw [if_neg e, if_neg e]; exact (m3 y).map hp.2.2.2
theorem IntoAt.store {B sb lb pb ub : Nat} {vs : List (ByteArray × Int)} {es : List Int} {P : ByteArray → Option Ty} {N : Nat} {bh op dp : Int} {w w' : World} {v : Value} {l : List PutI} (hi : IntoAt B ub w v l) (h : SbSt B sb lb pb ub vs es P N bh op dp w) (hg : w.grownBy w' (some ub)) : IntoAt B ub w' v l :=
  hi.keep h (World.ownsRow_nil w B 113 1) (FrSb.map (g := none) hg) (fun k hk => hg.block k (World.ownsRow.lt hi.1 k hk).2 (fun e => by
    injection e with e
    obtain ⟨sz, f, m1, _⟩ := h.puts
    obtain ⟨cur, hc⟩ := own_type hi.1 hk
    exact m1.notCells _ _ (e ▸ hc)))
theorem SbSt.keepPut {B sb lb pb ub : Nat} {vs : List (ByteArray × Int)} {es : List Int} {P : ByteArray → Option Ty} {N : Nat} {bh op dp : Int} {w w' : World} (h : SbSt B sb lb pb ub vs es P N bh op dp w) (hg : w.grownBy w' (some ub)) {b : Nat} {s : ByteArray} {t : Ty} (hp : PutAt B ub w b s t) : PutAt B ub w' b s t :=
  (h.parts (World.ownsRow_nil w B 113 1) (FrSb.map (g := none) hg)).2.2.2 _ _ _ hp
/-- A box that lies behind the search's own blocks stays. -/
theorem FrSb.box {sb ub : Nat} {g : Option Nat} {w w' : World} (h : FrSb sb ub g w w') {b : Nat} {o : Obj} (hb : w.heap[b]? = some o) (h1 : b ≠ sb) (h2 : b ≠ ub) (h3 : g ≠ some b) : w'.heap[b]? = some o :=
  (h.block b (lt_of_block hb) h1 h2 h3).trans hb
set_option maxRecDepth 100000 in
/-- One put more behind a row, which stays as it was. -/
theorem run_append_put {B : Nat} {w : World} {v : Value} {l : List PutI} (p : PutI) (hown : w.ownsRow B 113 1 v l.length (ptrs l)) (ad : Addr) (hc : w.cell? ad = some (ptrV p.1)) (hl : l.length ≤ 1048576) (hB : B ≤ w.heap.size) (ty : TypeId) :
    ∃ v' w', (Builtin.append_ #[112, 112] ty #[v, .slice (some ad) 1 1]).run Tryd.prog w = .ok v' w' ∧ w'.ownsRow B 113 1 v' (l ++ [p]).length (ptrs (l ++ [p])) ∧ w'.ownsRow B 113 1 v l.length (ptrs l) ∧ w.grownBy w' v.ownBlock ∧ ∀ k, v'.ownBlock = some k → v.ownBlock = some k ∨ k = w.heap.size := by
  obtain ⟨i0, hi, hz0, hzs, hzb⟩ := info_parts' Tryd.info113
  have hnews : ∀ j u, [ptrV p.1][j]? = some u → w.cell? (ad.add j) = some u := fun j u hj => by
    match j, hj with
    | 0, hj =>
      simp only [List.getElem?_cons_zero, Option.some.injEq] at hj
      subst hj
      have : ad.add 0 = ad := by unfold Addr.add; simp
      rw [this]; exact hc
  obtain ⟨v', w', hr, h2, h3, _, h5⟩ := run_append_own_at (P := Tryd.prog) w B 112 ty 113 i0 (.pointer none) 1 8 Tryd.underlying112 hi hz0 hzs hzb rfl (by decide) v l.length (ptrs l) hown ad 1 1 [ptrV p.1] rfl hnews (fun u hu => by rw [List.mem_singleton] at hu; subst hu; rfl) (by unfold maxLen; omega) (by omega) hB
  refine ⟨v', w', hr, ?_, ?_, h3, fun k hk => ?_⟩
  · have e : (l ++ [p]).length = l.length + 1 := by simp
    have e2 : ptrs (l ++ [p]) = ptrs l ++ [ptrV p.1] := by simp [ptrs]
    rw [e, e2]; exact h2
  · rcases hown.2 with ⟨h9, h8⟩ | ⟨g, cap, cur, hv, hBg, hg, hnc, hcm, hcs, htake⟩
    · exact ⟨hown.1, .inl ⟨h9, h8⟩⟩
    · subst hv
      by_cases hroom : l.length + 1 ≤ cap
      · have hr2 := run_append_room (P := Tryd.prog) w 112 ty 113 i0 Tryd.underlying112 hi g l.length cap cur hg ad 1 1 [ptrV p.1] (by rw [hzs]; rfl) hnews (fun u hu => by rw [List.mem_singleton] at hu; subst hu; rfl) hroom (by rw [hzs, hcs]; simp; omega)
        rw [hr] at hr2
        injection hr2 with e1 e2
        subst e2
        refine ⟨hown.1, .inr ⟨g, cap, _, rfl, hBg, setRow_heap w g cur _ 113 _ hg, hnc, hcm, ?_, ?_⟩⟩
        · have hcl : cur.toList.length = cap := by rw [Array.length_toList, hcs]; omega
          simp only [List.size_toArray, List.length_append, List.length_take, List.length_drop, hcl, hzs, List.length_cons, List.length_nil]
          omega
        · rw [hzs, List.append_assoc, htake, ← hown.1]
          exact List.take_left
      · have holds : ∀ j u, (ptrs l)[j]? = some u → w.cell? ((⟨g, 0, none⟩ : Addr).add j) = some u := hown.cells (g := g) rfl
        have hr2 := run_append_grow (P := Tryd.prog) w 112 ty 113 i0 (.pointer none) Tryd.underlying112 hi hz0 ⟨g, 0, none⟩ l.length cap (ptrs l) (by rw [hzs]; exact hown.1) holds ad 1 1 [ptrV p.1] (by rw [hzs]; rfl) hnews (by omega) (by omega) (growslice_fits (by omega) (by rw [hzb]; omega))
        rw [hr] at hr2
        injection hr2 with e1 e2
        subst e2
        exact own_keep hown (fun k hk => by
          have hlt := (World.ownsRow.lt hown k hk).2
          exact heap_alloc_old w.drew _ k hlt)
  · rcases h5 with h5 | h5
    · exact .inl (h5.symm.trans hk)
    · right; rw [h5] at hk; injection hk with hk; exact hk.symm
end Go.Proofs.YtbdfjboojokgdaaDoor
namespace Go.Proofs.YtbdfjboojokgdaaDoor
open Go.RowKit

section
variable {B sb lb pb ub : Nat} {vs : List (ByteArray × Int)} {es : List Int} {P : ByteArray → Option Ty} {N : Nat} {bh op dp : Int} {w w' : World}
/-- A row of puts is turned. -/
theorem SbSt.row (h : SbSt B sb lb pb ub vs es P N bh op dp w) {v : Value} {n : Nat} {xs : List Value} (ho : w.ownsRow B 113 1 v n xs) (hg : w.grownBy w' v.ownBlock) : SbSt B sb lb pb ub vs es P N bh op dp w' := by
  obtain ⟨h1, h2, h3, h4⟩ := h.parts ho (FrSb.row hg)
  obtain ⟨sz, f, m1, m2, m3⟩ := h.puts
  refine ⟨⟨h.hB.1, h.hB.2.1, h.hB.2.2.1, h.hB.2.2.2.1, h3⟩, h.ne, h1, h2, (hg.block sb (lt_of_block h.cell) (fun e => own_not ho h.cell (by decide) e.symm)).trans h.cell, sz, f, m1.block (hg.block ub m1.lt (fun e => ?_)), m2, fun x => (m3 x).map h4⟩
  obtain ⟨cur, hc⟩ := own_type ho e.symm
  exact m1.notCells _ _ hc
theorem IntoAt.row {v' : Value} {l' : List PutI} (hi : IntoAt B ub w v' l') (h : SbSt B sb lb pb ub vs es P N bh op dp w) {v : Value} {n : Nat} {xs : List Value} (ho : w.ownsRow B 113 1 v n xs) (hg : w.grownBy w' v.ownBlock) (hne : ∀ k, v'.ownBlock = some k → v.ownBlock ≠ some k) : IntoAt B ub w' v' l' :=
  hi.keep h ho (FrSb.row hg) (fun k hk => hg.block k (World.ownsRow.lt hi.1 k hk).2 (fun e => hne k hk e.symm))
end
/-- What the idle puts are asked in. -/
structure IdR (B sb lb pb ub : Nat) (vs : List (ByteArray × Int)) (es : List Int) (P : ByteArray → Option Ty) (N n : Nat) (op dp : Int) (m : Nat) (s : ByteArray) (Z : Nat) (l : List PutI) (y : World) : Prop where
  st : SbSt B sb lb pb ub vs es P N n op dp y
  put : ∀ x ∈ l, PutAt B ub y x.1 x.2.1 x.2.2
  nb : y.cell? ⟨Z + 4, 0, none⟩ = some (.string s)
  xb : y.cell? ⟨Z, 0, none⟩ = some (.pointer (some ⟨sb, 0, none⟩))
  eb : y.cell? ⟨Z + 3, 0, none⟩ = some (.int .i64 m)
  z : Z + 5 ≤ y.heap.size
def idleP (vs : List (ByteArray × Int)) (n m : Nat) (dp : Int) (s : ByteArray) (x : PutI) : Bool := decide (x.2.1 = s) || !freeQ vs n m dp x.2.1
section
variable {B sb lb pb ub : Nat} {vs : List (ByteArray × Int)} {es : List Int} {P : ByteArray → Option Ty} {N n m Z : Nat} {op dp : Int} {s : ByteArray} {l : List PutI}
theorem IdR.on {y y' : World} (h : IdR B sb lb pb ub vs es P N n op dp m s Z l y) (hb : Below y.heap.size y y') : IdR B sb lb pb ub vs es P N n op dp m s Z l y' := by
  have hz := h.z
  have hs := hb.size
  exact ⟨h.st.on hb, fun x hx => (h.st.parts (World.ownsRow_nil y B 113 1) (FrSb.of_below (g := none) hb)).2.2.2 _ _ _ (h.put x hx), (hb.cell (p := ⟨Z + 4, 0, none⟩) (by show Z + 4 < _; omega)).trans h.nb, (hb.cell (p := ⟨Z, 0, none⟩) (by show Z < _; omega)).trans h.xb, (hb.cell (p := ⟨Z + 3, 0, none⟩) (by show Z + 3 < _; omega)).trans h.eb, by omega⟩
theorem IdR.tell {y : World} (h : IdR B sb lb pb ub vs es P N n op dp m s Z l y) (hv : vs.length ≤ 1099511627776) {x : PutI} (hx : x ∈ l) : Calls Tryd.prog 135 (#[ptrV x.1] ++ #[.pointer (some ⟨Z + 4, 0, none⟩), .pointer (some ⟨Z, 0, none⟩), .pointer (some ⟨Z + 3, 0, none⟩)]) y fun e y' => e = .returned (.bool (idleP vs n m dp s x)) ∧ Below y.heap.size y y' := by
  show Calls Tryd.prog 135 #[ptrV x.1, .pointer (some ⟨Z + 4, 0, none⟩), .pointer (some ⟨Z, 0, none⟩), .pointer (some ⟨Z + 3, 0, none⟩)] y _
  by_cases e : x.2.1 = s
  · have hp := h.put x hx
    rw [e] at hp
    have : idleP vs n m dp s x = true := by unfold idleP; rw [decide_eq_true e]; rfl
    rw [this]
    exact idle_yes hp h.nb
  · have : idleP vs n m dp s x = !freeQ vs n m dp x.2.1 := by unfold idleP; rw [decide_eq_false e]; rfl
    rw [this]
    exact idle_no (h.put x hx) h.st hv h.nb h.xb h.eb e
theorem IdR.pred (hv : vs.length ≤ 1099511627776) : PredF 135 #[.pointer (some ⟨Z + 4, 0, none⟩), .pointer (some ⟨Z, 0, none⟩), .pointer (some ⟨Z + 3, 0, none⟩)] (IdR B sb lb pb ub vs es P N n op dp m s Z l) l (idleP vs n m dp s) :=
  ⟨fun vs y => by first | kernel_rfl | rfl, fun y y' h hb => h.on hb, fun x hx y h => h.tell hv hx⟩
/-- The same while a row of puts is turned. -/
theorem IdR.predRow {g c k : Nat} (hv : vs.length ≤ 1099511627776) : PredF 135 #[.pointer (some ⟨Z + 4, 0, none⟩), .pointer (some ⟨Z, 0, none⟩), .pointer (some ⟨Z + 3, 0, none⟩)] (fun y => IdR B sb lb pb ub vs es P N n op dp m s Z l y ∧ Z + 5 ≤ g ∧ ∃ ys, y.ownsRow B 113 1 (.slice (some ⟨g, 0, none⟩) k c) k ys) l (idleP vs n m dp s) :=
  ⟨fun vs y => by first | kernel_rfl | rfl, fun y y' h hb => ⟨h.1.on hb, h.2.1, h.2.2.imp (fun ys ho => own_below ho hb)⟩, fun x hx y h => h.1.tell hv hx⟩
theorem IdR.set {g c k : Nat} {y : World} (i : Nat) (u : Value) (h : IdR B sb lb pb ub vs es P N n op dp m s Z l y ∧ Z + 5 ≤ g ∧ ∃ ys, y.ownsRow B 113 1 (.slice (some ⟨g, 0, none⟩) k c) k ys) : IdR B sb lb pb ub vs es P N n op dp m s Z l (y.setCell ⟨g, i, none⟩ u) ∧ Z + 5 ≤ g ∧ ∃ ys, (y.setCell ⟨g, i, none⟩ u).ownsRow B 113 1 (.slice (some ⟨g, 0, none⟩) k c) k ys := by
  obtain ⟨h1, hg, ys, ho⟩ := h
  obtain ⟨h2, h3⟩ := World.ownsRow.stored ho i u
  have hc : ∀ b, b < Z + 5 → (y.setCell ⟨g, i, none⟩ u).cell? ⟨b, 0, none⟩ = y.cell? ⟨b, 0, none⟩ := fun b hb => World.cell?_of_block (a := ⟨b, 0, none⟩) (Below.heap_setCell _ _ _ _ (by simp only; omega))
  exact ⟨⟨h1.st.row ho h3, fun x hx => (h1.st.parts ho (FrSb.row h3)).2.2.2 _ _ _ (h1.put x hx), (hc _ (by omega)).trans h1.nb, (hc _ (by omega)).trans h1.xb, (hc _ (by omega)).trans h1.eb, by simpa using h1.z⟩, hg, _, h2⟩
end
theorem into_of {l : List PutI} {vs : List (ByteArray × Int)} {n m : Nat} {dp : Int} {s : ByteArray} {b : Ty} (hf : ∀ x, freeQ vs n m dp x = hasB b.free x) : (l.filter (fun x => !idleP vs n m dp s x)).map (·.2) = intoB s b (l.map (·.2)) := by
  unfold intoB
  rw [List.filter_map]
  congr 1
  refine List.filter_congr (fun x _ => ?_)
  unfold idleP
  rw [hf]
  show (!(decide (x.2.1 = s) || !hasB b.free x.2.1)) = (decide (x.2.1 ≠ s) && hasB b.free x.2.1)
  by_cases e : x.2.1 = s <;> simp [e]
/-! ### What would be caught -/
def caughtP (s : ByteArray) (x : PutI) : Bool := hasB x.2.2.free s
theorem caught_is (l : List PutI) (s : ByteArray) : l.any (caughtP s) = hasB (takenB (l.map (·.2))) s := by
  induction l with
  | nil => rfl
  | cons a r ih =>
    have e : takenB ((a :: r).map (·.2)) = a.2.2.free ++ takenB (r.map (·.2)) := by simp [takenB]
    rw [List.any_cons, ih, e, hasB_app]; rfl
theorem IdR.caught {B sb lb pb ub : Nat} {vs : List (ByteArray × Int)} {es : List Int} {P : ByteArray → Option Ty} {N n m Z : Nat} {op dp : Int} {s : ByteArray} {l : List PutI} (hs : s.size ≤ 1099511627776) : PredF 140 #[.pointer (some ⟨Z + 4, 0, none⟩)] (IdR B sb lb pb ub vs es P N n op dp m s Z l) l (caughtP s) :=
  ⟨fun vs y => by first | kernel_rfl | rfl, fun y y' h hb => h.on hb, fun x hx y h => by
    show Calls Tryd.prog 140 #[ptrV x.1, .pointer (some ⟨Z + 4, 0, none⟩)] y _
    exact catch_any (h.put x hx) h.nb hs⟩
theorem TyAt.var_any {P Q : Nat → Prop} {w : World} {s : ByteArray} {v : Value} (h : TyAt P w (.var s) v) : TyAt Q w (.var s) v := by
  cases h with
  | intro _ A c u hc hm hrow hk => exact .intro (.var s) A c u hc hm (.inl rfl) (fun i h => absurd h (Nat.not_lt_zero _))
theorem fresh_size20 (a : Ty) (τ : List (ByteArray × Ty)) (h : (takenB τ ++ a.free).length ≤ 1099511627776) : (freshB a τ).size ≤ 20 := by
  have h1 := (letN_first (fun x => hasB (takenB τ ++ a.free) x) (takenB τ ++ a.free).length (letter_ex _ _ (fun s hs => hasB_mem.1 hs))).2.1
  exact letB_size20 _ (by omega)
/-- Two rows in one block have one room. -/
theorem row_room {B B' : Nat} {w : World} {e : TypeId} {g n n' c c' : Nat} {xs xs' : List Value} (h : w.ownsRow B e 1 (.slice (some ⟨g, 0, none⟩) n c) n xs) (h' : w.ownsRow B' e 1 (.slice (some ⟨g, 0, none⟩) n' c') n' xs') : c = c' := by
  rcases h.2 with ⟨h1, _⟩ | ⟨g1, cap1, cur1, e1, _, k1, _, _, s1, _⟩
  · cases h1
  · rcases h'.2 with ⟨h1, _⟩ | ⟨g2, cap2, cur2, e2, _, k2, _, _, s2, _⟩
    · cases h1
    · injection e1 with e1 _ e3; injection e1 with e1; injection e1 with e1
      injection e2 with e2 _ e4; injection e2 with e2; injection e2 with e2
      subst e1 e2 e3 e4
      rw [k1] at k2; injection k2 with k2; injection k2 with k2
      subst k2
      omega
theorem taken_filter (l : List PutI) (q : PutI → Bool) : (takenB ((l.filter q).map (·.2))).length ≤ (takenB (l.map (·.2))).length := by
  induction l with
  | nil => exact Nat.le_refl _
  | cons a r ih =>
    have e : ∀ (a : PutI) (r : List PutI), takenB ((a :: r).map (·.2)) = a.2.2.free ++ takenB (r.map (·.2)) := fun a r => by simp [takenB]
    by_cases h : q a = true
    · rw [List.filter_cons_of_pos h, e, e, List.length_append, List.length_append]; omega
    · rw [List.filter_cons_of_neg h, e, List.length_append]; omega
/-- An append at a step of a region that draws its order, where its run is known. -/
theorem step_append_run {ops : Array Oper} {o : Oper} {a : Act} {K : Act → World → Prop} {Q : Exit → Act → World → Prop} {E : Prop} {w : World} (hgd : o.guard = none) (s x : Operand) (ho : o.op = .call { callee := .builtin .append, args := #[s, x], argTypes := #[112, 112] }) (v u : Value) (hs : a.eval s = v) (hx : a.eval x = u) (v' : Value) (w' : World) (hr : (Builtin.append_ #[112, 112] o.type #[v, u]).run Tryd.prog w = .ok v' w') (h : K (a.put o.dst v') w') : if Region.wanted o (yielded ops a.tmps) = true then Oper.wp Tryd.prog o a w K Q else E := by
  have hw : Region.wanted o (yielded ops a.tmps) = true := by simp [Region.wanted, hgd]
  rw [if_pos hw]
  unfold Oper.wp execOp
  simp only [ho, resolve, invoke, builtin, Sem.run_bind, Sem.run_pure, Result.andThen_ok, List.map_toArray, List.map_cons, List.map_nil, hs, hx, hr]
  exact h
end Go.Proofs.YtbdfjboojokgdaaDoor
namespace Go.Proofs.YtbdfjboojokgdaaDoor
open Go.RowKit

theorem KnowsS.put {w : World} {mb : Nat} {zs : List ByteArray} (h : KnowsS w mb zs) {x : ByteArray} (hx : x.size ≤ 1099511627776) (hl : zs.length ≤ 1099511627776) :
    ∃ w', (Instr.mapUpdate 86 (.map (some mb)) (.string x) (.bool true)).run Tryd.prog w = .ok () w' ∧ KnowsS w' mb (zs ++ [x]) ∧ w.grownBy w' (some mb) := by
  obtain ⟨sz, f, h, hs, hf⟩ := h
  obtain ⟨w', r1, r2, r3⟩ := h.store (t := 86) (e := 4) Tryd.underlying9 Tryd.underlying86 (by unfold maxLen; omega) (.bool true) (x := x) (by unfold maxLen; omega)
  refine ⟨w', r1, ⟨_, _, r2, ?_, fun y => ?_⟩, r3⟩
  · rw [List.length_append]; simp; split <;> omega
  · unfold setS
    rw [hasB_snoc]
    by_cases e : y = x
    · subst e; simp
    · rw [if_neg e, hf y]; simp [Ne.symm e]
theorem KnowsS.fresh (w : World) : KnowsS (w.alloc (.map #[] 0)) w.heap.size [] := ⟨0, _, MapS.made Tryd.prog 9 w, Nat.le_refl _, fun x => by simp [hasB]⟩
theorem putW (w : World) (x0 x1 x2 x3 s : Value) : ∃ X, (((w.alloc (.cells #[x0, x1, x2, x3] 25)).alloc (.map #[] 0)).alloc (.cells #[s, x0, x1, x2, x3, .map (some (w.heap.size + 1))] 120)) = X ∧ KnowsS X (w.heap.size + 1) [] ∧ X.heap[w.heap.size]? = some (.cells #[x0, x1, x2, x3] 25) ∧ X.heap[w.heap.size + 1 + 1]? = some (.cells #[s, x0, x1, x2, x3, .map (some (w.heap.size + 1))] 120) ∧ Below w.heap.size w X ∧ X.heap.size = w.heap.size + 3 := by
  refine ⟨_, rfl, ?_, ?_, ?_, below3 w _ _ _, by simp⟩
  · obtain ⟨w1, e1⟩ : ∃ w1, w.alloc (.cells #[x0, x1, x2, x3] 25) = w1 := ⟨_, rfl⟩
    have z1 : w1.heap.size = w.heap.size + 1 := by rw [← e1]; simp
    rw [e1, ← z1]
    exact (KnowsS.fresh w1).block ((below_new _ _).block _ (by simp))
  · exact ((below_new _ _).block _ (by simp; omega)).trans (((below_new _ _).block _ (by simp)).trans (MapKept.heap_alloc w (.cells #[x0, x1, x2, x3] 25)).1)
  · obtain ⟨w2, e2⟩ : ∃ w2, (w.alloc (.cells #[x0, x1, x2, x3] 25)).alloc (.map #[] 0) = w2 := ⟨_, rfl⟩
    have z2 : w2.heap.size = w.heap.size + 1 + 1 := by rw [← e2]; simp
    rw [e2, ← z2]
    exact (MapKept.heap_alloc w2 _).1
set_option maxRecDepth 100000 in
set_option maxHeartbeats 1000000 in
theorem newPut_any (B ub : Nat) (s : ByteArray) (t : Ty) (v : Value) (w : World) (h : TyAt (fun k => k < B) w t v) (hB : B ≤ w.heap.size) (hub : ub < w.heap.size) (hs : s.size ≤ 1099511627776) (hsh : t.short) (hz : t.sz ≤ 274877906944) :
    Calls Tryd.prog 71 #[.string s, v] w fun e w' => ∃ b, e = .returned (ptrV b) ∧ w.heap.size ≤ b ∧ PutAt B ub w' b s t ∧ Below w.heap.size w w' := by
  obtain ⟨f1, n1, s1, A1, l1, c1, rfl⟩ := h.flat
  obtain ⟨X, eX, hk, hb0, hb, bX, zX⟩ := putW w (.int .i64 f1) (.int .i64 n1) (.string s1) (.slice A1 l1 c1) (.string s)
  have hfr := free_any _ t _ X (h.on bX) hsh hz
  have hfl : t.free.length ≤ t.sz := by have h8 := freeD_len [] [] t; rw [free_is] at h8; simpa using h8
  have hsz : ∀ x ∈ t.free, x.size ≤ 1099511627776 := fun x hx => by
    have h1 := layV_fv t (fun _ => 0) 0 (free_mem.1 hx)
    exact layV_short _ _ t hsh _ h1
  have hmm : ∀ y : World, (Instr.makeMap 86 none).run Tryd.prog y = .ok (.map (some y.heap.size)) (y.alloc (.map #[] 0)) := fun y => run_makeMap 86 y
  have HF := Lib.hid hfr
  have HEX := Lib.hid eX
  have HBX := Lib.hid bX
  have HK := Lib.hid hk
  have HB := Lib.hid hb
  have HZX := Lib.hid zX
  have HT := Lib.hid h
  have hX2 : w.heap.size + 1 + 1 < X.heap.size := by omega
  clear hfr eX bX hk hb zX h
  have a0 : X.cell? ⟨w.heap.size, 0, none⟩ = some (.int .i64 f1) := by simp [World.cell?, hb0]
  have a1 : X.cell? ⟨w.heap.size, 1, none⟩ = some (.int .i64 n1) := by simp [World.cell?, hb0]
  have a2 : X.cell? ⟨w.heap.size, 2, none⟩ = some (.string s1) := by simp [World.cell?, hb0]
  have a3 : X.cell? ⟨w.heap.size, 3, none⟩ = some (.slice A1 l1 c1) := by simp [World.cell?, hb0]
  go_enter Tryd.func71, Tryd.ntmps71
  go_upto_region 2 with (fail)
  rw [HEX.out]
  go_wp2_with fail
  (with_reducible refine HF.out.mono ?_)
  rintro e y ⟨⟨u, rfl, hou⟩, hby⟩
  obtain ⟨Af, cf, rfl⟩ := own_form hou
  have HO := Lib.hid hou
  have HBY := Lib.hid hby
  have HKY : Hid (KnowsS y (w.heap.size + 1) []) := HK.out.block (hby.block _ (by omega))
  have HPY : Hid (y.heap[w.heap.size + 1 + 1]? = some (.cells #[.string s, .int .i64 f1, .int .i64 n1, .string s1, .slice A1 l1 c1, .map (some (w.heap.size + 1))] 120)) := (hby.block _ (by omega)).trans HB.out
  have HBW := Lib.hid (HBX.out.trans (hby.mono HBX.out.size))
  clear hou hby a0 a1 a2 a3 hb0
  have hyz : w.heap.size + 1 + 1 < y.heap.size := lt_of_block HPY.out
  generalize hwb : w.heap.size = wb at *
  obtain ⟨fr, hfre⟩ : ∃ fr, fr = t.free := ⟨_, rfl⟩
  have HFE := Lib.hid hfre
  rw [← hfre] at HO hfl hsz ⊢
  clear hfre
  go_wp2
  go_loopw [16] (fun i wr => ∃ j : Nat, j ≤ fr.length ∧ i = .int .i64 j ∧ KnowsS wr (wb + 1) (fr.take j) ∧ y.grownBy wr (some (wb + 1))) (fun i _ => fr.length - (intOf i).toNat)
  case atStart => exact ⟨0, Nat.zero_le _, rfl, HKY.out, ⟨rfl, rfl, rfl, Nat.le_refl _, fun _ _ _ => rfl⟩⟩
  case round =>
    obtain ⟨j, hj, rfl, hk, hg⟩ := hrel
    have HG := Lib.hid hg
    have hpr := (hg.block (wb + 1 + 1) hyz (by simp)).trans HPY.out
    have c0 : wr.cell? ⟨wb + 1 + 1, 5, none⟩ = some (.map (some (wb + 1))) := by simp [World.cell?, hpr]
    by_cases hlt : j < fr.length
    · have hji : (j : Int) < (fr.length : Int) := by omega
      have hj0 : (0 : Int) ≤ (j : Int) := by omega
      obtain ⟨b, o, rfl, hlb, hc⟩ := HO.out.strs.at j hlt
      have e0 := (World.cell?_of_block (a := ⟨b, o + j, none⟩) (hg.block b hlb (fun e => by injection e with e; subst e; exact HKY.out.noCells _ _ (own_type HO.out rfl).choose_spec))).trans hc
      obtain ⟨w', hr, hk', hg'⟩ := hk.put (x := fr[j]) (hsz _ (List.getElem_mem hlt)) (by rw [List.length_take]; omega)
      have HK' : Hid (KnowsS w' (wb + 1) (fr.take (j + 1))) := by rw [List.take_succ_eq_append_getElem hlt]; exact hk'
      have HG' := Lib.hid (hg.trans hg')
      clear hk hk' hg hg' hpr
      go_wp2
      go_roundw
      case rel => exact ⟨j + 1, by omega, by go_num, HK'.out, HG'.out⟩
      case measure => simp [intOf]; omega
    · have hji : ¬ (j : Int) < (fr.length : Int) := by omega
      have HKE : Hid (KnowsS wr (wb + 1) fr) := by rw [← List.take_of_length_le (Nat.le_of_not_lt hlt)]; exact hk
      clear hk hg
      go_wp2
      go_ret
      have hbw : Below wb w wr := HBW.out.grown HG.out (Nat.le_of_lt (by omega)) (fun k e => by injection e with e; omega)
      exact ⟨wb + 1 + 1, rfl, by omega, ⟨hs, _, _, _, _, _, _, _, hpr, HT.out.keep (.of_belowB (fun _ h => by omega) hbw), HFE.out ▸ HKE.out, by omega⟩, hbw⟩
end Go.Proofs.YtbdfjboojokgdaaDoor
