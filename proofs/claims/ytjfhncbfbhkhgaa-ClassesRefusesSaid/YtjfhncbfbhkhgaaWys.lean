/- Ways in memory: put, take, come. Conditions: those that each theorem names. -/
import Derived.Test.YtjfhncbfbhkhgaaQue
import Derived.Test.YtjfhncbfbhkhgaaWaysM
namespace Go.Proofs.Ytjfhncbfbhkhgaa
open Go.RowKit
theorem zero125 (y : World) : (zeroValue 125).run Try.prog y = .ok (.agg #[.string ⟨#[]⟩, .int .i64 0]) y := Try.zeroValue125 y
def PutRes (B ob : Nat) (qv av mv : Value) (ss : List ByteArray) (w : World) (e : Ending) (w' : World) : Prop :=
  e = .returned (.tuple #[]) ∧ ∃ qv', w'.heap[ob]? = some (.cells #[qv', av, mv] 105) ∧ QueS B w' qv' ss ∧ Fr (fun k => k = ob ∨ qv.ownBlock = some k) w w'
set_option maxRecDepth 100000 in
set_option maxHeartbeats 1000000 in
theorem put58_any {B ob : Nat} {qv av mv : Value} {ss : List ByteArray} {w : World} (ho : w.heap[ob]? = some (.cells #[qv, av, mv] 105)) (hq : QueS B w qv ss) (hB : B ≤ w.heap.size) (hl : ss.length + 1 ≤ 1073741824) (x : ByteArray) :
    Calls Try.prog 58 #[.pointer (some ⟨ob, 0, none⟩), .string x] w (PutRes B ob qv av mv (ss ++ [x]) w) := by
  have hba := below_new w (.cells #[.string x] 9)
  obtain ⟨v', w3, hrun, hq3, hg3, hat⟩ := (hq.on hba).push (by simp; omega) (ad := ⟨w.heap.size, 0, none⟩) (x := x) (one_new w (.string x) 9) hl
  have hlo := lt_of_block ho
  have hne : qv.ownBlock ≠ some ob := fun e => by
    obtain ⟨cur, h1⟩ := hq.type e
    rw [ho] at h1; injection h1 with h1; injection h1 with _ h1; cases h1
  have ho3 : w3.heap[ob]? = some (.cells #[qv, av, mv] 105) := (hg3.block ob (by simp; omega) (fun e => hne e.symm)).trans ((hba.block ob hlo).trans ho)
  have c0 : w.cell? ⟨ob, 0, none⟩ = some qv := by simp [World.cell?, ho]
  have p3 : w3.cell? ⟨ob, 0, none⟩ = some qv := by simp [World.cell?, ho3]
  have p4 : w3.frozen? ⟨ob, 0, none⟩ = false := by simp [World.frozen?, ho3]
  have hne' : v'.ownBlock ≠ some ob := fun e => by
    obtain ⟨cur, h1⟩ := hq3.type e
    rw [ho3] at h1; injection h1 with h1; injection h1 with _ h1; cases h1
  have HRES : Hid (PutRes B ob qv av mv (ss ++ [x]) w (.returned (.tuple #[])) (w3.setCell ⟨ob, 0, none⟩ v')) := Lib.hid
    ⟨rfl, v', heap_setCell_same w3 ob 0 _ 105 v' ho3, hq3.keep (fun k hk => Below.heap_setCell _ _ _ _ (fun e => hne' (hk.trans (by rw [show k = ob from e])))),
      (((Fr.refl _ w).alloc _).grown hg3 (fun k e => .inr e)).setCell (b := ob) (.inl rfl) _⟩
  obtain ⟨Aq, cq, rfl, _⟩ := hq.form
  obtain ⟨A3, c3, rfl, _⟩ := hq3.form
  generalize (ss ++ [x]).length = n3 at *
  generalize ss.length = n0 at *
  clear hba hq3 hg3 hat hlo hne ho3 hne' ho hq hB
  go_enter Try.func58, Try.ntmps58
  go_wp2_with (at_builtin; refine Lib.wpList_append_run _ rfl (.tmp 8) (.tmp 10) 40 40 rfl _ _ rfl rfl _ _ hrun ?_)
  go_end0
  exact HRES.out
def TakeQ (B ob : Nat) (av mv : Value) (ss : List ByteArray) (w : World) (e : Ending) (w' : World) : Prop :=
  (ss = [] ∧ e = .returned (.tuple #[.string ⟨#[]⟩, .bool false]) ∧ Below w.heap.size w w') ∨
  ∃ x r qv', ss = x :: r ∧ e = .returned (.tuple #[.string x, .bool true]) ∧ w'.heap[ob]? = some (.cells #[qv', av, mv] 105) ∧ QueS B w' qv' r ∧ Fr (fun k => k = ob) w w'
set_option maxRecDepth 100000 in
set_option maxHeartbeats 1000000 in
theorem take43_any {B ob : Nat} {qv av mv : Value} {ss : List ByteArray} {w : World} (ho : w.heap[ob]? = some (.cells #[qv, av, mv] 105)) (hq : QueS B w qv ss) :
    Calls Try.prog 43 #[.pointer (some ⟨ob, 0, none⟩)] w (TakeQ B ob av mv ss w) := by
  have c0 : w.cell? ⟨ob, 0, none⟩ = some qv := by simp [World.cell?, ho]
  have f0 : w.frozen? ⟨ob, 0, none⟩ = false := by simp [World.frozen?, ho]
  cases ss with
  | nil =>
    obtain ⟨A, c, rfl, _⟩ := hq.form
    clear hq ho
    go_enter Try.func43, Try.ntmps43
    go_wp2
    go_ret2
    exact .inl ⟨rfl, rfl, Below.refl _ _⟩
  | cons x r =>
    obtain ⟨b, off, c, rfl, h1, h2, h3, h4, A9, hA9, hAb, h5⟩ := que_tail hq
    unfold maxLen at h2
    have hbo : b ≠ ob := fun e => by
      obtain ⟨cur, h9⟩ := hq.type (k := b) rfl
      rw [e, ho] at h9; injection h9 with h9; injection h9 with _ h9; cases h9
    have HRES : Hid (TakeQ B ob av mv (x :: r) w (.returned (.tuple #[.string x, .bool true])) (w.setCell ⟨ob, 0, none⟩ (.slice (some A9) r.length (c - 1)))) := Lib.hid
      (.inr ⟨x, r, _, rfl, rfl, heap_setCell_same w ob 0 _ 105 _ ho, h5.keep (fun k hk => Below.heap_setCell _ _ _ _ (fun e => by injection hk with hk; rw [hAb] at hk; exact hbo (hk.trans e))), (Fr.refl (fun k => k = ob) w).setCell (b := ob) rfl _⟩)
    have hl0 : ((r.length : Int) + 1 == 0) = false := by rw [beq_eq_false_iff_ne]; omega
    have hl1 : (0 : Int) < (r.length : Int) + 1 := by omega
    clear hq ho h5 hbo hAb
    go_enter Try.func43, Try.ntmps43
    go_wp2
    go_ret2
    exact HRES.out
/-- What the map tells of each class that was come to: the last step there. -/
def LastM (D : List (ByteArray × List Nat)) (lb : Nat) (w : World) : Prop :=
  ∃ sz f, MapS Try.prog 9 w lb sz f ∧ (∀ x, x ∉ D.map Prod.fst → f x = none) ∧ ∀ x u, (x, u) ∈ D → (u = [] ∧ f x = some (.agg #[.string ⟨#[]⟩, .int .i64 0])) ∨ ∃ y u' i, u = u' ++ [i] ∧ (y, u') ∈ D ∧ f x = some (.agg #[.string y, .int .i64 (i : Nat)])
theorem LastM.block {D : List (ByteArray × List Nat)} {lb : Nat} {w w' : World} (h : LastM D lb w) (hb : w'.heap[lb]? = w.heap[lb]?) : LastM D lb w' := by
  obtain ⟨sz, f, h1, h2⟩ := h; exact ⟨sz, f, h1.block hb, h2⟩
theorem LastM.lt {D : List (ByteArray × List Nat)} {lb : Nat} {w : World} (h : LastM D lb w) : lb < w.heap.size := by obtain ⟨sz, f, h1, _⟩ := h; exact h1.lt
/-- What the map tells of a name. -/
theorem LastM.look {D : List (ByteArray × List Nat)} {lb : Nat} {w : World} (h : LastM D lb w) {x : ByteArray} (hx : x.size ≤ maxLen) :
    (x ∉ D.map Prod.fst ∧ ∀ w', w'.heap[lb]? = w.heap[lb]? → (Instr.lookup 103 (.map (some lb)) (.string x) true).run Try.prog w' = .ok (.tuple #[.agg #[.string ⟨#[]⟩, .int .i64 0], .bool false]) w') ∨
    ∃ u y, ∃ i : Nat, (x, u) ∈ D ∧ ((u = [] ∧ y = ⟨#[]⟩ ∧ i = 0) ∨ ∃ u', u = u' ++ [i] ∧ (y, u') ∈ D) ∧ ∀ w', w'.heap[lb]? = w.heap[lb]? → (Instr.lookup 103 (.map (some lb)) (.string x) true).run Try.prog w' = .ok (.tuple #[.agg #[.string y, .int .i64 i], .bool true]) w' ∧ (Instr.lookup 103 (.map (some lb)) (.string x) false).run Try.prog w' = .ok (.agg #[.string y, .int .i64 i]) w' := by
  obtain ⟨sz, f, h1, h2, h3⟩ := h
  have k1 := fun (w' : World) (e : w'.heap[lb]? = w.heap[lb]?) => (h1.block e).look_ok (t := 103) (e := 125) Try.underlying9 Try.underlying103 zero125 hx
  have k2 := fun (w' : World) (e : w'.heap[lb]? = w.heap[lb]?) => (h1.block e).look (t := 103) (e := 125) Try.underlying9 Try.underlying103 zero125 hx
  by_cases hm : x ∈ D.map Prod.fst
  · obtain ⟨⟨x', u⟩, hu, rfl⟩ := List.mem_map.1 hm
    rcases h3 x' u hu with ⟨e, hf⟩ | ⟨y, u', i, e, hy, hf⟩
    · rw [hf] at k1 k2
      exact .inr ⟨u, ⟨#[]⟩, 0, hu, .inl ⟨e, rfl, rfl⟩, fun w' e => ⟨k1 w' e, k2 w' e⟩⟩
    · rw [hf] at k1 k2
      exact .inr ⟨u, y, i, hu, .inr ⟨u', e, hy⟩, fun w' e => ⟨k1 w' e, k2 w' e⟩⟩
  · rw [h2 x hm] at k1
    exact .inl ⟨hm, fun w' e => k1 w' e⟩
/-- A step is kept. -/
theorem LastM.store {D : List (ByteArray × List Nat)} {lb : Nat} {w : World} (h : LastM D lb w) {x y : ByteArray} {u : List Nat} {i : Nat} (hx : x.size ≤ maxLen) (hn : x ∉ D.map Prod.fst) (hl : D.length < maxLen) (hs : (u = [] ∧ y = ⟨#[]⟩ ∧ i = 0) ∨ ∃ u', u = u' ++ [i] ∧ (y, u') ∈ D) :
    ∃ w', (Instr.mapUpdate 103 (.map (some lb)) (.string x) (.agg #[.string y, .int .i64 i])).run Try.prog w = .ok () w' ∧ LastM (D ++ [(x, u)]) lb w' ∧ w.grownBy w' (some lb) := by
  obtain ⟨sz, f, h1, h2, h3⟩ := h
  have hsz : sz ≤ D.length := by
    obtain ⟨ks, kn, kl, kk⟩ := h1.keys
    rw [← kl, ← List.length_map (f := Prod.fst (α := ByteArray) (β := List Nat))]
    refine nodup_leS kn (fun z hz => ?_)
    exact Classical.byContradiction fun h9 => (kk z).1 hz (h2 z h9)
  obtain ⟨w', r1, r2, r3⟩ := h1.store (t := 103) (e := 125) Try.underlying9 Try.underlying103 (by omega) (.agg #[.string y, .int .i64 i]) hx
  refine ⟨w', r1, ⟨_, _, r2, fun z hz => ?_, fun z v hz => ?_⟩, r3⟩
  · rw [List.map_append, List.mem_append] at hz
    rw [setS_ne _ _ (fun e => hz (.inr (by rw [e]; simp)))]
    exact h2 z (fun h9 => hz (.inl h9))
  · rcases List.mem_append.1 hz with hz | hz
    · rw [setS_ne _ _ (fun e => hn (by rw [← e]; exact List.mem_map.2 ⟨_, hz, rfl⟩))]
      rcases h3 z v hz with h9 | ⟨y', u', i', e, hy, hf⟩
      · exact .inl h9
      · exact .inr ⟨y', u', i', e, List.mem_append_left _ hy, hf⟩
    · have := List.mem_singleton.1 hz
      injection this with e1 e2
      subst e1 e2
      rw [setS_self]
      rcases hs with ⟨e1, e2, e3⟩ | ⟨u', e, hy⟩
      · subst e2 e3; exact .inl ⟨e1, rfl⟩
      · exact .inr ⟨y, u', i, e, List.mem_append_left _ hy, rfl⟩
/-- Ways in memory: what was come to, and how many of that were taken out. -/
structure WaysAt (B : Nat) (a : ByteArray) (D : List (ByteArray × List Nat)) (k ob lb : Nat) (w : World) : Prop where
  obj : ∃ qv, w.heap[ob]? = some (.cells #[qv, .string a, .map (some lb)] 105) ∧ QueS B w qv ((D.drop k).map Prod.fst)
  last : LastM D lb w
  lo : B ≤ ob ∧ B ≤ lb ∧ ob ≠ lb ∧ B ≤ w.heap.size
theorem WaysAt.on {B : Nat} {a : ByteArray} {D : List (ByteArray × List Nat)} {k ob lb : Nat} {w w' : World} (h : WaysAt B a D k ob lb w) (hb : Below w.heap.size w w') : WaysAt B a D k ob lb w' := by
  obtain ⟨qv, h1, h2⟩ := h.obj
  exact ⟨⟨qv, (hb.block ob (lt_of_block h1)).trans h1, h2.on hb⟩, h.last.block (hb.block lb h.last.lt), h.lo.1, h.lo.2.1, h.lo.2.2.1, Nat.le_trans h.lo.2.2.2 hb.size⟩
def ComeRes (B : Nat) (a : ByteArray) (D : List (ByteArray × List Nat)) (k ob lb : Nat) (w : World) (e : Ending) (w' : World) : Prop := e = .returned (.tuple #[]) ∧ WaysAt B a D k ob lb w' ∧ Below B w w'
set_option maxRecDepth 100000 in
set_option maxHeartbeats 1000000 in
theorem come_any {B : Nat} {a : ByteArray} {D : List (ByteArray × List Nat)} {k ob lb : Nat} {w : World} (h : WaysAt B a D k ob lb w) (hk : k ≤ D.length) (hl : D.length + 1 ≤ 1073741824) {x y : ByteArray} {u : List Nat} {i : Nat} (hx : x.size ≤ maxLen) (hs : (u = [] ∧ y = ⟨#[]⟩ ∧ i = 0) ∨ ∃ u', u = u' ++ [i] ∧ (y, u') ∈ D) :
    Calls Try.prog 45 #[.pointer (some ⟨ob, 0, none⟩), .string x, .agg #[.string y, .int .i64 i]] w (ComeRes B a (if x ∈ D.map Prod.fst then D else D ++ [(x, u)]) k ob lb w) := by
  obtain ⟨R, hR⟩ : ∃ R, (if x ∈ D.map Prod.fst then D else D ++ [(x, u)]) = R := ⟨_, rfl⟩
  rw [hR]
  have HR := Lib.hid hR
  clear hR
  obtain ⟨V, eV⟩ : ∃ V, V = w.alloc (.cells #[.string y, .int .i64 i] 125) := ⟨_, rfl⟩
  have hBV : Below w.heap.size w V := by rw [eV]; exact below_new _ _
  have hV := h.on hBV
  have v0 : V.heap[w.heap.size]? = some (.cells #[.string y, .int .i64 i] 125) := by rw [eV, alloc_get, if_pos rfl]
  obtain ⟨qv, o1, o2⟩ := hV.obj
  have c2 : V.cell? ⟨ob, 2, none⟩ = some (.map (some lb)) := by simp [World.cell?, o1]
  have HV := Lib.hid hV
  have HEV := Lib.hid eV
  have HBV := Lib.hid hBV
  have HV0 := Lib.hid v0
  have hlo := h.lo
  rcases hV.last.look hx with ⟨hn, k1⟩ | ⟨u', y', i', hm, _, k1⟩
  · have k2 := k1 V rfl
    obtain ⟨W, eW⟩ : ∃ W, W = V.alloc (.cells #[.string ⟨#[]⟩, .int .i64 0] 125) := ⟨_, rfl⟩
    have hBW : Below V.heap.size V W := by rw [eW]; exact below_new _ _
    have hW := hV.on hBW
    obtain ⟨w9, r1, r2, r3⟩ := (hW.on ((Below.refl _ _).drew)).last.store (u := u) hx hn (by unfold maxLen; omega) hs
    have w0 : W.heap[w.heap.size]? = some (.cells #[.string y, .int .i64 i] 125) := (hBW.block _ (lt_of_block v0)).trans v0
    have wc : W.cell? ⟨w.heap.size, 0, none⟩ = some (.string y) ∧ W.cell? ⟨w.heap.size, 1, none⟩ = some (.int .i64 i) := by simp [World.cell?, w0]
    obtain ⟨wc0, wc1⟩ := wc
    obtain ⟨qw, ow1, ow2⟩ := hW.obj
    have wc2 : W.cell? ⟨ob, 2, none⟩ = some (.map (some lb)) := by simp [World.cell?, ow1]
    have HEW := Lib.hid eW
    have o9 : w9.heap[ob]? = some (.cells #[qw, .string a, .map (some lb)] 105) := (r3.block ob (lt_of_block ow1) (fun e => by injection e with e; exact hlo.2.2.1 e)).trans ow1
    have hnl : qw.ownBlock ≠ some lb := fun e => by
      obtain ⟨cur, h1⟩ := ow2.type e
      obtain ⟨sz, f, ⟨Dm, ⟨es, clock, hb, _⟩, _⟩, _⟩ := hW.last
      rw [hb] at h1; injection h1 with h1; cases h1
    have q9 : QueS B w9 qw ((D.drop k).map Prod.fst) := ow2.keep (fun g hg => r3.block g (ow2.lt g hg).2 (fun e => hnl (by rw [hg, e])))
    have hz9 : w.heap.size ≤ w9.heap.size := Nat.le_trans hBV.size (Nat.le_trans hBW.size r3.size)
    have HPUT := Lib.hid (put58_any o9 q9 (by omega) (by rw [List.length_map, List.length_drop]; omega) x)
    have HRES : Hid (∀ e w', PutRes B ob qw (.string a) (.map (some lb)) ((D.drop k).map Prod.fst ++ [x]) w9 e w' → ComeRes B a R k ob lb w e w') := Lib.hid fun e w' ⟨he, qv', p1, p2, p3⟩ => by
      have hRR := HR.out
      rw [if_neg hn] at hRR
      rw [← hRR]
      have hlne : ob ≠ lb := hlo.2.2.1
      refine ⟨he, ⟨⟨qv', p1, by rw [List.drop_append_of_le_length hk, List.map_append]; exact p2⟩, r2.block (p3.block lb r2.lt (fun e => e.elim (fun e => hlne e.symm) hnl)), hlo.1, hlo.2.1, hlne, Nat.le_trans hlo.2.2.2 (Nat.le_trans hz9 p3.size)⟩, ?_⟩
      have b1 : Below B w W := (hBV.trans (hBW.mono hBV.size)).mono hlo.2.2.2
      have b2 : Below B W w9 := ⟨r3.os, r3.tape, r3.output, r3.size, fun j hj => r3.block j (show j < W.heap.size by have := hBW.size; have := hBV.size; omega) (fun e => by injection e with e; omega)⟩
      exact (b1.trans b2).trans (p3.below (by omega) (fun j hj => by rcases hj with rfl | hj; exact hlo.1; exact (q9.lt j hj).1))
    clear k1 hW ow1 ow2 hBW eW w0 r2 r3 o9 hnl q9 hz9 hn o1 o2 hV hBV v0 eV h hs
    generalize hub : w.heap.size = ub at *
    go_enter Try.func45, Try.ntmps45
    go_upto_region 1 with (fail)
    rw [← HEV.out]
    go_upto_region 2 with (fail)
    rw [← HEW.out]
    go_wp2_with fail
    go_region
    go_wp2_with fail
    with_reducible refine HPUT.out.mono ?_
    rintro e w' hput
    have HF := Lib.hid (HRES.out e w' hput)
    obtain ⟨rfl, _⟩ := hput
    go_wp2
    go_end0
    exact HF.out
  · have k2 := (k1 V rfl).1
    have HRES : Hid (∀ w', Below V.heap.size V w' → ComeRes B a R k ob lb w (.returned (.tuple #[])) w') := Lib.hid fun w' hb => by
      have hRR := HR.out
      rw [if_pos (List.mem_map.2 ⟨_, hm, rfl⟩)] at hRR
      rw [← hRR]
      exact ⟨rfl, HV.out.on hb, (HBV.out.trans (hb.mono HBV.out.size)).mono hlo.2.2.2⟩
    clear k1 o1 o2 hV hBV v0 eV h hs hm
    generalize hub : w.heap.size = ub at *
    go_enter Try.func45, Try.ntmps45
    go_upto_region 1 with (fail)
    rw [← HEV.out]
    go_wp2_with fail
    go_end0
    exact HRES.out _ (below_new _ _)
end Go.Proofs.Ytjfhncbfbhkhgaa
