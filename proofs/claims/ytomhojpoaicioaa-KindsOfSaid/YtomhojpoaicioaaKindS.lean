/- The contract of the solver's Kind. Conditions: those that each theorem names. -/
import Derived.Test.YtomhojpoaicioaaEqual
import Derived.Test.YtomhojpoaicioaaKind
import Derived.Maps.AppendAt
namespace Go.Proofs.Ytomhojpoaicioaa
open Go.RowKit Tm

/-- What Kind's loop knows: so many kinds are told, a term is left. -/
structure KLoop (P : Nat → Prop) (w : World) (kn : Kn) (T : Tm) (g : Nat) (sv : Value) (wr : World) (cur : Tz) (U : Tm) (ks : List K) (us : List Value) (A : Option Addr) (c : Nat) : Prop where
  den : Den kn cur U
  end' : ∀ n, cur = .var n → kn n = none
  told : kd T = .mk (ks ++ (kd U).from)
  small : U.size ≤ g
  le : U.size ≤ T.size
  deep : U.depth ≤ T.depth
  box : TB P wr w.heap.size cur A c
  kat : KsAt (fun b => w.heap.size + 2 ≤ b ∧ sv.ownBlock ≠ some b) wr ks us
  own : wr.ownsRow (w.heap.size + 2) 25 1 sv us.length us
  r0 : wr.cell? ⟨w.heap.size + 1, 0, none⟩ = some (.slice none 0 0)
  rf : wr.frozen? ⟨w.heap.size + 1, 0, none⟩ = false
  bw : Below w.heap.size w wr
theorem KLoop.step {P : Nat → Prop} {w wr w1 w2 w3 : World} {kn : Kn} {T : Tm} {g : Nat} {sv kv v' : Value} {a b b' : Tz} {U V : Tm} {ks : List K} {us : List Value} {A A' : Option Addr} {c c' : Nat} (o1 : Obj) (hP : ∀ b, P b → b < w.heap.size)
    (h : KLoop P w kn T g sv wr (.arr a b) (.arr U V) ks us A c) (hkv : KAt (fun b => wr.heap.size ≤ b) w1 (kd U) kv) (hb1 : Below wr.heap.size wr w1) (ho2 : w2.ownsRow (w.heap.size + 2) 25 1 v' (us.length + 1) (us ++ [kv])) (hg2 : (w1.alloc o1).grownBy w2 sv.ownBlock)
    (hat : v'.ownBlock = sv.ownBlock ∨ v'.ownBlock = some (w1.alloc o1).heap.size) (hb3 : Below w2.heap.size w2 w3) (hd : Den kn b' V) (he : ∀ n, b' = .var n → kn n = none) (hz : ZAt P w3 b' (.agg #[.int .i64 (formZ b'), .int .i64 (numZ b'), .slice A' (argsZ b') c'])) :
    KLoop P w kn T V.size v' (put3 w3 w.heap.size (.int .i64 (formZ b')) (.int .i64 (numZ b')) (.slice A' (argsZ b') c')) b' V (ks ++ [kd U]) (us ++ [kv]) A' c' := by
  have hz1 := hb1.size
  have hbx := h.box.lt
  have hr1 := World.block_lt_of_cell? wr _ h.r0
  have hr1' : w.heap.size + 1 < wr.heap.size := hr1
  have hrow : ∀ q, sv.ownBlock = some q → w.heap.size + 2 ≤ q ∧ q < wr.heap.size := fun q hq => h.own.lt q hq
  have ba : Below wr.heap.size wr (w1.alloc o1) := hb1.alloc hz1 _
  have bA : Below w1.heap.size w1 (w1.alloc o1) := (Below.refl _ _).alloc (Nat.le_refl _) _
  have zz : (w1.alloc o1).heap.size = w1.heap.size + 1 := by simp
  have B2 : Below (w.heap.size + 2) wr w2 := (ba.mono (by omega)).grown hg2 (by omega) (fun q hq => (hrow q hq).1)
  have z2 : w1.heap.size + 1 ≤ w2.heap.size := by have := hg2.size; omega
  have B3 : Below (w.heap.size + 2) wr w3 := B2.trans (hb3.mono (by omega))
  have BW : Below w.heap.size w w3 := h.bw.trans (B3.mono (by omega))
  have nP : ¬ P w.heap.size := fun e => by have := hP _ e; omega
  have nR : ¬ (fun b => w.heap.size + 2 ≤ b ∧ v'.ownBlock ≠ some b) w.heap.size := fun e => by have := e.1; omega
  have kold : KsAt (fun b => w.heap.size + 2 ≤ b ∧ v'.ownBlock ≠ some b) w2 ks us := by
    refine ((h.kat.bound.keep (.of_below ba)).keep (keeps_grown hg2 (fun b hb => fun e => hb.1.2 e.symm))).mono (fun b hb => ⟨hb.1.1, ?_⟩)
    rcases hat with e | e
    · rw [e]; exact hb.1.2
    · rw [e, zz]; intro e2; injection e2 with e2; have := hb.2; omega
  have knew : KAt (fun b => w.heap.size + 2 ≤ b ∧ v'.ownBlock ≠ some b) w2 (kd U) kv := by
    refine ((hkv.bound.keep (.of_below bA)).keep (keeps_grown hg2 (fun b hb => ?_))).mono (fun b hb => ⟨by have := hb.1; omega, ?_⟩)
    · intro e
      have := (hrow b e.symm).2
      have := hb.1
      omega
    · rcases hat with e | e
      · rw [e]; intro e2; have := (hrow b e2).2; have := hb.1; omega
      · rw [e, zz]; intro e2; injection e2 with e2; have := hb.2; omega
  have hU : (Tm.arr U V).size = U.size + V.size + 1 := by simp only [Tm.size]
  refine ⟨hd, he, ?_, Nat.le_refl _, by have := h.le; omega, ?_, ?_, ?_, ?_, ?_, ?_, ?_⟩
  · rw [h.told]
    show K.mk (ks ++ (kd U :: (kd V).from)) = _
    rw [List.append_assoc]; rfl
  · have := h.deep
    simp only [Tm.depth] at this
    omega
  · have hob : OB w3 w.heap.size := ⟨⟨_, (B3.cell (p := ⟨w.heap.size, 0, none⟩) (show w.heap.size < w.heap.size + 2 by omega)).trans h.box.c0⟩, ⟨_, (B3.cell (p := ⟨w.heap.size, 1, none⟩) (show w.heap.size < w.heap.size + 2 by omega)).trans h.box.c1⟩, ⟨_, (B3.cell (p := ⟨w.heap.size, 2, none⟩) (show w.heap.size < w.heap.size + 2 by omega)).trans h.box.c2⟩,
      (B3.frozen (p := ⟨w.heap.size, 0, none⟩) (show w.heap.size < w.heap.size + 2 by omega)).trans h.box.f0, (B3.frozen (p := ⟨w.heap.size, 1, none⟩) (show w.heap.size < w.heap.size + 2 by omega)).trans h.box.f1, (B3.frozen (p := ⟨w.heap.size, 2, none⟩) (show w.heap.size < w.heap.size + 2 by omega)).trans h.box.f2⟩
    exact hob.put hz nP
  · exact ((kold.snoc knew).keep (.of_below hb3)).keep (put3_keeps nR)
  · rw [List.length_append]
    have := ownsRow_below' ho2 hb3
    exact ownsRow_setCell_below (ownsRow_setCell_below (ownsRow_setCell_below this (show w.heap.size < _ by omega) _) (show w.heap.size < _ by omega) _) (show w.heap.size < _ by omega) _
  · refine (World.cell?_of_block (put3_block (b := w.heap.size + 1) (g := w.heap.size) (by omega))).trans ?_
    exact (B3.cell (p := ⟨w.heap.size + 1, 0, none⟩) (Nat.lt_succ_self _)).trans h.r0
  · refine (World.frozen?_of_block (put3_block (b := w.heap.size + 1) (g := w.heap.size) (by omega))).trans ?_
    exact (B3.frozen (p := ⟨w.heap.size + 1, 0, none⟩) (Nat.lt_succ_self _)).trans h.rf
  · exact put3_below BW (Nat.le_refl _)
theorem TB.frB {P : Nat → Prop} {q q1 : World} {g B : Nat} {t : Tz} {A : Option Addr} {c : Nat} (h : TB P q g t A c) (hg : g < B) (hP : ∀ b, P b → b < B) (hs : q.heap.size ≤ q1.heap.size) (hb : Below B q q1) : TB P q1 g t A c := h.keep (hb.block g hg) ⟨hs, fun b _ hp _ => World.cell?_of_block (hb.block b (hP b hp))⟩
theorem KLoop.ends {P : Nat → Prop} {w wr : World} {kn : Kn} {T U : Tm} {g : Nat} {sv : Value} {cur : Tz} {ks : List K} {us : List Value} {A : Option Addr} {c : Nat} (h : KLoop P w kn T g sv wr cur U ks us A c) (hu : (kd U).from = []) : KAt (fun b => w.heap.size ≤ b) (wr.setCell ⟨w.heap.size + 1, 0, none⟩ sv) (kd T) sv := by
  rw [h.told, hu, List.append_nil]
  have hfin : KAt (fun b => w.heap.size + 2 ≤ b) wr (.mk ks) sv := kat_of_row h.own h.kat (fun b hb => hb.1) (fun b hb => hb)
  exact (hfin.keep (Keeps.setCell (b := w.heap.size + 1) (o := 0) (fun h9 => by omega) sv)).mono (fun b (hb : w.heap.size + 2 ≤ b) => (by omega : w.heap.size ≤ b))
set_option maxRecDepth 100000 in
set_option maxHeartbeats 2000000 in
theorem kindP_any (P : Nat → Prop) (sb mb sz : Nat) (made : Int) (kn : Kn) : ∀ (n : Nat) (T : Tm) (t : Tz) (v : Value) (w : World), T.size ≤ n → SolAt P w sb mb sz made kn → Den kn t T → ZAt P w t v → (∀ b, P b → b < w.heap.size) → T.depth ≤ 1000000 →
    Calls Try.prog 29 #[.pointer (some ⟨sb, 0, none⟩), v] w (KindMade w (kd T))
  | 0, T, _, _, _, hn, _, _, _, _, _ => by have := T.size_pos; omega
  | n + 1, T, t, v, w, hn, hS, hd, hz, hP, hdp => by
    obtain ⟨k, e, hc, hde⟩ := hd.chain
    obtain ⟨A, c, rfl⟩ := hz.form
    obtain ⟨j0, hj, hy0, hy1, hy2⟩ := info_parts' Try.info25
    have HS := Lib.hid hS
    have HZ := Lib.hid hz
    have HC := Lib.hid hc
    have HDE := Lib.hid hde
    have HD := Lib.hid hd
    clear hS hz hc hde hd
    go_enter Try.func29, Try.ntmps29
    go_wp2_with fail
    have hb0 : Below w.heap.size w ((w.alloc (.cells #[.int .i64 (formZ t), .int .i64 (numZ t), .slice A (argsZ t) c] 49)).alloc (.cells #[.slice none 0 0] 25)) := (below_new w _).trans ((below_new _ _).mono (by simp))
    have hz0 : ((w.alloc (.cells #[.int .i64 (formZ t), .int .i64 (numZ t), .slice A (argsZ t) c] 49)).alloc (.cells #[.slice none 0 0] 25)).heap.size = w.heap.size + 2 := by simp
    have hk0 : ((w.alloc (.cells #[.int .i64 (formZ t), .int .i64 (numZ t), .slice A (argsZ t) c] 49)).alloc (.cells #[.slice none 0 0] 25)).heap[w.heap.size]? = some (.cells #[.int .i64 (formZ t), .int .i64 (numZ t), .slice A (argsZ t) c] 49) :=
      ((below_new (w.alloc (.cells #[.int .i64 (formZ t), .int .i64 (numZ t), .slice A (argsZ t) c] 49)) _).block w.heap.size (by simp)).trans (MapKept.heap_alloc w _).1
    have hk1 : ((w.alloc (.cells #[.int .i64 (formZ t), .int .i64 (numZ t), .slice A (argsZ t) c] 49)).alloc (.cells #[.slice none 0 0] 25)).heap[w.heap.size + 1]? = some (.cells #[.slice none 0 0] 25) := by
      have := (MapKept.heap_alloc (w.alloc (.cells #[.int .i64 (formZ t), .int .i64 (numZ t), .slice A (argsZ t) c] 49)) (.cells #[.slice none 0 0] 25)).1
      simpa using this
    generalize (w.alloc (.cells #[.int .i64 (formZ t), .int .i64 (numZ t), .slice A (argsZ t) c] 49)).alloc (.cells #[.slice none 0 0] 25) = W at *
    have tb0 : TB P W w.heap.size t A c := TB.of hk0 (HZ.out.on hb0)
    have HL := Lib.hid (plook_any P k t e _ W sb mb sz made kn HC.out (HS.out.on hb0) (HZ.out.on hb0))
    have HB0 := Lib.hid hb0
    refine HL.out.mono ?_
    rintro e' w1 ⟨v1, rfl, hz1, hb1⟩
    obtain ⟨A1, c1, rfl⟩ := hz1.form
    have tb1 := tb0.on hb1
    have a0 := tb1.c0
    have a1 := tb1.c1
    have a2 := tb1.c2
    have f0 := tb1.f0
    have f1 := tb1.f1
    have f2 := tb1.f2
    have hz2 := hb1.size
    have k1 := (hb1.block (w.heap.size + 1) (by omega)).trans hk1
    have nP : ¬ P w.heap.size := fun e => by have := hP _ e; omega
    have hst : KLoop P w kn T T.size (.slice none 0 0) (put3 w1 w.heap.size (.int .i64 (formZ e)) (.int .i64 (numZ e)) (.slice A1 (argsZ e) c1)) e T [] [] A1 c1 := by
      refine ⟨HDE.out, fun n he => HC.out.end n he, ?_, Nat.le_refl _, Nat.le_refl _, Nat.le_refl _, ?_, ⟨rfl, fun i a => absurd a (Nat.not_lt_zero _)⟩, World.ownsRow_nil _ _ _ _, ?_, ?_, put3_below (HB0.out.trans (hb1.mono HB0.out.size)) (Nat.le_refl _)⟩
      · rw [List.nil_append]; cases T <;> rfl
      · exact OB.put ⟨⟨_, a0⟩, ⟨_, a1⟩, ⟨_, a2⟩, f0, f1, f2⟩ hz1 nP
      · refine (World.cell?_of_block (put3_block (b := w.heap.size + 1) (g := w.heap.size) (by omega))).trans ?_
        simp [World.cell?, k1]
      · refine (World.frozen?_of_block (put3_block (b := w.heap.size + 1) (g := w.heap.size) (by omega))).trans ?_
        simp [World.frozen?, k1]
    have HST := Lib.hid hst
    clear hst hz1 hb1 tb1 tb0 k1 hk0 hk1 hb0 hz0 hz2 HL
    go_wp2_with fail
    clear a0 a1 a2 f0 f1 f2
    go_loopg [5] T.size (fun g sv wr => ∃ cur U ks us A c, KLoop P w kn T g sv wr cur U ks us A c)
    case atStart => exact ⟨_, _, _, _, _, _, HST.out⟩
    case round =>
      obtain ⟨cur, U, ks, us, Ac, cc, hk⟩ := hrel
      have x0 := hk.box.c0
      have x1 := hk.box.c1
      have x2 := hk.box.c2
      have r0 := hk.r0
      have rf := hk.rf
      obtain ⟨Asv, csv, esv⟩ := own_form hk.own
      subst esv
      have HK := Lib.hid hk
      clear hk
      cases cur with
      | var m =>
        have hu : (kd U).from = [] := by
          have hd := HK.out.den
          rcases den_var hd with ⟨_, j, _, _, rfl⟩ | ⟨t', h1, _⟩
          · rfl
          · rw [HK.out.end' m rfl] at h1; cases h1
        have HF := Lib.hid (HK.out.ends hu)
        change wr.cell? ⟨w.heap.size, 0, none⟩ = some (.int .i64 1) at x0
        clear hu
        go_wp2
        exact bodyPost_ret (v := .agg #[.slice Asv us.length csv]) (by simp [results, Try.results29, go_sem, r0]) rfl ⟨_, rfl, HF.out, HK.out.bw.setCell (Nat.le_succ _) _⟩
      | star =>
        have hu : (kd U).from = [] := by
          have hd := HK.out.den
          cases hd; rfl
        have HF := Lib.hid (HK.out.ends hu)
        change wr.cell? ⟨w.heap.size, 0, none⟩ = some (.int .i64 2) at x0
        clear hu
        go_wp2
        exact bodyPost_ret (v := .agg #[.slice Asv us.length csv]) (by simp [results, Try.results29, go_sem, r0]) rfl ⟨_, rfl, HF.out, HK.out.bw.setCell (Nat.le_succ _) _⟩
      | arr a b =>
        have hd := HK.out.den
        obtain ⟨UA, UB, rfl, hda, hdb⟩ : ∃ UA UB, U = .arr UA UB ∧ Den kn a UA ∧ Den kn b UB := by cases hd with | arr _ _ A B h1 h2 => exact ⟨A, B, rfl, h1, h2⟩
        obtain ⟨kb, b', hcb, hdb'⟩ := hdb.chain
        have hUs : (Tm.arr UA UB).size = UA.size + UB.size + 1 := by simp only [Tm.size]
        have hUd : (Tm.arr UA UB).depth = max UA.depth UB.depth + 1 := by simp only [Tm.depth]
        have hle := HK.out.le
        have hdeep := HK.out.deep
        rw [hUs] at hle
        rw [hUd] at hdeep
        change wr.cell? ⟨w.heap.size, 0, none⟩ = some (.int .i64 3) at x0
        change wr.cell? ⟨w.heap.size, 2, none⟩ = some (.slice Ac 2 cc) at x2
        obtain ⟨gg, off, X1, e1, X2, e2, rfl, p0, p1, p2, p3, p4, p5, pz1, pz2⟩ := HK.out.box.zt.args
        have hul : us.length ≤ 1000000 := by
          have h1 := HK.out.kat.1
          have h2 := kd_len T
          have h3 : (kd T).from.length = ks.length + (kd (Tm.arr UA UB)).from.length := by rw [HK.out.told]; show (ks ++ _).length = _; rw [List.length_append]
          omega
        have HIH := Lib.hid (kindP_any P sb mb sz made kn n UA a _ wr (by omega) (HS.out.on (by have := HK.out.bw; exact this)) hda pz1 (fun b hb => Nat.lt_of_lt_of_le (hP b hb) HK.out.bw.size) (by omega))
        have HCB := Lib.hid hcb
        have HDB' := Lib.hid hdb'
        have hsm := HK.out.small
        rw [hUs] at hsm
        have hlw := HK.out.box.lt
        have hzw : w.heap.size + 1 < wr.heap.size := World.block_lt_of_cell? wr _ r0
        clear hd hda hdb hcb hdb' hUs hUd pz1 pz2 p3 p4 p5 hle hdeep
        go_wp2_with fail
        (with_reducible refine HIH.out.mono ?_)
        rintro e9 w1 ⟨kv, rfl, hkv, hb1⟩
        have hz1 := hb1.size
        obtain ⟨Ak, nk, ck, rfl⟩ : ∃ Ak nk ck, kv = .slice Ak nk ck := by
          generalize kd UA = kk at hkv
          cases kk with
          | mk lk => obtain ⟨Ak, ck, e, _⟩ := hkv.form; exact ⟨Ak, _, ck, e⟩
        have hown1 := ownsRow_below' HK.out.own hb1
        have HKV := Lib.hid hkv
        have HB1 := Lib.hid hb1
        have hzz1 : w.heap.size + 2 ≤ w1.heap.size := by omega
        clear hkv hb1 x0 x1 x2 p0 p1 p2 r0 rf
        go_wp2_with (at_builtin; refine wpList_append_own_at _ rfl (.tmp 24) (.tmp 31) 23 rfl (w.heap.size + 2) 25 j0 (.agg #[.slice none 0 0]) 1 24 Try.underlying23 hj hy0 hy1 hy2 rfl (by decide) _ _ _ rfl (hown1.alloc _) ⟨w1.heap.size, 0, none⟩ 1 1 [.slice Ak nk ck] rfl rfl (by have h9 := one_new w1 (.slice Ak nk ck) 25; simpa using h9) (by intro u hu; simp at hu; subst hu; rfl) (by unfold maxLen; omega) (by omega) (by simp; omega) ?_; intro v' w2 hown2 hg2 _ hat; obtain ⟨Av, cv, ev⟩ := own_form hown2; subst ev; have BB2 : Below (w.heap.size + 2) wr w2 := ((HB1.out.mono (by omega)).alloc hzz1 (.cells #[.slice Ak nk ck] 25)).grown hg2 (by simp; omega) (fun q hq => (hown1.lt q hq).1); have hs2 : wr.heap.size ≤ w2.heap.size := (by have := hg2.size; simp at this; omega); have T2 := HK.out.box.frB (B := w.heap.size + 2) (by omega) (fun b hb => by have := hP b hb; omega) hs2 BB2; have x2 := T2.c2; change w2.cell? ⟨w.heap.size, 2, none⟩ = some (.slice (some ⟨gg, off, none⟩) 2 cc) at x2; obtain ⟨gg', off', Y1, f1, Y2, f2, eg, _, _, _, p3, p4, p5, _, pz2⟩ := T2.zt.args; injection eg with eg; injection eg with eg1 eg2; subst eg1 eg2)
        have hbw2 : Below w.heap.size w w2 := HK.out.bw.trans (BB2.mono (by omega))
        refine (plook_any P kb b b' _ w2 sb mb sz made kn HCB.out (HS.out.on hbw2) pz2).mono ?_
        rintro e8 w3 ⟨v3, rfl, hz3, hb3⟩
        obtain ⟨A3, c3, rfl⟩ := hz3.form
        have T3 := T2.on hb3
        have f0 := T3.f0
        have f1 := T3.f1
        have f2' := T3.f2
        have g0 := T3.c0
        have g1 := T3.c1
        have g2 := T3.c2
        have HST2 := Lib.hid (KLoop.step (.cells #[.slice Ak nk ck] 25) hP HK.out HKV.out HB1.out hown2 hg2 hat hb3 HDB'.out (fun n e => HCB.out.end n e) hz3)
        clear hown1 hown2 hg2 hat BB2 hs2 T2 x2 p3 p4 p5 pz2 hbw2 hz3 hb3 T3
        go_wp2_with fail
        go_roundg UB.size
        case rel => exact ⟨_, _, _, _, _, _, HST2.out⟩
        case measure => omega
end Go.Proofs.Ytomhojpoaicioaa
