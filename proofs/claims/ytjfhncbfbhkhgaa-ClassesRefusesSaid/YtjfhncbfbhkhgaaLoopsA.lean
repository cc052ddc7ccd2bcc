/- loops: each class that is above itself is told. Conditions: those that each theorem names. -/
import Derived.Test.YtjfhncbfbhkhgaaLoops
namespace Go.Proofs.Ytjfhncbfbhkhgaa
open Go.RowKit
theorem walked_sub {below : ByteArray → List ByteArray} {U : List ByteArray} (hU : ∀ u, ∀ y ∈ below u, y ∈ U) {S : List ByteArray} {r : ByteArray} (hr : r ∈ U) {d : DS ByteArray (List ByteArray)} (h : Walked (comeK below) ⟨S, [], []⟩ r d) : ∀ x ∈ d.st, x ∈ U := by
  obtain ⟨⟨n, rfl⟩, _⟩ := h
  have hent : ∀ (d : DS ByteArray (List ByteArray)) (x : ByteArray), x ∈ U → ((∀ y ∈ d.st, y ∈ U) ∧ ∀ e ∈ d.path, ∀ y ∈ e.2, y ∈ U) → ((∀ y ∈ ((comeK below).enter x d).st, y ∈ U) ∧ ∀ e ∈ ((comeK below).enter x d).path, ∀ y ∈ e.2, y ∈ U) := fun d x hx hd => by
    unfold Wk.enter
    split
    · exact hd
    · refine ⟨fun y hy => ?_, fun e he y hy => ?_⟩
      · rcases List.mem_append.1 hy with hy | hy
        · exact hd.1 y hy
        · rcases List.mem_cons.1 hy with rfl | hy
          · exact hx
          · cases hy
      · rcases List.mem_cons.1 he with rfl | he
        · exact hU x y hy
        · exact hd.2 e he y hy
  refine (run_inv (comeK below) (I := fun d => (∀ y ∈ d.st, y ∈ U) ∧ ∀ e ∈ d.path, ∀ y ∈ e.2, y ∈ U) (fun d hd => ?_) n _ (hent _ r hr ⟨fun y hy => (by cases hy), fun e he => (by cases he)⟩)).1
  obtain ⟨seen, path, st⟩ := d
  unfold Wk.step
  split
  · exact hd
  · rename_i n p e
    simp only at e; subst e
    exact ⟨hd.1, fun e he => hd.2 e (List.mem_cons_of_mem _ he)⟩
  · rename_i n x l p e
    simp only at e; subst e
    refine hent _ x (hd.2 _ (List.mem_cons_self ..) x (List.mem_cons_self ..)) ⟨hd.1, fun e he y hy => ?_⟩
    rcases List.mem_cons.1 he with rfl | he
    · exact hd.2 _ (List.mem_cons_self ..) y (List.mem_cons_of_mem _ hy)
    · exact hd.2 e (List.mem_cons_of_mem _ he) y hy
theorem downs_sub {below : ByteArray → List ByteArray} {U : List ByteArray} (hU : ∀ u, ∀ y ∈ below u, y ∈ U) {S S2 : List ByteArray} {G G2 : List (List ByteArray)} {l : List ByteArray} (h : Downs below S G l S2 G2) : (∀ r ∈ l, r ∈ U) → (∀ g ∈ G, ∀ x ∈ g, x ∈ U) → ∀ g ∈ G2, ∀ x ∈ g, x ∈ U := by
  induction h with
  | nil => exact fun _ h => h
  | cons hw _ ih =>
    intro hl hG
    refine ih (fun r hr => hl r (List.mem_cons_of_mem _ hr)) (fun g hg x hx => ?_)
    split at hg
    · exact hG g hg x hx
    · rcases List.mem_append.1 hg with hg | hg
      · exact hG g hg x hx
      · rcases List.mem_cons.1 hg with rfl | hg
        · exact walked_sub hU (hl _ (List.mem_cons_self ..)) hw x hx
        · cases hg
theorem upSub {C : List Cls} {names : List ByteArray} {d : DS ByteArray (List ByteArray)} (hw : Walks (leaveK (supF C)) ⟨[], [], []⟩ names d) (hn : ∀ x ∈ names, x ∈ univ C) : ∀ x ∈ d.seen, x ∈ univ C := by
  have key : ∀ d0 l d1, Walks (leaveK (supF C)) d0 l d1 → (∀ x ∈ l, x ∈ univ C) → d0.path = [] → (∀ x ∈ d0.seen, x ∈ univ C) → ∀ x ∈ d1.seen, x ∈ univ C := fun d0 l d1 h => by
    induction h with
    | nil => exact fun _ _ h => h
    | @cons d0 d1 d2 x l a _ ih =>
      intro hl hp hs
      refine ih (fun y hy => hl y (List.mem_cons_of_mem _ hy)) a.2 ?_
      obtain ⟨⟨n, rfl⟩, _⟩ := a
      have hent : ∀ (d : DS ByteArray (List ByteArray)) (x : ByteArray), x ∈ univ C → ((∀ y ∈ d.seen, y ∈ univ C) ∧ ∀ e ∈ d.path, ∀ y ∈ e.2, y ∈ univ C) → ((∀ y ∈ ((leaveK (supF C)).enter x d).seen, y ∈ univ C) ∧ ∀ e ∈ ((leaveK (supF C)).enter x d).path, ∀ y ∈ e.2, y ∈ univ C) := fun d x hx hd => by
        unfold Wk.enter
        split
        · exact hd
        · refine ⟨fun y hy => ?_, fun e he y hy => ?_⟩
          · rcases List.mem_cons.1 hy with rfl | hy
            · exact hx
            · exact hd.1 y hy
          · rcases List.mem_cons.1 he with rfl | he
            · exact (supF_mem hy).1
            · exact hd.2 e he y hy
      refine (run_inv (leaveK (supF C)) (I := fun d => (∀ y ∈ d.seen, y ∈ univ C) ∧ ∀ e ∈ d.path, ∀ y ∈ e.2, y ∈ univ C) (fun d hd => ?_) n _ (hent _ x (hl x (List.mem_cons_self ..)) ⟨hs, fun e he => by rw [hp] at he; cases he⟩)).1
      obtain ⟨seen, path, st⟩ := d
      unfold Wk.step
      split
      · exact hd
      · rename_i n p e
        simp only at e; subst e
        exact ⟨hd.1, fun e he => hd.2 e (List.mem_cons_of_mem _ he)⟩
      · rename_i n x l p e
        simp only at e; subst e
        refine hent _ x (hd.2 _ (List.mem_cons_self ..) x (List.mem_cons_self ..)) ⟨hd.1, fun e he y hy => ?_⟩
        rcases List.mem_cons.1 he with rfl | he
        · exact hd.2 _ (List.mem_cons_self ..) y (List.mem_cons_of_mem _ hy)
        · exact hd.2 e (List.mem_cons_of_mem _ he) y hy
  exact key _ _ _ hw hn rfl (fun x hx => by cases hx)
def LoopsRes (Q : Nat → Prop) (C : List Cls) (M : ByteArray → Option (ByteArray × Nat)) (I : List Ins) (H : HKey → Option Nat) (eb cb mb pb : Nat) (iv : Value) (rb : Nat) (s : Int × Int) (names : List ByteArray) (w : World) (e : Ending) (w' : World) : Prop :=
  e = .returned (.tuple #[]) ∧ ∃ G d S, Walks (leaveK (supF C)) ⟨[], [], []⟩ names d ∧ Downs (belF (supF C) names) [] [] d.st.reverse S G ∧ TellI Q C M I H eb cb mb pb iv rb (tellsF s (loopL C G)) w w'
set_option maxRecDepth 100000 in
set_option maxHeartbeats 4000000 in
theorem loops_any {Q : Nat → Prop} {C : List Cls} {M : ByteArray → Option (ByteArray × Nat)} {I : List Ins} {H : HKey → Option Nat} {eb cb mb pb : Nat} {iv : Value} {rb : Nat} {s : Int × Int} {w : World} (h : TellI Q C M I H eb cb mb pb iv rb s w w) (hQ : ∀ b, Q b → b < w.heap.size) (hC : OkC C) {nv : Value} {names : List ByteArray} (hn : StrsAt (fun b => b < w.heap.size) w nv names) (hnl : names.length ≤ 1048576) (hns : ∀ x ∈ names, x ∈ univ C) :
    Calls Try.prog 33 #[.pointer (some ⟨eb, 0, none⟩), nv, .func (.func 35) #[.pointer (some ⟨rb, 0, none⟩)] #[]] w (LoopsRes Q C M I H eb cb mb pb iv rb s names w) := by
  have HG := Lib.hid (groups_any h.env hQ hC hn hnl hns)
  have HT := Lib.hid h
  have HC := Lib.hid hC
  have HNS := Lib.hid hns
  obtain ⟨An, cn, rfl, _⟩ := hn.form
  clear h hQ hC hn hns
  go_enter Try.func33, Try.ntmps33
  go_wp2_with fail
  with_reducible refine HG.out.mono ?_
  rintro e w2 ⟨gv, G, d, S, rfl, hgr, hw, hd, hb⟩
  obtain ⟨Ag, cg, rfl, hcg1, hcg2⟩ : ∃ A c, gv = .slice A G.length c ∧ G.length ≤ c ∧ c ≤ maxLen := by
    obtain ⟨A, c, e, h1, h2, _⟩ := hgr; exact ⟨A, c, e, h1, h2⟩
  have HW := Lib.hid hw
  have HD := Lib.hid hd
  have HGU : Hid (∀ g ∈ G, ∀ x ∈ g, x ∈ univ C) := Lib.hid (downs_sub (U := univ C) (fun u y hy => HNS.out y ((belF_mem _ _ _ _).1 hy).1) hd (fun r hr => by
    obtain ⟨hI, hp⟩ := UpI.walks hw (UpI.zero _) rfl
    have hrs := (hI.seen r).2 (.inl (List.mem_reverse.1 hr))
    exact upSub hw (fun x hx => HNS.out x hx) r hrs) (fun g hg => by cases hg))
  have HG0 : Hid (TellI Q C M I H eb cb mb pb iv rb (tellsF s (loopL C (G.take 0))) w w2) := Lib.hid (HT.out.on hb)
  have HGR := Lib.hid hgr
  unfold maxLen at hcg2
  clear hgr hw hd hb HG HT
  go_wp2_with fail
  go_loopw [14] (fun i wr => ∃ k : Nat, k ≤ G.length ∧ i = .int .i64 k ∧ TellI Q C M I H eb cb mb pb iv rb (tellsF s (loopL C (G.take k))) w wr ∧ GrsAt (fun b => w.heap.size ≤ b) wr (.slice Ag G.length cg) G) (fun i _ => G.length - (intOf i).toNat)
  case atStart => exact ⟨0, Nat.zero_le _, rfl, HG0.out, HGR.out⟩
  case round =>
    obtain ⟨k, hk, rfl, hI, hgr⟩ := hrel
    by_cases hlt : k < G.length
    · obtain ⟨g, hg⟩ : ∃ g, G[k]? = some g := ⟨_, List.getElem?_eq_getElem hlt⟩
      obtain ⟨b0, rv, e0, hb0, q0, hrv⟩ := hgr.at hg
      subst e0
      obtain ⟨Ar, cr, rfl, hcr1, hcr2⟩ := hrv.form
      have hki : (k : Int) < (G.length : Int) := by omega
      have hk0 : (0 : Int) ≤ (k : Int) := by omega
      have HI := Lib.hid hI
      have HGR2 := Lib.hid hgr
      have HRV := Lib.hid hrv
      have HGK := Lib.hid hg
      unfold maxLen at hcr2
      clear hI hgr hrv hg
      by_cases h1 : g.length = 1
      · obtain ⟨y, rfl⟩ : ∃ y, g = [y] := by
          cases g with
          | nil => cases h1
          | cons a l => cases l with
            | nil => exact ⟨a, rfl⟩
            | cons b l => simp at h1
        have hys : y.size ≤ maxLen := HC.out.size y (HGU.out [y] (List.mem_of_getElem? HGK.out) y (List.mem_cons_self ..))
        obtain ⟨b1, o1, e1, hb1, q1⟩ := HRV.out.at 0 (by simp)
        have q2 : wr.cell? ⟨b1, o1, none⟩ = some (.string y) := q1
        have q3 : wr.drew.cell? ⟨b1, o1, none⟩ = some (.string y) := q2
        subst e1
        clear q1 h1
        have HSU := Lib.hid (supers_any (HI.out.env.on (Below.refl _ _).drew) y hys)
        have HCT : Hid (∀ u sv, StrsAt Q u sv (supF C y) → Calls Try.prog 54 #[sv, .string y] u fun e w' => e = .returned (.bool (decide (y ∈ supF C y))) ∧ Below u.heap.size u w') := Lib.hid fun u sv hs => contains_any hs y
        have HBK : Hid (∀ u, Below wr.drew.heap.size wr.drew u → u.cell? ⟨b1, o1, none⟩ = some (.string y)) := Lib.hid fun u hu => (hu.cell (p := ⟨b1, o1, none⟩) hb1).trans q3
        by_cases hself : y ∈ supF C y
        · have HLG : Hid (loopG C [y] = [y].map (fun n => (35, atOf C n))) := Lib.hid (by unfold loopG; rw [if_neg (fun h => h.2 y (List.mem_cons_self ..) hself)])
          rw [decide_eq_true hself] at HCT
          generalize hgl : [y].length = gl at *
          have hgl1 : gl = 1 := hgl.symm
          have HGL := Lib.hid hgl
          clear hself hgl
          subst hgl1
          go_wp2_with fail
          have hS0 : wr.drew.cell? ⟨b1, o1, none⟩ = some (.string y) := q3
          go_region_held3 (fun u => u.cell? ⟨b1, o1, none⟩ = some (.string y)) (first | exact hS0 | exact hS1 | exact hS2) (first | (go_at_call 48; (with_reducible refine HSU.out.mono ?_); rintro e u1 ⟨⟨sv, rfl, hsv⟩, hu1⟩; obtain ⟨As, cs, rfl, _⟩ := hsv.form; have hS1 := HBK.out u1 hu1) | (go_at_call 54; (with_reducible refine (HCT.out _ _ hsv).mono ?_); rintro e u2 ⟨rfl, hu2⟩; have hS2 := HBK.out u2 (hu1.trans (hu2.mono hu1.size))))
          have hbd : Below wr.heap.size wr u2 := ((Below.refl _ _).drew).trans (hu1.trans (hu2.mono hu1.size))
          have HIX : Hid (TellI Q C M I H eb cb mb pb iv rb (tellsF s (loopL C (G.take k))) w u2) := Lib.hid (HI.out.on hbd)
          have HGX : Hid (GrsAt (fun b => w.heap.size ≤ b) u2 (.slice (some ⟨b0, 0, none⟩) G.length cg) G) := Lib.hid (HGR2.out.keep hbd.size (fun b _ hl => hbd.block b hl))
          have HRX : Hid (StrsAt (fun b => w.heap.size ≤ b) u2 (.slice (some ⟨b1, o1, none⟩) 1 cr) [y]) := Lib.hid (HRV.out.on hbd)
          clear hbd HI HGR2 HRV HSU HCT HBK hu1 hu2 hS0 hS1 hS2 hsv q2 q3 hb1 hys
          generalize (some ⟨b1, o1, none⟩ : Option Addr) = Ar at HRX ⊢
          generalize [y] = g at *
          go_wp2_with fail
          go_loopw [35] (fun j wr => ∃ m : Nat, m ≤ 1 ∧ j = .int .i64 m ∧ TellI Q C M I H eb cb mb pb iv rb (tellsF s (loopL C (G.take k) ++ (g.take m).map (fun n => (35, atOf C n)))) w wr ∧ GrsAt (fun b => w.heap.size ≤ b) wr (.slice (some ⟨b0, 0, none⟩) G.length cg) G ∧ StrsAt (fun b => w.heap.size ≤ b) wr (.slice Ar 1 cr) g) (fun j _ => 1 - (intOf j).toNat)
          case atStart => exact ⟨0, Nat.zero_le _, rfl, by simpa using HIX.out, HGX.out, HRX.out⟩
          case round =>
            obtain ⟨m, hm, rfl, hJ, hg9, hr9⟩ := hrel
            by_cases hml : m < 1
            · obtain ⟨n, hn⟩ : ∃ n, g[m]? = some n := ⟨_, List.getElem?_eq_getElem (by rw [HGL.out]; exact hml)⟩
              obtain ⟨b1, o1, e1, hb1, q1⟩ := hr9.at m (by rw [HGL.out]; exact hml)
              have en : g[m]'(by rw [HGL.out]; exact hml) = n := by have := List.getElem?_eq_getElem (l := g) (i := m) (by rw [HGL.out]; exact hml); rw [hn] at this; injection this with this; exact this.symm
              have q2 : wr.cell? ⟨b1, o1 + m, none⟩ = some (.string n) := by rw [← en]; exact q1
              clear q1 en
              subst e1
              have hmi : (m : Int) < (1 : Int) := by omega
              have hm0 : (0 : Int) ≤ (m : Int) := by omega
              have hmc : (m : Int) < (cr : Int) := by omega
              obtain ⟨cv, k1, k2⟩ := look_at hJ.env.cls (HC.out.size n (HGU.out g (List.mem_of_getElem? HGK.out) n (List.mem_of_getElem? hn)))
              obtain ⟨y0, _, _, _⟩ := hJ.env.cells
              have HT := Lib.hid (tell_any hJ.ref 35 (atOf C n))
              have HREL : Hid (∀ w', RefAt rb (tellF (tellsF s (loopL C (G.take k) ++ (g.take m).map (fun n => (35, atOf C n)))) 35 (atOf C n)) w' → Fr (fun b => b = rb) wr w' → TellI Q C M I H eb cb mb pb iv rb (tellsF s (loopL C (G.take k) ++ (g.take (m + 1)).map (fun n => (35, atOf C n)))) w w' ∧ GrsAt (fun b => w.heap.size ≤ b) w' (.slice (some ⟨b0, 0, none⟩) G.length cg) G ∧ StrsAt (fun b => w.heap.size ≤ b) w' (.slice (some ⟨b1, o1, none⟩) 1 cr) g) := Lib.hid fun w' r1 r2 => by
                have hrb := hJ.ne.2.2.2.2.2
                have hkp : ∀ b, w.heap.size ≤ b → b < wr.heap.size → w'.heap[b]? = wr.heap[b]? := fun b hb hl => r2.block b hl (fun e => by omega)
                refine ⟨?_, hg9.keep r2.size hkp, hr9.keepB r2.size hkp⟩
                have h9 := hJ.told r1 r2
                rw [List.take_add_one, hn, Option.toList_some, List.map_append, ← List.append_assoc, tellsF_append]
                exact h9
              clear hJ hg9 hr9 hn
              go_wp2_with fail
              with_reducible refine HT.out.mono ?_
              rintro e w' ⟨rfl, r1, r2⟩
              obtain ⟨t1, t2, t3⟩ := HREL.out w' r1 r2
              have T1 := Lib.hid t1
              have T2 := Lib.hid t2
              have T3 := Lib.hid t3
              clear t1 t2 t3 r1 r2
              go_wp2
              go_roundw
              case rel => exact ⟨m + 1, by omega, by go_num, T1.out, T2.out, T3.out⟩
              case measure => simp [intOf]; omega
            · have hme : m = 1 := by omega
              subst hme
              have T1 : Hid (TellI Q C M I H eb cb mb pb iv rb (tellsF s (loopL C (G.take (k + 1)))) w wr) := Lib.hid (by
                rw [List.take_add_one, HGK.out, Option.toList_some, loopL_snoc, HLG.out]
                rw [List.take_of_length_le (l := g) (by rw [HGL.out]; exact Nat.le_refl _)] at hJ
                exact hJ)
              have T2 := Lib.hid hg9
              clear hJ hg9 hr9
              go_wp2
              go_roundw
              case rel => exact ⟨k + 1, by omega, by go_num, T1.out, T2.out⟩
              case measure => simp [intOf]; omega
        · have HLG : Hid (loopG C [y] = []) := Lib.hid (by
            have hz9 : ∀ z ∈ [y], z ∉ supF C z := fun z hz => by
              rcases List.mem_cons.1 hz with rfl | hz
              · exact hself
              · cases hz
            unfold loopG; rw [if_pos ⟨rfl, hz9⟩])
          rw [decide_eq_false hself] at HCT
          generalize hgl : [y].length = gl at *
          have hgl1 : gl = 1 := hgl.symm
          have HGL := Lib.hid hgl
          clear hself hgl
          subst hgl1
          go_wp2_with fail
          have hS0 : wr.drew.cell? ⟨b1, o1, none⟩ = some (.string y) := q3
          go_region_held3 (fun u => u.cell? ⟨b1, o1, none⟩ = some (.string y)) (first | exact hS0 | exact hS1 | exact hS2) (first | (go_at_call 48; (with_reducible refine HSU.out.mono ?_); rintro e u1 ⟨⟨sv, rfl, hsv⟩, hu1⟩; obtain ⟨As, cs, rfl, _⟩ := hsv.form; have hS1 := HBK.out u1 hu1) | (go_at_call 54; (with_reducible refine (HCT.out _ _ hsv).mono ?_); rintro e u2 ⟨rfl, hu2⟩; have hS2 := HBK.out u2 (hu1.trans (hu2.mono hu1.size))))
          have hbd : Below wr.heap.size wr u2 := ((Below.refl _ _).drew).trans (hu1.trans (hu2.mono hu1.size))
          have T1 : Hid (TellI Q C M I H eb cb mb pb iv rb (tellsF s (loopL C (G.take (k + 1)))) w u2) := Lib.hid (by
            rw [List.take_add_one, HGK.out, Option.toList_some, loopL_snoc, HLG.out, List.append_nil]; exact HI.out.on hbd)
          have T2 : Hid (GrsAt (fun b => w.heap.size ≤ b) u2 (.slice (some ⟨b0, 0, none⟩) G.length cg) G) := Lib.hid (HGR2.out.keep hbd.size (fun b _ hl => hbd.block b hl))
          clear hbd HI HGR2 HRV HSU HCT HBK hu1 hu2 hS0 hS1 hS2 hsv
          go_wp2
          go_roundw
          case rel => exact ⟨k + 1, by omega, by go_num, T1.out, T2.out⟩
          case measure => simp [intOf]; omega
      · have hz1 : ((g.length : Int) == 1) = false := by rw [beq_eq_false_iff_ne]; omega
        have HLG : Hid (loopG C g = g.map (fun n => (35, atOf C n))) := Lib.hid (by unfold loopG; rw [if_neg (fun h => h1 h.1)])
        generalize hgl : g.length = gl at *
        have HGL := Lib.hid hgl
        clear hgl
        go_wp2_with fail
        go_region
        have hbd : Below wr.heap.size wr wr.drew := (Below.refl _ _).drew
        have HIX : Hid (TellI Q C M I H eb cb mb pb iv rb (tellsF s (loopL C (G.take k))) w wr.drew) := Lib.hid (HI.out.on hbd)
        have HGX : Hid (GrsAt (fun b => w.heap.size ≤ b) wr.drew (.slice (some ⟨b0, 0, none⟩) G.length cg) G) := Lib.hid (HGR2.out.keep (Nat.le_refl _) (fun b _ hl => hbd.block b hl))
        have HRX : Hid (StrsAt (fun b => w.heap.size ≤ b) wr.drew (.slice Ar gl cr) g) := Lib.hid (HRV.out.on hbd)
        clear hbd hz1 HI HGR2 HRV
        generalize wr.drew = X at HIX HGX HRX ⊢
        go_wp2_with fail
        go_loopw [35] (fun j wr => ∃ m : Nat, m ≤ gl ∧ j = .int .i64 m ∧ TellI Q C M I H eb cb mb pb iv rb (tellsF s (loopL C (G.take k) ++ (g.take m).map (fun n => (35, atOf C n)))) w wr ∧ GrsAt (fun b => w.heap.size ≤ b) wr (.slice (some ⟨b0, 0, none⟩) G.length cg) G ∧ StrsAt (fun b => w.heap.size ≤ b) wr (.slice Ar gl cr) g) (fun j _ => gl - (intOf j).toNat)
        case atStart => exact ⟨0, Nat.zero_le _, rfl, by simpa using HIX.out, HGX.out, HRX.out⟩
        case round =>
          obtain ⟨m, hm, rfl, hJ, hg9, hr9⟩ := hrel
          by_cases hml : m < gl
          · obtain ⟨n, hn⟩ : ∃ n, g[m]? = some n := ⟨_, List.getElem?_eq_getElem (by rw [HGL.out]; exact hml)⟩
            obtain ⟨b1, o1, e1, hb1, q1⟩ := hr9.at m (by rw [HGL.out]; exact hml)
            have en : g[m]'(by rw [HGL.out]; exact hml) = n := by have := List.getElem?_eq_getElem (l := g) (i := m) (by rw [HGL.out]; exact hml); rw [hn] at this; injection this with this; exact this.symm
            have q2 : wr.cell? ⟨b1, o1 + m, none⟩ = some (.string n) := by rw [← en]; exact q1
            clear q1 en
            subst e1
            have hmi : (m : Int) < (gl : Int) := by omega
            have hm0 : (0 : Int) ≤ (m : Int) := by omega
            have hmc : (m : Int) < (cr : Int) := by omega
            obtain ⟨cv, k1, k2⟩ := look_at hJ.env.cls (HC.out.size n (HGU.out g (List.mem_of_getElem? HGK.out) n (List.mem_of_getElem? hn)))
            obtain ⟨y0, _, _, _⟩ := hJ.env.cells
            have HT := Lib.hid (tell_any hJ.ref 35 (atOf C n))
            have HREL : Hid (∀ w', RefAt rb (tellF (tellsF s (loopL C (G.take k) ++ (g.take m).map (fun n => (35, atOf C n)))) 35 (atOf C n)) w' → Fr (fun b => b = rb) wr w' → TellI Q C M I H eb cb mb pb iv rb (tellsF s (loopL C (G.take k) ++ (g.take (m + 1)).map (fun n => (35, atOf C n)))) w w' ∧ GrsAt (fun b => w.heap.size ≤ b) w' (.slice (some ⟨b0, 0, none⟩) G.length cg) G ∧ StrsAt (fun b => w.heap.size ≤ b) w' (.slice (some ⟨b1, o1, none⟩) gl cr) g) := Lib.hid fun w' r1 r2 => by
              have hrb := hJ.ne.2.2.2.2.2
              have hkp : ∀ b, w.heap.size ≤ b → b < wr.heap.size → w'.heap[b]? = wr.heap[b]? := fun b hb hl => r2.block b hl (fun e => by omega)
              refine ⟨?_, hg9.keep r2.size hkp, hr9.keepB r2.size hkp⟩
              have h9 := hJ.told r1 r2
              rw [List.take_add_one, hn, Option.toList_some, List.map_append, ← List.append_assoc, tellsF_append]
              exact h9
            clear hJ hg9 hr9 hn
            go_wp2_with fail
            with_reducible refine HT.out.mono ?_
            rintro e w' ⟨rfl, r1, r2⟩
            obtain ⟨t1, t2, t3⟩ := HREL.out w' r1 r2
            have T1 := Lib.hid t1
            have T2 := Lib.hid t2
            have T3 := Lib.hid t3
            clear t1 t2 t3 r1 r2
            go_wp2
            go_roundw
            case rel => exact ⟨m + 1, by omega, by go_num, T1.out, T2.out, T3.out⟩
            case measure => simp [intOf]; omega
          · have hme : m = gl := by omega
            subst hme
            have T1 : Hid (TellI Q C M I H eb cb mb pb iv rb (tellsF s (loopL C (G.take (k + 1)))) w wr) := Lib.hid (by
              rw [List.take_add_one, HGK.out, Option.toList_some, loopL_snoc, HLG.out]
              rw [List.take_of_length_le (l := g) (by rw [HGL.out]; exact Nat.le_refl _)] at hJ
              exact hJ)
            have T2 := Lib.hid hg9
            have hd : decide (m < m) = false := by simp
            clear hJ hg9 hr9
            go_wp2
            go_roundw
            case rel => exact ⟨k + 1, by omega, by go_num, T1.out, T2.out⟩
            case measure => simp [intOf]; omega
    · have hke : k = G.length := by omega
      subst hke
      rw [List.take_of_length_le (Nat.le_refl _)] at hI
      have HI := Lib.hid hI
      have hd : decide (G.length < G.length) = false := by simp
      clear hI hgr
      go_wp2
      first | go_ret | go_end0
      exact ⟨rfl, G, d, S, HW.out, HD.out, HI.out⟩
end Go.Proofs.Ytjfhncbfbhkhgaa
