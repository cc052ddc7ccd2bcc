/- from: all names to which one leads are come to. No conditions but those that each theorem names. -/
import Derived.Test.YtjfhncbfbhkhgaaWkE
import Derived.Test.YtjfhncbfbhkhgaaGroupN
import Derived.Deep.LoopGhost
namespace Go.Proofs.Ytjfhncbfbhkhgaa
open Go.RowKit
section
variable {σ : Type} {nv cv lv : Value} {Gr : Nat → Prop} {Nx : World → Prop} {St : σ → (Nat → Prop) → World → Prop} {B sb wb tb : Nat} {d : DS ByteArray σ} {F : Nat → Prop} {pv : Value} {w : World}
/-- The path's last step. -/
theorem WAt.last {p : List (ByteArray × List ByteArray)} {n : ByteArray} {l : List ByteArray} (h : WAt nv cv lv Gr Nx St B sb wb tb d F pv w) (hp : d.path = (n, l) :: p) :
    ∃ pb c vs u, pv = .slice (some ⟨pb, 0, none⟩) (p.length + 1) c ∧ B ≤ pb ∧ pb < w.heap.size ∧ p.length + 1 ≤ c ∧ c ≤ maxLen ∧ vs.length = p.reverse.length ∧ w.ownsRow B 131 2 (.slice (some ⟨pb, 0, none⟩) (p.length + 1) c) (p.length + 1) (pcells p.reverse vs ++ [.string n, u]) ∧
      (∀ j (h : j < vs.length) (h' : j < p.reverse.length), StrsAt Gr w vs[j] p.reverse[j].2) ∧ StrsAt Gr w u l ∧ w.cell? ⟨pb, p.length * 2, none⟩ = some (.string n) ∧ w.cell? ⟨pb, p.length * 2 + 1, none⟩ = some u ∧ ∀ k, w.frozen? ⟨pb, k, none⟩ = false := by
  obtain ⟨vs0, hv, ho, hi⟩ := h.path
  have hpr : d.path.reverse = p.reverse ++ [(n, l)] := by rw [hp, List.reverse_cons]
  rw [hpr] at hv ho
  rw [List.length_append, List.length_singleton] at hv ho
  have hrl : p.reverse.length = p.length := List.length_reverse
  obtain ⟨vs, u, rfl⟩ : ∃ vs u, vs0 = vs ++ [u] := by
    rcases List.eq_nil_or_concat vs0 with e | ⟨vs, u, e⟩
    · rw [e] at hv; simp at hv
    · exact ⟨vs, u, by rw [e]; simp⟩
  have hv2 : vs.length = p.reverse.length := by simpa using hv
  rw [pcells_snoc _ _ _ _ hv2, hrl] at ho
  obtain ⟨pb, c, rfl, h1, h2, h3, h4⟩ := own_some ho (by omega)
  have hl := pcells_length p.reverse vs hv2
  rw [hrl] at hl
  refine ⟨pb, c, vs, u, rfl, h1, h2, h3, h4, hv2, ho, fun j a b => ?_, ?_, ?_, ?_, fun k => ho.frozenAt k⟩
  · have h9 := hi j (by simp; omega) (by rw [hpr, List.length_append]; omega)
    rw [List.getElem_append_left a] at h9
    simp only [hpr, List.getElem_append_left b] at h9
    exact h9
  · have h9 := hi vs.length (by simp) (by rw [hpr, List.length_append, hv2]; simp)
    have e1 : (vs ++ [u])[vs.length]'(by simp) = u := by simp
    have e2 : d.path.reverse[vs.length]'(by rw [hpr, List.length_append, hv2]; simp) = (n, l) := by simp only [hpr, hv2]; simp
    rw [e1, e2] at h9; exact h9
  · rw [ho.cellAt _ (by omega), List.getElem?_append_right (by omega), hl]; simp
  · rw [ho.cellAt _ (by omega), List.getElem?_append_right (by omega), hl]; simp
/-- The path's last step is left. -/
theorem WAt.pop {A : Option Addr} {m c : Nat} {p : List (ByteArray × List ByteArray)} {n : ByteArray} {l : List ByteArray} (h : WAt nv cv lv Gr Nx St B sb wb tb d F (.slice A m c) w) (hst : ∀ s F w w', St s F w → w.heap.size ≤ w'.heap.size → (∀ k, F k → w'.heap[k]? = w.heap[k]?) → St s F w') (hnx : ∀ w w', Nx w → w.heap.size ≤ w'.heap.size → (∀ k, Gr k → w'.heap[k]? = w.heap[k]?) → Nx w') (hp : d.path = (n, l) :: p) :
    WAt nv cv lv Gr Nx St B sb wb tb { d with path := p } F (.slice A p.length c) (w.setCell ⟨tb, 0, none⟩ (.slice A p.length c)) := by
  have hn := h.nes
  have hoth : ∀ k, k ≠ tb → (w.setCell ⟨tb, 0, none⟩ (.slice A p.length c)).heap[k]? = w.heap[k]? := fun k hk => Below.heap_setCell _ _ _ _ hk
  have hle := h.le
  have hgr : ∀ k, Gr k → (w.setCell ⟨tb, 0, none⟩ (.slice A p.length c)).heap[k]? = w.heap[k]? := fun k hk => hoth k (by have := (h.gr k hk).1; omega)
  have hsz : w.heap.size ≤ (w.setCell ⟨tb, 0, none⟩ (.slice A p.length c)).heap.size := by simp
  obtain ⟨pb, c', vs, u, e, h1, h2, h3, h4, hv, ho, hi, _⟩ := h.last hp
  injection e with e1 e2 e3
  subst e1 e2 e3
  refine ⟨(hoth _ hn.1).trans h.obj, heap_setCell_same w tb 0 _ 129 _ h.box, ⟨vs, hv, ?_, fun j a b => (hi j a b).keepB hsz (fun b hb _ => hgr b hb)⟩, h.seen.block (hoth _ hn.2.2.1), hst _ _ _ _ h.st hsz (fun k hk => hoth k (fun e => h.sep.2.1 (by rw [← e]; exact hk))), hnx _ _ h.nx hsz hgr, ⟨hle.1, hle.2.1, by simpa using hle.2.2⟩, h.gr, h.sep.1, h.sep.2.1, h.sep.2.2.1, fun g hg => h.sep.2.2.2 g hg⟩
  have h9 := own_shorter ho p.length (by omega) (by omega)
  have hrl : p.reverse.length = p.length := List.length_reverse
  have hl := pcells_length p.reverse vs hv
  rw [hrl] at hl
  rw [List.take_left' hl] at h9
  show World.ownsRow _ B 131 2 _ p.reverse.length (pcells p.reverse vs)
  rw [hrl]
  exact own_keep h9 (fun g hg => hoth g (fun e => hn.2.2.2.2.1 (by rw [← e]; exact hg)))
/-- One of the last step's is looked at. -/
theorem WAt.setLeft {pb m c : Nat} {p : List (ByteArray × List ByteArray)} {n : ByteArray} {l l' : List ByteArray} {u' : Value} (h : WAt nv cv lv Gr Nx St B sb wb tb d F (.slice (some ⟨pb, 0, none⟩) m c) w) (hst : ∀ s F w w', St s F w → w.heap.size ≤ w'.heap.size → (∀ k, F k → w'.heap[k]? = w.heap[k]?) → St s F w') (hnx : ∀ w w', Nx w → w.heap.size ≤ w'.heap.size → (∀ k, Gr k → w'.heap[k]? = w.heap[k]?) → Nx w') (hp : d.path = (n, l) :: p) (hu : StrsAt Gr w u' l') :
    WAt nv cv lv Gr Nx St B sb wb tb { d with path := (n, l') :: p } F (.slice (some ⟨pb, 0, none⟩) m c) (w.setCell ⟨pb, p.length * 2 + 1, none⟩ u') := by
  have hn := h.nes
  have hpo : (Value.slice (some ⟨pb, 0, none⟩) m c).ownBlock = some pb := rfl
  rw [hpo] at hn
  have hsp := h.sep.2.2.2 pb hpo
  have hoth : ∀ j, j ≠ pb → (w.setCell ⟨pb, p.length * 2 + 1, none⟩ u').heap[j]? = w.heap[j]? := fun j hj => Below.heap_setCell _ _ _ _ hj
  have hsz : w.heap.size ≤ (w.setCell ⟨pb, p.length * 2 + 1, none⟩ u').heap.size := by simp
  obtain ⟨pb', c', vs, u, e, h1, h2, h3, h4, hv, ho, hi, _⟩ := h.last hp
  injection e with e1 e2 e3
  injection e1 with e1
  injection e1 with e1
  subst e1 e2 e3
  have hgr : ∀ k, Gr k → (w.setCell ⟨pb, p.length * 2 + 1, none⟩ u').heap[k]? = w.heap[k]? := fun k hk => hoth k (by have := (h.gr k hk).1; omega)
  refine ⟨(hoth _ (fun e => hn.2.2.2.1 (by rw [e]))).trans h.obj, (hoth _ (fun e => hn.2.2.2.2.1 (by rw [e]))).trans h.box, ⟨vs ++ [u'], by simp [hv], ?_, fun j a b => ?_⟩, h.seen.block (hoth _ (fun e => hn.2.2.2.2.2 (by rw [e]))), hst _ _ _ _ h.st hsz (fun k hk => hoth k (fun e => hsp (by rw [← e]; exact hk))), hnx _ _ h.nx hsz hgr, ⟨h.le.1, h.le.2.1, by simpa using h.le.2.2⟩, h.gr, h.sep⟩
  · have h9 := own_set ho (p.length * 2 + 1) u'
    have hrl : p.reverse.length = p.length := List.length_reverse
    have hl := pcells_length p.reverse vs hv
    rw [hrl] at hl
    have e5 : (pcells p.reverse vs ++ [.string n, u]).set (p.length * 2 + 1) u' = pcells p.reverse vs ++ [.string n, u'] := by
      rw [List.set_append_right _ _ (by omega), hl]; simp
    rw [e5] at h9
    show World.ownsRow _ B 131 2 _ ((n, l') :: p).reverse.length (pcells ((n, l') :: p).reverse (vs ++ [u']))
    rw [List.reverse_cons, pcells_snoc _ _ _ _ hv, List.length_append, List.length_singleton, hrl]
    exact h9
  · have e0 : ((n, l') :: p).reverse = p.reverse ++ [(n, l')] := List.reverse_cons
    have b' : j < (p.reverse ++ [(n, l')]).length := by rw [← e0]; exact b
    have e3 : ((n, l') :: p).reverse[j]'b = (p.reverse ++ [(n, l')])[j]'b' := by simp only [e0]
    show StrsAt Gr _ (vs ++ [u'])[j] (((n, l') :: p).reverse[j]'b).2
    rw [e3]
    rw [List.length_append, List.length_singleton] at a b'
    by_cases hj : j < vs.length
    · have hj' : j < p.reverse.length := by omega
      have h9 := (hi j hj hj').keepB hsz (fun b hb _ => hgr b hb)
      rw [List.getElem_append_left hj, List.getElem_append_left hj']
      exact h9
    · have hj' : j = vs.length := by omega
      subst hj'
      have e1 : (vs ++ [u'])[vs.length] = u' := by simp
      have e2 : (p.reverse ++ [(n, l')])[vs.length]'(by simp [hv]) = (n, l') := by simp [hv]
      rw [e1, e2]; exact hu.keepB hsz (fun b hb _ => hgr b hb)
end
theorem alloc_get (w : World) (o : Obj) (k : Nat) : (w.alloc o).heap[k]? = if k = w.heap.size then some o else w.heap[k]? := by
  show (w.heap.push o)[k]? = _
  rw [Array.getElem?_push]
def FromRes {σ : Type} (k : Wk ByteArray σ) (U : List ByteArray) (Rel : DS ByteArray σ → Prop) (Nx : World → Prop) (St : σ → (Nat → Prop) → World → Prop) (sb : Nat) (d : DS ByteArray σ) (x : ByteArray) (F : Nat → Prop) (w : World) (e : Ending) (w' : World) : Prop :=
  e = .returned (.tuple #[]) ∧ ∃ d' F', Walked k d x d' ∧ GoodD k U Rel d' ∧ St d'.st F' w' ∧ Nx w' ∧ SeenAt w' sb d'.seen ∧ FrW w.heap.size sb F w F' w' ∧ ¬ F' sb
def FromRel {σ : Type} (k : Wk ByteArray σ) (U : List ByteArray) (Rel : DS ByteArray σ → Prop) (nv cv lv : Value) (Gr : Nat → Prop) (Nx : World → Prop) (St : σ → (Nat → Prop) → World → Prop) (B sb wb tb : Nat) (d : DS ByteArray σ) (x : ByteArray) (F : Nat → Prop) (w : World) (m : Nat) (wr : World) : Prop :=
  ∃ d2 F2 pv2, WAt nv cv lv Gr Nx St B sb wb tb d2 F2 pv2 wr ∧ GoodD k U Rel d2 ∧ (∃ n, d2 = k.run n (k.enter x d)) ∧ k.left U d2 = m ∧ FrW B sb F w F2 wr
set_option maxRecDepth 100000 in
set_option maxHeartbeats 4000000 in
theorem from_any {σ : Type} {k : Wk ByteArray σ} {U : List ByteArray} {Rel : DS ByteArray σ → Prop} {nf : FuncId} {n1 n2 : Array Value} {cf : FuncId} {c1 c2 : Array Value} {lf : FuncId} {l1 l2 : Array Value} {Gr : Nat → Prop} {Nx : World → Prop} {St : σ → (Nat → Prop) → World → Prop} (hC : ClosOK k U Rel nf n1 n2 cf c1 c2 lf l1 l2 Gr Nx St)
    {sb : Nat} {d : DS ByteArray σ} {F : Nat → Prop} {w : World} (hp : d.path = []) (hG : GoodD k U Rel d) (hst : St d.st F w) (hnx : Nx w) (hse : SeenAt w sb d.seen) (hgr : ∀ j, Gr j → j < w.heap.size ∧ j ≠ sb ∧ ¬ F j) (hFs : ¬ F sb) (x : ByteArray) (hx : x ∈ U) :
    Calls Try.prog 51 #[.agg #[.func (.func nf) n1 n2, .func (.func cf) c1 c2, .func (.func lf) l1 l2, .map (some sb)], .string x] w (FromRes k U Rel Nx St sb d x F w) := by
  obtain ⟨W, eW⟩ : ∃ W, W = (w.alloc (.cells #[.func (.func nf) n1 n2, .func (.func cf) c1 c2, .func (.func lf) l1 l2, .map (some sb)] 113)).alloc (.cells #[.slice none 0 0] 129) := ⟨_, rfl⟩
  have hb1 : Below w.heap.size w W := by rw [eW]; exact (below_new w _).alloc (by simp) _
  have hW : WAt (.func (.func nf) n1 n2) (.func (.func cf) c1 c2) (.func (.func lf) l1 l2) Gr Nx St w.heap.size sb w.heap.size (w.heap.size + 1) d F (.slice none 0 0) W := by
    have hlt := hC.stlt _ _ _ hst
    refine ⟨?_, ?_, ⟨[], by rw [hp]; rfl, by rw [hp]; exact World.ownsRow_nil _ _ _ _, fun j h => by simp at h⟩, hse.block (hb1.block _ hse.lt), hC.stkeep _ _ _ _ hst hb1.size (fun j hj => hb1.block j (hlt j hj)), hC.nxkeep _ _ hnx hb1.size (fun j hj => hb1.block j (hgr j hj).1), ⟨Nat.le_refl _, by omega, hb1.size⟩, hgr, fun h => by have := hlt _ h; omega, fun h => by have := hlt _ h; omega, hFs, fun g hg => by cases hg⟩
    · rw [eW, alloc_get, alloc_get, if_neg (by simp), if_pos rfl]
    · rw [eW, alloc_get, if_pos (by simp)]
  have hfr : FrW w.heap.size sb F w F W := ⟨hb1.os, hb1.tape, hb1.output, hb1.size, fun j hj _ _ => hb1.block j hj, fun j hj => .inl hj⟩
  have HEN := Lib.hid (enter_any hC hW hG hfr x hx)
  have HG1 := Lib.hid (hG.enter hC.relE hx)
  have HEW := Lib.hid eW
  have HC := Lib.hid hC
  have hncall := hC.ncall
  have hlcall := hC.lcall
  clear hC hp hG hst hnx hse hgr hFs eW hb1 hW hfr hx
  go_enter Try.func51, Try.ntmps51
  go_wp2_with fail
  rw [← HEW.out]
  with_reducible refine HEN.out.mono ?_
  rintro e w1 ⟨rfl, F1, pv1, h1, hf1⟩
  have HR0 : Hid (FromRel k U Rel (.func (.func nf) n1 n2) (.func (.func cf) c1 c2) (.func (.func lf) l1 l2) Gr Nx St w.heap.size sb w.heap.size (w.heap.size + 1) d x F w (k.left U (k.enter x d)) w1) := Lib.hid ⟨_, F1, pv1, h1, HG1.out, ⟨0, rfl⟩, rfl, hf1⟩
  obtain ⟨wb, hwb⟩ : ∃ wb, wb = w.heap.size := ⟨_, rfl⟩
  obtain ⟨tb, htb⟩ : ∃ tb, tb = w.heap.size + 1 := ⟨_, rfl⟩
  clear h1 hf1 HEN HG1 HEW
  go_wp2_with fail
  rw [← htb, ← hwb] at HR0 ⊢
  have HWB := Lib.hid hwb
  clear hwb htb
  go_loopg [] (k.left U (k.enter x d)) (fun m wr => FromRel k U Rel (.func (.func nf) n1 n2) (.func (.func cf) c1 c2) (.func (.func lf) l1 l2) Gr Nx St wb sb wb tb d x F w m wr)
  case atStart => exact HR0.out
  case round =>
    obtain ⟨d2, F2, pv2, h2, hG2, ⟨n0, hn0⟩, hm, hf2⟩ := hrel
    have HF2 := Lib.hid hf2
    have HN0 := Lib.hid hn0
    have HM := Lib.hid hm
    have HG2 := Lib.hid hG2
    have hlen := (hG2.lens HC.out.len).2
    clear hf2 hn0 hm hG2 HR0
    have d2w : wr.cell? ⟨wb, 2, none⟩ = some (.func (.func lf) l1 l2) := by
      have := h2.obj
      simp [World.cell?, this]
    have d0t : wr.cell? ⟨tb, 0, none⟩ = some pv2 := by
      have := h2.box
      simp [World.cell?, this]
    have d0f : wr.frozen? ⟨tb, 0, none⟩ = false := by
      have := h2.box
      simp [World.frozen?, this]
    cases hp2 : d2.path with
    | nil =>
      obtain ⟨A, c, e⟩ := h2.path.form
      rw [hp2] at e
      simp only [List.reverse_nil, List.length_nil] at e
      subst e
      have HRES : Hid (FromRes k U Rel Nx St sb d x F w (.returned (.tuple #[])) wr) := Lib.hid ⟨rfl, d2, F2, ⟨⟨n0, HN0.out⟩, hp2⟩, HG2.out, h2.st, h2.nx, h2.seen, by rw [← HWB.out]; exact HF2.out, h2.sep.2.2.1⟩
      clear h2 hp2 hlen d2w
      go_wp2
      go_end0
      exact HRES.out
    | cons hd p =>
      obtain ⟨nm, l⟩ := hd
      obtain ⟨pb, c, vs, u, rfl, hBp, hpb, hc1, hc2, hvl, hpo, hvi, hu, q0, q1, qf⟩ := h2.last hp2
      have HQF := Lib.hid qf
      have qf1 := qf (p.length * 2 + 1)
      have hpl : p.length ≤ 1073741824 := by rw [hp2] at hlen; simp at hlen; omega
      have hr0 : (0 : Int) < (p.length : Int) + 1 := by omega
      unfold maxLen at hc2
      have hB3 := h2.le
      have HNE := Lib.hid h2.nes
      clear qf hvi hpo hvl hlen
      cases l with
      | nil =>
        obtain ⟨A0, c0, rfl, _⟩ := hu.form
        simp only [List.length_nil] at q1 hu
        have hd2 := h2.on HC.out.nxkeep HC.out.stkeep HC.out.stlt (Below.refl _ _).drew
        have HCL := Lib.hid (HC.out.leave d2 nm p F2 wr.drew HG2.out hp2 hd2.st hd2.nx)
        have HST : Hid (k.step d2 = ⟨d2.seen, p, k.leave d2.st nm⟩) := Lib.hid (by unfold Wk.step; rw [hp2])
        have HLT := Lib.hid (left_step HG2.out.inu (by rw [hp2]; simp))
        have HG3 := Lib.hid (HG2.out.step HC.out.relS)
        have H2 := Lib.hid h2
        have HP2 := Lib.hid hp2
        have HPB := Lib.hid hpb
        clear h2 hp2 hu hpb
        go_wp2_with fail
        have HD2 := Lib.hid hd2
        clear hd2
        go_region_law (first | (go_simp; (with_reducible refine HCL.out.mono ?_); rintro e w2 ⟨rfl, F3, hr⟩; have HR := Lib.hid hr; clear hr))
        all_goals
          have hr := HR.out
          have h3 : WAt (.func (.func nf) n1 n2) (.func (.func cf) c1 c2) (.func (.func lf) l1 l2) Gr Nx St wb sb wb tb ⟨d2.seen, d2.path, k.leave d2.st nm⟩ F3 (.slice (some ⟨pb, 0, none⟩) (p.length + 1) c) w2 := HD2.out.keep hr.size hr.block hr.st HC.out.nxkeep hr.own
          have hf3 : FrW wb sb F w F3 w2 := ((HF2.out.on H2.out.le.2.2 (Below.refl _ _).drew).step HD2.out.le.2.2 hr.os hr.tape hr.output hr.size (fun j hj hnf _ => hr.block j (by have := HD2.out.le.2.2; omega) hnf) hr.own)
          have b0 : w2.cell? ⟨tb, 0, none⟩ = some (.slice (some ⟨pb, 0, none⟩) (p.length + 1) c) := by
            have := h3.box
            simp [World.cell?, this]
          have b1 : w2.frozen? ⟨tb, 0, none⟩ = false := by
            have := h3.box
            simp [World.frozen?, this]
          have h4 := h3.pop HC.out.stkeep HC.out.nxkeep (show (⟨d2.seen, d2.path, k.leave d2.st nm⟩ : DS ByteArray σ).path = _ from HP2.out)
          have hf4 : FrW wb sb F w F3 (w2.setCell ⟨tb, 0, none⟩ (.slice (some ⟨pb, 0, none⟩) p.length c)) := hf3.step h3.le.2.2 rfl rfl rfl (by simp) (fun j hj _ _ => Below.heap_setCell _ _ _ _ (show j ≠ tb by have := h3.le.2.1; omega)) (fun _ hj => .inl hj)
          have HREL : Hid (FromRel k U Rel (.func (.func nf) n1 n2) (.func (.func cf) c1 c2) (.func (.func lf) l1 l2) Gr Nx St wb sb wb tb d x F w (k.left U (k.step d2)) (w2.setCell ⟨tb, 0, none⟩ (.slice (some ⟨pb, 0, none⟩) p.length c))) := Lib.hid ⟨k.step d2, F3, _, by rw [HST.out]; exact h4, HG3.out, ⟨n0 + 1, by rw [run_add, ← HN0.out]; rfl⟩, rfl, hf4⟩
          have HLT2 : k.left U (k.step d2) < gk := by rw [← HM.out]; exact HLT.out
          generalize k.left U (k.step d2) = k3 at *
          clear h3 hf3 h4 hf4 hr HR
          go_wp2
          go_roundg k3
          case rel => exact HREL.out
          case measure => exact HLT2
      | cons y l' =>
        obtain ⟨ub, uo, uc, rfl, huc1, huc2, hub, hcz, A9, hA9, hu9⟩ := strs_tail hu
        unfold maxLen at huc2
        have hyU : y ∈ U := HG2.out.inu.path (nm, y :: l') (by rw [hp2]; exact List.mem_cons_self ..) y (List.mem_cons_self ..)
        have h5 := h2.setLeft HC.out.stkeep HC.out.nxkeep hp2 hu9
        have hf5 : FrW wb sb F w F2 (wr.setCell ⟨pb, p.length * 2 + 1, none⟩ (.slice (some A9) l'.length (uc - 1))) :=
          HF2.out.step h2.le.2.2 rfl rfl rfl (by simp) (fun j hj _ _ => Below.heap_setCell _ _ _ _ (show j ≠ pb by omega)) (fun _ hj => .inl hj)
        have HG3 := Lib.hid (HG2.out.step HC.out.relS)
        have hst : k.step d2 = k.enter y ⟨d2.seen, (nm, l') :: p, d2.st⟩ := by unfold Wk.step; rw [hp2]
        have HEN : Hid (Calls Try.prog 60 #[.string y, .pointer (some ⟨wb, 0, none⟩), .pointer (some ⟨tb, 0, none⟩)] (wr.setCell ⟨pb, p.length * 2 + 1, none⟩ (.slice (some A9) l'.length (uc - 1))) (EnterRes (.func (.func nf) n1 n2) (.func (.func cf) c1 c2) (.func (.func lf) l1 l2) Gr Nx St wb sb wb tb (k.step d2) F w)) :=
          Lib.hid (by rw [hst]; exact enter_any HC.out h5 (HG2.out.rest HC.out.relP hp2) hf5 y hyU)
        have HLT := Lib.hid (left_step HG2.out.inu (by rw [hp2]; simp))
        have hl0 : ((l'.length : Int) + 1 == 0) = false := by rw [beq_eq_false_iff_ne]; omega
        have hl1 : (0 : Int) < (l'.length : Int) + 1 := by omega
        have hl2 : (l'.length : Int) + 1 ≤ (uc : Int) := by omega
        have hptb : pb ≠ tb := fun e => h2.nes.2.2.2.2.1 (by rw [← e]; rfl)
        have htbp : tb ≠ pb := fun e => hptb e.symm
        have hpd : pb < wr.heap.size := hpb
        clear h2 hp2 hu hu9 h5 hf5 hst hB3 hpb
        go_wp2_with fail
        (with_reducible refine HEN.out.mono ?_)
        rintro e w3 ⟨rfl, F3, pv3, h3, hf3⟩
        have HREL : Hid (FromRel k U Rel (.func (.func nf) n1 n2) (.func (.func cf) c1 c2) (.func (.func lf) l1 l2) Gr Nx St wb sb wb tb d x F w (k.left U (k.step d2)) w3) := Lib.hid ⟨k.step d2, F3, _, h3, HG3.out, ⟨n0 + 1, by rw [run_add, ← HN0.out]; rfl⟩, rfl, hf3⟩
        have HLT2 : k.left U (k.step d2) < gk := by rw [← HM.out]; exact HLT.out
        generalize k.left U (k.step d2) = k3 at *
        clear h3 hf3
        go_wp2
        go_roundg k3
        case rel => exact HREL.out
        case measure => exact HLT2
end Go.Proofs.Ytjfhncbfbhkhgaa
