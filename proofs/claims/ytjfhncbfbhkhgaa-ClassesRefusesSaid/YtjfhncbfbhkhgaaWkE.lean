/- enter: a walk comes to a name. No conditions but those that each theorem names. -/
import Derived.Test.YtjfhncbfbhkhgaaWkA
import Derived.BigRegion
import Derived.Deep.RegionLaw
import Derived.Deep.RegionHeld3
namespace Go.Proofs.Ytjfhncbfbhkhgaa
open Go.RowKit
section
variable {σ : Type} {nv cv lv : Value} {Gr : Nat → Prop} {Nx : World → Prop} {St : σ → (Nat → Prop) → World → Prop} {B sb wb tb : Nat} {d : DS ByteArray σ} {F : Nat → Prop} {pv : Value} {w : World}
theorem FrW.step {F0 : Nat → Prop} {w0 : World} (h : FrW B sb F0 w0 F w) (hB : B ≤ w.heap.size) {w' : World} {F' : Nat → Prop} (h1 : w'.os = w.os) (h2 : w'.tape = w.tape) (h3 : w'.output = w.output) (h4 : w.heap.size ≤ w'.heap.size) (hb : ∀ j, j < B → ¬ F j → j ≠ sb → w'.heap[j]? = w.heap[j]?) (hF : ∀ j, F' j → F j ∨ w.heap.size ≤ j) : FrW B sb F0 w0 F' w' := by
  refine ⟨h1.trans h.os, h2.trans h.tape, h3.trans h.output, Nat.le_trans h.size h4, fun j hj h0 hn => (hb j hj (fun hf => (h.own j hf).elim h0 (fun h9 => by omega)) hn).trans (h.block j hj h0 hn), fun j hj => ?_⟩
  rcases hF j hj with h9 | h9
  · exact h.own j h9
  · exact .inr (by omega)
theorem FrW.on {F0 : Nat → Prop} {w0 : World} (h : FrW B sb F0 w0 F w) (hB : B ≤ w.heap.size) {w' : World} (hb : Below w.heap.size w w') : FrW B sb F0 w0 F w' :=
  h.step hB hb.os hb.tape hb.output hb.size (fun j hj _ _ => hb.block j (by omega)) (fun _ hj => .inl hj)
theorem WAt.on (h : WAt nv cv lv Gr Nx St B sb wb tb d F pv w) (hnx : ∀ w w', Nx w → w.heap.size ≤ w'.heap.size → (∀ k, Gr k → w'.heap[k]? = w.heap[k]?) → Nx w') (hst : ∀ s F w w', St s F w → w.heap.size ≤ w'.heap.size → (∀ k, F k → w'.heap[k]? = w.heap[k]?) → St s F w') (hlt : ∀ s F w, St s F w → ∀ k, F k → k < w.heap.size) {w' : World} (hb : Below w.heap.size w w') : WAt nv cv lv Gr Nx St B sb wb tb d F pv w' :=
  h.keep hb.size (fun j hj _ => hb.block j hj) (hst _ _ _ _ h.st hb.size (fun j hj => hb.block j (hlt _ _ _ h.st j hj))) hnx (fun _ hj => .inl hj)
/-- One more was come to. -/
theorem WAt.see (h : WAt nv cv lv Gr Nx St B sb wb tb d F pv w) (hnx : ∀ w w', Nx w → w.heap.size ≤ w'.heap.size → (∀ k, Gr k → w'.heap[k]? = w.heap[k]?) → Nx w') (hst : ∀ s F w w', St s F w → w.heap.size ≤ w'.heap.size → (∀ k, F k → w'.heap[k]? = w.heap[k]?) → St s F w') {w' : World} {seen : List ByteArray} (hg : w.grownBy w' (some sb)) (hs : SeenAt w' sb seen) (hlt : ∀ s F w, St s F w → ∀ k, F k → k < w.heap.size) : WAt nv cv lv Gr Nx St B sb wb tb { d with seen := seen } F pv w' := by
  have hn := h.nes
  have hoth : ∀ j, j < w.heap.size → j ≠ sb → w'.heap[j]? = w.heap[j]? := fun j hj hne => hg.block j hj (fun e => by injection e with e; exact hne e)
  have hgr : ∀ j, Gr j → w'.heap[j]? = w.heap[j]? := fun j hj => hoth j (Nat.lt_of_lt_of_le (h.gr j hj).1 h.le.2.2) (h.gr j hj).2.1
  refine ⟨(hoth _ (lt_of_block h.obj) (fun e => hn.2.1 e.symm)).trans h.obj, (hoth _ (lt_of_block h.box) (fun e => hn.2.2.1 e.symm)).trans h.box, h.path.keepB hg.size (fun b hb _ => hgr b hb) (fun g hgp => hoth g (h.pvlt g hgp).2 (fun e => hn.2.2.2.2.2 (by rw [← e]; exact hgp))), hs, hst _ _ _ _ h.st hg.size (fun j hj => hoth j (hlt _ _ _ h.st j hj) (fun e => h.sep.2.2.1 (by rw [← e]; exact hj))), hnx _ _ h.nx hg.size hgr, ⟨h.le.1, h.le.2.1, Nat.le_trans h.le.2.2 hg.size⟩, h.gr, h.sep⟩
/-- The path becomes longer. -/
theorem WAt.push (h : WAt nv cv lv Gr Nx St B sb wb tb d F pv w) (hnx : ∀ w w', Nx w → w.heap.size ≤ w'.heap.size → (∀ k, Gr k → w'.heap[k]? = w.heap[k]?) → Nx w') (hst : ∀ s F w w', St s F w → w.heap.size ≤ w'.heap.size → (∀ k, F k → w'.heap[k]? = w.heap[k]?) → St s F w') (hlt : ∀ s F w, St s F w → ∀ k, F k → k < w.heap.size) {w2 : World} {pv' u : Value} (x : ByteArray) (l : List ByteArray) {vs : List Value} (hv : vs.length = d.path.reverse.length) (hvs : ∀ j (h : j < vs.length) (h' : j < d.path.reverse.length), StrsAt Gr w vs[j] d.path.reverse[j].2) (hu : StrsAt Gr w u l)
    (ho : w2.ownsRow B 131 2 pv' (d.path.reverse.length + 1) (pcells d.path.reverse vs ++ [.string x, u])) (hg : w.grownBy w2 pv.ownBlock) (hat : pv'.ownBlock = pv.ownBlock ∨ ∃ k, pv'.ownBlock = some k ∧ w.heap.size ≤ k) :
    WAt nv cv lv Gr Nx St B sb wb tb { d with path := (x, l) :: d.path } F pv' (w2.setCell ⟨tb, 0, none⟩ pv') := by
  have hn := h.nes
  have hle := h.le
  have hold : ∀ j, j < w.heap.size → pv.ownBlock ≠ some j → w2.heap[j]? = w.heap[j]? := fun j hj hne => hg.block j hj (fun e => hne e.symm)
  have hoth : ∀ j, j ≠ tb → (w2.setCell ⟨tb, 0, none⟩ pv').heap[j]? = w2.heap[j]? := fun j hj => Below.heap_setCell _ _ _ _ hj
  have hbox2 : w2.heap[tb]? = some (.cells #[pv] 129) := (hold tb (lt_of_block h.box) hn.2.2.2.2.1).trans h.box
  have hob' : ∀ j, j < w.heap.size → pv.ownBlock ≠ some j → pv'.ownBlock ≠ some j := fun j hj hne e => by
    rcases hat with h9 | ⟨q, h9, hq⟩
    · exact hne (by rw [← h9]; exact e)
    · rw [h9] at e; injection e with e; omega
  have hsz : w.heap.size ≤ (w2.setCell ⟨tb, 0, none⟩ pv').heap.size := by have := hg.size; simpa using this
  have hall : ∀ j, j < w.heap.size → pv.ownBlock ≠ some j → j ≠ tb → (w2.setCell ⟨tb, 0, none⟩ pv').heap[j]? = w.heap[j]? := fun j hj h1 h2 => (hoth j h2).trans (hold j hj h1)
  have hgr : ∀ j, Gr j → (w2.setCell ⟨tb, 0, none⟩ pv').heap[j]? = w.heap[j]? := fun j hj => by
    have h1 := (h.gr j hj).1
    exact hall j (by omega) (fun e => by have := (h.pvlt j e).1; omega) (by omega)
  have hFF : ∀ j, F j → (w2.setCell ⟨tb, 0, none⟩ pv').heap[j]? = w.heap[j]? := fun j hj =>
    hall j (hlt _ _ _ h.st j hj) (fun e => h.sep.2.2.2 j e hj) (fun e => h.sep.2.1 (by rw [← e]; exact hj))
  refine ⟨(hall wb (lt_of_block h.obj) hn.2.2.2.1 hn.1).trans h.obj, heap_setCell_same w2 tb 0 _ 129 _ hbox2, ?_, h.seen.block (hall sb h.seen.lt hn.2.2.2.2.2 hn.2.2.1), hst _ _ _ _ h.st hsz hFF, hnx _ _ h.nx hsz hgr, ⟨hle.1, hle.2.1, Nat.le_trans hle.2.2 hsz⟩, h.gr, h.sep.1, h.sep.2.1, h.sep.2.2.1, fun g hgo hf => ?_⟩
  · refine ⟨vs ++ [u], by simp [hv], ?_, fun j a b => ?_⟩
    · show World.ownsRow _ B 131 2 pv' ((x, l) :: d.path).reverse.length (pcells ((x, l) :: d.path).reverse (vs ++ [u]))
      rw [List.reverse_cons, pcells_snoc _ _ _ _ hv, List.length_append, List.length_singleton]
      exact own_keep ho (fun g hgo => hoth g (fun e => hob' tb (lt_of_block h.box) hn.2.2.2.2.1 (by rw [← e]; exact hgo)))
    · have e0 : ((x, l) :: d.path).reverse = d.path.reverse ++ [(x, l)] := List.reverse_cons
      have b' : j < (d.path.reverse ++ [(x, l)]).length := by rw [← e0]; exact b
      have e3 : ((x, l) :: d.path).reverse[j]'b = (d.path.reverse ++ [(x, l)])[j]'b' := by simp only [e0]
      show StrsAt Gr _ (vs ++ [u])[j] (((x, l) :: d.path).reverse[j]'b).2
      rw [e3]
      rw [List.length_append, List.length_singleton] at a b'
      by_cases hj : j < vs.length
      · have hj' : j < d.path.reverse.length := by omega
        have h9 := (hvs j hj hj').keepB hsz (fun b hb _ => hgr b hb)
        rw [List.getElem_append_left hj, List.getElem_append_left hj']
        exact h9
      · have hj' : j = vs.length := by omega
        subst hj'
        have h9 := hu.keepB hsz (fun b hb _ => hgr b hb)
        have e1 : (vs ++ [u])[vs.length] = u := by simp
        have e2 : (d.path.reverse ++ [(x, l)])[vs.length]'(by simp [hv]) = (x, l) := by simp [hv]
        rw [e1, e2]; exact h9
  · rcases hat with h9 | ⟨q, h9, hq⟩
    · exact h.sep.2.2.2 g (by rw [← h9]; exact hgo) hf
    · rw [h9] at hgo; injection hgo with hgo
      have := hlt _ _ _ h.st g hf
      omega
end
theorem seen_look {w : World} {sb : Nat} {seen : List ByteArray} (h : SeenAt w sb seen) {x : ByteArray} (hx : x.size ≤ maxLen) : (Instr.lookup 111 (.map (some sb)) (.string x) false).run Try.prog w = .ok (.bool (decide (x ∈ seen))) w := by
  obtain ⟨sz, f, h1, h2⟩ := h
  have h9 := h1.look (t := 111) (e := 4) Try.underlying9 Try.underlying111 (fun y => Try.zeroValue4 y) hx
  rw [h9, h2 x]
  by_cases hm : x ∈ seen
  · rw [if_pos hm, decide_eq_true hm]; rfl
  · rw [if_neg hm, decide_eq_false hm]; rfl
theorem seen_store {w : World} {sb : Nat} {seen : List ByteArray} (h : SeenAt w sb seen) (hl : seen.length < maxLen) {x : ByteArray} (hx : x.size ≤ maxLen) : ∃ w', (Instr.mapUpdate 111 (.map (some sb)) (.string x) (.bool true)).run Try.prog w = .ok () w' ∧ SeenAt w' sb (x :: seen) ∧ w.grownBy w' (some sb) := by
  obtain ⟨sz, f, h1, h2⟩ := h
  have hsz := SeenAt.le h1 h2
  obtain ⟨w', r1, r2, r3⟩ := h1.store (t := 111) (e := 4) Try.underlying9 Try.underlying111 (by omega) (.bool true) hx
  refine ⟨w', r1, ⟨_, _, r2, fun y => ?_⟩, r3⟩
  unfold setS
  by_cases e : y = x
  · subst e; rw [if_pos rfl, if_pos (List.mem_cons_self ..)]
  · rw [if_neg e, h2 y]
    by_cases hm : y ∈ seen
    · rw [if_pos hm, if_pos (List.mem_cons_of_mem _ hm)]
    · rw [if_neg hm, if_neg (fun h9 => (List.mem_cons.1 h9).elim e hm)]
theorem one_part (x : ByteArray) (A : Option Addr) (l c : Nat) : ∀ u ∈ [Value.string x, Value.slice A l c], u.oneCell' = true := by simp [Value.oneCell']
def EnterRes {σ : Type} (nv cv lv : Value) (Gr : Nat → Prop) (Nx : World → Prop) (St : σ → (Nat → Prop) → World → Prop) (B sb wb tb : Nat) (d : DS ByteArray σ) (F0 : Nat → Prop) (w0 : World) (e : Ending) (w' : World) : Prop :=
  e = .returned (.tuple #[]) ∧ ∃ F pv, WAt nv cv lv Gr Nx St B sb wb tb d F pv w' ∧ FrW B sb F0 w0 F w'
set_option maxRecDepth 100000 in
set_option maxHeartbeats 2000000 in
theorem enter_any {σ : Type} {k : Wk ByteArray σ} {U : List ByteArray} {Rel : DS ByteArray σ → Prop} {nf : FuncId} {n1 n2 : Array Value} {cf : FuncId} {c1 c2 : Array Value} {lf : FuncId} {l1 l2 : Array Value} {Gr : Nat → Prop} {Nx : World → Prop} {St : σ → (Nat → Prop) → World → Prop} (hC : ClosOK k U Rel nf n1 n2 cf c1 c2 lf l1 l2 Gr Nx St)
    {B sb wb tb : Nat} {d : DS ByteArray σ} {F : Nat → Prop} {pv : Value} {w : World} (h : WAt (.func (.func nf) n1 n2) (.func (.func cf) c1 c2) (.func (.func lf) l1 l2) Gr Nx St B sb wb tb d F pv w) (hG : GoodD k U Rel d) {F0 : Nat → Prop} {w0 : World} (hf : FrW B sb F0 w0 F w) (x : ByteArray) (hx : x ∈ U) :
    Calls Try.prog 60 #[.string x, .pointer (some ⟨wb, 0, none⟩), .pointer (some ⟨tb, 0, none⟩)] w (EnterRes (.func (.func nf) n1 n2) (.func (.func cf) c1 c2) (.func (.func lf) l1 l2) Gr Nx St B sb wb tb (k.enter x d) F0 w0) := by
  obtain ⟨Ap, cp, rfl⟩ := h.path.form
  obtain ⟨n, hpn⟩ : ∃ n, d.path.reverse.length = n := ⟨_, rfl⟩
  rw [hpn] at h
  have HPN := Lib.hid hpn
  clear hpn
  have hxs := hC.size x hx
  have hlk := seen_look h.seen hxs
  have hlens := hG.lens hC.len
  have d0 : w.cell? ⟨wb, 0, none⟩ = some (.func (.func nf) n1 n2) ∧ w.cell? ⟨wb, 1, none⟩ = some (.func (.func cf) c1 c2) ∧ w.cell? ⟨wb, 2, none⟩ = some (.func (.func lf) l1 l2) ∧ w.cell? ⟨wb, 3, none⟩ = some (.map (some sb)) := by
    have := h.obj
    simp [World.cell?, this]
  by_cases hm : x ∈ d.seen
  · rw [decide_eq_true hm] at hlk
    have HRES : Hid (EnterRes (.func (.func nf) n1 n2) (.func (.func cf) c1 c2) (.func (.func lf) l1 l2) Gr Nx St B sb wb tb (k.enter x d) F0 w0 (.returned (.tuple #[])) w) := Lib.hid ⟨rfl, F, _, by
      have e : k.enter x d = d := by unfold Wk.enter; rw [if_pos hm]
      rw [e]; exact h, hf⟩
    obtain ⟨_, _, _, d3⟩ := d0
    clear h hG hf hC hm hlens
    go_enter Try.func60, Try.ntmps60
    go_wp2
    go_end0
    exact HRES.out
  · rw [decide_eq_false hm] at hlk
    have HC := Lib.hid hC
    have hccall := hC.ccall
    have hncall := hC.ncall
    obtain ⟨w1, hst1, hse1, hg1⟩ := seen_store h.seen (by unfold maxLen; omega) hxs
    have h1 := h.see hC.nxkeep hC.stkeep hg1 hse1 hC.stlt
    have HF1 : Hid (FrW B sb F0 w0 F w1) := Lib.hid (hf.step h.le.2.2 hg1.os hg1.tape hg1.output hg1.size (fun j hj _ hn => hg1.block j (by have := h.le.2.2; omega) (fun e => by injection e with e; exact hn e)) (fun _ hj => .inl hj))
    have HCM := Lib.hid (hC.come d x F w1 hG hx hm h1.st h1.nx)
    have HE : Hid (k.enter x d = ⟨x :: d.seen, (x, k.next x) :: d.path, k.come d.st x⟩) := Lib.hid (by unfold Wk.enter; rw [if_neg hm])
    have HX := Lib.hid hx
    have HL := Lib.hid hlens
    have q0 : w1.cell? ⟨wb, 1, none⟩ = some (.func (.func cf) c1 c2) := by
      have := h1.obj
      simp [World.cell?, this]
    obtain ⟨d00, d01, _, d3⟩ := d0
    have HD0 := Lib.hid d00
    clear h hG hf hC hm hlens hse1 hg1 d00 d01 hx
    have H1 := Lib.hid h1
    clear h1
    go_enter Try.func60, Try.ntmps60
    go_wp2_with fail
    refine HCM.out.mono ?_
    rintro e w2 ⟨rfl, F2, hr⟩
    have h2 : WAt (.func (.func nf) n1 n2) (.func (.func cf) c1 c2) (.func (.func lf) l1 l2) Gr Nx St B sb wb tb ⟨x :: d.seen, d.path, k.come d.st x⟩ F2 (.slice Ap n cp) w2 := H1.out.keep hr.size hr.block hr.st HC.out.nxkeep hr.own
    have HF2 : Hid (FrW B sb F0 w0 F2 w2) := Lib.hid (HF1.out.step H1.out.le.2.2 hr.os hr.tape hr.output hr.size (fun j hj hnf _ => hr.block j (by have := H1.out.le.2.2; omega) hnf) hr.own)
    clear hr
    have HDR : Below w2.heap.size w2 w2.drew := (Below.refl _ _).drew
    have h2d := h2.on HC.out.nxkeep HC.out.stkeep HC.out.stlt HDR
    have HN := Lib.hid (HC.out.next x w2.drew HX.out h2d.nx)
    have e1 : w2.drew.cell? ⟨tb, 0, none⟩ = some (.slice Ap n cp) := by
      have := h2d.box
      simp [World.cell?, this]
    have e2 : w2.drew.cell? ⟨wb, 0, none⟩ = some (.func (.func nf) n1 n2) := by
      have := h2d.obj
      simp [World.cell?, this]
    have e1' : w2.cell? ⟨tb, 0, none⟩ = some (.slice Ap n cp) := e1
    have e2' : w2.cell? ⟨wb, 0, none⟩ = some (.func (.func nf) n1 n2) := e2
    obtain ⟨vs, hvl, hvo, hvi⟩ := h2d.path
    have hvn : (⟨x :: d.seen, d.path, k.come d.st x⟩ : DS ByteArray σ).path.reverse.length = n := HPN.out
    obtain ⟨i131, hi131, hz131, hs131, hb131⟩ := info_parts Try.info131
    have HBW := Lib.hid h2d.le.2.2
    have hU : ∀ u sv, Below w2.drew.heap.size w2.drew u → StrsAt Gr u sv (k.next x) → u.cell? ⟨tb, 0, none⟩ = some (.slice Ap n cp) ∧ u.frozen? ⟨tb, 0, none⟩ = false ∧ (u.alloc (.cells #[.string x, sv] 131)).cell? ⟨tb, 0, none⟩ = some (.slice Ap n cp) ∧ (u.alloc (.cells #[.string x, sv] 131)).ownsRow B 131 2 (.slice Ap n cp) n (pcells d.path.reverse vs) ∧
        ∀ g cap w5, w5.ownsRow B 131 2 (.slice (some ⟨g, 0, none⟩) (n + 1) cap) (n + 1) (pcells d.path.reverse vs ++ [.string x, sv]) → (u.alloc (.cells #[.string x, sv] 131)).grownBy w5 (Value.slice Ap n cp).ownBlock → ((Value.slice Ap n cp).ownBlock = some g ∨ g = u.heap.size + 1) →
          EnterRes (.func (.func nf) n1 n2) (.func (.func cf) c1 c2) (.func (.func lf) l1 l2) Gr Nx St B sb wb tb (k.enter x d) F0 w0 (.returned (.tuple #[])) (w5.setCell ⟨tb, 0, none⟩ (.slice (some ⟨g, 0, none⟩) (n + 1) cap)) ∧ w5.cell? ⟨tb, 0, none⟩ = some (.slice Ap n cp) ∧ w5.frozen? ⟨tb, 0, none⟩ = false := by
      intro u sv hu hi
      have hsu := h2d.on HC.out.nxkeep HC.out.stkeep HC.out.stlt hu
      have hba := below_new u (.cells #[.string x, sv] 131)
      have hsa := hsu.on HC.out.nxkeep HC.out.stkeep HC.out.stlt hba
      have ub := hsu.box
      have how := own_on hvo hu
      rw [hvn] at how hvl
      have htl := lt_of_block ub
      refine ⟨by simp [World.cell?, ub], by simp [World.frozen?, ub], (hba.cell (p := ⟨tb, 0, none⟩) htl).trans (by simp [World.cell?, ub]), how.alloc _, fun g cap w5 g1 g2 g3 => ?_⟩
      have hbl : w5.heap[tb]? = u.heap[tb]? := (g2.block tb (by simp; omega) (fun e => hsu.nes.2.2.2.2.1 e.symm)).trans (hba.block tb htl)
      refine ⟨⟨rfl, F2, .slice (some ⟨g, 0, none⟩) (n + 1) cap, ?_, ?_⟩, (World.cell?_of_block (a := ⟨tb, 0, none⟩) hbl).trans (by simp [World.cell?, ub]), (World.frozen?_of_block (a := ⟨tb, 0, none⟩) hbl).trans (by simp [World.frozen?, ub])⟩
      · have h9 := hsa.push HC.out.nxkeep HC.out.stkeep HC.out.stlt (w2 := w5) (pv' := .slice (some ⟨g, 0, none⟩) (n + 1) cap) (u := sv) x (k.next x) (vs := vs) (by rw [hvn]; exact hvl) (fun j a b => ((hvi j a b).on hu).on hba) (hi.on hba) (by rw [hvn]; exact g1) g2 (g3.imp (fun e => e.symm) (fun e => ⟨g, rfl, by simp; omega⟩))
        rw [HE.out]; exact h9
      · have hf3 := ((HF2.out.on h2.le.2.2 HDR).on h2d.le.2.2 hu).on hsu.le.2.2 hba
        have hlu := hsu.le.2.2
        refine hf3.step hsa.le.2.2 g2.os g2.tape g2.output (by have := g2.size; simpa using this) (fun j hj _ _ => ?_) (fun _ hj => .inl hj)
        have hjt : j ≠ tb := by have := hsu.le.2.1; omega
        exact (Below.heap_setCell _ _ _ _ hjt).trans (g2.block j (by simp; omega) (fun e => by have := (hsa.pvlt j e.symm).1; omega))
    have HU := Lib.hid hU
    have H63 : Hid (n + 1 ≤ maxLen) := Lib.hid (by have := HL.out; have e9 := HPN.out; simp at e9; unfold maxLen; omega)
    have HNB : Hid (n ≤ 1073741824) := Lib.hid (by have := HL.out; have e9 := HPN.out; simp at e9; omega)
    clear hU h2 h2d hvo hvi hvl hvn HDR
    go_wp2_with fail
    go_region_law (first | (go_simp; (with_reducible refine HN.out.mono ?_); rintro e u ⟨⟨sv, rfl, hi⟩, hbu⟩; obtain ⟨Al, cl, rfl, _⟩ := hi.form; obtain ⟨k1, k2, k5, k3, k4⟩ := HU.out u _ hbu hi; have K3 := Lib.hid k3; have K4 := Lib.hid k4; have HBU := Lib.hid hbu.size; clear k3 k4 hbu hi) | (refine step_append_lies _ rfl (.tmp 16) (.tmp 23) 129 rfl B 131 i131 (.agg #[.string ⟨#[]⟩, .slice none 0 0]) 2 40 Try.underlying129 hi131 hz131 hs131 hb131 rfl (by decide) (.slice Ap n cp) n (pcells d.path.reverse vs) rfl K3.out ⟨u.heap.size, 0, none⟩ 1 1 [.string x, .slice Al (k.next x).length cl] rfl rfl (two_new u _ _ 131) (one_part _ _ _ _) (by decide) H63.out (by have := HNB.out; omega) (by have := HBW.out; have := HBU.out; simp at *; omega) (u.heap.size + 1) (by simp) ?_; intro gg cap w5 h2 g2 hat _; obtain ⟨q1, q2, q3⟩ := K4.out gg cap w5 h2 g2 hat; have Q1 := Lib.hid q1; clear q1 h2 g2 hat))
    all_goals (go_end0; exact Q1.out)
end Go.Proofs.Ytjfhncbfbhkhgaa
