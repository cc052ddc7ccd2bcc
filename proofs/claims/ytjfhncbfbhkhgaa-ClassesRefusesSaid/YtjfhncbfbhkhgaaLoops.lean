/- slices.Contains at names; loops: each class that is above itself is told. Conditions: those that each theorem names. -/
import Derived.Test.YtjfhncbfbhkhgaaGrB
import Derived.Test.YtjfhncbfbhkhgaaTell
import Derived.Laws.StructEq
namespace Go.Proofs.Ytjfhncbfbhkhgaa
open Go.RowKit
set_option maxRecDepth 100000 in
set_option maxHeartbeats 1000000 in
theorem index_any {P : Nat → Prop} {w : World} {v : Value} {l : List ByteArray} (h : StrsAt P w v l) (x : ByteArray) :
    Calls Try.prog 68 #[v, .string x] w fun e w' => (∃ r : Int, e = .returned (.int .i64 r) ∧ ((0 ≤ r ∧ x ∈ l) ∨ (r = -1 ∧ x ∉ l))) ∧ Below w.heap.size w w' := by
  obtain ⟨A, c, rfl, hc, hm⟩ := h.form
  unfold maxLen at hm
  have H := Lib.hid h
  clear h
  go_enter Try.func68, Try.ntmps68
  go_wp2
  go_loopw [8] (fun i wr => ∃ k : Nat, k ≤ l.length ∧ i = .int .i64 k ∧ (∀ j (h : j < l.length), j < k → l[j] ≠ x) ∧ Below w.heap.size w wr) (fun i _ => l.length - (intOf i).toNat)
  case atStart => exact ⟨0, Nat.zero_le _, rfl, fun j _ h => by omega, Below.refl _ _⟩
  case round =>
    obtain ⟨k, hk, rfl, hno, hb⟩ := hrel
    have HB := Lib.hid hb
    have HNO := Lib.hid hno
    by_cases hlt : k < l.length
    · obtain ⟨b1, o1, e1, l1, k1⟩ := (H.out.on hb).at k hlt
      subst e1
      have hki : (k : Int) < (l.length : Int) := by omega
      have hk0 : (0 : Int) ≤ (k : Int) := by omega
      obtain ⟨y, hy⟩ : ∃ y, l[k] = y := ⟨_, rfl⟩
      have hmem : y ∈ l := by rw [← hy]; exact List.getElem_mem hlt
      have k2 : wr.cell? ⟨b1, o1 + k, none⟩ = some (.string y) := by rw [← hy]; exact k1
      clear k1
      have HLT := Lib.hid hlt
      by_cases he : x = y
      · have HM : Hid (x ∈ l) := Lib.hid (by rw [he]; exact hmem)
        subst he
        clear hb hno hmem hlt hy
        go_wp2
        go_ret
        exact ⟨⟨_, rfl, .inl ⟨hk0, HM.out⟩⟩, HB.out⟩
      · have HREL : Hid (∀ j (h : j < l.length), j < k + 1 → l[j] ≠ x) := Lib.hid (fun j h hj => by
          by_cases e : j = k
          · subst e; rw [hy]; exact fun e9 => he e9.symm
          · exact hno j h (by omega))
        have hne : (x.toList == y.toList) = false := by rw [← beq_toListBytes, beq_eq_false_iff_ne]; exact he
        clear hb hno hmem hlt hy
        go_wp2
        go_roundw
        case rel => exact ⟨k + 1, by have := HLT.out; omega, by go_num, HREL.out, HB.out⟩
        case measure => have := HLT.out; simp [intOf]; omega
    · have hke : k = l.length := by omega
      subst hke
      have hd : decide (l.length < l.length) = false := by simp
      have HNX : Hid (x ∉ l) := Lib.hid (fun hx => by
        obtain ⟨j, hj, e⟩ := List.getElem_of_mem hx
        exact hno j hj hj e)
      clear hb hno
      go_wp2
      go_ret
      exact ⟨⟨_, rfl, .inr ⟨rfl, HNX.out⟩⟩, HB.out⟩
set_option maxRecDepth 100000 in
set_option maxHeartbeats 1000000 in
theorem contains_any {P : Nat → Prop} {w : World} {v : Value} {l : List ByteArray} (h : StrsAt P w v l) (x : ByteArray) :
    Calls Try.prog 54 #[v, .string x] w fun e w' => e = .returned (.bool (decide (x ∈ l))) ∧ Below w.heap.size w w' := by
  have HI := Lib.hid (index_any h x)
  obtain ⟨A, c, rfl, hc, hm⟩ := h.form
  clear h
  go_enter Try.func54, Try.ntmps54
  go_wp2_with fail
  with_reducible refine HI.out.mono ?_
  rintro e w2 ⟨⟨r, rfl, ⟨hr, hx⟩ | ⟨rfl, hx⟩⟩, hb⟩
  · have HX := Lib.hid (decide_eq_true hx)
    have HB := Lib.hid hb
    clear hx hb
    go_wp2
    go_ret
    exact ⟨by rw [HX.out]; rfl, HB.out⟩
  · have HX := Lib.hid (decide_eq_false hx)
    have HB := Lib.hid hb
    clear hx hb
    go_wp2
    go_ret
    exact ⟨by rw [HX.out]; rfl, HB.out⟩
def atOf (C : List Cls) (x : ByteArray) : Int := match clsOf C x with
  | some c => c.atp
  | none => 0
theorem look_at {Q : Nat → Prop} {C : List Cls} {cb : Nat} {w : World} (h : ClsMap Q C cb w) {x : ByteArray} (hx : x.size ≤ maxLen) : ∃ v, (Instr.lookup 82 (.map (some cb)) (.string x) false).run Try.prog w = .ok v w ∧ (Instr.field 59 v 1).run Try.prog w = .ok (.int .i64 (atOf C x)) w := by
  unfold atOf
  rcases h.look_ok hx with ⟨sv, A, n, m, c, hc, hs, k⟩ | ⟨hc, k⟩
  · rw [hc]; exact ⟨_, (k w rfl).2, field59_1 _ _ _ _ _ _ w⟩
  · rw [hc]; exact ⟨_, (k w rfl).2, field59_1 _ _ _ _ _ _ w⟩
/-- What a group tells: each of its classes, if they are above themselves. -/
def loopG (C : List Cls) (g : List ByteArray) : List (Int × Int) := if g.length = 1 ∧ ∀ y ∈ g, y ∉ supF C y then [] else g.map (fun n => (35, atOf C n))
def loopL (C : List Cls) (G : List (List ByteArray)) : List (Int × Int) := (G.map (loopG C)).flatten
theorem loopL_snoc (C : List Cls) (G : List (List ByteArray)) (g : List ByteArray) : loopL C (G ++ [g]) = loopL C G ++ loopG C g := by
  unfold loopL; rw [List.map_append, List.flatten_append]; simp
theorem GrsAt.at {P : Nat → Prop} {w : World} {A : Option Addr} {n c : Nat} {G : List (List ByteArray)} (h : GrsAt P w (.slice A n c) G) {i : Nat} {g : List ByteArray} (hg : G[i]? = some g) : ∃ b rv, A = some ⟨b, 0, none⟩ ∧ b < w.heap.size ∧ w.cell? ⟨b, i, none⟩ = some rv ∧ StrsAt P w rv g := by
  obtain ⟨hi, rfl⟩ := List.getElem?_eq_some_iff.1 hg
  obtain ⟨A', c', e, _, _, hr⟩ := h
  injection e with e1 e2 e3
  subst e1
  rcases hr with h9 | ⟨b, e, _, hlt, hc⟩
  · rw [h9] at hi; simp at hi
  · obtain ⟨rv, r⟩ := hc i hi
    exact ⟨b, rv, e, hlt, r⟩
theorem GrsAt.keep {P : Nat → Prop} {w w' : World} {v : Value} {G : List (List ByteArray)} (h : GrsAt P w v G) (hs : w.heap.size ≤ w'.heap.size) (hq : ∀ b, P b → b < w.heap.size → w'.heap[b]? = w.heap[b]?) : GrsAt P w' v G := by
  obtain ⟨A, c, e, h1, h2, hr⟩ := h
  refine ⟨A, c, e, h1, h2, ?_⟩
  rcases hr with hr | ⟨b, e, hp, hlt, hc⟩
  · exact .inl hr
  · refine .inr ⟨b, e, hp, Nat.lt_of_lt_of_le hlt hs, fun i hi => ?_⟩
    obtain ⟨rv, c0, c1⟩ := hc i hi
    exact ⟨rv, (World.cell?_of_block (a := ⟨b, i, none⟩) (hq b hp hlt)).trans c0, c1.keepB hs hq⟩
/-- What holds while refusals are told. -/
structure TellI (Q : Nat → Prop) (C : List Cls) (M : ByteArray → Option (ByteArray × Nat)) (I : List Ins) (H : HKey → Option Nat) (eb cb mb pb : Nat) (iv : Value) (rb : Nat) (s : Int × Int) (w wr : World) : Prop where
  env : EnvAt Q C M I H eb cb mb pb iv wr
  ref : RefAt rb s wr
  fr : Fr (fun b => b = rb) w wr
  ne : ¬ Q rb ∧ eb ≠ rb ∧ cb ≠ rb ∧ mb ≠ rb ∧ pb ≠ rb ∧ rb < w.heap.size
section
variable {Q : Nat → Prop} {C : List Cls} {M : ByteArray → Option (ByteArray × Nat)} {I : List Ins} {H : HKey → Option Nat} {eb cb mb pb : Nat} {iv : Value} {rb : Nat} {s : Int × Int} {w wr : World}
theorem TellI.on (h : TellI Q C M I H eb cb mb pb iv rb s w wr) {w' : World} (hb : Below wr.heap.size wr w') : TellI Q C M I H eb cb mb pb iv rb s w w' :=
  ⟨h.env.on hb, (hb.block rb (lt_of_block h.ref)).trans h.ref, h.fr.trans (.of_below hb), h.ne⟩
theorem TellI.told (h : TellI Q C M I H eb cb mb pb iv rb s w wr) {s' : Int × Int} {w' : World} (hr : RefAt rb s' w') (hf : Fr (fun b => b = rb) wr w') : TellI Q C M I H eb cb mb pb iv rb s' w w' := by
  refine ⟨h.env.keep hf.size (fun b hl hq => hf.block b hl (fun e => ?_)), hr, h.fr.trans hf, h.ne⟩
  subst e
  rcases hq with e | e | e | e | e
  · exact h.ne.2.1 e.symm
  · exact h.ne.2.2.1 e.symm
  · exact h.ne.2.2.2.1 e.symm
  · exact h.ne.2.2.2.2.1 e.symm
  · exact h.ne.1 e
end
end Go.Proofs.Ytjfhncbfbhkhgaa
