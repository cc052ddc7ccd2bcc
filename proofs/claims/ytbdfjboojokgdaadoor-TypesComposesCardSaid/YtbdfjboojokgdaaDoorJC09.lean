/- Which types are the same, but for the names that are given (chapter 4), as a function; maps that tell how deep a name is given; frames. No conditions but those that each theorem names. The contract of the document's Size (chapter 4). Condition: the type has at most 2^40 nodes. -/
import Derived.Test.YtbdfjboojokgdaaDoorJC07
import Derived.Test.YtbdfjboojokgdaaDoorJC08
namespace Go.Proofs.YtbdfjboojokgdaaDoor
open Go.RowKit

def updG (g : ByteArray → Int) (s : ByteArray) (v : Int) : ByteArray → Int := fun x => if x = s then v else g x
/-- The same, where fa and fb say how deep names are given. -/
def sameT (fa fb : ByteArray → Int) (d : Int) : Ty → Ty → Bool
  | .hole n, .hole m => n == m
  | .var s, .var t => fa s == fb t && (decide (0 < fa s) || s == t)
  | .con s, .con t => s == t
  | .app a b, .app a' b' => sameT fa fb d a a' && sameT fa fb d b b'
  | .all s a, .all s' a' => sameT (updG fa s (d + 1)) (updG fb s' (d + 1)) (d + 1) a a'
  | _, _ => false
def sameL (fa fb : ByteArray → Int) (d : Int) : List Ty → List Ty → Bool
  | a :: l, b :: r => sameT fa fb d a b && sameL fa fb d l r
  | _, _ => true
theorem sameT_no {fa fb : ByteArray → Int} {d : Int} {a b : Ty} (h : a.form ≠ b.form ∨ a.num ≠ b.num) : sameT fa fb d a b = false := by
  cases a <;> cases b <;> simp [Ty.form, Ty.num] at h <;> first | rfl | (simp only [sameT]; simpa using h)
theorem sameT_var {fa fb : ByteArray → Int} {d : Int} {a b : Ty} (h : a.form = 2) (h' : b.form = 2) : sameT fa fb d a b = (fa a.name == fb b.name && (decide (0 < fa a.name) || a.name == b.name)) := by
  cases a <;> simp [Ty.form] at h
  cases b <;> simp [Ty.form] at h'
  rfl
theorem sameT_all {fa fb : ByteArray → Int} {d : Int} {a b : Ty} (h : a.form = 5) (h' : b.form = 5) : sameT fa fb d a b = sameL (updG fa a.name (d + 1)) (updG fb b.name (d + 1)) (d + 1) a.args b.args := by
  cases a <;> simp [Ty.form] at h
  cases b <;> simp [Ty.form] at h'
  simp [sameT, sameL, Ty.args, Ty.name]
theorem sameT_else {fa fb : ByteArray → Int} {d : Int} {a b : Ty} (h : a.form = b.form) (hn : a.num = b.num) (h2 : a.form ≠ 2) (h5 : a.form ≠ 5) : sameT fa fb d a b = (a.name == b.name && sameL fa fb d a.args b.args) := by
  cases a <;> cases b <;> simp [Ty.form, Ty.num] at h hn h2 h5 <;> simp [sameT, sameL, Ty.args, Ty.name, hn]
theorem args_len {a b : Ty} (h : a.form = b.form) : a.args.length = b.args.length := by
  cases a <;> cases b <;> simp [Ty.form] at h <;> rfl
/-- Names that may be a map's keys. -/
def Ty.short : Ty → Prop
  | .var s => s.size ≤ 1099511627776
  | .con s => s.size ≤ 1099511627776
  | .app a b => a.short ∧ b.short
  | .all s a => s.size ≤ 1099511627776 ∧ a.short
  | .hole _ => True
theorem Ty.short_name {t : Ty} (h : t.short) : t.name.size ≤ 1099511627776 := by
  cases t with
  | hole n => exact Nat.zero_le _
  | var s => exact h
  | con s => exact h
  | app a b => exact Nat.zero_le _
  | all s a => exact h.1
theorem Ty.short_arg {t x : Ty} (h : t.short) (hx : x ∈ t.args) : x.short := by
  cases t <;> simp [Ty.args] at hx
  · rcases hx with rfl | rfl
    · exact h.1
    · exact h.2
  · subst hx; exact h.2
/-- Blocks other than these stay. -/
structure Fr (M : Nat → Prop) (w w' : World) : Prop where
  os : w'.os = w.os
  tape : w'.tape = w.tape
  output : w'.output = w.output
  size : w.heap.size ≤ w'.heap.size
  block : ∀ k, k < w.heap.size → ¬ M k → w'.heap[k]? = w.heap[k]?
theorem Fr.refl (M : Nat → Prop) (w : World) : Fr M w w := ⟨rfl, rfl, rfl, Nat.le_refl _, fun _ _ _ => rfl⟩
theorem Fr.trans {M : Nat → Prop} {a b c : World} (h : Fr M a b) (k : Fr M b c) : Fr M a c :=
  ⟨k.os.trans h.os, k.tape.trans h.tape, k.output.trans h.output, Nat.le_trans h.size k.size, fun i hi hm => (k.block i (Nat.lt_of_lt_of_le hi h.size) hm).trans (h.block i hi hm)⟩
theorem Fr.of_below {M : Nat → Prop} {w w' : World} (h : Below w.heap.size w w') : Fr M w w' := ⟨h.os, h.tape, h.output, h.size, fun k hk _ => h.block k hk⟩
theorem Fr.drew {M : Nat → Prop} {a w : World} (h : Fr M a w) : Fr M a w.drew := ⟨h.os, h.tape, h.output, h.size, h.block⟩
theorem Fr.grown {M : Nat → Prop} {a w w' : World} {b : Nat} (h : Fr M a w) (hg : w.grownBy w' (some b)) (hb : M b) : Fr M a w' :=
  h.trans ⟨hg.os, hg.tape, hg.output, hg.size, fun k hk hm => hg.block k hk (fun e => by injection e with e; exact hm (e ▸ hb))⟩
theorem Fr.below {M : Nat → Prop} {w w' : World} {B : Nat} (h : Fr M w w') (hB : B ≤ w.heap.size) (hM : ∀ k, M k → B ≤ k) : Below B w w' :=
  ⟨h.os, h.tape, h.output, h.size, fun k hk => h.block k (by omega) (fun hm => by have := hM k hm; omega)⟩
theorem Fr.mono {M M' : Nat → Prop} {w w' : World} (h : Fr M w w') (hm : ∀ k, M k → M' k) : Fr M' w w' := ⟨h.os, h.tape, h.output, h.size, fun k hk hn => h.block k hk (fun h9 => hn (hm k h9))⟩
/-- Types lie where cells lie. -/
theorem TyAt.fr {P M : Nat → Prop} {w w' : World} {t : Ty} {v : Value} (h : TyAt P w t v) (hf : Fr M w w') (hM : ∀ k, M k → ∀ o, w.cell? ⟨k, o, none⟩ = none) : TyAt P w' t v := by
  have h2 := h.bound
  have h3 : TyAt (fun b => P b ∧ b < w.heap.size) w' t v := h2.some hf.size (fun b off u hp hu => by
    have hnm : ¬ M b := fun hm => by rw [hM b hm off] at hu; cases hu
    exact (World.cell?_of_block (a := ⟨b, off, none⟩) (hf.block b hp.2 hnm)).trans hu)
  exact h3.mono (fun _ hb => hb.1)
theorem TysAt.fr {P M : Nat → Prop} {w w' : World} {ts : List Ty} {v : Value} (h : TysAt P w ts v) (hf : Fr M w w') (hM : ∀ k, M k → ∀ o, w.cell? ⟨k, o, none⟩ = none) : TysAt P w' ts v := by
  obtain ⟨A, c, u, e, hc, hm, hrow, hk⟩ := h
  refine ⟨A, c, u, e, hc, hm, ?_, fun i h => (hk i h).fr hf hM⟩
  rcases hrow with h | ⟨b, off, e, hp, hlt, hcell⟩
  · exact .inl h
  · refine .inr ⟨b, off, e, hp, Nat.lt_of_lt_of_le hlt hf.size, fun i j hi hj => ?_⟩
    have hu := hcell i j hi hj
    have hnm : ¬ M b := fun hm => by rw [hM b hm _] at hu; cases hu
    exact (World.cell?_of_block (a := ⟨b, _, none⟩) (hf.block b hlt hnm)).trans hu
/-- A map in memory that tells numbers; 0 where nothing is kept. -/
def MapG (w : World) (b : Nat) (g : ByteArray → Int) (N : Nat) : Prop := ∃ sz f, MapS Tryd.prog 9 w b sz f ∧ sz ≤ N ∧ ∀ s, (f s = none ∧ g s = 0) ∨ f s = some (.int .i64 (g s))
theorem MapG.lt {w : World} {b : Nat} {g : ByteArray → Int} {N : Nat} (h : MapG w b g N) : b < w.heap.size := by obtain ⟨sz, f, h, _⟩ := h; exact h.lt
theorem MapG.block {w w' : World} {b : Nat} {g : ByteArray → Int} {N : Nat} (h : MapG w b g N) (hb : w'.heap[b]? = w.heap[b]?) : MapG w' b g N := by
  obtain ⟨sz, f, h, r⟩ := h; exact ⟨sz, f, h.block hb, r⟩
theorem MapG.on {w w' : World} {b : Nat} {g : ByteArray → Int} {N : Nat} (h : MapG w b g N) (hb : Below w.heap.size w w') : MapG w' b g N := h.block (hb.block b h.lt)
theorem MapG.more {w : World} {b : Nat} {g : ByteArray → Int} {N N' : Nat} (h : MapG w b g N) (hn : N ≤ N') : MapG w b g N' := by
  obtain ⟨sz, f, h, h1, h2⟩ := h; exact ⟨sz, f, h, Nat.le_trans h1 hn, h2⟩
theorem MapG.noCell {w : World} {b : Nat} {g : ByteArray → Int} {N : Nat} (h : MapG w b g N) (o : Nat) : w.cell? ⟨b, o, none⟩ = none := by
  obtain ⟨sz, f, h, _⟩ := h; exact h.noCell o
theorem zero3 (y : World) : (zeroValue 3).run Tryd.prog y = .ok (.int .i64 0) y := Tryd.zeroValue3 y
theorem MapG.look {w : World} {b : Nat} {g : ByteArray → Int} {N : Nat} (h : MapG w b g N) {x : ByteArray} (hx : x.size ≤ 1099511627776) : (Instr.lookup 105 (.map (some b)) (.string x) false).run Tryd.prog w = .ok (.int .i64 (g x)) w := by
  obtain ⟨sz, f, h, _, hf⟩ := h
  have h9 := h.look (t := 105) (e := 3) Tryd.underlying9 Tryd.underlying105 zero3 (x := x) (by unfold maxLen; omega)
  rw [h9]
  rcases hf x with ⟨h1, h2⟩ | h1
  · rw [h1, h2]; rfl
  · rw [h1]; rfl
theorem MapG.store {w : World} {b : Nat} {g : ByteArray → Int} {N : Nat} (h : MapG w b g N) {x : ByteArray} (hx : x.size ≤ 1099511627776) (v : Int) (hN : N ≤ 1099511627776) :
    ∃ w', (Instr.mapUpdate 105 (.map (some b)) (.string x) (.int .i64 v)).run Tryd.prog w = .ok () w' ∧ MapG w' b (updG g x v) (N + 1) ∧ w.grownBy w' (some b) := by
  obtain ⟨sz, f, h, hs, hf⟩ := h
  obtain ⟨w', h1, h2, h3⟩ := h.store (t := 105) (e := 3) Tryd.underlying9 Tryd.underlying105 (by unfold maxLen; omega) (.int .i64 v) (x := x) (by unfold maxLen; omega)
  refine ⟨w', h1, ⟨_, _, h2, by split <;> omega, fun s => ?_⟩, h3⟩
  unfold setS updG
  by_cases e : s = x
  · rw [if_pos e, if_pos e]; exact .inr rfl
  · rw [if_neg e, if_neg e]; exact hf s
theorem upd_back (g : ByteArray → Int) (s : ByteArray) (v : Int) : updG (updG g s v) s (g s) = g := by
  funext x
  unfold updG
  by_cases e : x = s
  · rw [if_pos e, e]
  · rw [if_neg e, if_neg e]
end Go.Proofs.YtbdfjboojokgdaaDoor
namespace Go.Proofs.YtbdfjboojokgdaaDoor
open Go.RowKit

/-- How many names and numbers there are. -/
def Ty.count : Ty → Nat
  | .app a b => a.count + b.count | .all _ a => 1 + a.count | _ => 1
def Ty.own1 (t : Ty) : Nat := if t.form = 4 then 0 else 1
def sumC (l : List Ty) : Nat := (l.map Ty.count).sum
theorem count_args (t : Ty) : t.count = t.own1 + sumC t.args := by
  cases t <;> simp [Ty.count, Ty.own1, Ty.form, sumC, Ty.args]
theorem count_le : ∀ t : Ty, t.count ≤ t.sz
  | .app a b => by have := count_le a; have := count_le b; simp [Ty.count, Ty.sz]; omega
  | .all _ a => by have := count_le a; simp [Ty.count, Ty.sz]; omega
  | .hole _ => by simp [Ty.count, Ty.sz]
  | .var _ => by simp [Ty.count, Ty.sz]
  | .con _ => by simp [Ty.count, Ty.sz]
theorem sumC_take {l : List Ty} {k : Nat} (h : k < l.length) : sumC (l.take (k + 1)) = sumC (l.take k) + l[k].count := by
  unfold sumC; rw [List.take_succ_eq_append_getElem h, List.map_append, List.sum_append]; simp
theorem sumC_le (l : List Ty) (k : Nat) : sumC (l.take k) ≤ sumC l := by
  induction l generalizing k with
  | nil => simp [sumC]
  | cons a r ih =>
    cases k with
    | zero => simp [sumC]
    | succ k => have := ih k; simp [sumC] at this ⊢; omega
set_option maxRecDepth 100000 in
set_option maxHeartbeats 1000000 in
theorem refsize_any (P : Nat → Prop) : ∀ (n : Nat) (t : Ty) (v : Value) (w : World), t.sz ≤ n → TyAt P w t v → t.sz ≤ 1099511627776 →
    Calls Tryd.prog 20 #[v] w fun e w' => e = .returned (.int .i64 t.count) ∧ Below w.heap.size w w'
  | 0, t, _, _, hn, _, _ => by cases t <;> simp [Ty.sz] at hn
  | n + 1, t, v, w, hn, h, hz => by
    obtain ⟨sv, rfl, hs⟩ := h.tys
    obtain ⟨A, c, rfl, hc, hm⟩ := hs.form
    have HS := Lib.hid hs
    have hca := count_args t
    have hcl := count_le t
    have HCA := Lib.hid hca
    have hl2 := t.args_le
    have IH := Lib.hid (fun (x : Ty) (hx : x ∈ t.args) (v : Value) (y : World) (h : TyAt P y x v) => refsize_any P n x v y (by have := Ty.arg_sz hx; omega) h (by have := Ty.arg_sz hx; omega))
    obtain ⟨W, eW, q1, b1, z1⟩ := one_box w (.int .i64 t.form) (.int .i64 t.num) (.string t.name) (.slice A t.args.length c) 25
    have HEW := Lib.hid eW
    have HQ := Lib.hid q1
    have HB := Lib.hid b1
    have hW : w.heap.size < W.heap.size := by omega
    clear eW b1 h hs hn hca
    have ho : t.own1 ≤ 1 := by unfold Ty.own1; split <;> omega
    have hfo : (t.form = 4 ∧ t.own1 = 0) ∨ (¬ t.form = 4 ∧ t.own1 = 1) := by unfold Ty.own1; by_cases h : t.form = 4 <;> simp [h]
    have hsum : t.own1 + sumC t.args ≤ 1099511627776 := by rw [← HCA.out]; omega
    obtain ⟨x0, x1, x2, x3, x4, _⟩ := q1
    clear hcl hz hc hm
    generalize ht : t.form = ff at *
    generalize t.num = nn at *
    generalize t.name = ss at *
    generalize t.own1 = oo at *
    clear ht
    rcases hfo with ⟨rfl, rfl⟩ | ⟨hff, rfl⟩
    · go_enter Tryd.func20, Tryd.ntmps20
      go_wp2_with fail
      rw [HEW.out]
      go_wp2_with fail
      go_loopw [3, 4] (fun o i wr => ∃ k : Nat, k ≤ t.args.length ∧ i = .int .i64 k ∧ o = .int .i64 ((0 : Int) + sumC (t.args.take k)) ∧ Below W.heap.size W wr) (fun _ i _ => t.args.length - (intOf i).toNat)
      case atStart => exact ⟨0, Nat.zero_le _, rfl, by simp [sumC], Below.refl _ _⟩
      case round =>
        obtain ⟨k, hk, rfl, rfl, hb⟩ := hrel
        obtain ⟨y0, y1, y2, y3, y4, _⟩ := HQ.out.on hb
        have HBR := Lib.hid hb
        have hbw := HB.out.trans (hb.mono HB.out.size)
        have hsl := sumC_le t.args k
        clear hb
        by_cases hlt : k < t.args.length
        · obtain ⟨g, off, A3, c3, e3, _, hg, m0, m1, m2, m3, hx⟩ := (HS.out.on hbw).at k hlt
          subst e3
          have hmem : t.args[k] ∈ t.args := List.getElem_mem hlt
          have HC := Lib.hid (IH.out _ hmem _ _ hx)
          have HTK := Lib.hid (sumC_take hlt)
          have hst := sumC_le t.args (k + 1)
          have hti := sumC_take hlt
          have hki : (k : Int) < (t.args.length : Int) := by omega
          have hk0 : (0 : Int) ≤ (k : Int) := by omega
          clear hx hbw
          generalize t.args[k] = x at *
          generalize x.form = xf, x.num = xn, x.name = xs, x.args.length = xl at *
          generalize x.count = xc at *
          generalize sumC (t.args.take k) = s1 at *
          go_wp2_with fail
          refine HC.out.mono ?_
          rintro e w1 ⟨rfl, b2⟩
          have HB2 := Lib.hid (HBR.out.trans (b2.mono HBR.out.size))
          clear b2
          go_wp2
          go_roundw
          case rel => exact ⟨k + 1, by omega, by go_num, by (rw [HTK.out]; go_num), HB2.out⟩
          case measure => simp [intOf]; omega
        · have hd : decide (k < t.args.length) = false := by simpa using hlt
          have hkl : t.args.take k = t.args := List.take_of_length_le (by omega)
          rw [hkl]
          clear hkl
          go_wp2
          go_ret
          exact ⟨by rw [HCA.out]; push_cast; rfl, hbw⟩
    · go_enter Tryd.func20, Tryd.ntmps20
      go_wp2_with fail
      rw [HEW.out]
      go_wp2_with fail
      rw [show (ff != 4) = true by simpa using hff]
      go_loopw [3, 4] (fun o i wr => ∃ k : Nat, k ≤ t.args.length ∧ i = .int .i64 k ∧ o = .int .i64 ((1 : Int) + sumC (t.args.take k)) ∧ Below W.heap.size W wr) (fun _ i _ => t.args.length - (intOf i).toNat)
      case atStart => exact ⟨0, Nat.zero_le _, rfl, by simp [sumC], Below.refl _ _⟩
      case round =>
        obtain ⟨k, hk, rfl, rfl, hb⟩ := hrel
        obtain ⟨y0, y1, y2, y3, y4, _⟩ := HQ.out.on hb
        have HBR := Lib.hid hb
        have hbw := HB.out.trans (hb.mono HB.out.size)
        have hsl := sumC_le t.args k
        clear hb
        by_cases hlt : k < t.args.length
        · obtain ⟨g, off, A3, c3, e3, _, hg, m0, m1, m2, m3, hx⟩ := (HS.out.on hbw).at k hlt
          subst e3
          have hmem : t.args[k] ∈ t.args := List.getElem_mem hlt
          have HC := Lib.hid (IH.out _ hmem _ _ hx)
          have HTK := Lib.hid (sumC_take hlt)
          have hst := sumC_le t.args (k + 1)
          have hti := sumC_take hlt
          have hki : (k : Int) < (t.args.length : Int) := by omega
          have hk0 : (0 : Int) ≤ (k : Int) := by omega
          clear hx hbw
          generalize t.args[k] = x at *
          generalize x.form = xf, x.num = xn, x.name = xs, x.args.length = xl at *
          generalize x.count = xc at *
          generalize sumC (t.args.take k) = s1 at *
          go_wp2_with fail
          refine HC.out.mono ?_
          rintro e w1 ⟨rfl, b2⟩
          have HB2 := Lib.hid (HBR.out.trans (b2.mono HBR.out.size))
          clear b2
          go_wp2
          go_roundw
          case rel => exact ⟨k + 1, by omega, by go_num, by (rw [HTK.out]; go_num), HB2.out⟩
          case measure => simp [intOf]; omega
        · have hd : decide (k < t.args.length) = false := by simpa using hlt
          have hkl : t.args.take k = t.args := List.take_of_length_le (by omega)
          rw [hkl]
          clear hkl
          go_wp2
          go_ret
          exact ⟨by rw [HCA.out]; push_cast; rfl, hbw⟩
end Go.Proofs.YtbdfjboojokgdaaDoor
