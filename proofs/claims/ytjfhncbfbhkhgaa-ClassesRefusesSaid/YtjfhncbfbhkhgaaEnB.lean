/- Class, Inst, Method, Len, At: what an Env tells. No conditions but those that each theorem names. -/
import Derived.Test.YtjfhncbfbhkhgaaEnA
import Derived.Laws.ResultCell
namespace Go.Proofs.Ytjfhncbfbhkhgaa
open Go.RowKit
theorem alloc_get' (w : World) (o : Obj) (k : Nat) : (w.alloc o).heap[k]? = if k = w.heap.size then some o else w.heap[k]? := by
  show (w.heap.push o)[k]? = _
  rw [Array.getElem?_push]
theorem results_row_tmp {fn : Func} {p u : Tmp} {ty : TypeId} (h : fn.results = #[.cell p ty, .tmp u]) (tmps : Array Value) (w : World) (g : Nat) (t : TypeId) (cs : Array Value) (fr : Nat × Nat) (fs : Array Field)
    (hp : tmps.getD p undef = .pointer (some ⟨g, 0, none⟩)) (hg : w.heap[g]? = some (.cells cs t fr))
    (hu : Try.prog.underlying ty = some (.struct fs)) (hi : (Try.prog.info? ty).map (·.size) = some cs.size) :
    (results fn tmps).run Try.prog w = .ok (.tuple #[.agg cs, tmps.getD u undef]) w := by
  rw [results_cell_tmp h, hp]
  simp [asAddr, run_loadVar_row w g t ty cs fr (.struct fs) hg hu rfl hi, Result.andThen]
theorem Try.size59 : (Try.prog.info? 59).map (·.size) = some 6 := by kernel_rfl
theorem Try.size70 : (Try.prog.info? 70).map (·.size) = some 6 := by kernel_rfl
set_option maxRecDepth 100000 in
set_option maxHeartbeats 1000000 in
/-- What an Env tells of a class: the class, or none. -/
theorem class_any {Q : Nat → Prop} {C : List Cls} {M : ByteArray → Option (ByteArray × Nat)} {I : List Ins} {H : HKey → Option Nat} {eb cb mb pb : Nat} {iv : Value} {w : World} (h : EnvAt Q C M I H eb cb mb pb iv w) (x : ByteArray) (hx : x.size ≤ maxLen) :
    Calls Try.prog 23 #[.pointer (some ⟨eb, 0, none⟩), .string x] w fun e w' => ((∃ c sv A n m, clsOf C x = some c ∧ e = .returned (.tuple #[clsV c sv (.slice A n m), .bool true]) ∧ StrsAt Q w' sv c.supers) ∨ (clsOf C x = none ∧ e = .returned (.tuple #[zCls, .bool false]))) ∧ Below w.heap.size w w' := by
  obtain ⟨c0, _, _, _⟩ := h.cells
  obtain ⟨hl1, hl2, _⟩ := h.lts
  rcases h.cls.look_ok hx with ⟨sv, A, n, m, c, hc, hs, k⟩ | ⟨hc, k⟩
  · have HB := Lib.hid hs
    have HC := Lib.hid hc
    obtain ⟨As, cs, rfl, _⟩ := hs.form
    generalize hsl : c.supers.length = sl at *
    unfold clsV at k
    have k2 := fun o => (k (w.alloc o) ((below_new w o).block cb hl2)).1
    clear h hs hc hsl k
    go_enter Try.func23, Try.ntmps23
    go_wp2
    refine ⟨rfl, _, results_row_tmp rfl _ _ w.heap.size 59 #[.string c.name, .int .i64 c.atp, .string c.var, .slice none 0 0, .slice As sl cs, .slice A n m] (0, 0) _ rfl ?_ Try.underlying59 Try.size59, ?_⟩
    · rw [alloc_get', alloc_get', if_neg (by simp), if_pos rfl]
    · exact ⟨.inl ⟨c, _, A, n, m, HC.out, rfl, HB.out.on ((below_new w _).alloc (by simp) _)⟩, (below_new w _).alloc (by simp) _⟩
  · have HC := Lib.hid hc
    unfold zCls at k
    have k2 := fun o => (k (w.alloc o) ((below_new w o).block cb hl2)).1
    clear h hc k
    go_enter Try.func23, Try.ntmps23
    go_wp2
    refine ⟨rfl, _, results_row_tmp rfl _ _ w.heap.size 59 #[.string ⟨#[]⟩, .int .i64 0, .string ⟨#[]⟩, .slice none 0 0, .slice none 0 0, .slice none 0 0] (0, 0) _ rfl ?_ Try.underlying59 Try.size59, ?_⟩
    · rw [alloc_get', alloc_get', if_neg (by simp), if_pos rfl]
    · exact ⟨.inr ⟨HC.out, rfl⟩, (below_new w _).alloc (by simp) _⟩
set_option maxRecDepth 100000 in
set_option maxHeartbeats 1000000 in
theorem len_any {Q : Nat → Prop} {C : List Cls} {M : ByteArray → Option (ByteArray × Nat)} {I : List Ins} {H : HKey → Option Nat} {eb cb mb pb : Nat} {iv : Value} {w : World} (h : EnvAt Q C M I H eb cb mb pb iv w) :
    Calls Try.prog 27 #[.pointer (some ⟨eb, 0, none⟩)] w fun e w' => e = .returned (.int .i64 I.length) ∧ Below w.heap.size w w' := by
  obtain ⟨_, _, c2, _⟩ := h.cells
  obtain ⟨A, c, rfl, _⟩ := h.ins
  clear h
  go_enter Try.func27, Try.ntmps27
  go_wp2
  go_ret
  exact ⟨rfl, Below.refl _ _⟩
theorem HeadMap.look_ok {H : HKey → Option Nat} {pb : Nat} {w : World} (h : HeadMap H pb w) {a b : ByteArray} (ha : a.size ≤ maxLen) (hb : b.size ≤ maxLen) : ∀ w', w'.heap[pb]? = w.heap[pb]? →
    (Instr.lookup 85 (.map (some pb)) (.agg #[.string a, .string b]) true).run Try.prog w' = .ok (.tuple #[.int .i64 (((H ⟨(a, b), ha, hb⟩).getD 0 : Nat) : Int), .bool (H ⟨(a, b), ha, hb⟩).isSome]) w' := by
  intro w' e
  obtain ⟨sz, g, h1, h2⟩ := h.block e
  have k1 := h1.look_ok (key := hkey) (t := 85) (e := 3) head_keyed Try.underlying85 zero3 (x := ⟨(a, b), ha, hb⟩) (head_key _)
  rw [h2] at k1
  show (Instr.lookup 85 (.map (some pb)) (hkey ⟨(a, b), ha, hb⟩) true).run Try.prog w' = _
  rw [k1]
  cases H ⟨(a, b), ha, hb⟩ <;> rfl
set_option maxRecDepth 100000 in
set_option maxHeartbeats 1000000 in
theorem inst_any {Q : Nat → Prop} {C : List Cls} {M : ByteArray → Option (ByteArray × Nat)} {I : List Ins} {H : HKey → Option Nat} {eb cb mb pb : Nat} {iv : Value} {w : World} (h : EnvAt Q C M I H eb cb mb pb iv w) (a b : ByteArray) (ha : a.size ≤ maxLen) (hb : b.size ≤ maxLen) :
    Calls Try.prog 21 #[.pointer (some ⟨eb, 0, none⟩), .string a, .string b] w fun e w' => e = .returned (.tuple #[.int .i64 (((H ⟨(a, b), ha, hb⟩).getD 0 : Nat) : Int), .bool (H ⟨(a, b), ha, hb⟩).isSome]) ∧ Below w.heap.size w w' := by
  obtain ⟨_, _, _, c3⟩ := h.cells
  have hlk := h.hd.look_ok ha hb w rfl
  generalize (((H ⟨(a, b), ha, hb⟩).getD 0 : Nat) : Int) = n at *
  generalize (H ⟨(a, b), ha, hb⟩).isSome = q at *
  clear h
  go_enter Try.func21, Try.ntmps21
  go_wp2
  go_ret2
  exact ⟨rfl, Below.refl _ _⟩
theorem MthMap.look_ok {M : ByteArray → Option (ByteArray × Nat)} {mb : Nat} {w : World} (h : MthMap M mb w) {x : ByteArray} (hx : x.size ≤ maxLen) : ∀ w', w'.heap[mb]? = w.heap[mb]? →
    (Instr.lookup 83 (.map (some mb)) (.string x) true).run Try.prog w' = .ok (.tuple #[.agg #[.string ((M x).getD (⟨#[]⟩, 0)).1, .int .i64 (((M x).getD (⟨#[]⟩, 0)).2 : Nat)], .bool (M x).isSome]) w' := by
  intro w' e
  obtain ⟨sz, g, h1, h2⟩ := h.block e
  have k1 := h1.look_ok (t := 83) (e := 118) Try.underlying9 Try.underlying83 zero118 hx
  rw [h2] at k1
  rw [k1]
  cases M x <;> rfl
set_option maxRecDepth 100000 in
set_option maxHeartbeats 1000000 in
theorem method_any {Q : Nat → Prop} {C : List Cls} {M : ByteArray → Option (ByteArray × Nat)} {I : List Ins} {H : HKey → Option Nat} {eb cb mb pb : Nat} {iv : Value} {w : World} (h : EnvAt Q C M I H eb cb mb pb iv w) (x : ByteArray) (hx : x.size ≤ maxLen) :
    Calls Try.prog 25 #[.pointer (some ⟨eb, 0, none⟩), .string x] w fun e w' => e = .returned (.tuple #[.string ((M x).getD (⟨#[]⟩, 0)).1, .int .i64 (((M x).getD (⟨#[]⟩, 0)).2 : Nat), .bool (M x).isSome]) ∧ Below w.heap.size w w' := by
  obtain ⟨_, c1, _, _⟩ := h.cells
  have hlk := h.mth.look_ok hx w rfl
  generalize ((M x).getD (⟨#[]⟩, 0)).1 = s at *
  generalize ((((M x).getD (⟨#[]⟩, 0)).2 : Nat) : Int) = n at *
  generalize (M x).isSome = q at *
  clear h
  go_enter Try.func25, Try.ntmps25
  go_wp2
  go_quiet (fail)
  go_wp2
  go_ret3
  exact ⟨rfl, below_drewN (below_new w _) _⟩
end Go.Proofs.Ytjfhncbfbhkhgaa
