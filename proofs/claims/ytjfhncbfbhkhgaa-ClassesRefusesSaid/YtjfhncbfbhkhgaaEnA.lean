/- Classes and instances in memory, as an Env keeps them, and what it tells of them. No conditions but those that each theorem names. -/
import Derived.Test.YtjfhncbfbhkhgaaWkA
import Derived.Test.YtjfhncbfbhkhgaaHeadK
import Derived.BigRegion
import Derived.Deep.RegionLaw
import Derived.Deep.RegionHeld3
namespace Go.Proofs.Ytjfhncbfbhkhgaa
open Go.RowKit
structure Cls where
  name : ByteArray
  atp : Int
  var : ByteArray
  supers : List ByteArray
  meths : List (ByteArray × Int)
structure Ins where
  cls : ByteArray
  con : ByteArray
  atp : Int
/-- The first class of a name. -/
def clsOf : List Cls → ByteArray → Option Cls
  | [], _ => none
  | c :: l, x => if c.name = x then some c else clsOf l x
def supF (C : List Cls) (x : ByteArray) : List ByteArray := match clsOf C x with
  | some c => c.supers
  | none => []
def hasF (C : List Cls) (x : ByteArray) : Bool := (clsOf C x).isSome
def clsV (c : Cls) (sv mv : Value) : Value := .agg #[.string c.name, .int .i64 c.atp, .string c.var, .slice none 0 0, sv, mv]
def insV (i : Ins) : Value := .agg #[.string i.cls, .int .i64 i.atp, .string i.con, .slice none 0 0, .slice none 0 0, .slice none 0 0]
def zCls : Value := .agg #[.string ⟨#[]⟩, .int .i64 0, .string ⟨#[]⟩, .slice none 0 0, .slice none 0 0, .slice none 0 0]
def ClsMap (Q : Nat → Prop) (C : List Cls) (cb : Nat) (w : World) : Prop :=
  ∃ sz f, MapS Try.prog 9 w cb sz f ∧ (∀ x, clsOf C x = none → f x = none) ∧ ∀ x c, clsOf C x = some c → ∃ sv A n m, f x = some (clsV c sv (.slice A n m)) ∧ StrsAt Q w sv c.supers
def MthMap (M : ByteArray → Option (ByteArray × Nat)) (mb : Nat) (w : World) : Prop :=
  ∃ sz g, MapS Try.prog 9 w mb sz g ∧ ∀ x, g x = (M x).map (fun p => .agg #[.string p.1, .int .i64 p.2])
def HeadMap (H : HKey → Option Nat) (pb : Nat) (w : World) : Prop :=
  ∃ sz g, MapK hlit Try.prog 116 w pb sz g ∧ ∀ x, g x = (H x).map (fun n => .int .i64 n)
def InstsAt (Q : Nat → Prop) (w : World) (v : Value) (I : List Ins) : Prop :=
  ∃ A c, v = .slice A I.length c ∧ I.length ≤ c ∧ c ≤ maxLen ∧ (I = [] ∨ ∃ b, A = some ⟨b, 0, none⟩ ∧ Q b ∧ b < w.heap.size ∧ ∀ i (h : i < I.length), w.cell? ⟨b, i * 6, none⟩ = some (.string I[i].cls) ∧ w.cell? ⟨b, i * 6 + 1, none⟩ = some (.int .i64 I[i].atp) ∧ w.cell? ⟨b, i * 6 + 2, none⟩ = some (.string I[i].con) ∧
    w.cell? ⟨b, i * 6 + 3, none⟩ = some (.slice none 0 0) ∧ w.cell? ⟨b, i * 6 + 4, none⟩ = some (.slice none 0 0) ∧ w.cell? ⟨b, i * 6 + 5, none⟩ = some (.slice none 0 0))
structure EnvAt (Q : Nat → Prop) (C : List Cls) (M : ByteArray → Option (ByteArray × Nat)) (I : List Ins) (H : HKey → Option Nat) (eb cb mb pb : Nat) (iv : Value) (w : World) : Prop where
  obj : w.heap[eb]? = some (.cells #[.map (some cb), .map (some mb), iv, .map (some pb)] 87)
  cls : ClsMap Q C cb w
  mth : MthMap M mb w
  ins : InstsAt Q w iv I
  hd : HeadMap H pb w
theorem ClsMap.keep {Q : Nat → Prop} {C : List Cls} {cb : Nat} {w w' : World} (h : ClsMap Q C cb w) (hs : w.heap.size ≤ w'.heap.size) (hb : w'.heap[cb]? = w.heap[cb]?) (hq : ∀ b, Q b → b < w.heap.size → w'.heap[b]? = w.heap[b]?) : ClsMap Q C cb w' := by
  obtain ⟨sz, f, h1, h2, h3⟩ := h
  refine ⟨sz, f, h1.block hb, h2, fun x c hc => ?_⟩
  obtain ⟨sv, A, n, m, h4, h5⟩ := h3 x c hc
  exact ⟨sv, A, n, m, h4, h5.keepB hs hq⟩
theorem MthMap.block {M : ByteArray → Option (ByteArray × Nat)} {mb : Nat} {w w' : World} (h : MthMap M mb w) (hb : w'.heap[mb]? = w.heap[mb]?) : MthMap M mb w' := by
  obtain ⟨sz, g, h1, h2⟩ := h; exact ⟨sz, g, h1.block hb, h2⟩
theorem HeadMap.block {H : HKey → Option Nat} {pb : Nat} {w w' : World} (h : HeadMap H pb w) (hb : w'.heap[pb]? = w.heap[pb]?) : HeadMap H pb w' := by
  obtain ⟨sz, g, h1, h2⟩ := h; exact ⟨sz, g, h1.block hb, h2⟩
theorem InstsAt.keep {Q : Nat → Prop} {w w' : World} {v : Value} {I : List Ins} (h : InstsAt Q w v I) (hs : w.heap.size ≤ w'.heap.size) (hq : ∀ b, Q b → b < w.heap.size → w'.heap[b]? = w.heap[b]?) : InstsAt Q w' v I := by
  obtain ⟨A, c, e, h1, h2, hr⟩ := h
  refine ⟨A, c, e, h1, h2, ?_⟩
  rcases hr with hr | ⟨b, e, hp, hlt, hc⟩
  · exact .inl hr
  · refine .inr ⟨b, e, hp, Nat.lt_of_lt_of_le hlt hs, fun i hi => ?_⟩
    have hB := hq b hp hlt
    obtain ⟨c0, c1, c2, c3, c4, c5⟩ := hc i hi
    have t := fun o => World.cell?_of_block (w := w) (w' := w') (a := ⟨b, o, none⟩) hB
    exact ⟨(t _).trans c0, (t _).trans c1, (t _).trans c2, (t _).trans c3, (t _).trans c4, (t _).trans c5⟩
theorem InstsAt.mono {P Q : Nat → Prop} {w : World} {v : Value} {I : List Ins} (h : InstsAt P w v I) (hpq : ∀ b, P b → b < w.heap.size → Q b) : InstsAt Q w v I := by
  obtain ⟨A, c, e, h1, h2, hr⟩ := h
  refine ⟨A, c, e, h1, h2, hr.imp id (fun ⟨b, e, hp, hlt, hc⟩ => ⟨b, e, hpq b hp hlt, hlt, hc⟩)⟩
section
variable {Q : Nat → Prop} {C : List Cls} {M : ByteArray → Option (ByteArray × Nat)} {I : List Ins} {H : HKey → Option Nat} {eb cb mb pb : Nat} {iv : Value} {w : World}
theorem EnvAt.lts (h : EnvAt Q C M I H eb cb mb pb iv w) : eb < w.heap.size ∧ cb < w.heap.size ∧ mb < w.heap.size ∧ pb < w.heap.size := by
  refine ⟨lt_of_block h.obj, ?_, ?_, ?_⟩
  · obtain ⟨sz, f, h1, _⟩ := h.cls; exact h1.lt
  · obtain ⟨sz, f, h1, _⟩ := h.mth; exact h1.lt
  · obtain ⟨sz, f, h1, _⟩ := h.hd; exact h1.lt
theorem EnvAt.keep (h : EnvAt Q C M I H eb cb mb pb iv w) {w' : World} (hs : w.heap.size ≤ w'.heap.size) (hb : ∀ b, b < w.heap.size → (b = eb ∨ b = cb ∨ b = mb ∨ b = pb ∨ Q b) → w'.heap[b]? = w.heap[b]?) : EnvAt Q C M I H eb cb mb pb iv w' := by
  obtain ⟨l1, l2, l3, l4⟩ := h.lts
  have hq : ∀ b, Q b → b < w.heap.size → w'.heap[b]? = w.heap[b]? := fun b h1 h2 => hb b h2 (.inr (.inr (.inr (.inr h1))))
  exact ⟨(hb eb l1 (.inl rfl)).trans h.obj, h.cls.keep hs (hb cb l2 (.inr (.inl rfl))) hq, h.mth.block (hb mb l3 (.inr (.inr (.inl rfl)))), h.ins.keep hs hq, h.hd.block (hb pb l4 (.inr (.inr (.inr (.inl rfl)))))⟩
theorem EnvAt.on (h : EnvAt Q C M I H eb cb mb pb iv w) {w' : World} (hb : Below w.heap.size w w') : EnvAt Q C M I H eb cb mb pb iv w' := h.keep hb.size (fun b hl _ => hb.block b hl)
theorem EnvAt.cells (h : EnvAt Q C M I H eb cb mb pb iv w) : w.cell? ⟨eb, 0, none⟩ = some (.map (some cb)) ∧ w.cell? ⟨eb, 1, none⟩ = some (.map (some mb)) ∧ w.cell? ⟨eb, 2, none⟩ = some iv ∧ w.cell? ⟨eb, 3, none⟩ = some (.map (some pb)) := by
  have := h.obj
  simp [World.cell?, this]
/-- What the map of classes tells of a name, in every world in which it is as it was. -/
theorem ClsMap.look_ok (h : ClsMap Q C cb w) {x : ByteArray} (hx : x.size ≤ maxLen) : (∃ sv A n m, ∃ c, clsOf C x = some c ∧ StrsAt Q w sv c.supers ∧ ∀ w', w'.heap[cb]? = w.heap[cb]? → (Instr.lookup 82 (.map (some cb)) (.string x) true).run Try.prog w' = .ok (.tuple #[clsV c sv (.slice A n m), .bool true]) w' ∧ (Instr.lookup 82 (.map (some cb)) (.string x) false).run Try.prog w' = .ok (clsV c sv (.slice A n m)) w') ∨
    (clsOf C x = none ∧ ∀ w', w'.heap[cb]? = w.heap[cb]? → (Instr.lookup 82 (.map (some cb)) (.string x) true).run Try.prog w' = .ok (.tuple #[zCls, .bool false]) w' ∧ (Instr.lookup 82 (.map (some cb)) (.string x) false).run Try.prog w' = .ok zCls w') := by
  obtain ⟨sz, f, h1, h2, h3⟩ := h
  have k1 := fun (w' : World) (e : w'.heap[cb]? = w.heap[cb]?) => (h1.block e).look_ok (t := 82) (e := 59) Try.underlying9 Try.underlying82 zero59 hx
  have k2 := fun (w' : World) (e : w'.heap[cb]? = w.heap[cb]?) => (h1.block e).look (t := 82) (e := 59) Try.underlying9 Try.underlying82 zero59 hx
  cases hc : clsOf C x with
  | none =>
    rw [h2 x hc] at k1 k2
    exact .inr ⟨rfl, fun w' e => ⟨k1 w' e, k2 w' e⟩⟩
  | some c =>
    obtain ⟨sv, A, n, m, h4, h5⟩ := h3 x c hc
    rw [h4] at k1 k2
    exact .inl ⟨sv, A, n, m, c, rfl, h5, fun w' e => ⟨k1 w' e, k2 w' e⟩⟩
end
set_option maxRecDepth 100000 in
set_option maxHeartbeats 1000000 in
theorem has_any {Q : Nat → Prop} {C : List Cls} {M : ByteArray → Option (ByteArray × Nat)} {I : List Ins} {H : HKey → Option Nat} {eb cb mb pb : Nat} {iv : Value} {w : World} (h : EnvAt Q C M I H eb cb mb pb iv w) (x : ByteArray) (hx : x.size ≤ maxLen) :
    Calls Try.prog 41 #[.pointer (some ⟨eb, 0, none⟩), .string x] w fun e w' => e = .returned (.bool (hasF C x)) ∧ Below w.heap.size w w' := by
  obtain ⟨c0, _, _, _⟩ := h.cells
  rcases h.cls.look_ok hx with ⟨sv, A, n, m, c, hc, hs, k⟩ | ⟨hc, k⟩
  · have k1 := (k w rfl).1
    have HB : Hid (hasF C x = true) := Lib.hid (by unfold hasF; rw [hc]; rfl)
    obtain ⟨As, cs, rfl, _⟩ := hs.form
    generalize c.supers.length = sl at *
    unfold clsV at k1
    clear h hs hc k
    go_enter Try.func41, Try.ntmps41
    go_wp2
    show bodyPost _ _ _ _ _ _
    go_ret
    exact ⟨ret_bool HB.out.symm, below_new _ _⟩
  · have k1 := (k w rfl).1
    have HB : Hid (hasF C x = false) := Lib.hid (by unfold hasF; rw [hc]; rfl)
    unfold zCls at k1
    clear h hc k
    go_enter Try.func41, Try.ntmps41
    go_wp2
    show bodyPost _ _ _ _ _ _
    go_ret
    exact ⟨ret_bool HB.out.symm, below_new _ _⟩
set_option maxRecDepth 100000 in
set_option maxHeartbeats 1000000 in
theorem supers_any {Q : Nat → Prop} {C : List Cls} {M : ByteArray → Option (ByteArray × Nat)} {I : List Ins} {H : HKey → Option Nat} {eb cb mb pb : Nat} {iv : Value} {w : World} (h : EnvAt Q C M I H eb cb mb pb iv w) (x : ByteArray) (hx : x.size ≤ maxLen) :
    Calls Try.prog 48 #[.pointer (some ⟨eb, 0, none⟩), .string x] w fun e w' => (∃ sv, e = .returned sv ∧ StrsAt Q w' sv (supF C x)) ∧ Below w.heap.size w w' := by
  obtain ⟨c0, _, _, _⟩ := h.cells
  rcases h.cls.look_ok hx with ⟨sv, A, n, m, c, hc, hs, k⟩ | ⟨hc, k⟩
  · have k1 := (k w rfl).2
    have HB : Hid (StrsAt Q w sv (supF C x)) := Lib.hid (by unfold supF; rw [hc]; exact hs)
    obtain ⟨As, cs, rfl, _⟩ := hs.form
    generalize c.supers.length = sl at *
    unfold clsV at k1
    have hfd := field59_4 (.string c.name) (.int .i64 c.atp) (.string c.var) (.slice none 0 0) (.slice As sl cs) (.slice A n m) w
    clear h hs hc k
    go_enter Try.func48, Try.ntmps48
    go_wp2
    show bodyPost _ _ _ _ _ _
    go_ret
    exact ⟨⟨_, rfl, HB.out⟩, Below.refl _ _⟩
  · have k1 := (k w rfl).2
    have HB : Hid (StrsAt Q w (.slice none 0 0) (supF C x)) := Lib.hid (by unfold supF; rw [hc]; exact strs_nil _ _)
    unfold zCls at k1
    have hfd := field59_4 (.string ⟨#[]⟩) (.int .i64 0) (.string ⟨#[]⟩) (.slice none 0 0) (.slice none 0 0) (.slice none 0 0) w
    clear h hc k
    go_enter Try.func48, Try.ntmps48
    go_wp2
    show bodyPost _ _ _ _ _ _
    go_ret
    exact ⟨⟨_, rfl, HB.out⟩, Below.refl _ _⟩
end Go.Proofs.Ytjfhncbfbhkhgaa
