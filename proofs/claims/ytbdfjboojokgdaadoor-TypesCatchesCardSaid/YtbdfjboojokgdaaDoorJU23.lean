/- The library's contracts of slices.BinarySearch, laid at this translation. The contract of types' (*subst).free (chapter 4): whether a variable is free in the body that begins here. Conditions: at most 2^40 variables. The walk of types' (*subst).free (chapter 4). Conditions: at most 2^40 variables. The contracts of slices.IndexFunc, ContainsFunc at rows of puts (types.Subst, chapter 4), for whatever function that only makes new memory. Condition: what the function tells of each. -/
import Derived.Shelf.Strings.Builder1
import Derived.Shelf.Small.Strs
import Derived.Shelf.Small.Wraps
import Derived.Shelf.Strings.BuilderF
import Derived.Shelf.Strings.BuilderK
import Derived.Shelf.Strconv.Itoa0
import Derived.Shelf.Strconv.Itoa1
import Derived.Shelf.LaysM
import Derived.Shelf.Strconv.Itoa2
import Derived.Shelf.Strconv.Itoa3
import Derived.Shelf.Strconv.Clone
import Derived.Shelf.Strings.Search1
import Derived.Shelf.Strings.Prefix
import Derived.Shelf.Slices.Turned
import Derived.Ground.Names2Prog
import Derived.Shelf.Slices.SearchI
import Derived.Shelf.Slices.Empties
import Derived.Test.YtbdfjboojokgdaaDoorProg
import Derived.Test.YtbdfjboojokgdaaDoorJU22
import Derived.WalkSmall
namespace Go.Proofs
open Go.Shelf
def Tryd.laysNm225_ren : Go.Shelf.Ren := ⟨fun | 25 => 154 | 31 => 166 | 32 => 167 | 37 => 172 | n => n, fun | 22 => 22 | 3 => 3 | 4 => 4 | 40 => 200 | 0 => 0 | n => n, fun | n => n⟩
theorem Tryd.laysNm225 : Go.Proofs.Lays2.n25 Tryd.prog Tryd.laysNm225_ren := {
  mixed := by kernel_rfl
  f25 := Tryd.func154.trans (congrArg some (by kernel_rfl))
  f31 := Tryd.func166.trans (congrArg some (by kernel_rfl))
  f32 := Tryd.func167.trans (congrArg some (by kernel_rfl))
  f37 := Tryd.func172.trans (congrArg some (by kernel_rfl))
  t0 := Tryd.underlying0
  a0 := Tryd.isAgg0
  z0 := Tryd.sizeOf0
  v0 := Tryd.zeroValue0
  t3 := Tryd.underlying3
  a3 := Tryd.isAgg3
  z3 := Tryd.sizeOf3
  v3 := Tryd.zeroValue3
  t4 := Tryd.underlying4
  a4 := Tryd.isAgg4
  z4 := Tryd.sizeOf4
  v4 := Tryd.zeroValue4
  t22 := Tryd.underlying22
  a22 := Tryd.isAgg22
  z22 := Tryd.sizeOf22
  v22 := Tryd.zeroValue22
  t40 := Tryd.underlying200
  a40 := Tryd.isAgg200
  z40 := Tryd.sizeOf200
  v40 := Tryd.zeroValue200 }
open Go.RowKit Go.Lib in
theorem Tryd.slices_BinarySearch_int (b off n c : Nat) (zs : List Int) (x : Int) (w : World) (hz : n ≤ zs.length) (hbig : n < 4611686018427387904) (hc : ∀ j, j < zs.length → w.cell? ⟨b, off + j, none⟩ = some (.int .i64 (zs.getD j 0))) (hs : (zs.take n).Pairwise (· ≤ ·)) :
    Calls Tryd.prog 154 #[.slice (some ⟨b, off, none⟩) n c, .int .i64 x] w fun e w' => e = .returned (.tuple #[.int .i64 ((zs.take n).countP (· < x) : Nat), .bool ((zs.take n).contains x)]) ∧ ∃ q, w' = w.drewN q := Any.slices_BinarySearch_int Tryd.laysNm225 b off n c zs x w hz hbig hc hs
open Go.RowKit Go.Lib in
theorem Tryd.slices_BinarySearch_int_empty (a : Option Addr) (c : Nat) (x : Int) (w : World) :
    Calls Tryd.prog 154 #[.slice a 0 c, .int .i64 x] w fun e w' => e = .returned (.tuple #[.int .i64 0, .bool false]) ∧ w' = w := Any.slices_BinarySearch_int_empty Tryd.laysNm225 a c x w
end Go.Proofs
namespace Go.Proofs.YtbdfjboojokgdaaDoor
open Go.RowKit

theorem rise_count {b : Int} : ∀ {l : List Int}, l.Pairwise (· < ·) → ∀ (j : Nat) (h : j < l.length), l[j] < b ↔ j < l.countP (· < b)
  | [], _, _, h => absurd h (Nat.not_lt_zero _)
  | a :: r, hp, j, h => by
    rw [List.pairwise_cons] at hp
    rw [List.countP_cons]
    by_cases ha : a < b
    · rw [if_pos (by simpa using ha)]
      cases j with
      | zero => simp [ha]
      | succ j =>
        have := rise_count hp.2 j (by simpa using h) (b := b)
        simp only [List.getElem_cons_succ]
        omega
    · have h0 : r.countP (· < b) = 0 := by
        rw [List.countP_eq_zero]
        intro x hx
        have := hp.1 x hx
        simp; omega
      rw [if_neg (by simpa using ha), h0]
      constructor
      · intro h9
        exfalso
        cases j with
        | zero => exact ha h9
        | succ j =>
          simp only [List.getElem_cons_succ] at h9
          have := hp.1 _ (List.getElem_mem (by simpa using h : j < r.length))
          omega
      · intro h9; omega
theorem rise_lt {l : List Int} (hp : l.Pairwise (· < ·)) {i j : Nat} (hi : i < l.length) (hj : j < l.length) : l[i] < l[j] ↔ i < j := by
  constructor
  · intro h
    apply Classical.byContradiction
    intro hn
    rcases Nat.lt_or_ge j i with h2 | h2
    · have := List.pairwise_iff_getElem.1 hp j i hj hi h2; omega
    · obtain rfl : i = j := by omega
      omega
  · exact fun h => List.pairwise_iff_getElem.1 hp i j hi hj h
/-- What stands at a place of a name. -/
theorem posK_at {vs : List (ByteArray × Int)} {x : ByteArray} {k : Nat} (h : k < (posK vs x vs.length).length) : ∃ (i : Nat) (hi : i < vs.length), (posK vs x vs.length)[k] = i ∧ vs[i].1 = x := by
  obtain ⟨i, h1, h2, h3⟩ := posK_mem.1 (List.getElem_mem h)
  rw [List.getElem?_eq_getElem h1] at h3
  exact ⟨i, h1, h2, by simpa using h3⟩
theorem posK_of {vs : List (ByteArray × Int)} {x : ByteArray} {i : Nat} (hi : i < vs.length) (h : vs[i].1 = x) : ∃ (k : Nat) (hk : k < (posK vs x vs.length).length), (posK vs x vs.length)[k] = i := by
  have : (i : Int) ∈ posK vs x vs.length := posK_mem.2 ⟨i, hi, rfl, by rw [List.getElem?_eq_getElem hi]; simp [h]⟩
  obtain ⟨k, hk, e⟩ := List.mem_iff_getElem.1 this
  exact ⟨k, hk, e⟩
/-- None of those that were looked at is one. -/
def Looked (vs : List (ByteArray × Int)) (x : ByteArray) (d : Int) (f k : Nat) : Prop := ∀ j (h : j < (posK vs x vs.length).length), f ≤ j → j < k → ∀ (i : Nat) (hi : i < vs.length), (posK vs x vs.length)[j] = i → d < vs[i].2
theorem free_no {vs : List (ByteArray × Int)} {x : ByteArray} {d : Int} {n m k : Nat} (h : Looked vs x d ((posK vs x vs.length).countP (· < (n : Int))) k) (hend : (posK vs x vs.length).length ≤ k ∨ ∃ h : k < (posK vs x vs.length).length, (m : Int) ≤ (posK vs x vs.length)[k]) : freeQ vs n m d x = false := by
  cases hq : freeQ vs n m d x with
  | false => rfl
  | true =>
    exfalso
    obtain ⟨i, hi, h1, h2, h3, h4⟩ := freeQ_iff.1 hq
    obtain ⟨j, hj, e⟩ := posK_of hi h3
    have hr := posK_rise vs x vs.length
    have hc := rise_count hr j hj (b := (n : Int))
    have hjk : j < k := by
      rcases hend with h9 | ⟨h9, h8⟩
      · omega
      · exact (rise_lt hr hj h9).1 (by omega)
    have := h j hj (by
      apply Classical.byContradiction
      intro h9
      have := hc.2 (by omega)
      omega) hjk i hi e
    omega
theorem free_yes {vs : List (ByteArray × Int)} {x : ByteArray} {d : Int} {n m k i : Nat} (hk : k < (posK vs x vs.length).length) (hf : (posK vs x vs.length).countP (· < (n : Int)) ≤ k) (hi : i < vs.length) (e : (posK vs x vs.length)[k] = i) (hm : i < m) (hd : vs[i].2 ≤ d) : freeQ vs n m d x = true := by
  refine freeQ_iff.2 ⟨i, hi, ?_, hm, ?_, hd⟩
  · have hc := rise_count (posK_rise vs x vs.length) k hk (b := (n : Int))
    apply Classical.byContradiction
    intro h9
    have := hc.1 (by omega)
    omega
  · obtain ⟨i', h1, e', h2⟩ := posK_at hk
    obtain rfl : i' = i := by omega
    exact h2
theorem Looked.step {vs : List (ByteArray × Int)} {x : ByteArray} {d : Int} {f k i : Nat} (h : Looked vs x d f k) (hk : k < (posK vs x vs.length).length) (hi : i < vs.length) (e : (posK vs x vs.length)[k] = i) (hd : d < vs[i].2) : Looked vs x d f (k + 1) := fun j hj h1 h2 i' hi' e' => by
  by_cases hjk : j = k
  · subst hjk
    obtain rfl : i' = i := by omega
    exact hd
  · exact h j hj h1 (by omega) i' hi' e'
theorem zero22 (y : World) : (zeroValue 22).run Tryd.prog y = .ok (.slice none 0 0) y := Tryd.zeroValue22 y
/-- The row of a name's places, as the map tells it. -/
theorem PlacesAt.look {B pb k : Nat} {vs : List (ByteArray × Int)} {w : World} (h : PlacesAt B pb k vs w) {x : ByteArray} (hx : x.size ≤ 1099511627776) : ∃ v, (Instr.lookup 115 (.map (some pb)) (.string x) false).run Tryd.prog w = .ok v w ∧ OwnI B w v (posK vs x k) := by
  obtain ⟨sz, F, hm, _, h1, h2, _⟩ := h
  refine ⟨_, hm.look (t := 115) (e := 22) Tryd.underlying9 Tryd.underlying115 zero22 (x := x) (by unfold maxLen; omega), ?_⟩
  cases hf : F x with
  | none => rw [h1 x hf]; exact OwnI.nil _ _
  | some v => exact (h2 x v hf).1
end Go.Proofs.YtbdfjboojokgdaaDoor
namespace Go.Proofs.YtbdfjboojokgdaaDoor
open Go.RowKit

theorem add_g0 (g j : Nat) : (⟨g, 0, none⟩ : Addr).add j = ⟨g, j, none⟩ := by unfold Addr.add; split <;> simp_all
theorem search_any {B : Nat} {w : World} {v : Value} {pl : List Int} (h : OwnI B w v pl) (hr : pl.Pairwise (· < ·)) (hl : pl.length ≤ 1099511627776) (n : Int) :
    Calls Tryd.prog 154 #[v, .int .i64 n] w fun e w' => ∃ bo, e = .returned (.tuple #[.int .i64 (pl.countP (· < n) : Nat), .bool bo]) ∧ Below w.heap.size w w' := by
  by_cases h0 : pl = []
  · subst h0
    obtain ⟨A, c, rfl⟩ := own_form h
    refine (Tryd.slices_BinarySearch_int_empty A c n w).mono ?_
    rintro e w' ⟨rfl, rfl⟩
    exact ⟨_, rfl, Below.refl _ _⟩
  · have hp := List.length_pos_iff.2 h0
    obtain ⟨g, c, rfl, _, _⟩ := World.ownsRow.form h hp
    have hc := World.ownsRow.cells h (g := g) rfl
    have htake : pl.take pl.length = pl := List.take_length
    refine (Tryd.slices_BinarySearch_int g 0 pl.length c pl n w (Nat.le_refl _) (by omega) (fun j hj => ?_) (by rw [htake]; exact hr.imp (fun h => Int.le_of_lt h))).mono ?_
    · have := hc j (.int .i64 pl[j]) (by simp [hj])
      rw [add_g0] at this
      simpa [List.getD_eq_getElem?_getD, hj] using this
    · rintro e w' ⟨rfl, q, rfl⟩
      rw [htake]
      exact ⟨_, rfl, below_drewN (Below.refl _ _) q⟩
set_option maxRecDepth 100000 in
set_option maxHeartbeats 1000000 in
theorem freeC_any {B sb lb pb ub : Nat} {vs : List (ByteArray × Int)} {es : List Int} {P : ByteArray → Option Ty} {N n m : Nat} {op dp : Int} {w : World} (h : SbSt B sb lb pb ub vs es P N n op dp w) (x : ByteArray) (hx : x.size ≤ 1099511627776) (hv : vs.length ≤ 1099511627776) :
    Calls Tryd.prog 136 #[.pointer (some ⟨sb, 0, none⟩), .string x, .int .i64 m] w fun e w' => e = .returned (.bool (freeQ vs n m dp x)) ∧ Below w.heap.size w w' := by
  obtain ⟨v, hlook, hown⟩ := h.pl.look hx
  have hr := posK_rise vs x vs.length
  have hpl := posK_len vs x vs.length
  have hcell := h.cell
  have c1 : w.cell? ⟨sb, 1, none⟩ = some (.map (some pb)) := by simp [World.cell?, hcell]
  have c3 : w.cell? ⟨sb, 3, none⟩ = some (.int .i64 n) := by simp [World.cell?, hcell]
  have HSR := Lib.hid (search_any hown hr (by omega) (n : Int))
  have hcnt : (posK vs x vs.length).countP (· < (n : Int)) ≤ (posK vs x vs.length).length := List.countP_le_length
  have HS := Lib.hid h
  have HNO := Lib.hid (fun k => free_no (vs := vs) (x := x) (d := dp) (n := n) (m := m) (k := k))
  have HYES := Lib.hid (fun k i => free_yes (vs := vs) (x := x) (d := dp) (n := n) (m := m) (k := k) (i := i))
  have HAT := Lib.hid (fun k => posK_at (vs := vs) (x := x) (k := k))
  have HSTEP := Lib.hid (fun k i => Looked.step (vs := vs) (x := x) (d := dp) (f := (posK vs x vs.length).countP (· < (n : Int))) (k := k) (i := i))
  have HL0 : Hid (Looked vs x dp ((posK vs x vs.length).countP (· < (n : Int))) ((posK vs x vs.length).countP (· < (n : Int)))) := fun j hj h1 h2 => by omega
  obtain ⟨pl, hple⟩ : ∃ pl, pl = posK vs x vs.length := ⟨_, rfl⟩
  unfold Looked at HNO HSTEP HL0
  rw [← hple] at HSR hcnt hpl HNO HYES HAT HSTEP HL0 hown
  clear hple hr
  generalize hfm : pl.countP (· < (n : Int)) = fm at *
  obtain ⟨A, c, rfl, hlc, hcm⟩ := own_cap hown
  unfold maxLen at hcm
  have HO := Lib.hid hown
  obtain ⟨A9, hA9⟩ : ∃ A9, (if c = fm then A else Option.map (fun x => x.add fm) A) = A9 := ⟨_, rfl⟩
  have HA9 : Hid (fm < pl.length → ∃ g, A9 = some ⟨g, fm, none⟩ ∧ g < w.heap.size ∧ ∀ i (h : i < pl.length), w.cell? ⟨g, i, none⟩ = some (.int .i64 pl[i])) := fun h9 => by
    obtain ⟨g, c', e, _, hg⟩ := World.ownsRow.form hown (by omega)
    injection e with e1 e2 e3
    subst e1; subst e3
    have hc := World.ownsRow.cells hown (g := g) rfl
    refine ⟨g, ?_, hg, fun i hi => ?_⟩
    · rw [← hA9, if_neg (by omega)]; exact congrArg some (add_g0 g fm)
    · have := hc i (.int .i64 pl[i]) (by simp [hi])
      rwa [add_g0] at this
  clear h hown hfm
  go_enter Tryd.func136, Tryd.ntmps136
  go_wp2_with fail
  (with_reducible refine HSR.out.mono ?_)
  rintro e y ⟨bo, rfl, hb⟩
  have HB := Lib.hid hb
  clear hb
  have HCell := Lib.hid hcell
  clear hlook hcell c1 c3 hlc
  go_upto_region 4 with (fail)
  go_loopw [31] (fun i wr => ∃ k : Nat, fm + k ≤ pl.length ∧ i = .int .i64 k ∧ Below w.heap.size w wr ∧ ∀ (j : Nat) (h : j < pl.length), fm ≤ j → j < fm + k → ∀ (i : Nat) (hi : i < vs.length), pl[j] = ↑i → dp < vs[i].2) (fun i _ => pl.length - (intOf i).toNat)
  case atStart => exact ⟨0, by omega, rfl, HB.out, HL0.out⟩
  case round =>
    obtain ⟨k, hk, rfl, hb, hlk⟩ := hrel
    have HBR := Lib.hid hb
    have HLK := Lib.hid hlk
    by_cases hlt : fm + k < pl.length
    · obtain ⟨g, rfl, hg, hgc⟩ := HA9.out (by omega)
      obtain ⟨i, hi, hie, _⟩ := HAT.out (fm + k) hlt
      have hki : (k : Int) < ((pl.length - fm : Nat) : Int) := by omega
      have hk0 : (0 : Int) ≤ (k : Int) := by omega
      have e0 : wr.cell? ⟨g, fm + k, none⟩ = some (.int .i64 i) := (hb.cell (p := ⟨g, fm + k, none⟩) hg).trans (by rw [hgc _ hlt, hie])
      by_cases hmi : m ≤ i
      · have hd : decide ((i : Int) ≥ (m : Int)) = true := by simpa using hmi
        have HR := Lib.hid (HNO.out (fm + k) hlk (.inr ⟨hlt, by omega⟩))
        clear hlk hb
        go_wp2
        go_ret
        exact ⟨by rw [HR.out]; rfl, HBR.out⟩
      · have hd : decide ((i : Int) ≥ (m : Int)) = false := by simpa using hmi
        obtain ⟨v1, v2, hl1, hl2, hl3⟩ := HS.out.lay
        obtain ⟨Av, cv, rfl⟩ := own_form hl2
        obtain ⟨gv, rfl, hgv, k0, k1⟩ := OwnV.at hl2 i hi
        have hbc := (hb.block sb (lt_of_block HCell.out)).trans HCell.out
        have hbl := (hb.block lb (lt_of_block hl1)).trans hl1
        have s0 : wr.cell? ⟨sb, 0, none⟩ = some (.pointer (some ⟨lb, 0, none⟩)) := by simp [World.cell?, hbc]
        have s5 : wr.cell? ⟨sb, 5, none⟩ = some (.int .i64 dp) := by simp [World.cell?, hbc]
        have l0 : wr.cell? ⟨lb, 0, none⟩ = some (.slice (some ⟨gv, 0, none⟩) vs.length cv) := by simp [World.cell?, hbl]
        have v1' := (hb.cell (p := ⟨gv, i * 2 + 1, none⟩) hgv).trans k1
        have hi0 : (0 : Int) ≤ (i : Int) := by omega
        have hi1 : (i : Int) < (vs.length : Int) := by omega
        by_cases hdd : vs[i].2 ≤ dp
        · have hd2 : decide (vs[i].2 ≤ dp) = true := by simpa using hdd
          have HR := Lib.hid (HYES.out (fm + k) i hlt (by omega) hi hie (by omega) hdd)
          clear hlk hb hbc hbl hl1 hl2 hl3 k0 k1
          go_upto_region 7 with (fail)
          go_region
          go_wp2
          go_ret
          exact ⟨by rw [HR.out]; rfl, HBR.out.drew⟩
        · have hd2 : decide (vs[i].2 ≤ dp) = false := by simpa using hdd
          have HN := Lib.hid (HSTEP.out (fm + k) i hlk hlt hi hie (by omega))
          clear hlk hb hbc hbl hl1 hl2 hl3 k0 k1
          go_upto_region 7 with (fail)
          go_region
          go_wp2
          go_roundw
          case rel => exact ⟨k + 1, by omega, by go_num, HBR.out.drew, HN.out⟩
          case measure => simp [intOf]; omega
    · have hki : ¬ (k : Int) < ((pl.length - fm : Nat) : Int) := by omega
      have HR := Lib.hid (HNO.out (fm + k) hlk (.inl (by omega)))
      clear hlk hb
      go_wp2
      go_ret
      exact ⟨by rw [HR.out]; rfl, HBR.out⟩
end Go.Proofs.YtbdfjboojokgdaaDoor
namespace Go.Proofs.YtbdfjboojokgdaaDoor
open Go.RowKit

abbrev PutI := Nat × ByteArray × Ty
def ptrs (l : List PutI) : List Value := l.map (fun p => ptrV p.1)
/-- A function's value that tells p of each, in every world of which R holds. -/
structure PredF (gf : FuncId) (cap : Array Value) (R : World → Prop) (l : List PutI) (p : PutI → Bool) : Prop where
  cf : ∀ (vs : Array Value) (y : World), (callFunc gf vs).run Tryd.prog y = .ok (.enter gf vs) y
  on : ∀ y y', R y → Below y.heap.size y y' → R y'
  tell : ∀ x ∈ l, ∀ y, R y → Calls Tryd.prog gf (#[ptrV x.1] ++ cap) y fun e y' => e = .returned (.bool (p x)) ∧ Below y.heap.size y y'
theorem row_at {B : Nat} {w : World} {A : Option Addr} {n c : Nat} {l : List PutI} (h : w.ownsRow B 113 1 (.slice A n c) l.length (ptrs l)) {i : Nat} (hi : i < l.length) : ∃ g, A = some ⟨g, 0, none⟩ ∧ g < w.heap.size ∧ w.cell? ⟨g, i, none⟩ = some (ptrV l[i].1) := by
  obtain ⟨g, c', e, _, hg⟩ := World.ownsRow.form h (by omega)
  injection e with e1 e2 e3
  subst e1; subst e3
  have hc := World.ownsRow.cells h (g := g) rfl i (ptrV l[i].1) (by simp [ptrs, hi])
  rw [add_g0] at hc
  exact ⟨g, rfl, hg, hc⟩
set_option maxRecDepth 100000 in
set_option maxHeartbeats 1000000 in
theorem indexF_any {B : Nat} {w : World} {v : Value} {l : List PutI} {gf : FuncId} {cap : Array Value} {R : World → Prop} {p : PutI → Bool} (hrow : w.ownsRow B 113 1 v l.length (ptrs l)) (hp : PredF gf cap R l p) (hR : R w) (hl : l.length ≤ 1099511627776) :
    Calls Tryd.prog 155 #[v, .func (.func gf) #[] cap] w fun e w' => ((∃ (k : Nat) (h : k < l.length), e = .returned (.int .i64 k) ∧ p l[k] = true ∧ ∀ j (h : j < l.length), j < k → p l[j] = false) ∨ (e = .returned (.int .i64 (-1)) ∧ ∀ x ∈ l, p x = false)) ∧ Below w.heap.size w w' := by
  have hcf := hp.cf
  have HP := Lib.hid hp
  obtain ⟨A, c, rfl⟩ := own_form hrow
  have HROW := Lib.hid hrow
  have HR := Lib.hid hR
  clear hrow hp hR
  go_enter Tryd.func155, Tryd.ntmps155
  go_wp2
  go_loopw [8] (fun i wr => ∃ k : Nat, k ≤ l.length ∧ i = .int .i64 k ∧ Below w.heap.size w wr ∧ ∀ j (h : j < l.length), j < k → p l[j] = false) (fun i _ => l.length - (intOf i).toNat)
  case atStart => exact ⟨0, Nat.zero_le _, rfl, Below.refl _ _, fun j _ h => absurd h (Nat.not_lt_zero _)⟩
  case round =>
    obtain ⟨k, hk, rfl, hb, hno⟩ := hrel
    have HB := Lib.hid hb
    have HNO := Lib.hid hno
    by_cases hlt : k < l.length
    · obtain ⟨g, rfl, hg, hc⟩ := row_at HROW.out hlt
      have hki : (k : Int) < (l.length : Int) := by omega
      have hk0 : (0 : Int) ≤ (k : Int) := by omega
      have e0 := (hb.cell (p := ⟨g, k, none⟩) hg).trans hc
      have HC := Lib.hid (HP.out.tell l[k] (List.getElem_mem hlt) wr (HP.out.on _ _ HR.out hb))
      clear hb hno hc
      go_wp2_with fail
      (with_reducible refine HC.out.mono ?_)
      rintro e y ⟨rfl, hby⟩
      have HBY := Lib.hid (HB.out.trans (hby.mono HB.out.size))
      clear hby e0
      cases hq : p l[k] with
      | true =>
        rw [hq] at HC
        go_wp2
        go_ret
        exact ⟨.inl ⟨k, hlt, rfl, hq, HNO.out⟩, HBY.out⟩
      | false =>
        rw [hq] at HC
        go_wp2
        go_roundw
        case rel => exact ⟨k + 1, by omega, by go_num, HBY.out, fun j hj h => by
          by_cases e : j = k
          · subst e; exact hq
          · exact HNO.out j hj (by omega)⟩
        case measure => simp [intOf]; omega
    · have hki : ¬ (k : Int) < (l.length : Int) := by omega
      have HE : Hid (∀ x ∈ l, p x = false) := fun x hx => by
        obtain ⟨j, hj, rfl⟩ := List.mem_iff_getElem.1 hx
        exact HNO.out j hj (by omega)
      clear hb hno
      go_wp2
      go_ret
      exact ⟨.inr ⟨rfl, by intros; exact HE.out _ (by assumption)⟩, HB.out⟩
theorem any_of {l : List PutI} {p : PutI → Bool} {k : Nat} (h : k < l.length) (hp : p l[k] = true) : l.any p = true := List.any_eq_true.2 ⟨_, List.getElem_mem h, hp⟩
set_option maxRecDepth 100000 in
set_option maxHeartbeats 1000000 in
theorem containsF_any {B : Nat} {w : World} {v : Value} {l : List PutI} {gf : FuncId} {cap : Array Value} {R : World → Prop} {p : PutI → Bool} (hrow : w.ownsRow B 113 1 v l.length (ptrs l)) (hp : PredF gf cap R l p) (hR : R w) (hl : l.length ≤ 1099511627776) :
    Calls Tryd.prog 137 #[v, .func (.func gf) #[] cap] w fun e w' => e = .returned (.bool (l.any p)) ∧ Below w.heap.size w w' := by
  have HI := Lib.hid (indexF_any hrow hp hR hl)
  obtain ⟨A, c, rfl⟩ := own_form hrow
  clear hrow hp hR
  go_enter Tryd.func137, Tryd.ntmps137
  go_wp2_with fail
  (with_reducible refine HI.out.mono ?_)
  rintro e y ⟨⟨k, hk, rfl, hpk, _⟩ | ⟨rfl, hno⟩, hb⟩
  · have HE := Lib.hid (any_of hk hpk)
    have HB := Lib.hid hb
    have hd : decide ((k : Int) ≥ 0) = true := by simp
    clear hb hpk
    go_wp2
    go_ret
    exact ⟨by rw [HE.out]; rfl, HB.out⟩
  · have HE : Hid (l.any p = false) := List.any_eq_false.2 (fun x hx => by rw [hno x hx]; simp)
    have HB := Lib.hid hb
    clear hb hno
    go_wp2
    go_ret
    exact ⟨by rw [HE.out]; rfl, HB.out⟩
end Go.Proofs.YtbdfjboojokgdaaDoor
