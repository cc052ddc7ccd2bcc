/- The contracts of the library's copyCheck and WriteString, walked at this translation; kinds.write and kinds.Print. Condition: the print has at most 2^40 bytes. -/
import Derived.Test.YtomhojpoaicioaaShelf
import Derived.Test.YtomhojpoaicioaaKPrint
import Derived.Shelf.Strings.BuilderK
namespace Go.Proofs.Ytomhojpoaicioaa
open Go.RowKit

theorem sizeBuilder : (Try.prog.info? 75).map (·.size) = some 2 := by kernel_rfl
set_option maxHeartbeats 1000000 in
set_option maxRecDepth 100000 in
theorem copyCheck_used (b : Nat) (w : World) (h0 : w.cell? ⟨b, 0, none⟩ = some (.pointer (some ⟨b, 0, none⟩))) :
    Calls Try.prog 55 #[.pointer (some ⟨b, 0, none⟩)] w fun e w' => e = .returned (.tuple #[]) ∧ w' = w := by
  obtain ⟨j, hj, _⟩ := Option.map_eq_some_iff.1 sizeBuilder
  go_enter Try.func55, Try.ntmps55
  go_wp2
  rw [Lib.run_neq_ptr_same w _ Try.underlying73 hj]
  go_wp2
  go_end0
  exact ⟨rfl, rfl⟩
set_option maxHeartbeats 1000000 in
set_option maxRecDepth 100000 in
theorem copyCheck_fresh (b : Nat) (w : World) (h0 : w.cell? ⟨b, 0, none⟩ = some (.pointer none)) (hsh : w.shape? b = some (75, 2)) (hfz : w.frozen? ⟨b, 0, none⟩ = false) :
    Calls Try.prog 55 #[.pointer (some ⟨b, 0, none⟩)] w fun e w' => e = .returned (.tuple #[]) ∧ w' = w.setCell ⟨b, 0, none⟩ (.pointer (some ⟨b, 0, none⟩)) := by
  obtain ⟨j, hj, hjs⟩ := Option.map_eq_some_iff.1 sizeBuilder
  go_enter Try.func55, Try.ntmps55
  go_wp2
  rw [Lib.run_to_unsafe w ⟨b, 0, none⟩ Try.underlying73 Try.underlying111 hj (by rw [hjs]; decide) hsh (Nat.zero_lt_succ 1)]
  simp only [Result.andThen]
  rw [Oper.upon_value]
  go_wp2
  rw [run_callFunc_extern Try.func60 (by kernel_rfl) (by kernel_rfl) (by kernel_rfl) (e := Extern.AbiNoEscape.same) (by kernel_rfl)]
  rw [Lib.run_noEscape]
  simp only [Result.andThen]
  rw [Oper.upon_value]
  go_wp2
  rw [Lib.run_from_unsafe w ⟨b, 0, none⟩ Try.underlying111 Try.underlying73 hj hsh (by kernel_rfl)]
  simp only [Result.andThen]
  rw [Oper.upon_value]
  go_wp2
  go_end0
  exact ⟨rfl, rfl⟩
theorem copyCheck_k (B b : Nat) (bs : List Value) (w : World) (h : Lib.IsBuilderF 75 5 B b bs w) :
    Calls Try.prog 55 #[.pointer (some ⟨b, 0, none⟩)] w fun e w' => e = .returned (.tuple #[]) ∧ (Lib.BuilderAtF 75 5 B b (.pointer (some ⟨b, 0, none⟩)) bs w' ∧ Below B w w' ∧ Lib.OthersKept 5 (some b) w w') := by
  rcases h with h | h
  · refine (copyCheck_fresh b w h.cell0 h.shape h.frozen0).mono ?_
    rintro e w' ⟨rfl, rfl⟩
    exact ⟨rfl, h.used _, (Below.refl B w).setCell (p := ⟨b, 0, none⟩) h.1 _, (Lib.OthersKept.refl _ _ w).setCell ⟨b, 0, none⟩ rfl _⟩
  · refine (copyCheck_used b w h.cell0).mono ?_
    rintro e w' ⟨rfl, rfl⟩
    exact ⟨rfl, h, Below.refl B _, Lib.OthersKept.refl _ _ _⟩
theorem infoByte : (Try.prog.info? 5).map (fun i => (i.zero, i.size, i.bytes)) = some (some (.int .u8 0), 1, 1) := by kernel_rfl
set_option maxHeartbeats 2000000 in
set_option maxRecDepth 100000 in
theorem writeString_k (B b : Nat) (bs : List Value) (s : ByteArray) (w : World) (h : Lib.IsBuilderF 75 5 B b bs w) (hlen : bs.length + s.size ≤ 140737488355328) (hBw : B ≤ w.heap.size) :
    Calls Try.prog 50 #[.pointer (some ⟨b, 0, none⟩), .string s] w fun e w' => e = .returned (.tuple #[.int .i64 s.size, .nilIface]) ∧ (Lib.BuilderAtF 75 5 B b (.pointer (some ⟨b, 0, none⟩)) (bs ++ Lib.strCells s) w' ∧ Below B w w' ∧ Lib.OthersKept 5 (some b) w w') := by
  obtain ⟨i0, hi, hz0, hz1, hz2⟩ := info_parts infoByte
  go_enter Try.func50, Try.ntmps50
  go_wp2_with (go_at_call 55; refine (copyCheck_k B b bs _ h).mono ?_)
  rintro e w1 ⟨rfl, h1, hb1, hk1⟩
  obtain ⟨hB, v, hbk, hown, hne⟩ := h1
  have c0 : w1.cell? ⟨b, 0, none⟩ = some (.pointer (some ⟨b, 0, none⟩)) := by rw [Lib.cell_of_heap hbk]; rfl
  have c1 : w1.cell? ⟨b, 1, none⟩ = some v := by rw [Lib.cell_of_heap hbk]; rfl
  go_wp2_with (at_builtin; refine Lib.wpList_append_own_stringF _ rfl _ _ 34 9 rfl B 5 i0 Try.underlying34 Try.underlying9 hi hz0 hz1 hz2 _ _ _ rfl hown s rfl ?c3 ?c4 ?c5 ?_)
  case c3 => unfold maxLen; omega
  case c4 => omega
  case c5 => have := hb1.size; omega
  intro v' w2 hown' hgrow _
  have hlt : b < w1.heap.size := by
    rcases Nat.lt_or_ge b w1.heap.size with h' | h'
    · exact h'
    · simp [Array.getElem?_eq_none h'] at hbk
  have hb2 : w2.heap[b]? = some (.cells #[.pointer (some ⟨b, 0, none⟩), v] 75 (0, 0)) := by
    rw [hgrow.block b hlt (fun e => hne e.symm)]
    exact hbk
  have d0 : w2.cell? ⟨b, 0, none⟩ = some (.pointer (some ⟨b, 0, none⟩)) := by rw [Lib.cell_of_heap hb2]; rfl
  have d1 : w2.cell? ⟨b, 1, none⟩ = some v := by rw [Lib.cell_of_heap hb2]; rfl
  have f1 : w2.frozen? ⟨b, 1, none⟩ = false := Lib.frozen_of_heap hb2 1
  obtain ⟨ao, n', cap, rfl⟩ : ∃ ao n' cap, v' = .slice ao n' cap := by
    rcases hown'.2 with ⟨hv, _⟩ | ⟨g, cap, cur, fz, hv, _⟩
    · exact ⟨_, _, _, hv⟩
    · exact ⟨_, _, _, hv⟩
  go_wp2
  go_ret2
  refine ⟨rfl, ?_, ?_, (hk1.grown hgrow (Lib.ownsRowF_kind hown)).setCell ⟨b, 1, none⟩ rfl _⟩
  · exact Lib.BuilderAtF.put (T := 75) (e := 5) hB hb2 (bs' := bs ++ Lib.strCells s) (by simpa [Lib.strCells_length] using hown') (by decide)
  · exact (hb1.grown hgrow (by have := hb1.size; omega) (fun k hk => (hown.lt k hk).1)).setCell (p := ⟨b, 1, none⟩) hB _

/-- A builder that holds this text, in a world of its own: its block is b, its rows are from B on. -/
def Bld (B b : Nat) (l : List UInt8) (w : World) : Prop := Lib.IsBuilderF 75 5 B b (Lib.byteCells l) w ∧ B ≤ w.heap.size
theorem Bld.alloc {B b : Nat} {l : List UInt8} {w : World} (h : Bld B b l w) (o : Obj) : Bld B b l (w.alloc o) :=
  ⟨h.1.elim (fun x => .inl (x.alloc o)) (fun x => .inr (x.alloc o)), by have := h.2; simp; omega⟩
theorem writeString_b (B b : Nat) (l : List UInt8) (s : ByteArray) (w : World) (h : Bld B b l w) (hlen : l.length + s.size ≤ 140737488355328) :
    Calls Try.prog 50 #[.pointer (some ⟨b, 0, none⟩), .string s] w fun e w' => e = .returned (.tuple #[.int .i64 s.size, .nilIface]) ∧ Bld B b (l ++ s.data.toList) w' ∧ Below B w w' ∧ Lib.OthersKept 5 (some b) w w' := by
  refine (writeString_k B b _ s w h.1 (by rw [Lib.byteCells_length]; exact hlen) h.2).mono ?_
  rintro e w' ⟨rfl, h1, h2, h3⟩
  refine ⟨rfl, ⟨.inr ?_, Nat.le_trans h.2 h2.size⟩, h2, h3⟩
  rw [Lib.byteCells_append]; exact h1
theorem KAt.bound' {P : Nat → Prop} {w : World} {k : K} {v : Value} (h : KAt P w k v) : KAt (fun b => b < w.heap.size) w k v := by
  induction h with
  | intro l A c us hc hm hu hrow _ ih =>
    refine .intro l A c us hc hm hu ?_ ih
    rcases hrow with h | ⟨b, off, e, hp, hlt, r⟩
    · exact .inl h
    · exact .inr ⟨b, off, e, hlt, hlt, r⟩
theorem Keeps.of_belowB {P : Nat → Prop} {B : Nat} {w w' : World} (hPB : ∀ x, P x → x < B) (hb : Below B w w') : Keeps P w w' := ⟨hb.size, fun _ _ hp _ => hb.cell (p := ⟨_, _, none⟩) (hPB _ hp)⟩
theorem kept_new {w w' : World} {b : Nat} {a : Value} (h : Lib.OthersKept 5 (some b) (w.alloc (.cells #[a] 25)) w') (hne : b ≠ w.heap.size) : w'.cell? ⟨w.heap.size, 0, none⟩ = some a := by
  have h1 := h w.heap.size (.cells #[a] 25) (MapKept.heap_alloc w _).1 (fun e => hne (by injection e with e; exact e.symm)) (fun c fz e => by injection e with _ e; revert e; decide)
  simp [World.cell?, h1]
theorem Bld.lt {B b : Nat} {l : List UInt8} {w : World} (h : Bld B b l w) : b < w.heap.size := h.1.elim (fun x => x.lt) (fun x => x.lt)
/-- What write did. -/
def Wrote (B b : Nat) (l : List UInt8) (w : World) (e : Ending) (w' : World) : Prop := e = .returned (.tuple #[]) ∧ Bld B b l w' ∧ Below B w w'
set_option maxRecDepth 100000 in
set_option maxHeartbeats 1000000 in
theorem write_any (P : Nat → Prop) (B b : Nat) (hPB : ∀ x, P x → x < B) : ∀ (n : Nat) (k : K) (v : Value) (l : List UInt8) (w : World), K.sz k ≤ n → KAt P w k v → Bld B b l w → l.length + (printK k).length ≤ 1099511627776 →
    Calls Try.prog 36 #[.pointer (some ⟨b, 0, none⟩), .agg #[v]] w (Wrote B b (l ++ printK k) w)
  | 0, .mk l, _, _, _, hn, _, _, _ => by rw [K.sz_mk] at hn; omega
  | n + 1, .mk l, v1, s, w, hn, h1, hbd, hlen => by
    obtain ⟨A1, c1, rfl, hm1⟩ := h1.form
    unfold maxLen at hm1
    have H1 := Lib.hid h1
    have IH := Lib.hid (write_any P B b hPB n)
    have HN := Lib.hid (fun i (h : i < l.length) => sz_get hn h)
    have HG := Lib.hid (fun i (h : i < l.length) => printK_get (l := l) (i := i) h)
    have HP := Lib.hid (printK_mk l)
    have hit : s.length + ((itemsK l).length + 1) ≤ 1099511627776 := by rw [printK_mk] at hlen; simpa using hlen
    have HPB := Lib.hid hPB
    have HBD := Lib.hid hbd
    clear h1 hn hPB hbd
    go_enter Try.func36, Try.ntmps36
    go_wp2_with fail
    have hb0 : Below B w (w.alloc (.cells #[.slice A1 l.length c1] 25)) := (below_new w _).mono HBD.out.2
    have hbd0 : Bld B b s (w.alloc (.cells #[.slice A1 l.length c1] 25)) := HBD.out.alloc _
    generalize w.alloc (.cells #[.slice A1 l.length c1] 25) = w0 at *
    have HB0 := Lib.hid hb0
    have HBD0 := Lib.hid hbd0
    clear hb0 hbd0
    go_loopw [9, 10] (fun i _ wr => ∃ k : Nat, k ≤ l.length ∧ i = .int .i64 k ∧ Bld B b (s ++ itemsK (l.take k)) wr ∧ Below B w wr) (fun i _ _ => l.length - (intOf i).toNat)
    case atStart => exact ⟨0, Nat.zero_le _, rfl, by simpa [itemsK] using HBD0.out, HB0.out⟩
    case round =>
      obtain ⟨k, hk, rfl, hbd, hb⟩ := hrel
      have HB := Lib.hid hb
      have HBR := Lib.hid hbd
      have hzb := hbd.lt
      have hzB := hbd.2
      clear hb hbd
      have htl := itemsK_take_le l k
      by_cases hlt : k < l.length
      · obtain ⟨b1, o1, u1, e1, hb1, cu1, ku1⟩ := (H1.out.keep (.of_belowB HPB.out HB.out)).at k hlt
        subst e1
        have KU1 := Lib.hid ku1
        have hki : (k : Int) < (l.length : Int) := by omega
        have hk0 : (0 : Int) ≤ (k : Int) := by omega
        have HSZ := Lib.hid (HN.out k hlt)
        have hpg := HG.out k hlt
        have hpl : s.length + (itemsK (l.take k)).length + (printK l[k]).length + 5 ≤ 1099511627776 := by rw [HP.out] at hpg; simp at hpg; omega
        have htk : l.take (k + 1) = l.take k ++ [l[k]] := List.take_succ_eq_append_getElem hlt
        have HTK : Hid (s ++ itemsK (l.take (k + 1)) = s ++ itemsK (l.take k) ++ itemK l[k]) := by show _ = _; rw [htk, itemsK_snoc, List.append_assoc]
        clear ku1 htk hpg
        obtain ⟨A2, n2, c2, e2, hn2, hn3⟩ : ∃ A2 n2 c2, u1 = .slice A2 n2 c2 ∧ (l[k].from = [] ↔ n2 = 0) ∧ n2 ≤ 9223372036854775807 := by
          have kk := KU1.out
          generalize l[k] = q at kk
          cases q with
          | mk q =>
            obtain ⟨A2, c2, e2, hm2⟩ := kk.form
            exact ⟨A2, q.length, c2, e2, by constructor; (intro h; rw [show q = [] from h]; rfl); (intro h; exact List.eq_nil_of_length_eq_zero h), by unfold maxLen at hm2; omega⟩
        subst e2
        generalize hq : l[k] = q at *
        have HQ := Lib.hid hq
        clear hq
        have hSl : (s ++ itemsK (l.take k)).length = s.length + (itemsK (l.take k)).length := by simp
        generalize itemsK (l.take k) = S at *
        generalize hSS : s ++ S = T at *
        clear hSS
        have hbn := HBR.out.alloc (.cells #[.slice A2 n2 c2] 25)
        have hbn' : Below B w (wr.alloc (.cells #[.slice A2 n2 c2] 25)) := HB.out.trans ((below_new wr _).mono hzB)
        have HBN := Lib.hid hbn
        have HBN' := Lib.hid hbn'
        have hTl : T.length + 5 ≤ 140737488355328 := by omega
        clear hbn hbn'
        by_cases hf : q.from = []
        · have hn0 : n2 = 0 := hn2.1 hf
          subst hn0
          have HI : Hid (T ++ itemK q = T ++ [42, 32, 45, 62, 32]) := by
            show _ = _
            unfold itemK wrapK; rw [if_pos hf]
            have : q = .mk [] := by cases q with | mk l2 => exact congrArg K.mk hf
            rw [this, printK_nil]; rfl
          clear hn2 hf hSl
          go_wp2_with fail
          refine (writeString_b B b T _ _ HBN.out (by show T.length + 5 ≤ _; exact hTl)).mono ?_
          rintro e w1 ⟨rfl, d1, d2, _⟩
          have HD1 : Hid (Bld B b (T ++ [42, 32, 45, 62, 32]) w1) := d1
          have HD2 := Lib.hid (HBN'.out.trans d2)
          clear d1 d2
          go_wp2
          go_roundw
          case rel => exact ⟨k + 1, by omega, by go_num, by rw [HTK.out, HI.out]; exact HD1.out, HD2.out⟩
          case measure => simp [intOf]; omega
        · have hn0 : ((n2 : Int) == 0) = false := by rw [beq_eq_false_iff_ne]; have : n2 ≠ 0 := fun h => hf (hn2.2 h); omega
          have HI : Hid (T ++ itemK q = T ++ [40] ++ printK q ++ [41, 32, 45, 62, 32]) := by show _ = _; unfold itemK wrapK; rw [if_neg hf]; simp
          clear hn2 hf
          go_wp2_with fail
          refine (writeString_b B b T _ _ HBN.out (by show T.length + 1 ≤ _; omega)).mono ?_
          rintro e w1 ⟨rfl, d1, d2, d3⟩
          have y1 := kept_new d3 (by omega)
          have HD1 : Hid (Bld B b (T ++ [40]) w1) := d1
          have hd2 := HBN'.out.trans d2
          have HKQ := Lib.hid (KU1.out.keep (Keeps.of_belowB HPB.out (((below_new wr (.cells #[.slice A2 n2 c2] 25)).mono hzB).trans d2)))
          have hz1 : wr.heap.size < w1.heap.size := by have := d2.size; simp at this; omega
          have HD2 := Lib.hid hd2
          clear d1 d2 d3 hd2
          go_wp2_with fail
          refine (IH.out q _ (T ++ [40]) w1 HSZ.out HKQ.out HD1.out (by simp; omega)).mono ?_
          rintro e w2 ⟨rfl, d1, d2⟩
          have HE1 := Lib.hid d1
          have HE2 := Lib.hid (HD2.out.trans d2)
          clear d1 d2
          go_wp2_with fail
          refine (writeString_b B b _ _ _ HE1.out (by simp; show _ + 5 ≤ _; omega)).mono ?_
          rintro e w3 ⟨rfl, d1, d2, _⟩
          have HF1 : Hid (Bld B b (T ++ [40] ++ printK q ++ [41, 32, 45, 62, 32]) w3) := d1
          have HF2 := Lib.hid (HE2.out.trans d2)
          clear d1 d2
          go_wp2
          go_roundw
          case rel => exact ⟨k + 1, by omega, by go_num, by rw [HTK.out, HI.out]; exact HF1.out, HF2.out⟩
          case measure => simp [intOf]; omega
      · have hd : decide (k < l.length) = false := by simpa using hlt
        have hkl : l.take k = l := List.take_of_length_le (by omega)
        have HKL : Hid (s ++ printK (.mk l) = s ++ itemsK (l.take k) ++ [42]) := by show _ = _; rw [HP.out, hkl, List.append_assoc]
        clear hkl
        have hSl : (s ++ itemsK (l.take k)).length = s.length + (itemsK (l.take k)).length := by simp
        generalize s ++ itemsK (l.take k) = T at *
        go_wp2_with fail
        refine (writeString_b B b T _ _ HBR.out (by show T.length + 1 ≤ _; omega)).mono ?_
        rintro e w1 ⟨rfl, d1, d2, _⟩
        have HD1 : Hid (Bld B b (T ++ [42]) w1) := d1
        have HD2 := Lib.hid (HB.out.trans d2)
        clear d1 d2
        go_wp2
        go_end0
        exact ⟨rfl, by rw [HKL.out]; exact HD1.out, HD2.out⟩

set_option maxRecDepth 100000 in
set_option maxHeartbeats 1000000 in
theorem print_any (P : Nat → Prop) (k : K) (v : Value) (w : World) (h : KAt P w k v) (hlen : (printK k).length ≤ 1099511627776) :
    Calls Try.prog 11 #[.agg #[v]] w fun e w' => e = .returned (.string ⟨(printK k).toArray⟩) ∧ Below w.heap.size w w' := by
  have H := Lib.hid h.bound'
  obtain ⟨A, n, c, rfl⟩ : ∃ A n c, v = .slice A n c := by
    cases k with
    | mk l => obtain ⟨A, c, e, _⟩ := h.form; exact ⟨A, _, c, e⟩
  clear h
  go_enter Try.func11, Try.ntmps11
  go_wp2_with fail
  have hb1 : Below w.heap.size w ((w.alloc (.cells #[.slice A n c] 25)).alloc (.cells #[.pointer none, .slice none 0 0] 75)) := (below_new w _).trans ((below_new _ _).mono (by simp))
  have hbl : Bld (w.heap.size + 1) (w.heap.size + 1) [] ((w.alloc (.cells #[.slice A n c] 25)).alloc (.cells #[.pointer none, .slice none 0 0] 75)) := by
    refine ⟨.inl ⟨Nat.le_refl _, .slice none 0 0, ?_, World.ownsRowF_of (World.ownsRow_nil _ _ _ _), by simp [Value.ownBlock]⟩, by simp⟩
    have h9 := (MapKept.heap_alloc (w.alloc (.cells #[.slice A n c] 25)) (.cells #[.pointer none, .slice none 0 0] 75)).1
    simpa using h9
  have hk := H.out.on hb1
  generalize (w.alloc (.cells #[.slice A n c] 25)).alloc (.cells #[.pointer none, .slice none 0 0] 75) = w0 at *
  have HB1 := Lib.hid hb1
  clear hb1
  refine (write_any _ (w.heap.size + 1) (w.heap.size + 1) (fun x (hx : x < w.heap.size) => Nat.lt_succ_of_lt hx) _ k _ [] w0 (Nat.le_refl _) hk hbl (by simpa using hlen)).mono ?_
  rintro e w1 ⟨rfl, d1, d2⟩
  have HD2 := Lib.hid (HB1.out.trans (d2.mono (Nat.le_succ _)))
  rw [List.nil_append] at d1
  have hBw := d1.2
  have HD1 := Lib.hid d1
  clear d1 d2 hk hbl
  go_wp2_with fail
  refine (Try.Builder_String_any_k (w.heap.size + 1) (w.heap.size + 1) (printK k) w1 HD1.out.1 hBw).mono ?_
  rintro e w2 ⟨rfl, _, d2, _⟩
  have HE2 := Lib.hid (HD2.out.trans (d2.mono (Nat.le_succ _)))
  clear d2
  go_wp2
  go_ret
  exact ⟨rfl, HE2.out⟩
end Go.Proofs.Ytomhojpoaicioaa
