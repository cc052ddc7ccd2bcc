/- The contract of the document's Nameless of types (chapter 4): the small cases. Conditions: names of at most 2^20 bytes, numbers from 0 to 2^20, at most 2^20 nodes. -/
import Derived.Test.YtbdfjboojokgdaaDoorJS25
import Derived.Test.YtbdfjboojokgdaaDoorJS34
namespace Go.Proofs.YtbdfjboojokgdaaDoor
open Go.RowKit

/-- What Nameless tells. -/
def NlRes (t : Ty) (names : List ByteArray) (w : World) (e : Ending) (w' : World) : Prop := e = .returned (.string ⟨(t.nt names.reverse).pr.toArray⟩) ∧ Below w.heap.size w w'
def NlIs (n : Nat) : Prop := ∀ (P Q : Nat → Prop) (t : Ty) (names : List ByteArray) (v nv : Value) (w : World), t.sz ≤ n → TyAt P w t v → StrsAt Q w nv names → t.okN → t.lt 1048576 → names.length + t.sz ≤ 1048576 → Calls Tryd.prog 69 #[v, nv] w (NlRes t names w)
theorem mk_toList (s : ByteArray) : (⟨s.data.toList.toArray⟩ : ByteArray) = s := by cases s; simp
theorem cons_mk (c : UInt8) (l : List UInt8) : (⟨#[c]⟩ : ByteArray) ++ ⟨l.toArray⟩ = ⟨(c :: l).toArray⟩ := append_mk2 [c] l
theorem cons_mkS (c : UInt8) (s : ByteArray) : (⟨#[c]⟩ : ByteArray) ++ s = ⟨(c :: s.data.toList).toArray⟩ := by have h := cons_mk c s.data.toList; rw [mk_toList] at h; exact h
theorem nt_pr_le {t : Ty} {names : List ByteArray} (h : t.lt 1048576) (hz : names.length + t.sz ≤ 1048576) : (t.nt names.reverse).pr.length ≤ 1099516870656 := by
  have h1 := nt_len 1048576 t names.reverse h (by rw [List.length_reverse]; exact hz)
  have h2 : (1048576 + 5) * t.sz ≤ (1048576 + 5) * 1048576 := Nat.mul_le_mul_left _ (by omega)
  omega
set_option maxRecDepth 100000 in
set_option maxHeartbeats 1000000 in
theorem nl_hole (P Q : Nat → Prop) (n : Int) (names : List ByteArray) (v nv : Value) (w : World) (h : TyAt P w (.hole n) v) (hs : StrsAt Q w nv names) (hok : 0 ≤ n) (hlt : n.toNat ≤ 1048576) : Calls Tryd.prog 69 #[v, nv] w (NlRes (.hole n) names w) := by
  obtain ⟨A, c, rfl, _, _⟩ := h.form
  obtain ⟨An, cn, rfl, _, _⟩ := hs.shape
  simp only [Ty.form, Ty.num, Ty.name, Ty.args, List.length_nil]
  unfold NlRes
  obtain ⟨W, eW, q1, b1, z1⟩ := one_box w (.int .i64 1) (.int .i64 n) (.string ⟨#[]⟩) (.slice A 0 c) 25
  have HEW := Lib.hid eW
  have HB := Lib.hid b1
  obtain ⟨x0, x1, x2, x3, x4, _⟩ := q1
  have HD := Lib.hid (fun q => decimal_any (n.toNat + 1) n.toNat (Nat.lt_succ_self _) (by omega) q)
  have e9 : ((n.toNat : Nat) : Int) = n := by omega
  rw [e9] at HD
  have hl := dec_len _ n.toNat (Nat.lt_succ_self _)
  have hz9 := mk_size (Lib.decDigits n.toNat)
  have HE : Hid ((⟨#[63]⟩ : ByteArray) ++ ⟨(Lib.decDigits n.toNat).toArray⟩ = ⟨((Ty.hole n).nt names.reverse).pr.toArray⟩) := cons_mk _ _
  generalize ((Ty.hole n).nt names.reverse).pr = D at *
  generalize hXX : (⟨(Lib.decDigits n.toNat).toArray⟩ : ByteArray) = X at *
  have hx : X.size ≤ 1099511627776 := by omega
  have hd : ∀ q : World, (Op.stringOp .add ⟨#[63]⟩ X).run Tryd.prog q = .ok (.string (⟨#[63]⟩ ++ X)) q := fun q => run_string_add_sum q _ _ (by show 1 + _ ≤ _; omega)
  clear eW b1 h hs hl hz9 hXX
  go_enter Tryd.func69, Tryd.ntmps69
  go_wp2_with fail
  rw [HEW.out]
  go_wp2_with fail
  refine (HD.out _).mono ?_
  rintro e y ⟨rfl, hb⟩
  go_wp2
  go_ret
  exact ⟨by first | rfl | (rw [HE.out]; rfl), HB.out.trans (hb.mono HB.out.size)⟩
set_option maxRecDepth 100000 in
set_option maxHeartbeats 1000000 in
theorem nl_con (P Q : Nat → Prop) (s : ByteArray) (names : List ByteArray) (v nv : Value) (w : World) (h : TyAt P w (.con s) v) (hs : StrsAt Q w nv names) : Calls Tryd.prog 69 #[v, nv] w (NlRes (.con s) names w) := by
  obtain ⟨A, c, rfl, _, _⟩ := h.form
  obtain ⟨An, cn, rfl, _, _⟩ := hs.shape
  simp only [Ty.form, Ty.num, Ty.name, Ty.args, List.length_nil]
  unfold NlRes
  obtain ⟨W, eW, q1, b1, z1⟩ := one_box w (.int .i64 3) (.int .i64 0) (.string s) (.slice A 0 c) 25
  have HEW := Lib.hid eW
  have HB := Lib.hid b1
  obtain ⟨x0, x1, x2, x3, x4, _⟩ := q1
  have HE : Hid (s = ⟨((Ty.con s).nt names.reverse).pr.toArray⟩) := (mk_toList s).symm
  generalize ((Ty.con s).nt names.reverse).pr = D at *
  clear eW b1 h hs
  go_enter Tryd.func69, Tryd.ntmps69
  go_wp2_with fail
  rw [HEW.out]
  go_wp2
  go_ret
  exact ⟨by first | rfl | (rw [← HE.out]; rfl) | (rw [HE.out]; rfl), HB.out⟩
theorem idx_rev {s : ByteArray} : ∀ (l : List ByteArray) (k : Nat), k ≤ l.length → (∀ j (h : j < l.length), k ≤ j → l[j] ≠ s) → idxB l.reverse s = match idxB (l.take k).reverse s with | some i => some (i + (l.length - k)) | none => none := by
  intro l k hk hno
  have e : l = l.take k ++ l.drop k := (List.take_append_drop k l).symm
  have hd : ∀ x ∈ l.drop k, x ≠ s := fun x hx => by
    obtain ⟨j, hj, rfl⟩ := List.getElem_of_mem hx
    rw [List.getElem_drop]
    exact hno _ _ (by omega)
  have key : ∀ (a b : List ByteArray), (∀ x ∈ a, x ≠ s) → idxB (a ++ b) s = match idxB b s with | some i => some (i + a.length) | none => none := by
    intro a
    induction a with
    | nil => intro b _; cases h : idxB b s <;> simp [h]
    | cons x r ih =>
      intro b hx
      rw [List.cons_append, idxB, if_neg (hx x (List.mem_cons_self ..)), ih b (fun y hy => hx y (List.mem_cons_of_mem _ hy))]
      cases h : idxB b s <;> simp [Nat.add_assoc]
  conv => lhs; rw [e]
  rw [List.reverse_append, key _ _ (fun x hx => hd x (List.mem_reverse.1 hx)), List.length_reverse, List.length_drop]
theorem idx_hit {s : ByteArray} {l : List ByteArray} {k : Nat} (hk : k < l.length) (hs : l[k] = s) (hno : ∀ j (h : j < l.length), k < j → l[j] ≠ s) : idxB l.reverse s = some (l.length - 1 - k) := by
  rw [idx_rev l (k + 1) (by omega) (fun j h hj => hno j h (by omega)), List.take_succ_eq_append_getElem hk, List.reverse_append]
  simp only [List.reverse_cons, List.reverse_nil, List.nil_append, List.singleton_append, idxB, hs, if_true]
  congr 1; omega
theorem idx_no {s : ByteArray} {l : List ByteArray} (hno : ∀ j (h : j < l.length), l[j] ≠ s) : idxB l.reverse s = none := by
  rw [idxB_none]
  intro h
  obtain ⟨j, hj, e⟩ := List.getElem_of_mem (List.mem_reverse.1 h)
  exact hno j hj e
set_option maxRecDepth 100000 in
set_option maxHeartbeats 1000000 in
theorem nl_var (P Q : Nat → Prop) (s : ByteArray) (names : List ByteArray) (v nv : Value) (w : World) (h : TyAt P w (.var s) v) (hs : StrsAt Q w nv names) (hlt : s.size ≤ 1048576) (hz : names.length ≤ 1048576) : Calls Tryd.prog 69 #[v, nv] w (NlRes (.var s) names w) := by
  obtain ⟨A, c, rfl, _, _⟩ := h.form
  obtain ⟨An, cn, rfl, hcn, hmn⟩ := hs.shape
  unfold maxLen at hmn
  simp only [Ty.form, Ty.num, Ty.name, Ty.args, List.length_nil]
  unfold NlRes
  obtain ⟨W, eW, q1, b1, z1⟩ := one_box w (.int .i64 2) (.int .i64 0) (.string s) (.slice A 0 c) 25
  have HEW := Lib.hid eW
  have HB := Lib.hid b1
  have HS := Lib.hid (hs.on b1)
  have HQ := Lib.hid q1
  obtain ⟨x0, x1, x2, x3, x4, _⟩ := q1
  have HD : Hid (∀ (m : Nat), m ≤ 1048576 → ∀ (q : World), Calls Tryd.prog 77 #[.int .i64 m] q fun e w' => e = .returned (.string ⟨(Lib.decDigits m).toArray⟩) ∧ Below q.heap.size q w') := fun m hm q => decimal_any (m + 1) m (Nat.lt_succ_self _) (by omega) q
  have HN : Hid ((∀ j (h : j < names.length), names[j] ≠ s) → (⟨#[39]⟩ : ByteArray) ++ s = ⟨((Ty.var s).nt names.reverse).pr.toArray⟩) := fun hno => by
    rw [cons_mkS]
    simp only [Ty.nt, idx_no hno, NT.pr]
  have HY : Hid (∀ k (hk : k < names.length), names[k] = s → (∀ j (h : j < names.length), k < j → names[j] ≠ s) → (⟨#[35]⟩ : ByteArray) ++ ⟨(Lib.decDigits (names.length - 1 - k)).toArray⟩ = ⟨((Ty.var s).nt names.reverse).pr.toArray⟩) := fun k hk e hno => by
    rw [cons_mk]
    simp only [Ty.nt, idx_hit hk e hno, NT.pr]
  have hd9 : ∀ q : World, (Op.stringOp .add ⟨#[39]⟩ s).run Tryd.prog q = .ok (.string (⟨#[39]⟩ ++ s)) q := fun q => run_string_add_sum q _ _ (by show 1 + _ ≤ _; omega)
  generalize ((Ty.var s).nt names.reverse).pr = D at *
  clear eW b1 h hs
  go_enter Tryd.func69, Tryd.ntmps69
  go_wp2_with fail
  rw [HEW.out]
  go_wp2_with fail
  go_loopw [5] (fun i wr => ∃ (k : Nat) (z : Int), k ≤ names.length ∧ i = .int .i64 z ∧ z = (k : Int) - 1 ∧ Hid (∀ j (h : j < names.length), k ≤ j → names[j] ≠ s) ∧ Hid (Below W.heap.size W wr)) (fun i _ => (intOf i + 1).toNat)
  case atStart => exact ⟨names.length, _, Nat.le_refl _, rfl, rfl, fun j h hj => absurd h (by omega), Below.refl _ _⟩
  case round =>
    obtain ⟨k, z, hk, rfl, hz', hno, HBR⟩ := hrel
    clear x0 x1 x2 x3 x4
    obtain ⟨x0, x1, x2, x3, x4, _⟩ := HQ.out.on HBR.out
    have hwr := HBR.out.size
    have HBW := Lib.hid (HB.out.trans (HBR.out.mono HB.out.size))
    rcases k with _ | k
    · obtain rfl : z = -1 := by omega
      have HE := Lib.hid (HN.out (fun j h => hno.out j h (Nat.zero_le _)))
      clear hno hz'
      go_wp2
      go_ret
      exact ⟨by first | rfl | (rw [← HE.out]; rfl) | (rw [HE.out]; rfl), HBW.out⟩
    · obtain rfl : z = (k : Int) := by omega
      have hlt : k < names.length := by omega
      obtain ⟨b, off, e1, hb, hcell⟩ := (HS.out.on HBR.out).at k hlt
      subst e1
      have hki : (k : Int) < (names.length : Int) := by omega
      have hk0 : (0 : Int) ≤ (k : Int) := by omega
      by_cases he : names[k] = s
      · have HE := Lib.hid (HY.out k hlt he (fun j h hj => hno.out j h hj))
        have hbq : (names[k].toList == s.toList) = true := by rw [he]; simp
        have HDK := Lib.hid (HD.out (names.length - 1 - k) (by omega))
        have e9 : ((names.length - 1 - k : Nat) : Int) = (names.length : Int) - 1 - (k : Int) := by omega
        rw [e9] at HDK
        have hl := dec_len _ (names.length - 1 - k) (Nat.lt_succ_self _)
        have hz9 := mk_size (Lib.decDigits (names.length - 1 - k))
        generalize hXX : (⟨(Lib.decDigits (names.length - 1 - k)).toArray⟩ : ByteArray) = X at *
        have hx : X.size ≤ 1099511627776 := by omega
        have hd : ∀ q : World, (Op.stringOp .add ⟨#[35]⟩ X).run Tryd.prog q = .ok (.string (⟨#[35]⟩ ++ X)) q := fun q => run_string_add_sum q _ _ (by show 1 + _ ≤ _; omega)
        generalize names[k] = u at *
        clear he hno hz' hl hz9 hXX e9
        go_wp2_with fail
        go_region
        go_wp2_with fail
        refine (HDK.out _).mono ?_
        rintro e y ⟨rfl, hb2⟩
        go_wp2
        go_ret
        exact ⟨by first | rfl | (rw [HE.out]; rfl), HBW.out.drew.trans (hb2.mono HBW.out.drew.size)⟩
      · have hbq : (names[k].toList == s.toList) = false := by
          rw [beq_eq_false_iff_ne]; intro e; apply he
          have : names[k].data.toList = s.data.toList := by simpa [Lib.toList_data] using e
          cases hss : names[k]; cases hx : s; rw [hss, hx] at this; simp at this; rw [this]
        have HR : Hid (∀ j (h : j < names.length), k ≤ j → names[j] ≠ s) := fun j h hj => by
          by_cases e : j = k
          · subst e; exact he
          · exact hno.out j h (by omega)
        generalize names[k] = u at *
        clear he hno hz'
        go_wp2_with fail
        go_region
        go_wp2
        go_roundw
        case rel => exact ⟨k, _, by omega, by go_num, rfl, HR, HBR.out.drew⟩
        case measure => simp [intOf]
end Go.Proofs.YtbdfjboojokgdaaDoor
