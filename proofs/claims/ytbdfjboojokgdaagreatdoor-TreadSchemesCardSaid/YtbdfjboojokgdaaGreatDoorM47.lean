/- The contract of the document's vars (chapter 5), and what a scheme's variables are. Condition: at most 2^40 names. The contract of the document's Scheme (chapter 5). Conditions: at most 2^40 tokens, the last one an end; what is read is not too great. The contracts of the document's SamePreds, SameScheme (chapter 5) at what is the same, and of Equal at no type. No conditions but those that each theorem names. Both sides of chapter 5's reading, in one form: what is told of a type, of predicates, of a scheme, by numbers and values that do not hang on the case. Conditions: at most 4001 tokens, the last one an end, texts of at most 4000 bytes. -/
import Derived.Test.YtbdfjboojokgdaaGreatDoorM46
import Derived.Test.YtbdfjboojokgdaaGreatDoorM24
import Derived.Test.YtbdfjboojokgdaaGreatDoorM41
import Derived.Test.YtbdfjboojokgdaaGreatDoorM22
import Derived.Test.YtbdfjboojokgdaaGreatDoorM43
namespace Go.Proofs.YtbdfjboojokgdaaGreatDoor
open Go.RowKit Lx

/-- Names, each once, behind those that were met. -/
def add1 (out : List ByteArray) (x : ByteArray) : List ByteArray := if hasB out x = true then out else out ++ [x]
def addS (out l : List ByteArray) : List ByteArray := l.foldl add1 out
theorem addS_take {out l : List ByteArray} {k : Nat} (h : k < l.length) : addS out (l.take (k + 1)) = add1 (addS out (l.take k)) l[k] := by
  unfold addS; rw [List.take_succ_eq_append_getElem h, List.foldl_append]; rfl
theorem add1_len (out : List ByteArray) (x : ByteArray) : (add1 out x).length ≤ out.length + 1 := by unfold add1; split <;> simp
theorem addS_len (l : List ByteArray) : ∀ (out : List ByteArray), (addS out l).length ≤ out.length + l.length := by
  induction l with
  | nil => intro out; simp [addS]
  | cons a r ih =>
    intro out
    have := ih (add1 out a)
    have h1 := add1_len out a
    unfold addS at this ⊢
    simp only [List.foldl_cons, List.length_cons]
    omega
theorem add1_mem {out : List ByteArray} {x y : ByteArray} (h : y ∈ out) : y ∈ add1 out x := by unfold add1; split; exact h; exact List.mem_append_left _ h
theorem addS_mem {l : List ByteArray} : ∀ {out : List ByteArray} {y : ByteArray}, y ∈ out ∨ y ∈ l → y ∈ addS out l := by
  induction l with
  | nil => intro out y h; rcases h with h | h; exact h; cases h
  | cons a r ih =>
    intro out y h
    show y ∈ addS (add1 out a) r
    rcases h with h | h
    · exact ih (.inl (add1_mem h))
    · rcases List.mem_cons.1 h with rfl | h
      · refine ih (.inl ?_)
        unfold add1
        split
        · rename_i hh; exact hasB_mem.1 hh
        · simp
      · exact ih (.inr h)
theorem addS_snoc (out m : List ByteArray) (x : ByteArray) : addS out (m ++ [x]) = add1 (addS out m) x := by unfold addS; rw [List.foldl_append]; rfl
theorem foldS (V : List (ByteArray × Int)) (out : List ByteArray) : ∀ (m : List ByteArray), V.foldl freeS (addS out m) = addS out (V.foldl freeS m) := by
  induction V with
  | nil => intro m; rfl
  | cons p V ih =>
    intro m
    simp only [List.foldl_cons]
    rw [← ih]
    congr 1
    unfold freeS
    by_cases hp : p.2 = 0
    · cases hm : hasB m p.1 with
      | true =>
        have h1 : hasB (addS out m) p.1 = true := hasB_mem.2 (addS_mem (.inr (hasB_mem.1 hm)))
        rw [if_neg (c := p.2 = 0 ∧ hasB (addS out m) p.1 = false) (by rw [h1]; simp), if_neg (by simp)]
      | false =>
        rw [if_pos (c := p.2 = 0 ∧ false = false) ⟨hp, rfl⟩, addS_snoc]
        unfold add1
        cases h1 : hasB (addS out m) p.1 with
        | true => rw [if_neg (by simp), if_pos rfl]
        | false => rw [if_pos ⟨hp, rfl⟩, if_neg (by simp)]
    · rw [if_neg (fun h => hp h.1), if_neg (fun h => hp h.1)]
theorem freeD_addS (out : List ByteArray) (t : Ty) : freeD [] out t = addS out t.free := by
  rw [freeD_is [] out t (fun _ => 0) 0 (Int.le_refl _) (fun s => by simp)]
  exact foldS (layV (fun _ => 0) 0 t) out []
theorem freeD_fn (out : List ByteArray) (a b : Ty) : freeD [] out (Ty.fn a b) = freeD [] (freeD [] out a) b := by
  simp [Ty.fn, freeD]
/-- The variables of so many predicates, behind one another. -/
def varsK (ps : List (ByteArray × Ty)) : List ByteArray := ps.foldl (fun o p => addS o p.2.free) []
theorem varsK_take {ps : List (ByteArray × Ty)} {k : Nat} (h : k < ps.length) : varsK (ps.take (k + 1)) = addS (varsK (ps.take k)) ps[k].2.free := by
  unfold varsK; rw [List.take_succ_eq_append_getElem h, List.foldl_append]; rfl
theorem varsK_funs (ps : List (ByteArray × Ty)) (t : Ty) : ∀ (out : List ByteArray), freeD [] out (funs (ps.map (·.2)) t) = addS (ps.foldl (fun o p => addS o p.2.free) out) t.free := by
  induction ps with
  | nil => intro out; exact freeD_addS out t
  | cons p r ih =>
    intro out
    simp only [List.map_cons, funs, List.foldl_cons]
    rw [freeD_fn, ih, freeD_addS]
theorem scheme_vars (ps : List (ByteArray × Ty)) (t : Ty) : addS (varsK ps) t.free = (funs (ps.map (·.2)) t).free := by
  have h := varsK_funs ps t []
  rw [free_is] at h
  exact h.symm
theorem free_len (t : Ty) : t.free.length ≤ t.sz := by
  rw [← free_is]; have := freeD_len [] [] t; simpa using this
theorem varsK_len (ps : List (ByteArray × Ty)) : (varsK ps).length ≤ (ps.map (fun p => p.2.sz + 3)).sum := by
  have h : ∀ (ps : List (ByteArray × Ty)) (out : List ByteArray), (ps.foldl (fun o p => addS o p.2.free) out).length ≤ out.length + (ps.map (fun p => p.2.sz + 3)).sum := by
    intro ps
    induction ps with
    | nil => intro out; simp
    | cons p r ih =>
      intro out
      simp only [List.foldl_cons, List.map_cons, List.sum_cons]
      have h1 := ih (addS out p.2.free)
      have h2 := addS_len p.2.free out
      have h3 := free_len p.2
      omega
  have := h ps []
  simpa [varsK] using this
set_option maxRecDepth 100000 in
set_option maxHeartbeats 1000000 in
theorem varsX_any (base : Nat) (out l : List ByteArray) (ov lv : Value) (w : World) (ho : OwnS base w ov out) (hl : StrsAt (fun b => b < w.heap.size ∧ ov.ownBlock ≠ some b) w lv l) (hba : base ≤ w.heap.size) (hz : out.length + l.length ≤ 1099511627776) :
    Calls Tryz.prog 50 #[ov, lv] w (GrewS base w ov (addS out l)) := by
  obtain ⟨A1, c1, rfl, hc1, hm1⟩ := hl.shape
  have HL := Lib.hid hl
  have hoI := own_form ho
  obtain ⟨A2, c2, rfl⟩ := hoI
  have HO := Lib.hid ho
  obtain ⟨i0, hi, hz0, hzs, hzb⟩ := info_parts' Tryz.info9
  have HKEEP : Hid (∀ wr, w.grownBy wr (Value.slice A2 out.length c2).ownBlock → StrsAt (fun b => b < w.heap.size ∧ (Value.slice A2 out.length c2).ownBlock ≠ some b) wr (.slice A1 l.length c1) l) := fun wr hg =>
    HL.out.keep ⟨hg.size, fun b off hp hlt => World.cell?_of_block (a := ⟨b, off, none⟩) (hg.block b hlt (fun e => hp.2 e.symm))⟩
  clear hl ho
  go_enter Tryz.func50, Tryz.ntmps50
  go_wp2_with fail
  go_loopw [0, 5] (fun o i wr => ∃ k : Nat, k ≤ l.length ∧ i = .int .i64 k ∧ OwnS base wr o (addS out (l.take k)) ∧ w.grownBy wr (Value.slice A2 out.length c2).ownBlock ∧ (o.ownBlock = (Value.slice A2 out.length c2).ownBlock ∨ ∃ g, o.ownBlock = some g ∧ w.heap.size ≤ g)) (fun _ i _ => l.length - (intOf i).toNat)
  case atStart => exact ⟨0, Nat.zero_le _, rfl, HO.out, World.grownBy.refl _ _, .inl rfl⟩
  case round =>
    obtain ⟨k, hk, rfl, hok, hgk, hak⟩ := hrel
    obtain ⟨A5, c5, rfl⟩ := own_form hok
    have hgs := hgk.size
    by_cases hlt : k < l.length
    · have hsk := (HKEEP.out wr hgk)
      obtain ⟨b, off, e9, hbl, hcell⟩ := hsk.at k hlt
      subst e9
      have HTK := Lib.hid (addS_take (out := out) hlt)
      have hlen := addS_len (l.take k) out
      have hlen2 : (addS out (l.take k)).length ≤ 1099511627776 := by rw [List.length_take] at hlen; omega
      have HH := Lib.hid (has_any _ (addS out (l.take k)) l[k] _ wr (OwnS.strs hok))
      have HOK := Lib.hid hok
      have HGK := Lib.hid hgk
      have HAK := Lib.hid hak
      have HOWN := Lib.hid (own_below hok (below_new wr (.cells #[.string l[k]] 9)))
      have HNEW := Lib.hid (news_one wr (.string l[k]) 9)
      have HONE := Lib.hid (one_str l[k])
      have hki : (k : Int) < (l.length : Int) := by omega
      have hk0 : (0 : Int) ≤ (k : Int) := by omega
      clear hok hgk hak hsk
      generalize hx : l[k] = x at *
      cases hq : hasB (addS out (l.take k)) x with
      | true =>
        rw [hq] at HH
        have HSAME : Hid (addS out (l.take (k + 1)) = addS out (l.take k)) := by show _ = _; rw [HTK.out]; unfold add1; rw [if_pos hq]
        clear hq
        go_wp2_with fail
        refine HH.out.mono ?_
        rintro e w' ⟨rfl, rfl⟩
        go_wp2
        go_roundw
        case rel => exact ⟨k + 1, by omega, by go_num, by rw [HSAME.out]; exact HOK.out, HGK.out, HAK.out⟩
        case measure => simp [intOf]; omega
      | false =>
        rw [hq] at HH
        have HNX : Hid (addS out (l.take (k + 1)) = addS out (l.take k) ++ [x]) := by show _ = _; rw [HTK.out]; unfold add1; rw [if_neg (by rw [hq]; simp)]
        clear hq
        generalize addS out (l.take k) = cur at *
        generalize hnx : addS out (l.take (k + 1)) = nxt at *
        have HNXE := Lib.hid hnx
        clear hnx
        have HRES : Hid (∀ (g cap : Nat) (w2 : World), w2.ownsRow base 9 1 (.slice (some ⟨g, 0, none⟩) (cur.length + 1) cap) (cur.length + 1) (cur.map Value.string ++ [.string x]) → (wr.alloc (.cells #[.string x] 9)).grownBy w2 (Value.slice A5 cur.length c5).ownBlock → ((Value.slice A5 cur.length c5).ownBlock = some g ∨ g = wr.heap.size + 1) → OwnS base w2 (.slice (some ⟨g, 0, none⟩) (cur.length + 1) cap) nxt ∧ w.grownBy w2 (Value.slice A2 out.length c2).ownBlock ∧ ((Value.slice (some ⟨g, 0, none⟩) (cur.length + 1) cap).ownBlock = (Value.slice A2 out.length c2).ownBlock ∨ ∃ g', (Value.slice (some ⟨g, 0, none⟩) (cur.length + 1) cap).ownBlock = some g' ∧ w.heap.size ≤ g')) := fun g cap w2 h2 g2 hat => by
          refine ⟨by rw [HNX.out]; unfold OwnS; rw [List.map_append, List.length_append]; exact h2, ?_, ?_⟩
          · have h3 := (grown_of_below (below_new wr (.cells #[.string x] 9)) (Value.slice A5 cur.length c5).ownBlock).trans g2
            exact HGK.out.andThen h3 (fun j hj => by
              rcases HAK.out with h | ⟨g', h, h'⟩
              · right; rw [← h]; exact hj
              · left; rw [h] at hj; injection hj with hj; omega)
          · rcases hat with h9 | h9
            · rcases HAK.out with h | ⟨g', h, h'⟩
              · exact .inl (by rw [← h, h9]; rfl)
              · rw [h] at h9; injection h9 with h9; exact .inr ⟨g, rfl, by omega⟩
            · exact .inr ⟨g, rfl, by omega⟩
        generalize cur.map Value.string = mv at *
        go_wp2_with fail
        refine HH.out.mono ?_
        rintro e w' ⟨rfl, rfl⟩
        go_wp2_with (at_builtin; refine wpList_append_lies _ rfl (.tmp 19) (.tmp 24) 23 rfl base 9 i0 (.string ⟨#[]⟩) 1 16 Tryz.underlying23 hi hz0 hzs hzb rfl (by decide) (.slice A5 cur.length c5) cur.length mv rfl HOWN.out ⟨wr.heap.size, 0, none⟩ 1 1 [.string x] rfl rfl HNEW.out HONE.out (by omega) (by unfold maxLen; omega) (by omega) (by simp; omega) (wr.heap.size + 1) (by simp) ?_; intro g cap w2 h2 g2 hat _; have HP := Lib.hid (HRES.out g cap w2 h2 g2 hat); clear h2 g2 hat)
        go_roundw
        case rel => exact ⟨k + 1, by omega, by go_num, by rw [HNXE.out]; exact HP.out.1, HP.out.2⟩
        case measure => simp [intOf]; omega
    · have hd : decide (k < l.length) = false := by simpa using hlt
      have hkl : l.take k = l := List.take_of_length_le (by omega)
      rw [hkl] at hok hak ⊢
      have HRES : Hid (GrewS base w (.slice A2 out.length c2) (addS out l) (.returned (.slice A5 (addS out l).length c5)) wr) := ⟨_, rfl, hok, hgk, hak⟩
      clear hok hgk hak
      go_wp2
      go_ret
      exact HRES.out
end Go.Proofs.YtbdfjboojokgdaaGreatDoor
namespace Go.Proofs.YtbdfjboojokgdaaGreatDoor
open Go.RowKit Lx

/-- Predicates as a slice, in blocks of which P holds. -/
def PsP (P : Nat → Prop) (w : World) (ps : List (ByteArray × Ty)) (v : Value) : Prop :=
  ∃ A c, v = .slice A ps.length c ∧ (ps = [] ∨ ∃ b, A = some ⟨b, 0, none⟩ ∧ b < w.heap.size ∧ P b ∧ ∀ i (h : i < ps.length), ∃ f n s A' l c', w.cell? ⟨b, i * 5, none⟩ = some (.string ps[i].1) ∧ w.cell? ⟨b, i * 5 + 1, none⟩ = some (.int .i64 f) ∧ w.cell? ⟨b, i * 5 + 2, none⟩ = some (.int .i64 n) ∧ w.cell? ⟨b, i * 5 + 3, none⟩ = some (.string s) ∧ w.cell? ⟨b, i * 5 + 4, none⟩ = some (.slice A' l c') ∧ TyAt P w ps[i].2 (.agg #[.int .i64 f, .int .i64 n, .string s, .slice A' l c']))
theorem PsP.nil (P : Nat → Prop) (w : World) : PsP P w [] (.slice none 0 0) := ⟨none, 0, rfl, .inl rfl⟩
theorem PRow.psP {base : Nat} {w : World} {ps : List (ByteArray × Ty)} {v : Value} (h : PRow base w ps v) : PsP (fun b => base ≤ b ∧ b < w.heap.size) w ps v := by
  obtain ⟨cs, ho, ht⟩ := h
  rcases ho.2 with ⟨h1, h2⟩ | ⟨g, cap, cur, h1, h2, h3, h4, h5, h6, h7⟩
  · exact ⟨none, 0, by rw [h1, h2], .inl (List.eq_nil_of_length_eq_zero h2)⟩
  · rw [h1] at ho
    refine ⟨some ⟨g, 0, none⟩, cap, h1, .inr ⟨g, rfl, lt_of_block h3, ⟨h2, lt_of_block h3⟩, fun i hi => ?_⟩⟩
    obtain ⟨x0, x1, x2, x3, c0, c1, c2, c3, c4, hx⟩ := ht i hi
    obtain ⟨f, n, s, A', l, c', e⟩ := hx.flat
    simp only [Value.agg.injEq, Array.mk.injEq, List.cons.injEq, and_true] at e
    obtain ⟨rfl, rfl, rfl, rfl⟩ := e
    exact ⟨f, n, s, A', l, c', by rw [World.ownsRow.cellAt ho _ (by omega)]; exact c0, by rw [World.ownsRow.cellAt ho _ (by omega)]; exact c1, by rw [World.ownsRow.cellAt ho _ (by omega)]; exact c2, by rw [World.ownsRow.cellAt ho _ (by omega)]; exact c3, by rw [World.ownsRow.cellAt ho _ (by omega)]; exact c4, hx.bound.mono (fun b hb => ⟨hb.1.1, hb.2⟩)⟩
theorem PsP.keep {P : Nat → Prop} {w w' : World} {ps : List (ByteArray × Ty)} {v : Value} (h : PsP P w ps v) (hb : Keeps P w w') : PsP P w' ps v := by
  obtain ⟨A, c, e, hr⟩ := h
  refine ⟨A, c, e, ?_⟩
  rcases hr with h9 | ⟨b, e2, hlt, hp, hc⟩
  · exact .inl h9
  · refine .inr ⟨b, e2, Nat.lt_of_lt_of_le hlt hb.size, hp, fun i hi => ?_⟩
    obtain ⟨f, n, s, A', l, c', k0, k1, k2, k3, k4, hx⟩ := hc i hi
    have hk := fun o => hb.cell b o hp hlt
    exact ⟨f, n, s, A', l, c', (hk _).trans k0, (hk _).trans k1, (hk _).trans k2, (hk _).trans k3, (hk _).trans k4, hx.keep hb⟩
theorem PsP.mono {P Q : Nat → Prop} {w : World} {ps : List (ByteArray × Ty)} {v : Value} (h : PsP P w ps v) (hpq : ∀ b, P b → Q b) : PsP Q w ps v := by
  obtain ⟨A, c, e, hr⟩ := h
  refine ⟨A, c, e, ?_⟩
  rcases hr with h9 | ⟨b, e2, hlt, hp, hc⟩
  · exact .inl h9
  · refine .inr ⟨b, e2, hlt, hpq b hp, fun i hi => ?_⟩
    obtain ⟨f, n, s, A', l, c', k0, k1, k2, k3, k4, hx⟩ := hc i hi
    exact ⟨f, n, s, A', l, c', k0, k1, k2, k3, k4, hx.mono hpq⟩
theorem PsP.on {P : Nat → Prop} {w w' : World} {ps : List (ByteArray × Ty)} {v : Value} (h : PsP P w ps v) (hb : Below w.heap.size w w') : PsP P w' ps v := h.keep (.of_below hb)
/-- What the document's Scheme tells. -/
def XSRes (toks : List Tok) (out : GotS) (w : World) (e : Ending) (w' : World) : Prop :=
  match out with
  | .ok ps t r => ∃ f n s A l c Ap cp Av nv cv, e = .returned (.agg #[.int .i64 f, .int .i64 n, .string s, .slice A l c, .slice Ap ps.length cp, .slice Av nv cv, .int .i64 ((toks.length - r.length : Nat) : Int), .int .i64 0, .int .i64 0]) ∧ StrsAt (fun b => w.heap.size ≤ b) w' (.slice Av nv cv) (funs (ps.map (·.2)) t).free ∧ PsP (fun b => w.heap.size ≤ b) w' ps (.slice Ap ps.length cp) ∧ TyAt (fun b => w.heap.size ≤ b) w' t (.agg #[.int .i64 f, .int .i64 n, .string s, .slice A l c]) ∧ Below w.heap.size w w'
  | .no ec p => e = .returned (.agg #[.int .i64 0, .int .i64 0, .string ⟨#[]⟩, .slice none 0 0, .slice none 0 0, .slice none 0 0, .int .i64 0, .int .i64 ec, .int .i64 p]) ∧ Below w.heap.size w w'
/-- What Preds told, in two ways. -/
theorem px_cases {toks : List Tok} {i : Nat} {w w' : World} {e : Ending} (hi : i < toks.length) (hE : EndsT toks) (h : PXRes toks i toks[i].place (predsRaw (toks.drop i)) w e w') :
    (schemeRaw (toks.drop i) = .no 2 toks[i].place ∧ e = .returned (.agg #[.int .i64 0, .int .i64 0, .string ⟨#[]⟩, .slice none 0 0, .slice none 0 0, .slice none 0 0, .int .i64 0, .int .i64 2, .int .i64 toks[i].place]) ∧ Below w.heap.size w w') ∨
    ∃ ps Ap cp Pn, e = .returned (.agg #[.int .i64 0, .int .i64 0, .string ⟨#[]⟩, .slice none 0 0, .slice Ap ps.length cp, .slice none 0 0, .int .i64 (Pn : Nat), .int .i64 0, .int .i64 0]) ∧ PsP (fun b => w.heap.size ≤ b ∧ b < w'.heap.size) w' ps (.slice Ap ps.length cp) ∧ Below w.heap.size w w' ∧ EndsT (toks.drop Pn) ∧ ps.length ≤ 16 ∧ schemeRaw (toks.drop i) = withP ps (typeL (toks.drop Pn) 0) := by
  have hh : (((toks.drop i).head?.map Tok.place).getD 0) = toks[i].place := by rw [List.drop_eq_getElem_cons hi]; rfl
  unfold schemeRaw
  cases ho : predsRaw (toks.drop i) with
  | none =>
    rw [ho] at h
    obtain ⟨rfl, hb⟩ := h
    exact .inr ⟨[], none, 0, i, rfl, PsP.nil _ _, hb, hE.drop hi, by simp, rfl⟩
  | some o =>
    obtain ⟨ps, q⟩ := o
    rw [ho] at h
    simp only
    rcases h with ⟨h16, rfl, hb⟩ | ⟨h16, A, c, rfl, hr, hb, hq, hne⟩
    · exact .inl ⟨by rw [if_pos h16, hh], rfl, hb⟩
    · have hd : toks.drop (toks.length - q.length) = q := drop_suf (i := 0) (by simpa using hq)
      have hql := List.length_pos_iff.2 hne
      have hqt := hq.length_le
      refine .inr ⟨ps, A, c, toks.length - q.length, rfl, hr.psP, hb, hE.drop (by omega), h16, ?_⟩
      rw [if_neg (by omega), hd]
/-- The document's scheme under way: its box, its variables. -/
structure XSt (Z : World) (xb : Nat) (f n : Int) (s : ByteArray) (A : Option Addr) (l c : Nat) (Ap : Option Addr) (np cp : Nat) (I : Int) (v : Value) (cur : List ByteArray) (wr : World) : Prop where
  bx : wr.heap[xb]? = some (.cells #[.int .i64 f, .int .i64 n, .string s, .slice A l c, .slice Ap np cp, v, .int .i64 I, .int .i64 0, .int .i64 0] 35)
  own : OwnS Z.heap.size wr v cur
  fr : Fr (fun b => b = xb) Z wr
  lt : xb < Z.heap.size
/-- What Free and vars do to it. -/
theorem XSt.step {Z : World} {xb : Nat} {f n : Int} {s : ByteArray} {A : Option Addr} {l c : Nat} {Ap : Option Addr} {np cp : Nat} {I : Int} {Av : Option Addr} {nv cv : Nat} {cur : List ByteArray} {wr : World} (h : XSt Z xb f n s A l c Ap np cp I (.slice Av nv cv) cur wr) (tt : Ty) (tv : Value) (ht : TyAt (fun b => b ≠ xb) Z tt tv) (hz : tt.sz ≤ 549755813888) (hc : cur.length ≤ 549755813888) :
    Calls Tryz.prog 51 #[tv] wr.drew fun e x => ∃ Au nu cu, e = .returned (.slice Au nu cu) ∧ Below wr.heap.size wr x ∧ x.heap[xb]? = some (.cells #[.int .i64 f, .int .i64 n, .string s, .slice A l c, .slice Ap np cp, .slice Av nv cv, .int .i64 I, .int .i64 0, .int .i64 0] 35) ∧
      Calls Tryz.prog 50 #[.slice Av nv cv, .slice Au nu cu] x fun e x2 => ∃ A2 n2 c2, e = .returned (.slice A2 n2 c2) ∧ x2.heap[xb]? = some (.cells #[.int .i64 f, .int .i64 n, .string s, .slice A l c, .slice Ap np cp, .slice Av nv cv, .int .i64 I, .int .i64 0, .int .i64 0] 35) ∧
        XSt Z xb f n s A l c Ap np cp I (.slice A2 n2 c2) (addS cur tt.free) (x2.setCell ⟨xb, 5, none⟩ (.slice A2 n2 c2)) := by
  have hbd := h.bx
  have hxl := lt_of_block hbd
  have hK : Keeps (fun b => b ≠ xb) Z wr := ⟨h.fr.size, fun b off hp hlt => World.cell?_of_block (a := ⟨b, off, none⟩) (h.fr.block b hlt hp)⟩
  have hd : Below wr.heap.size wr wr.drew := (Below.refl _ wr).drew
  refine (reffree_any (fun b => b ≠ xb) tt tv wr.drew ((ht.keep hK).on hd) (by omega)).mono ?_
  rintro e x ⟨⟨u, rfl, hu⟩, hb⟩
  obtain ⟨Au, cu, rfl⟩ := own_form hu
  have hbx : Below wr.heap.size wr x := hd.trans hb
  have hxx := (hbx.block xb hxl).trans hbd
  refine ⟨Au, _, cu, rfl, hbx, hxx, ?_⟩
  have hox : OwnS Z.heap.size x (.slice Av nv cv) cur := own_below h.own hbx
  have hvlt : ∀ k, (Value.slice Av nv cv).ownBlock = some k → Z.heap.size ≤ k ∧ k < wr.heap.size := fun k hk => World.ownsRow.lt h.own k hk
  have hus : StrsAt (fun b => b < x.heap.size ∧ (Value.slice Av nv cv).ownBlock ≠ some b) x (.slice Au tt.free.length cu) tt.free := by
    obtain ⟨A', c', e', h1, h2, hr⟩ := OwnS.strs hu
    refine ⟨A', c', e', h1, h2, ?_⟩
    rcases hr with hr | ⟨b, off, e9, hp, hlt, hcl⟩
    · exact .inl hr
    · exact .inr ⟨b, off, e9, ⟨hlt, fun e => by have h7 := (hvlt b e).2; have h8 : wr.heap.size ≤ b := hp.1; omega⟩, hlt, hcl⟩
  have hfl := free_len tt
  refine (varsX_any Z.heap.size cur tt.free _ _ x hox hus (by have := h.fr.size; have := hbx.size; omega) (by omega)).mono ?_
  rintro e x2 ⟨u2, rfl, ho2, hg2, ha2⟩
  obtain ⟨A2, c2, rfl⟩ := own_form ho2
  have hlz := h.lt
  have hk2 : ∀ k, k < x.heap.size → k < Z.heap.size → x2.heap[k]? = x.heap[k]? := fun k h1 h2 => hg2.block k h1 (fun e => by have := (hvlt k e.symm).1; omega)
  have hzx : Z.heap.size ≤ x.heap.size := by have := h.fr.size; have := hbx.size; omega
  have hx2 := (hk2 xb (by omega) hlz).trans hxx
  refine ⟨A2, _, c2, rfl, hx2, heap_setCell_same _ xb 5 _ _ _ hx2, ?_, ?_, hlz⟩
  · refine own_keep ho2 (fun g hg => ?_)
    have : Z.heap.size ≤ g := (World.ownsRow.lt ho2 g hg).1
    exact Below.heap_setCell _ _ _ _ (by show g ≠ xb; omega)
  · have hfr := h.fr
    exact ⟨hg2.os.trans (hbx.os.trans hfr.os), hg2.tape.trans (hbx.tape.trans hfr.tape), hg2.output.trans (hbx.output.trans hfr.output), by have := hg2.size; simp; omega, fun k h1 h2 => by
      rw [Below.heap_setCell _ _ _ _ (by show k ≠ xb; exact h2), hk2 k (by omega) h1, hbx.block k (by have := hfr.size; omega)]
      exact hfr.block k h1 h2⟩
theorem sum_mem_le (ps : List (ByteArray × Ty)) (k : Nat) (h : k < ps.length) : ps[k].2.sz ≤ (ps.map (fun p => p.2.sz + 3)).sum := by
  have e : ps = ps.take k ++ ps[k] :: ps.drop (k + 1) := by rw [← List.drop_eq_getElem_cons h, List.take_append_drop]
  have h2 : (ps.map (fun p => p.2.sz + 3)).sum = ((ps.take k).map (fun p => p.2.sz + 3)).sum + ((ps[k].2.sz + 3) + ((ps.drop (k + 1)).map (fun p => p.2.sz + 3)).sum) := by
    conv => lhs; rw [e]
    rw [List.map_append, List.sum_append, List.map_cons, List.sum_cons]
  omega
theorem xs_no {toks : List Tok} {w W : World} {ec p : Nat} (hb : Below w.heap.size w W) (x0 x1 x2 x3 x4 x5 x6 x7 x8 : Value) : XSRes toks (.no ec p) w (.returned (.agg #[.int .i64 0, .int .i64 0, .string ⟨#[]⟩, .slice none 0 0, .slice none 0 0, .slice none 0 0, .int .i64 0, .int .i64 ec, .int .i64 p])) (putX W w.heap.size x0 x1 x2 x3 x4 x5 x6 x7 x8) :=
  ⟨rfl, putX_below hb (Nat.le_refl _) x0 x1 x2 x3 x4 x5 x6 x7 x8⟩
/-- What is told of a scheme that was read. -/
theorem xs_ok {toks : List Tok} {w Z U : World} {xb : Nat} {P : Nat → Prop} {f n : Int} {s : ByteArray} {A : Option Addr} {l c : Nat} {Ap : Option Addr} {cp : Nat} {I : Int} {A2 : Option Addr} {n2 c2 : Nat} {ps : List (ByteArray × Ty)} {t : Ty} {r : List Tok} (hwZ : Below w.heap.size w Z)
    (h : XSt Z xb f n s A l c Ap ps.length cp I (.slice A2 n2 c2) (addS (varsK ps) t.free) U) (hp : PsP P Z ps (.slice Ap ps.length cp)) (hP : ∀ b, P b → b ≠ xb ∧ w.heap.size < b) (ht : TyAt (fun b => b ≠ xb ∧ w.heap.size < b) Z t (.agg #[.int .i64 f, .int .i64 n, .string s, .slice A l c])) (hw : w.heap.size < xb) (hv : addS (varsK ps) t.free = (funs (ps.map (·.2)) t).free) (hI : ((toks.length - r.length : Nat) : Int) = I) :
    XSRes toks (withP ps (.ok t r)) w (.returned (.agg #[.int .i64 f, .int .i64 n, .string s, .slice A l c, .slice Ap ps.length cp, .slice A2 n2 c2, .int .i64 I, .int .i64 0, .int .i64 0])) (putX U w.heap.size (.int .i64 f) (.int .i64 n) (.string s) (.slice A l c) (.slice Ap ps.length cp) (.slice A2 n2 c2) (.int .i64 I) (.int .i64 0) (.int .i64 0)) := by
  have hlt := h.lt
  have hK : Keeps (fun b => b ≠ xb ∧ w.heap.size < b) Z (putX U w.heap.size (.int .i64 f) (.int .i64 n) (.string s) (.slice A l c) (.slice Ap ps.length cp) (.slice A2 n2 c2) (.int .i64 I) (.int .i64 0) (.int .i64 0)) :=
    ⟨by rw [putX_size]; exact h.fr.size, fun b off hb hbl => World.cell?_of_block (a := ⟨b, off, none⟩) ((putX_ne _ _ _ _ _ _ _ _ _ _ _ b (by have := hb.2; omega)).trans (h.fr.block b hbl hb.1))⟩
  have hU : Below w.heap.size w U := ⟨h.fr.os.trans hwZ.os, h.fr.tape.trans hwZ.tape, h.fr.output.trans hwZ.output, Nat.le_trans hwZ.size h.fr.size, fun b hb => (h.fr.block b (by have := hwZ.size; omega) (by omega)).trans (hwZ.block b hb)⟩
  refine ⟨f, n, s, A, l, c, Ap, cp, A2, n2, c2, by rw [hI], ?_, ((hp.mono hP).keep hK).mono (fun b hb => Nat.le_of_lt hb.2), (ht.keep hK).mono (fun b hb => Nat.le_of_lt hb.2), putX_below hU (Nat.le_refl _) _ _ _ _ _ _ _ _ _⟩
  rw [← hv]
  refine ((OwnS.strs h.own).keep (P := fun b => Z.heap.size ≤ b ∧ (Value.slice A2 n2 c2).ownBlock = some b) ⟨by rw [putX_size]; exact Nat.le_refl _, fun b off hb _ => World.cell?_of_block (a := ⟨b, off, none⟩) (putX_ne _ _ _ _ _ _ _ _ _ _ _ b (by have := hb.1; omega))⟩).mono (fun b hb => by have := hb.1; have := hwZ.size; omega)
set_option maxRecDepth 100000 in
set_option maxHeartbeats 2000000 in
theorem schemeX_any (toks : List Tok) (g cap i : Nat) (w : World) (hT : TokC w g toks) (hg : g < w.heap.size) (hi : i < toks.length) (hl : toks.length ≤ 1099511627776) (hE : EndsT toks)
    (hsz : ∀ ps t r, schemeRaw (toks.drop i) = .ok ps t r → (funs (ps.map (·.2)) t).sz ≤ 274877906944) :
    Calls Tryz.prog 24 #[.slice (some ⟨g, 0, none⟩) toks.length cap, .int .i64 i] w (XSRes toks (schemeRaw (toks.drop i)) w) := by
  obtain ⟨W, eW, k0, b1, z1⟩ := box9 w (.int .i64 0) (.int .i64 0) (.string ⟨#[]⟩) (.slice none 0 0) (.slice none 0 0) (.slice none 0 0) (.int .i64 0) (.int .i64 0) (.int .i64 0) 35
  have HPX := Lib.hid (predsX_any toks g cap i W (hT.block (b1.block g hg)) (by omega) hi hl hE)
  have HPC := Lib.hid (fun (e : Ending) (w' : World) => px_cases (w := W) (w' := w') (e := e) hi hE)
  have HT0 := Lib.hid hT
  have HEW := Lib.hid eW
  have HB := Lib.hid b1
  have HK0 := Lib.hid k0
  have HZ1 := Lib.hid z1
  have HSZ := Lib.hid hsz
  clear eW b1 k0 hT hsz
  generalize hsr : schemeRaw (toks.drop i) = sr at *
  go_enter Tryz.func24, Tryz.ntmps24
  go_upto_region 1 with (fail)
  rw [HEW.out]
  go_wp2_with fail
  (with_reducible refine HPX.out.mono ?_)
  intro e1 y hy
  rcases HPC.out e1 y hy with ⟨rfl, rfl, hb⟩ | ⟨ps, Ap, cp, Pn, rfl, hps, hb, hEP, h16, rfl⟩
  · obtain ⟨Z, eZ, k1, b2, z2⟩ := box9 y (.int .i64 0) (.int .i64 0) (.string ⟨#[]⟩) (.slice none 0 0) (.slice none 0 0) (.slice none 0 0) (.int .i64 0) (.int .i64 2) (.int .i64 toks[i].place) 35
    have hbZ := hb.trans (b2.mono hb.size)
    have hkZ := (hbZ.block w.heap.size (by omega)).trans HK0.out
    have hbw := HB.out.trans (hbZ.mono HB.out.size)
    obtain ⟨v0, v1, v2, v3, v4, v5, v6, v7, v8, _⟩ := nine_cells k1
    obtain ⟨u0, u1, u2, u3, u4, u5, u6, u7, u8, f0, f1, f2, f3, f4, f5, f6, f7, f8, hw0⟩ := nine_cells hkZ
    have hne : w.heap.size < y.heap.size := by have := hb.size; omega
    have HEZ := Lib.hid eZ
    have HE := Lib.hid (xs_no (toks := toks) (ec := 2) (p := toks[i].place) hbw (.int .i64 0) (.int .i64 0) (.string ⟨#[]⟩) (.slice none 0 0) (.slice none 0 0) (.slice none 0 0) (.int .i64 0) (.int .i64 2) (.int .i64 toks[i].place))
    clear hb eZ k1 b2 hbZ hkZ hbw hy
    generalize toks[i].place = pl at *
    go_upto_region 2 with (fail)
    rw [HEZ.out]
    go_wp2_with fail
    exact bodyPost_ret (v := .agg #[.int .i64 0, .int .i64 0, .string ⟨#[]⟩, .slice none 0 0, .slice none 0 0, .slice none 0 0, .int .i64 0, .int .i64 2, .int .i64 pl]) (by simp [results, Tryz.results24, go_sem, u0, u1, u2, u3, u4, u5, u6, u7, u8]) rfl HE.out
  · obtain ⟨Y, eY, k1, b2, z2⟩ := box9 y (.int .i64 0) (.int .i64 0) (.string ⟨#[]⟩) (.slice none 0 0) (.slice Ap ps.length cp) (.slice none 0 0) (.int .i64 (Pn : Nat)) (.int .i64 0) (.int .i64 0) 35
    have hbY := hb.trans (b2.mono hb.size)
    have hkY := (hbY.block w.heap.size (by omega)).trans HK0.out
    have hbw := HB.out.trans (hbY.mono HB.out.size)
    have hpY := hps.on b2
    have hty := typeX_any (cap := cap) (i := Pn) (o := 0) (HT0.out.block (w' := Y) (hbw.block g hg)) (by have := hbw.size; omega) (by omega) hl hEP
    have HTY : Hid (Calls Tryz.prog 23 #[.slice (some ⟨g, 0, none⟩) toks.length cap, .int .i64 (Pn : Nat), .int .i64 0] Y (XRes toks (typeL (toks.drop Pn) 0) Y)) := hty
    have herr := fun e p => typeL_err (e := e) (p := p) (o := 0) hEP
    obtain ⟨v0, v1, v2, v3, v4, v5, v6, v7, v8, _⟩ := nine_cells k1
    have hwy : w.heap.size < y.heap.size := by have := hb.size; omega
    have HEY := Lib.hid eY
    have HK1 := Lib.hid k1
    have HKY := Lib.hid hkY
    have HBW := Lib.hid hbw
    have HPY := Lib.hid hpY
    have hYs : y.heap.size < Y.heap.size := by omega
    clear hb eY k1 b2 hbY hkY hbw hy hps hpY hty hEP z2
    generalize typeL (toks.drop Pn) 0 = ra at *
    go_upto_region 2 with (fail)
    rw [HEY.out]
    go_wp2_with fail
    (with_reducible refine HTY.out.mono ?_)
    intro e2 z hz
    cases ra with
    | no e p =>
      obtain ⟨rfl, hb⟩ := hz
      have he := herr e p rfl
      have he0 : ((e : Int) == 0) = false := by rw [beq_eq_false_iff_ne]; omega
      obtain ⟨Z, eZ, k2, b3, z3⟩ := box9 z (.int .i64 0) (.int .i64 0) (.string ⟨#[]⟩) (.slice none 0 0) (.slice none 0 0) (.slice none 0 0) (.int .i64 0) (.int .i64 e) (.int .i64 p) 35
      have hbZ := hb.trans (b3.mono hb.size)
      have hkZ := (hbZ.block w.heap.size (by omega)).trans HKY.out
      have hbw := HBW.out.trans (hbZ.mono HBW.out.size)
      obtain ⟨v0, v1, v2, v3, v4, v5, v6, v7, v8, _⟩ := nine_cells k2
      obtain ⟨u0, u1, u2, u3, u4, u5, u6, u7, u8, f0, f1, f2, f3, f4, f5, f6, f7, f8, hw0⟩ := nine_cells hkZ
      have hne : w.heap.size < z.heap.size := by have := hb.size; omega
      have HEZ := Lib.hid eZ
      have HE : Hid (XSRes toks (withP ps (.no e p)) w (.returned (.agg #[.int .i64 0, .int .i64 0, .string ⟨#[]⟩, .slice none 0 0, .slice none 0 0, .slice none 0 0, .int .i64 0, .int .i64 e, .int .i64 p])) (putX Z w.heap.size (.int .i64 0) (.int .i64 0) (.string ⟨#[]⟩) (.slice none 0 0) (.slice none 0 0) (.slice none 0 0) (.int .i64 0) (.int .i64 e) (.int .i64 p))) := xs_no (toks := toks) (ec := e) (p := p) hbw _ _ _ _ _ _ _ _ _
      clear hb eZ k2 b3 hbZ hkZ hbw herr
      go_upto_region 5 with (fail)
      rw [HEZ.out]
      go_wp2_with fail
      exact bodyPost_ret (v := .agg #[.int .i64 0, .int .i64 0, .string ⟨#[]⟩, .slice none 0 0, .slice none 0 0, .slice none 0 0, .int .i64 0, .int .i64 e, .int .i64 p]) (by simp [results, Tryz.results24, go_sem, u0, u1, u2, u3, u4, u5, u6, u7, u8]) rfl HE.out
    | ok t r =>
      obtain ⟨f, n, s, A, l, c, rfl, ht, hb⟩ := hz
      have hsum := HSZ.out ps t r rfl
      rw [sum_psz] at hsum
      obtain ⟨Z, eZ, k2, b3, z3⟩ := box9 z (.int .i64 f) (.int .i64 n) (.string s) (.slice A l c) (.slice none 0 0) (.slice none 0 0) (.int .i64 ((toks.length - r.length : Nat) : Int)) (.int .i64 0) (.int .i64 0) 35
      have hbZ := hb.trans (b3.mono hb.size)
      have hkZ := (hbZ.block w.heap.size (by omega)).trans HKY.out
      have hk1Z := (hbZ.block y.heap.size (by omega)).trans HK1.out
      have hbw := HBW.out.trans (hbZ.mono HBW.out.size)
      have hyz : Y.heap.size ≤ z.heap.size := hb.size
      generalize hI : ((toks.length - r.length : Nat) : Int) = I at *
      obtain ⟨Ze, eZe⟩ : ∃ Ze, Z.setCell ⟨z.heap.size, 4, none⟩ (.slice Ap ps.length cp) = Ze := ⟨_, rfl⟩
      have hZes : Ze.heap.size = Z.heap.size := by rw [← eZe]; simp
      have hZen : ∀ k, k ≠ z.heap.size → Ze.heap[k]? = Z.heap[k]? := fun k hk => by rw [← eZe]; exact Below.heap_setCell _ _ _ _ hk
      have hZeb : Ze.heap[z.heap.size]? = some (.cells #[.int .i64 f, .int .i64 n, .string s, .slice A l c, .slice Ap ps.length cp, .slice none 0 0, .int .i64 I, .int .i64 0, .int .i64 0] 35) := by rw [← eZe]; exact heap_setCell_same _ z.heap.size 4 _ _ _ k2
      have hSt0 : XSt Z z.heap.size f n s A l c Ap ps.length cp I (.slice none 0 0) [] Ze := ⟨hZeb, OwnS.nil _ _, ⟨by rw [← eZe]; rfl, by rw [← eZe]; rfl, by rw [← eZe]; rfl, by omega, fun k _ hk => hZen k hk⟩, by omega⟩
      have htZ : TyAt (fun b => b ≠ z.heap.size) Z t (.agg #[.int .i64 f, .int .i64 n, .string s, .slice A l c]) := (ht.bound.mono (Q := fun b => b ≠ z.heap.size) (fun b hb => by have := hb.2; omega)).on b3
      have hpZ := HPY.out.on hbZ
      have HPZ := Lib.hid hpZ
      have HTZ := Lib.hid htZ
      have HTZ2 := Lib.hid ((ht.bound.mono (Q := fun b => b ≠ z.heap.size ∧ w.heap.size < b) (fun b hb => ⟨by have := hb.2; omega, by have := hb.1; omega⟩)).on b3)
      have HSUM := Lib.hid hsum
      have HST0 := Lib.hid hSt0
      have HEZ := Lib.hid eZ
      have HEZe := Lib.hid eZe
      have HKZ := Lib.hid hkZ
      have HK1Z := Lib.hid hk1Z
      have HBZw := Lib.hid hbw
      have HI := Lib.hid hI
      have HZS := Lib.hid z3
      obtain ⟨m0, m1, m2, m3, m4, m5, m6, m7, m8, j0, j1, j2, j3, j4, j5, j6, j7, j8, hj⟩ := nine_cells k2
      obtain ⟨v0, v1, v2, v3, v4, v5, v6, v7, v8, _⟩ := nine_cells hk1Z
      clear hb eZ eZe k2 b3 hbZ hkZ hk1Z hbw herr hZes hZen hZeb hSt0 htZ hpZ ht hI z3 hsum
      go_upto_region 5 with (fail)
      rw [HEZ.out]
      go_upto_region 8 with (fail)
      rw [HEZe.out]
      go_wp2_with fail
      go_loopw [7] (fun i9 wr => ∃ (k : Nat) (Av : Option Addr) (nv cv : Nat), k ≤ ps.length ∧ i9 = .int .i64 k ∧ XSt Z z.heap.size f n s A l c Ap ps.length cp I (.slice Av nv cv) (varsK (ps.take k)) wr) (fun i9 _ => ps.length - (intOf i9).toNat)
      case atStart => exact ⟨0, none, 0, 0, Nat.zero_le _, rfl, HST0.out⟩
      case round =>
        obtain ⟨k, Av, nv, cv, hk, rfl, hst⟩ := hrel
        have hzs := HZS.out
        have hk1r := (hst.fr.block y.heap.size (by omega) (by omega)).trans HK1Z.out
        have hkr := (hst.fr.block w.heap.size (by omega) (by omega)).trans HKZ.out
        have hzr := hst.fr.size
        obtain ⟨m0, m1, m2, m3, m4, m5, m6, m7, m8, j0, j1, j2, j3, j4, j5, j6, j7, j8, hj⟩ := nine_cells hst.bx
        obtain ⟨v0, v1, v2, v3, v4, v5, v6, v7, v8, _⟩ := nine_cells hk1r
        have hcl : (varsK (ps.take k)).length ≤ 549755813888 := by
          have h1 := varsK_len (ps.take k)
          have h2 : ((ps.take k).map (fun p => p.2.sz + 3)).sum ≤ (ps.map (fun p => p.2.sz + 3)).sum := by
            conv => rhs; rw [← List.take_append_drop k ps]
            rw [List.map_append, List.sum_append]; omega
          have h3 := HSUM.out
          omega
        by_cases hlt : k < ps.length
        · obtain ⟨Ax, cx, e9, hr9⟩ := HPZ.out
          injection e9 with e9 _ e9c
          subst e9 e9c
          rcases hr9 with hr9 | ⟨b, e8, hbl, ⟨hbW, hbY⟩, hc9⟩
          · rw [hr9] at hlt; simp at hlt
          · subst e8
            obtain ⟨fx, nx, sx, A9, lx, c9, h0, h1, h2, h3, h4, htx⟩ := hc9 k hlt
            have hkk : ∀ o, wr.cell? ⟨b, o, none⟩ = Z.cell? ⟨b, o, none⟩ := fun o => World.cell?_of_block (a := ⟨b, o, none⟩) (hst.fr.block b (by omega) (by omega))
            rw [← hkk] at h0 h1 h2 h3 h4
            have htx2 : TyAt (fun b => b ≠ z.heap.size) Z ps[k].2 (.agg #[.int .i64 fx, .int .i64 nx, .string sx, .slice A9 lx c9]) := htx.mono (fun b hb => by have := hb.2; omega)
            have hsz1 : ps[k].2.sz ≤ 549755813888 := by
              have h9 := HSUM.out
              have h7 := sum_mem_le ps k hlt
              omega
            have HS := Lib.hid (hst.step ps[k].2 _ htx2 hsz1 hcl)
            have HVK := Lib.hid (varsK_take hlt)
            have hki : (k : Int) < (ps.length : Int) := by omega
            have hk0 : (0 : Int) ≤ (k : Int) := by omega
            have hbwr : b < wr.heap.size := by omega
            clear hst hk1r hkr htx htx2 hc9 hkk hcl hsz1
            go_wp2_with fail
            go_region_law (first | (go_simp; go_at_call 51; (with_reducible refine HS.out.mono ?_); rintro e5 x5 ⟨Au, nu, cu, rfl, hb5, hk5, hcall⟩; have HC2 := Lib.hid hcall; obtain ⟨a0, a1, a2, a3, a4, a5, a6, a7, a8, _⟩ := nine_cells hk5; clear hb5 hk5 hcall) | (go_simp; go_at_call 50; (with_reducible refine HC2.out.mono ?_); rintro e6 x6 ⟨A2, n2, c2, rfl, hk6, hst6⟩; have HST6 := Lib.hid hst6; obtain ⟨b0, b1, b2, b3, b4, b5, b6, b7, b8, _⟩ := nine_cells hk6; clear hk6 hst6))
            all_goals
              go_wp2_with fail
              go_roundw
              case rel =>
                have hfin : ∃ (k9 : Nat) (Av : Option Addr) (nv cv : Nat), k9 ≤ ps.length ∧ Value.int .i64 ((k : Int) + 1) = .int .i64 k9 ∧ XSt Z z.heap.size f n s A l c (some ⟨b, 0, none⟩) ps.length cp I (.slice Av nv cv) (varsK (ps.take k9)) (x6.setCell ⟨z.heap.size, 5, none⟩ (.slice A2 n2 c2)) := ⟨k + 1, A2, n2, c2, by omega, by go_num, by rw [HVK.out]; exact HST6.out⟩
                first | exact hfin | ((repeat apply Exists.intro); exact ⟨hfin, rfl⟩)
              case measure => simp [intOf]; omega
        · have hkl : ps.take k = ps := List.take_of_length_le (by omega)
          rw [hkl] at hst
          have hd : decide (k < ps.length) = false := by simpa using hlt
          have hsz1 : t.sz ≤ 549755813888 := by have := HSUM.out; omega
          have hvl : (varsK ps).length ≤ 549755813888 := by rw [hkl] at hcl; exact hcl
          have HS := Lib.hid (hst.step t _ HTZ.out hsz1 hvl)
          have HKR := Lib.hid hkr
          have HSV := Lib.hid (scheme_vars ps t)
          have hwz : w.heap.size < z.heap.size := by omega
          clear hst hk1r hkr hcl hkl hsz1 hvl
          go_wp2_with fail
          go_region_law (first | (go_simp; go_at_call 51; (with_reducible refine HS.out.mono ?_); rintro e5 x5 ⟨Au, nu, cu, rfl, hb5, hk5, hcall⟩; have HC2 := Lib.hid hcall; obtain ⟨a0, a1, a2, a3, a4, a5, a6, a7, a8, _⟩ := nine_cells hk5; clear hb5 hk5 hcall) | (go_simp; go_at_call 50; (with_reducible refine HC2.out.mono ?_); rintro e6 x6 ⟨A2, n2, c2, rfl, hk6, hst6⟩; have HST6 := Lib.hid hst6; obtain ⟨b0, b1, b2, b3, b4, b5, b6, b7, b8, _⟩ := nine_cells hk6; clear hk6 hst6))
          all_goals
            obtain ⟨U, eU⟩ : ∃ U, x6.setCell ⟨z.heap.size, 5, none⟩ (.slice A2 n2 c2) = U := ⟨_, rfl⟩
            have hst6 := HST6.out
            rw [eU] at hst6 ⊢
            have hkU := (hst6.fr.block w.heap.size (by omega) (by omega)).trans HKZ.out
            obtain ⟨u0, u1, u2, u3, u4, u5, u6, u7, u8, g0, g1, g2, g3, g4, g5, g6, g7, g8, hw0⟩ := nine_cells hkU
            obtain ⟨a0, a1, a2, a3, a4, a5, a6, a7, a8, _⟩ := nine_cells hst6.bx
            have HE : Hid (XSRes toks (withP ps (.ok t r)) w (.returned (.agg #[.int .i64 f, .int .i64 n, .string s, .slice A l c, .slice Ap ps.length cp, .slice A2 n2 c2, .int .i64 I, .int .i64 0, .int .i64 0])) (putX U w.heap.size (.int .i64 f) (.int .i64 n) (.string s) (.slice A l c) (.slice Ap ps.length cp) (.slice A2 n2 c2) (.int .i64 I) (.int .i64 0) (.int .i64 0))) := xs_ok HBZw.out hst6 HPZ.out (fun b hb => ⟨by have := hb.2; omega, by have := hb.1; omega⟩) HTZ2.out hwz HSV.out HI.out
            clear hst6 hkU eU
            go_wp2_with fail
            exact bodyPost_ret (v := .agg #[.int .i64 f, .int .i64 n, .string s, .slice A l c, .slice Ap ps.length cp, .slice A2 n2 c2, .int .i64 I, .int .i64 0, .int .i64 0]) (by simp [results, Tryz.results24, go_sem, u0, u1, u2, u3, u4, u5, u6, u7, u8]) rfl HE.out
end Go.Proofs.YtbdfjboojokgdaaGreatDoor
namespace Go.Proofs.YtbdfjboojokgdaaGreatDoor
open Go.RowKit Lx

set_option maxRecDepth 100000 in
set_option maxHeartbeats 1000000 in
theorem equal_zero (w : World) : Calls Tryz.prog 9 #[.agg #[.int .i64 0, .int .i64 0, .string ⟨#[]⟩, .slice none 0 0], .agg #[.int .i64 0, .int .i64 0, .string ⟨#[]⟩, .slice none 0 0]] w fun e w' => e = .returned (.bool true) ∧ Below w.heap.size w w' := by
  obtain ⟨W, eW, q1, q2, b2, z2⟩ := two_boxes w (.int .i64 0) (.int .i64 0) (.string ⟨#[]⟩) (.slice none 0 0) (.int .i64 0) (.int .i64 0) (.string ⟨#[]⟩) (.slice none 0 0) 27 27
  have HEW := Lib.hid eW
  have HB2 := Lib.hid b2
  obtain ⟨x0, x1, x2, x3, x4, _⟩ := q1
  obtain ⟨y0, y1, y2, y3, y4, _⟩ := q2
  clear eW b2
  go_enter Tryz.func9, Tryz.ntmps9
  go_wp2_with fail
  rw [HEW.out]
  go_loopw [5] (fun i wr => i = .int .i64 0 ∧ wr = W) (fun _ _ => 0)
  case atStart => exact ⟨rfl, rfl⟩
  case round =>
    obtain ⟨rfl, rfl⟩ := hrel
    go_wp2
    go_ret
    exact ⟨rfl, HB2.out⟩
set_option maxRecDepth 100000 in
set_option maxHeartbeats 1000000 in
theorem samePreds_any (P Q : Nat → Prop) (ps : List (ByteArray × Ty)) (v1 v2 : Value) (w : World) (hn : ps.length ≤ 1099511627776) (h1 : PsP P w ps v1) (h2 : PsP Q w ps v2) :
    Calls Tryz.prog 29 #[v1, v2] w fun e w' => e = .returned (.bool true) ∧ Below w.heap.size w w' := by
  have H1 := Lib.hid h1
  have H2 := Lib.hid h2
  obtain ⟨A1, c1, rfl, hr1⟩ := h1
  obtain ⟨A2, c2, rfl, hr2⟩ := h2
  clear hr1 hr2
  go_enter Tryz.func29, Tryz.ntmps29
  go_wp2_with fail
  go_loopw [5] (fun i wr => ∃ k : Nat, k ≤ ps.length ∧ i = .int .i64 k ∧ Below w.heap.size w wr) (fun i _ => ps.length - (intOf i).toNat)
  case atStart => exact ⟨0, Nat.zero_le _, rfl, Below.refl _ _⟩
  case round =>
    obtain ⟨k, hk, rfl, hb⟩ := hrel
    have hzr := hb.size
    by_cases hlt : k < ps.length
    · obtain ⟨Ax, cx, e9, hr9⟩ := H1.out.on hb
      injection e9 with e9 _ e9c
      subst e9 e9c
      obtain ⟨Ay, cy, f9, hq9⟩ := H2.out.on hb
      injection f9 with f9 _ f9c
      subst f9 f9c
      rcases hr9 with hr9 | ⟨b, e8, hbl, _, hc9⟩
      · rw [hr9] at hlt; simp at hlt
      rcases hq9 with hq9 | ⟨d, d8, hdl, _, hd9⟩
      · rw [hq9] at hlt; simp at hlt
      subst e8 d8
      obtain ⟨fx, nx, sx, A9, lx, c9, h0, h1, h2, h3, h4, htx⟩ := hc9 k hlt
      obtain ⟨fy, ny, sy, B9, ly, d9, g0, g1, g2, g3, g4, hty⟩ := hd9 k hlt
      have HE : Hid (∀ y, Below wr.heap.size wr y → Calls Tryz.prog 9 #[.agg #[.int .i64 fx, .int .i64 nx, .string sx, .slice A9 lx c9], .agg #[.int .i64 fy, .int .i64 ny, .string sy, .slice B9 ly d9]] y fun e x => e = .returned (.bool true) ∧ Below w.heap.size w x ∧ Below wr.heap.size wr x) := fun y hy => by
        refine (equal_any P Q _ ps[k].2 ps[k].2 _ _ y (Nat.le_refl _) (htx.on hy) (hty.on hy)).mono ?_
        rintro e x ⟨rfl, hx⟩
        exact ⟨by rw [eqT_true rfl], (hb.trans (hy.mono hzr)).trans (hx.mono (by have := hy.size; omega)), hy.trans (hx.mono hy.size)⟩
      have he1 := HE.out wr.drew (Below.refl _ wr).drew
      have hki : (k : Int) < (ps.length : Int) := by omega
      have hk0 : (0 : Int) ≤ (k : Int) := by omega
      have hcls : (ps[k].1.toList == ps[k].1.toList) = true := by simp
      have HB := Lib.hid hb
      generalize ps[k].1 = cl at *
      have HE1 : Hid (Calls Tryz.prog 9 #[.agg #[.int .i64 fx, .int .i64 nx, .string sx, .slice A9 lx c9], .agg #[.int .i64 fy, .int .i64 ny, .string sy, .slice B9 ly d9]] wr.drew fun e x => e = .returned (.bool true) ∧ Hid (Below w.heap.size w x) ∧ (fun y : World => (y.cell? ⟨b, k * 5, none⟩ = some (.string cl) ∧ y.cell? ⟨b, k * 5 + 1, none⟩ = some (.int .i64 fx) ∧ y.cell? ⟨b, k * 5 + 2, none⟩ = some (.int .i64 nx) ∧ y.cell? ⟨b, k * 5 + 3, none⟩ = some (.string sx) ∧ y.cell? ⟨b, k * 5 + 4, none⟩ = some (.slice A9 lx c9)) ∧ (y.cell? ⟨d, k * 5, none⟩ = some (.string cl) ∧ y.cell? ⟨d, k * 5 + 1, none⟩ = some (.int .i64 fy) ∧ y.cell? ⟨d, k * 5 + 2, none⟩ = some (.int .i64 ny) ∧ y.cell? ⟨d, k * 5 + 3, none⟩ = some (.string sy) ∧ y.cell? ⟨d, k * 5 + 4, none⟩ = some (.slice B9 ly d9))) x) := he1.mono (fun e x ⟨q1, q2, q3⟩ => ⟨q1, q2, ⟨(q3.cell hbl).trans h0, (q3.cell hbl).trans h1, (q3.cell hbl).trans h2, (q3.cell hbl).trans h3, (q3.cell hbl).trans h4⟩, (q3.cell hdl).trans g0, (q3.cell hdl).trans g1, (q3.cell hdl).trans g2, (q3.cell hdl).trans g3, (q3.cell hdl).trans g4⟩)
      clear htx hty hc9 hd9 hb HE he1
      go_wp2_with fail
      have hS0 : (fun y : World => (y.cell? ⟨b, k * 5, none⟩ = some (.string cl) ∧ y.cell? ⟨b, k * 5 + 1, none⟩ = some (.int .i64 fx) ∧ y.cell? ⟨b, k * 5 + 2, none⟩ = some (.int .i64 nx) ∧ y.cell? ⟨b, k * 5 + 3, none⟩ = some (.string sx) ∧ y.cell? ⟨b, k * 5 + 4, none⟩ = some (.slice A9 lx c9)) ∧ (y.cell? ⟨d, k * 5, none⟩ = some (.string cl) ∧ y.cell? ⟨d, k * 5 + 1, none⟩ = some (.int .i64 fy) ∧ y.cell? ⟨d, k * 5 + 2, none⟩ = some (.int .i64 ny) ∧ y.cell? ⟨d, k * 5 + 3, none⟩ = some (.string sy) ∧ y.cell? ⟨d, k * 5 + 4, none⟩ = some (.slice B9 ly d9))) wr.drew := ⟨⟨h0, h1, h2, h3, h4⟩, g0, g1, g2, g3, g4⟩
      go_region_held3 (fun y : World => (y.cell? ⟨b, k * 5, none⟩ = some (.string cl) ∧ y.cell? ⟨b, k * 5 + 1, none⟩ = some (.int .i64 fx) ∧ y.cell? ⟨b, k * 5 + 2, none⟩ = some (.int .i64 nx) ∧ y.cell? ⟨b, k * 5 + 3, none⟩ = some (.string sx) ∧ y.cell? ⟨b, k * 5 + 4, none⟩ = some (.slice A9 lx c9)) ∧ (y.cell? ⟨d, k * 5, none⟩ = some (.string cl) ∧ y.cell? ⟨d, k * 5 + 1, none⟩ = some (.int .i64 fy) ∧ y.cell? ⟨d, k * 5 + 2, none⟩ = some (.int .i64 ny) ∧ y.cell? ⟨d, k * 5 + 3, none⟩ = some (.string sy) ∧ y.cell? ⟨d, k * 5 + 4, none⟩ = some (.slice B9 ly d9))) (first | with_reducible exact hS0 | with_reducible exact hS1) (first | (go_at_call 9; (with_reducible refine HE1.out.mono ?_); rintro e5 x5 ⟨rfl, HB5, hS1⟩))
      all_goals
        go_wp2_with fail
        go_roundw
        case rel =>
          have hfin : ∃ k9 : Nat, k9 ≤ ps.length ∧ Value.int .i64 ((k : Int) + 1) = .int .i64 k9 ∧ Below w.heap.size w x5 := ⟨k + 1, by omega, by go_num, HB5.out⟩
          first | exact hfin | ((repeat apply Exists.intro); exact ⟨hfin, rfl⟩)
        case measure => simp [intOf]; omega
    · have hd : decide (k < ps.length) = false := by simpa using hlt
      have HB := Lib.hid hb
      clear hb
      go_wp2
      go_ret
      exact ⟨rfl, HB.out⟩
set_option maxRecDepth 100000 in
set_option maxHeartbeats 1000000 in
theorem sameScheme_any (P1 P2 Q1 Q2 : Nat → Prop) (vs : List ByteArray) (ps : List (ByteArray × Ty)) (w : World) (hn : ps.length ≤ 1099511627776) (A1 : Option Addr) (n1 c1 : Nat) (A2 : Option Addr) (n2 c2 : Nat) (A3 : Option Addr) (n3 c3 : Nat) (f1 m1 : Int) (s1 : ByteArray) (A4 : Option Addr) (n4 c4 : Nat) (B1 : Option Addr) (l1 d1 : Nat) (B2 : Option Addr) (l2 d2 : Nat) (B3 : Option Addr) (l3 d3 : Nat) (f2 m2 : Int) (s2 : ByteArray) (B4 : Option Addr) (l4 d4 : Nat)
    (h1 : StrsAt P1 w (.slice A1 n1 c1) vs) (h2 : PsP P2 w ps (.slice A3 n3 c3)) (g1 : StrsAt Q1 w (.slice B1 l1 d1) vs) (g2 : PsP Q2 w ps (.slice B3 l3 d3)) (h3 : ∀ y, Below w.heap.size w y → Calls Tryz.prog 9 #[.agg #[.int .i64 f1, .int .i64 m1, .string s1, .slice A4 n4 c4], .agg #[.int .i64 f2, .int .i64 m2, .string s2, .slice B4 l4 d4]] y fun e x => e = .returned (.bool true) ∧ Below y.heap.size y x) :
    Calls Tryz.prog 12 #[.agg #[.slice A1 n1 c1, .slice A2 n2 c2, .slice A3 n3 c3, .int .i64 f1, .int .i64 m1, .string s1, .slice A4 n4 c4], .agg #[.slice B1 l1 d1, .slice B2 l2 d2, .slice B3 l3 d3, .int .i64 f2, .int .i64 m2, .string s2, .slice B4 l4 d4]] w fun e w' => e = .returned (.bool true) ∧ Below w.heap.size w w' := by
  have k0 := (MapKept.heap_alloc w (.cells #[.slice A1 n1 c1, .slice A2 n2 c2, .slice A3 n3 c3, .int .i64 f1, .int .i64 m1, .string s1, .slice A4 n4 c4] 42)).1
  have b1 := below_new w (.cells #[.slice A1 n1 c1, .slice A2 n2 c2, .slice A3 n3 c3, .int .i64 f1, .int .i64 m1, .string s1, .slice A4 n4 c4] 42)
  obtain ⟨W, eW⟩ : ∃ W, w.alloc (.cells #[.slice A1 n1 c1, .slice A2 n2 c2, .slice A3 n3 c3, .int .i64 f1, .int .i64 m1, .string s1, .slice A4 n4 c4] 42) = W := ⟨_, rfl⟩
  have z1 : W.heap.size = w.heap.size + 1 := by rw [← eW]; simp
  rw [eW] at k0 b1
  have k1 := (MapKept.heap_alloc W (.cells #[.slice B1 l1 d1, .slice B2 l2 d2, .slice B3 l3 d3, .int .i64 f2, .int .i64 m2, .string s2, .slice B4 l4 d4] 42)).1
  have b2 := below_new W (.cells #[.slice B1 l1 d1, .slice B2 l2 d2, .slice B3 l3 d3, .int .i64 f2, .int .i64 m2, .string s2, .slice B4 l4 d4] 42)
  obtain ⟨V, eV⟩ : ∃ V, W.alloc (.cells #[.slice B1 l1 d1, .slice B2 l2 d2, .slice B3 l3 d3, .int .i64 f2, .int .i64 m2, .string s2, .slice B4 l4 d4] 42) = V := ⟨_, rfl⟩
  have z2 : V.heap.size = W.heap.size + 1 := by rw [← eV]; simp
  rw [eV] at k1 b2
  have bV := b1.trans (b2.mono b1.size)
  have hk : ∀ y, Below V.heap.size V y → y.heap[w.heap.size]? = some (.cells #[.slice A1 n1 c1, .slice A2 n2 c2, .slice A3 n3 c3, .int .i64 f1, .int .i64 m1, .string s1, .slice A4 n4 c4] 42) ∧ y.heap[W.heap.size]? = some (.cells #[.slice B1 l1 d1, .slice B2 l2 d2, .slice B3 l3 d3, .int .i64 f2, .int .i64 m2, .string s2, .slice B4 l4 d4] 42) ∧ Below w.heap.size w y := fun y hy =>
    ⟨(hy.block _ (by omega)).trans ((b2.block _ (by omega)).trans k0), (hy.block _ (by omega)).trans k1, bV.trans (hy.mono bV.size)⟩
  have H1 := Lib.hid (sameTexts_any P1 Q1 vs _ _ V (h1.on bV) (g1.on bV))
  have H2 := Lib.hid (fun y (hy : Below V.heap.size V y) => samePreds_any P2 Q2 ps _ _ y hn ((h2.on bV).on hy) ((g2.on bV).on hy))
  have H3 := Lib.hid (fun y (hy : Below V.heap.size V y) => h3 y (bV.trans (hy.mono bV.size)))
  have HK := Lib.hid hk
  have HEW := Lib.hid eW
  have HEV := Lib.hid eV
  rw [z1] at k1
  obtain ⟨p0, p1, p2, p3, p4, p5, p6, _⟩ := seven_cells ((b2.block _ (by omega)).trans k0)
  obtain ⟨q0, q1, q2, q3, q4, q5, q6, _⟩ := seven_cells k1
  clear k0 b1 eW k1 b2 eV bV hk h1 h2 h3 g1 g2
  go_enter Tryz.func12, Tryz.ntmps12
  go_upto_region 1 with (fail)
  rw [HEW.out, HEV.out]
  go_wp2_with fail
  (with_reducible refine H1.out.mono ?_)
  rintro e x ⟨rfl, hb⟩
  obtain ⟨r0, r1, r2⟩ := HK.out x hb
  rw [z1] at r1
  have HX := Lib.hid hb
  have HC := Lib.hid (H2.out x hb)
  obtain ⟨p0, p1, p2, p3, p4, p5, p6, _⟩ := seven_cells r0
  obtain ⟨q0, q1, q2, q3, q4, q5, q6, _⟩ := seven_cells r1
  clear hb r0 r1 r2
  go_wp2_with fail
  (with_reducible refine HC.out.mono ?_)
  rintro e y ⟨rfl, hb⟩
  have hb2 := HX.out.trans (hb.mono HX.out.size)
  obtain ⟨r0, r1, r2⟩ := HK.out y hb2
  rw [z1] at r1
  have HY := Lib.hid hb2
  have HD := Lib.hid (H3.out y hb2)
  obtain ⟨p0, p1, p2, p3, p4, p5, p6, _⟩ := seven_cells r0
  obtain ⟨q0, q1, q2, q3, q4, q5, q6, _⟩ := seven_cells r1
  clear hb hb2 r0 r1 r2
  go_wp2_with fail
  (with_reducible refine HD.out.mono ?_)
  rintro e z ⟨rfl, hb⟩
  have hb2 := HY.out.trans (hb.mono HY.out.size)
  have HZ := Lib.hid (HK.out z hb2).2.2
  clear hb hb2
  go_wp2
  go_ret
  exact ⟨rfl, HZ.out⟩
end Go.Proofs.YtbdfjboojokgdaaGreatDoor
namespace Go.Proofs.YtbdfjboojokgdaaGreatDoor
open Go.RowKit Lx

def gI (toks : List Tok) : Got → Int
  | .ok _ q => ((toks.length - q.length : Nat) : Int)
  | .no _ _ => 0
def gE : Got → Int
  | .ok _ _ => 0
  | .no e _ => e
def gP : Got → Int
  | .ok _ _ => 0
  | .no _ p => p
/-- The type that was told; or none. -/
def ResTy (w : World) (res : Got) (f n : Int) (s : ByteArray) (A : Option Addr) (l c : Nat) : Prop :=
  match res with
  | .ok t _ => TyAt (fun b => b < w.heap.size) w t (.agg #[.int .i64 f, .int .i64 n, .string s, .slice A l c])
  | .no _ _ => f = 0 ∧ n = 0 ∧ s = ⟨#[]⟩ ∧ A = none ∧ l = 0 ∧ c = 0
theorem ResTy.on {w w' : World} {res : Got} {f n : Int} {s : ByteArray} {A : Option Addr} {l c : Nat} (h : ResTy w res f n s A l c) (hb : Below w.heap.size w w') : ResTy w' res f n s A l c := by
  cases res with
  | ok t q => exact (TyAt.on h hb).mono (fun b (hb2 : b < w.heap.size) => Nat.lt_of_lt_of_le hb2 hb.size)
  | no e p => exact h
theorem code_uni {toks : List Tok} {res : Got} {w : World} {F : FuncId} {vs : Array Value} (h : Calls Tryz.prog F vs w (PlaceRes toks res w)) : Calls Tryz.prog F vs w fun e w' => ∃ f n s A l c, e = .returned (.tuple #[.agg #[.int .i64 f, .int .i64 n, .string s, .slice A l c], .int .i64 (gI toks res), .agg #[.int .i64 (gE res), .int .i64 (gP res)]]) ∧ ResTy w' res f n s A l c ∧ Below w.heap.size w w' := by
  refine h.mono (fun e w' hr => ?_)
  cases res with
  | ok t q =>
    obtain ⟨tv, rfl, ht, hb⟩ := hr
    obtain ⟨f, n, s, A, l, c, rfl⟩ := ht.flat
    exact ⟨f, n, s, A, l, c, rfl, ht.bound', hb⟩
  | no e p =>
    obtain ⟨rfl, hb⟩ := hr
    exact ⟨0, 0, ⟨#[]⟩, none, 0, 0, rfl, ⟨rfl, rfl, rfl, rfl, rfl, rfl⟩, hb⟩
theorem doc_uni {toks : List Tok} {res : Got} {w : World} {F : FuncId} {vs : Array Value} (h : Calls Tryz.prog F vs w (XRes toks res w)) : Calls Tryz.prog F vs w fun e w' => ∃ f n s A l c, e = .returned (.agg #[.int .i64 f, .int .i64 n, .string s, .slice A l c, .slice none 0 0, .slice none 0 0, .int .i64 (gI toks res), .int .i64 (gE res), .int .i64 (gP res)]) ∧ ResTy w' res f n s A l c ∧ Below w.heap.size w w' := by
  refine h.mono (fun e w' hr => ?_)
  cases res with
  | ok t q =>
    obtain ⟨f, n, s, A, l, c, rfl, ht, hb⟩ := hr
    exact ⟨f, n, s, A, l, c, rfl, ht.bound', hb⟩
  | no e p =>
    obtain ⟨rfl, hb⟩ := hr
    exact ⟨0, 0, ⟨#[]⟩, none, 0, 0, rfl, ⟨rfl, rfl, rfl, rfl, rfl, rfl⟩, hb⟩
theorem equal_uni {res : Got} {w : World} {f n : Int} {s : ByteArray} {A : Option Addr} {l c : Nat} {f2 n2 : Int} {s2 : ByteArray} {A2 : Option Addr} {l2 c2 : Nat} (h1 : ResTy w res f n s A l c) (h2 : ResTy w res f2 n2 s2 A2 l2 c2) :
    Calls Tryz.prog 9 #[.agg #[.int .i64 f, .int .i64 n, .string s, .slice A l c], .agg #[.int .i64 f2, .int .i64 n2, .string s2, .slice A2 l2 c2]] w (TrueB w) := by
  cases res with
  | ok t q =>
    refine (equal_any _ _ _ t t _ _ w (Nat.le_refl _) h1 h2).mono ?_
    rintro e w' ⟨rfl, hb⟩
    exact ⟨by rw [eqT_true rfl], hb⟩
  | no e p =>
    obtain ⟨rfl, rfl, rfl, rfl, rfl, rfl⟩ := h1
    obtain ⟨rfl, rfl, rfl, rfl, rfl, rfl⟩ := h2
    exact equal_zero w
/-! ### Predicates -/
def pI (toks : List Tok) (i : Nat) : Option (List (ByteArray × Ty) × List Tok) → Int
  | none => i
  | some (ps, q) => if 16 < ps.length then 0 else ((toks.length - q.length : Nat) : Int)
def pE : Option (List (ByteArray × Ty) × List Tok) → Int
  | none => 0
  | some (ps, _) => if 16 < ps.length then 2 else 0
def pP (place : Nat) : Option (List (ByteArray × Ty) × List Tok) → Int
  | none => 0
  | some (ps, _) => if 16 < ps.length then place else 0
def pL : Option (List (ByteArray × Ty) × List Tok) → List (ByteArray × Ty)
  | none => []
  | some (ps, _) => if 16 < ps.length then [] else ps
theorem pL_le (o : Option (List (ByteArray × Ty) × List Tok)) : (pL o).length ≤ 16 := by
  cases o with
  | none => simp [pL]
  | some x => obtain ⟨ps, q⟩ := x; simp only [pL]; split; (· simp); (· omega)
theorem PsP.bound {P : Nat → Prop} {w : World} {ps : List (ByteArray × Ty)} {v : Value} (h : PsP P w ps v) : PsP (fun b => b < w.heap.size) w ps v := by
  obtain ⟨A, c, e, hr⟩ := h
  refine ⟨A, c, e, ?_⟩
  rcases hr with h9 | ⟨b, e2, hlt, hp, hc⟩
  · exact .inl h9
  · refine .inr ⟨b, e2, hlt, hlt, fun i hi => ?_⟩
    obtain ⟨f, n, s, A', l, c', k0, k1, k2, k3, k4, hx⟩ := hc i hi
    exact ⟨f, n, s, A', l, c', k0, k1, k2, k3, k4, hx.bound'⟩
theorem PsP.onB {w w' : World} {ps : List (ByteArray × Ty)} {v : Value} (h : PsP (fun b => b < w.heap.size) w ps v) (hb : Below w.heap.size w w') : PsP (fun b => b < w'.heap.size) w' ps v := (h.on hb).bound
theorem preds_uni {toks : List Tok} {i place : Nat} {out : Option (List (ByteArray × Ty) × List Tok)} {w : World} {F : FuncId} {vs : Array Value} (h : Calls Tryz.prog F vs w (TopRes toks i place out w)) : Calls Tryz.prog F vs w fun e w' => ∃ A c, e = .returned (.tuple #[.slice A (pL out).length c, .int .i64 (pI toks i out), .agg #[.int .i64 (pE out), .int .i64 (pP place out)]]) ∧ PsP (fun b => b < w'.heap.size) w' (pL out) (.slice A (pL out).length c) ∧ Below w.heap.size w w' := by
  refine h.mono (fun e w' hr => ?_)
  cases out with
  | none =>
    obtain ⟨rfl, hb⟩ := hr
    exact ⟨none, 0, rfl, PsP.nil _ _, hb⟩
  | some o =>
    obtain ⟨ps, q⟩ := o
    rcases hr with ⟨h16, rfl, hb⟩ | ⟨h16, A, c, rfl, hr, hb, _, _⟩
    · simp only [pL, pI, pE, pP, if_pos h16]
      exact ⟨none, 0, rfl, PsP.nil _ _, hb⟩
    · have h16' : ¬ 16 < ps.length := by omega
      simp only [pL, pI, pE, pP, if_neg h16']
      exact ⟨A, c, rfl, hr.psP.bound, hb⟩
theorem docpreds_uni {toks : List Tok} {i place : Nat} {out : Option (List (ByteArray × Ty) × List Tok)} {w : World} {F : FuncId} {vs : Array Value} (h : Calls Tryz.prog F vs w (PXRes toks i place out w)) : Calls Tryz.prog F vs w fun e w' => ∃ A c, e = .returned (.agg #[.int .i64 0, .int .i64 0, .string ⟨#[]⟩, .slice none 0 0, .slice A (pL out).length c, .slice none 0 0, .int .i64 (pI toks i out), .int .i64 (pE out), .int .i64 (pP place out)]) ∧ PsP (fun b => b < w'.heap.size) w' (pL out) (.slice A (pL out).length c) ∧ Below w.heap.size w w' := by
  refine h.mono (fun e w' hr => ?_)
  cases out with
  | none =>
    obtain ⟨rfl, hb⟩ := hr
    exact ⟨none, 0, rfl, PsP.nil _ _, hb⟩
  | some o =>
    obtain ⟨ps, q⟩ := o
    rcases hr with ⟨h16, rfl, hb⟩ | ⟨h16, A, c, rfl, hr, hb, _, _⟩
    · simp only [pL, pI, pE, pP, if_pos h16]
      exact ⟨none, 0, rfl, PsP.nil _ _, hb⟩
    · have h16' : ¬ 16 < ps.length := by omega
      simp only [pL, pI, pE, pP, if_neg h16']
      exact ⟨A, c, rfl, hr.psP.bound, hb⟩
/-! ### Schemes -/
def sI (toks : List Tok) : GotS → Int
  | .ok _ _ r => ((toks.length - r.length : Nat) : Int)
  | .no _ _ => 0
def sE : GotS → Int
  | .ok _ _ _ => 0
  | .no e _ => e
def sP : GotS → Int
  | .ok _ _ _ => 0
  | .no _ p => p
def sV : GotS → List ByteArray
  | .ok ps t _ => (funs (ps.map (·.2)) t).free
  | .no _ _ => []
def sL : GotS → List (ByteArray × Ty)
  | .ok ps _ _ => ps
  | .no _ _ => []
def sT : GotS → Got
  | .ok _ t r => .ok t r
  | .no e p => .no e p
theorem StrsAt.bound {P : Nat → Prop} {w : World} {v : Value} {ss : List ByteArray} (h : StrsAt P w v ss) : StrsAt (fun b => b < w.heap.size) w v ss := by
  obtain ⟨A, c, e, h1, h2, hr⟩ := h
  refine ⟨A, c, e, h1, h2, ?_⟩
  rcases hr with h9 | ⟨b, off, e, hp, hlt, hc⟩
  · exact .inl h9
  · exact .inr ⟨b, off, e, hlt, hlt, hc⟩
theorem strs_nil (P : Nat → Prop) (w : World) : StrsAt P w (.slice none 0 0) [] := ⟨none, 0, rfl, Nat.le_refl _, Nat.zero_le _, .inl rfl⟩
/-- What stands for a scheme. -/
structure ResS (w : World) (out : GotS) (Av : Option Addr) (nv cv : Nat) (Ap : Option Addr) (np cp : Nat) (f n : Int) (s : ByteArray) (A : Option Addr) (l c : Nat) : Prop where
  v : StrsAt (fun b => b < w.heap.size) w (.slice Av nv cv) (sV out)
  p : PsP (fun b => b < w.heap.size) w (sL out) (.slice Ap np cp)
  t : ResTy w (sT out) f n s A l c
theorem ResS.on {w w' : World} {out : GotS} {Av : Option Addr} {nv cv : Nat} {Ap : Option Addr} {np cp : Nat} {f n : Int} {s : ByteArray} {A : Option Addr} {l c : Nat} (h : ResS w out Av nv cv Ap np cp f n s A l c) (hb : Below w.heap.size w w') : ResS w' out Av nv cv Ap np cp f n s A l c :=
  ⟨(h.v.on hb).bound, h.p.onB hb, h.t.on hb⟩
theorem scheme_uni {toks : List Tok} {out : GotS} {w : World} {F : FuncId} {vs : Array Value} (h : Calls Tryz.prog F vs w (SchemeRes toks out w)) : Calls Tryz.prog F vs w fun e w' => ∃ Av nv cv Ap np cp f n s A l c, e = .returned (.tuple #[.agg #[.slice Av nv cv, .slice none 0 0, .slice Ap np cp, .int .i64 f, .int .i64 n, .string s, .slice A l c], .int .i64 (sI toks out), .agg #[.int .i64 (sE out), .int .i64 (sP out)]]) ∧ ResS w' out Av nv cv Ap np cp f n s A l c ∧ Below w.heap.size w w' := by
  refine h.mono (fun e w' hr => ?_)
  cases out with
  | ok ps t r =>
    obtain ⟨Av, nv, cv, Ap, cp, f, n, s, A, l, c, rfl, hv, hp, ht, hb⟩ := hr
    exact ⟨Av, nv, cv, Ap, _, cp, f, n, s, A, l, c, rfl, ⟨(OwnS.strs hv).bound, hp.psP.bound, ht.bound'⟩, hb⟩
  | no e p =>
    obtain ⟨rfl, hb⟩ := hr
    exact ⟨none, 0, 0, none, 0, 0, 0, 0, ⟨#[]⟩, none, 0, 0, rfl, ⟨strs_nil _ _, PsP.nil _ _, ⟨rfl, rfl, rfl, rfl, rfl, rfl⟩⟩, hb⟩
theorem docscheme_uni {toks : List Tok} {out : GotS} {w : World} {F : FuncId} {vs : Array Value} (h : Calls Tryz.prog F vs w (XSRes toks out w)) : Calls Tryz.prog F vs w fun e w' => ∃ Av nv cv Ap np cp f n s A l c, e = .returned (.agg #[.int .i64 f, .int .i64 n, .string s, .slice A l c, .slice Ap np cp, .slice Av nv cv, .int .i64 (sI toks out), .int .i64 (sE out), .int .i64 (sP out)]) ∧ ResS w' out Av nv cv Ap np cp f n s A l c ∧ Below w.heap.size w w' := by
  refine h.mono (fun e w' hr => ?_)
  cases out with
  | ok ps t r =>
    obtain ⟨f, n, s, A, l, c, Ap, cp, Av, nv, cv, rfl, hv, hp, ht, hb⟩ := hr
    exact ⟨Av, nv, cv, Ap, _, cp, f, n, s, A, l, c, rfl, ⟨hv.bound, hp.bound, ht.bound'⟩, hb⟩
  | no e p =>
    obtain ⟨rfl, hb⟩ := hr
    exact ⟨none, 0, 0, none, 0, 0, 0, 0, ⟨#[]⟩, none, 0, 0, rfl, ⟨strs_nil _ _, PsP.nil _ _, ⟨rfl, rfl, rfl, rfl, rfl, rfl⟩⟩, hb⟩
theorem sameS_uni {out : GotS} {w : World} (hn : (sL out).length ≤ 1099511627776) {A1 : Option Addr} {n1 c1 : Nat} {A2 : Option Addr} {n2 c2 : Nat} {A3 : Option Addr} {n3 c3 : Nat} {f1 m1 : Int} {s1 : ByteArray} {A4 : Option Addr} {n4 c4 : Nat} {B1 : Option Addr} {l1 d1 : Nat} {B2 : Option Addr} {l2 d2 : Nat} {B3 : Option Addr} {l3 d3 : Nat} {f2 m2 : Int} {s2 : ByteArray} {B4 : Option Addr} {l4 d4 : Nat}
    (h1 : ResS w out A1 n1 c1 A3 n3 c3 f1 m1 s1 A4 n4 c4) (h2 : ResS w out B1 l1 d1 B3 l3 d3 f2 m2 s2 B4 l4 d4) :
    Calls Tryz.prog 12 #[.agg #[.slice A1 n1 c1, .slice A2 n2 c2, .slice A3 n3 c3, .int .i64 f1, .int .i64 m1, .string s1, .slice A4 n4 c4], .agg #[.slice B1 l1 d1, .slice B2 l2 d2, .slice B3 l3 d3, .int .i64 f2, .int .i64 m2, .string s2, .slice B4 l4 d4]] w (TrueB w) :=
  sameScheme_any _ _ _ _ (sV out) (sL out) w hn A1 n1 c1 A2 n2 c2 A3 n3 c3 f1 m1 s1 A4 n4 c4 B1 l1 d1 B2 l2 d2 B3 l3 d3 f2 m2 s2 B4 l4 d4 h1.v h1.p h2.v h2.p (fun _ hy => equal_uni (h1.t.on hy) (h2.t.on hy))
end Go.Proofs.YtbdfjboojokgdaaGreatDoor
