/- overlaps: where instances stand is kept, and each one ahead of which there is one of its head is told. Conditions: those that each theorem names. -/
import Derived.Test.YtjfhncbfbhkhgaaLoops
import Derived.Test.YtjfhncbfbhkhgaaTakeA
namespace Go.Proofs.Ytjfhncbfbhkhgaa
open Go.RowKit
/-- Where the first instance of a head stands, counted from a number. -/
def instF : List Ins → Nat → ByteArray → ByteArray → Option Nat
  | [], _, _, _ => none
  | x :: l, n, a, b => if x.cls = a ∧ x.con = b then some n else instF l (n + 1) a b
theorem instF_snoc (x : Ins) (a b : ByteArray) : ∀ (L : List Ins) (n : Nat), instF (L ++ [x]) n a b = match instF L n a b with | some d => some d | none => if x.cls = a ∧ x.con = b then some (n + L.length) else none
  | [], n => rfl
  | y :: l, n => by
    show (if y.cls = a ∧ y.con = b then some n else instF (l ++ [x]) (n + 1) a b) = match (if y.cls = a ∧ y.con = b then some n else instF l (n + 1) a b) with | some d => some d | none => _
    by_cases e : y.cls = a ∧ y.con = b
    · rw [if_pos e, if_pos e]
    · rw [if_neg e, if_neg e, instF_snoc x a b l (n + 1)]
      simp only [List.length_cons]
      rw [show n + 1 + l.length = n + (l.length + 1) by omega]
theorem instF_mem {a b : ByteArray} : ∀ {L : List Ins} {n : Nat}, instF L n a b ≠ none → (a, b) ∈ L.map (fun x => (x.cls, x.con))
  | [], _, h => absurd rfl h
  | y :: l, n, h => by
    unfold instF at h
    by_cases e : y.cls = a ∧ y.con = b
    · obtain ⟨rfl, rfl⟩ := e; exact List.mem_cons_self ..
    · rw [if_neg e] at h; exact List.mem_cons_of_mem _ (instF_mem h)
def headH (J : List Ins) : HKey → Option Nat := fun k => instF J 0 k.1.1 k.1.2
/-- What is told of instances: each one ahead of which one of its head stands. -/
def overL (S : List Ins) : List Ins → List (Int × Int)
  | [] => []
  | x :: l => (if (instF S 0 x.cls x.con).isSome then [(34, x.atp)] else []) ++ overL (S ++ [x]) l
theorem overL_snoc (x : Ins) : ∀ (L S : List Ins), overL S (L ++ [x]) = overL S L ++ (if (instF (S ++ L) 0 x.cls x.con).isSome then [(34, x.atp)] else [])
  | [], S => by simp [overL]
  | y :: l, S => by
    show (if _ then _ else _) ++ overL (S ++ [y]) (l ++ [x]) = ((if _ then _ else _) ++ overL (S ++ [y]) l) ++ _
    rw [overL_snoc x l (S ++ [y]), List.append_assoc (bs := overL _ _), List.append_assoc, List.singleton_append]
structure OkI (I : List Ins) : Prop where
  size : ∀ x ∈ I, x.cls.size ≤ maxLen ∧ x.con.size ≤ maxLen
  len : I.length ≤ 536870912
theorem HeadMap.store {L : List Ins} {pb : Nat} {w : World} (h : HeadMap (headH L) pb w) {x : Ins} (hn : instF L 0 x.cls x.con = none) (hl : L.length < maxLen) (hx : x.cls.size ≤ maxLen ∧ x.con.size ≤ maxLen) :
    ∃ w', (Instr.mapUpdate 85 (.map (some pb)) (.agg #[.string x.cls, .string x.con]) (.int .i64 L.length)).run Try.prog w = .ok () w' ∧ HeadMap (headH (L ++ [x])) pb w' ∧ w.grownBy w' (some pb) := by
  obtain ⟨sz, g, h1, h2⟩ := h
  have hsz : sz ≤ L.length := by
    obtain ⟨ks, kn, kl, kk⟩ := h1.keys
    rw [← kl, ← List.length_map (f := fun x : Ins => (x.cls, x.con)), ← show (ks.map (fun k : HKey => k.1)).length = ks.length from List.length_map _]
    refine nodup_leK ?_ (fun y hy => ?_)
    · exact List.Pairwise.map _ (fun a b hab e => hab (Subtype.ext e)) kn
    · obtain ⟨k, hk, rfl⟩ := List.mem_map.1 hy
      have h9 := (kk k).1 hk
      rw [h2 k] at h9
      exact instF_mem (L := L) (n := 0) (fun e => h9 (by unfold headH; rw [e]; rfl))
  obtain ⟨w', r1, r2, r3⟩ := h1.store (key := hkey) (t := 85) (e := 3) head_keyed Try.underlying85 (by omega) head_inj (.int .i64 L.length) (x := ⟨(x.cls, x.con), hx⟩) (head_key _)
  refine ⟨w', r1, ⟨_, _, r2, fun y => ?_⟩, r3⟩
  unfold headH
  rw [instF_snoc]
  by_cases e : y = ⟨(x.cls, x.con), hx⟩
  · subst e
    rw [setK_self]
    show _ = Option.map _ (match instF L 0 x.cls x.con with | some d => some d | none => _)
    rw [hn]
    show _ = Option.map _ (if x.cls = x.cls ∧ x.con = x.con then some (0 + L.length) else none)
    rw [if_pos ⟨rfl, rfl⟩, Nat.zero_add]; rfl
  · rw [setK_ne _ _ e, h2 y]
    unfold headH
    cases instF L 0 y.1.1 y.1.2 with
    | some d => rfl
    | none =>
      show none = Option.map _ (if x.cls = y.1.1 ∧ x.con = y.1.2 then some (0 + L.length) else none)
      rw [if_neg (fun e9 => e (Subtype.ext (Prod.ext e9.1.symm e9.2.symm)))]; rfl
theorem HeadMap.again {L : List Ins} {pb : Nat} {w : World} (h : HeadMap (headH L) pb w) {x : Ins} {d : Nat} (hn : instF L 0 x.cls x.con = some d) : HeadMap (headH (L ++ [x])) pb w := by
  obtain ⟨sz, g, h1, h2⟩ := h
  refine ⟨sz, g, h1, fun y => ?_⟩
  rw [h2 y]
  unfold headH
  rw [instF_snoc]
  cases hc : instF L 0 y.1.1 y.1.2 with
  | some d => rfl
  | none =>
    show none = Option.map _ (if x.cls = y.1.1 ∧ x.con = y.1.2 then some (0 + L.length) else none)
    rw [if_neg (fun e => by rw [← e.1, ← e.2, hn] at hc; cases hc)]; rfl
theorem InstsAt.at {Q : Nat → Prop} {w : World} {A : Option Addr} {n c : Nat} {I : List Ins} (h : InstsAt Q w (.slice A n c) I) {i : Nat} {d : Ins} (hd : I[i]? = some d) : ∃ b, A = some ⟨b, 0, none⟩ ∧ b < w.heap.size ∧ w.cell? ⟨b, i * 6, none⟩ = some (.string d.cls) ∧ w.cell? ⟨b, i * 6 + 1, none⟩ = some (.int .i64 d.atp) ∧ w.cell? ⟨b, i * 6 + 2, none⟩ = some (.string d.con) ∧
    w.cell? ⟨b, i * 6 + 3, none⟩ = some (.slice none 0 0) ∧ w.cell? ⟨b, i * 6 + 4, none⟩ = some (.slice none 0 0) ∧ w.cell? ⟨b, i * 6 + 5, none⟩ = some (.slice none 0 0) := by
  obtain ⟨hi, rfl⟩ := List.getElem?_eq_some_iff.1 hd
  obtain ⟨A', c', e, _, _, hr⟩ := h
  injection e with e1 e2 e3
  subst e1
  rcases hr with h9 | ⟨b, e, _, hlt, hc⟩
  · rw [h9] at hi; simp at hi
  · exact ⟨b, e, hlt, hc i hi⟩
/-- What holds while instances are kept and told. -/
structure OverI (Q : Nat → Prop) (C : List Cls) (M : ByteArray → Option (ByteArray × Nat)) (I J : List Ins) (eb cb mb pb : Nat) (iv : Value) (rb : Nat) (s : Int × Int) (w wr : World) : Prop where
  env : EnvAt Q C M I (headH J) eb cb mb pb iv wr
  ref : RefAt rb s wr
  fr : Fr (fun b => b = rb ∨ b = pb) w wr
  nq : ¬ Q rb ∧ ¬ Q pb
  ne : eb ≠ rb ∧ cb ≠ rb ∧ mb ≠ rb ∧ pb ≠ rb ∧ eb ≠ pb ∧ cb ≠ pb ∧ mb ≠ pb
  lt : rb < w.heap.size ∧ pb < w.heap.size
section
variable {Q : Nat → Prop} {C : List Cls} {M : ByteArray → Option (ByteArray × Nat)} {I J : List Ins} {eb cb mb pb : Nat} {iv : Value} {rb : Nat} {s : Int × Int} {w wr : World}
theorem OverI.on (h : OverI Q C M I J eb cb mb pb iv rb s w wr) {w' : World} (hb : Below wr.heap.size wr w') : OverI Q C M I J eb cb mb pb iv rb s w w' :=
  ⟨h.env.on hb, (hb.block rb (lt_of_block h.ref)).trans h.ref, h.fr.trans (.of_below hb), h.nq, h.ne, h.lt⟩
theorem OverI.told (h : OverI Q C M I J eb cb mb pb iv rb s w wr) {s' : Int × Int} {w' : World} (hr : RefAt rb s' w') (hf : Fr (fun b => b = rb) wr w') : OverI Q C M I J eb cb mb pb iv rb s' w w' := by
  refine ⟨h.env.keep hf.size (fun b hl hq => hf.block b hl (fun e => ?_)), hr, h.fr.trans (hf.mono fun _ e => .inl e), h.nq, h.ne, h.lt⟩
  subst e
  obtain ⟨n1, n2, n3, n4, _⟩ := h.ne
  rcases hq with e | e | e | e | e
  · exact n1 e.symm
  · exact n2 e.symm
  · exact n3 e.symm
  · exact n4 e.symm
  · exact h.nq.1 e
theorem OverI.again (h : OverI Q C M I J eb cb mb pb iv rb s w wr) {x : Ins} {d : Nat} (hn : instF J 0 x.cls x.con = some d) : OverI Q C M I (J ++ [x]) eb cb mb pb iv rb s w wr :=
  ⟨⟨h.env.obj, h.env.cls, h.env.mth, h.env.ins, h.env.hd.again hn⟩, h.ref, h.fr, h.nq, h.ne, h.lt⟩
theorem OverI.put (h : OverI Q C M I J eb cb mb pb iv rb s w wr) {J' : List Ins} {w' : World} (hg : wr.grownBy w' (some pb)) (hm : HeadMap (headH J') pb w') : OverI Q C M I J' eb cb mb pb iv rb s w w' := by
  obtain ⟨l1, l2, l3, l4⟩ := h.env.lts
  obtain ⟨_, _, _, n4, n5, n6, n7⟩ := h.ne
  have ho : ∀ b, b < wr.heap.size → b ≠ pb → w'.heap[b]? = wr.heap[b]? := fun b hb hn => hg.block b hb (fun e => by injection e with e; exact hn e)
  have hq : ∀ b, Q b → b < wr.heap.size → w'.heap[b]? = wr.heap[b]? := fun b hb hl => ho b hl (fun e => h.nq.2 (e ▸ hb))
  exact ⟨⟨(ho eb l1 n5).trans h.env.obj, h.env.cls.keep hg.size (ho cb l2 n6) hq, h.env.mth.block (ho mb l3 n7), h.env.ins.keep hg.size hq, hm⟩, (ho rb (lt_of_block h.ref) (fun e => n4 e.symm)).trans h.ref, h.fr.grown hg (fun k e => by injection e with e; exact .inr e.symm), h.nq, h.ne, h.lt⟩
end
def OverRes (Q : Nat → Prop) (C : List Cls) (M : ByteArray → Option (ByteArray × Nat)) (I : List Ins) (eb cb mb pb : Nat) (iv : Value) (rb : Nat) (s : Int × Int) (w : World) (e : Ending) (w' : World) : Prop :=
  e = .returned (.tuple #[]) ∧ OverI Q C M I I eb cb mb pb iv rb (tellsF s (overL [] I)) w w'
set_option maxRecDepth 100000 in
set_option maxHeartbeats 4000000 in
theorem overlaps_any {Q : Nat → Prop} {C : List Cls} {M : ByteArray → Option (ByteArray × Nat)} {I : List Ins} {eb cb mb pb : Nat} {iv : Value} {rb : Nat} {s : Int × Int} {w : World} (h : OverI Q C M I [] eb cb mb pb iv rb s w w) (hI : OkI I) :
    Calls Try.prog 36 #[.pointer (some ⟨eb, 0, none⟩), .func (.func 35) #[.pointer (some ⟨rb, 0, none⟩)] #[]] w (OverRes Q C M I eb cb mb pb iv rb s w) := by
  obtain ⟨Ai, ci, rfl, hci, hcm⟩ : ∃ A c, iv = .slice A I.length c ∧ I.length ≤ c ∧ c ≤ maxLen := by
    obtain ⟨A, c, e, h1, h2, _⟩ := h.env.ins; exact ⟨A, c, e, h1, h2⟩
  obtain ⟨_, _, y2, _⟩ := h.env.cells
  have HT := Lib.hid h
  have HI := Lib.hid hI
  have hIl := hI.len
  unfold maxLen at hcm
  clear h hI
  go_enter Try.func36, Try.ntmps36
  go_wp2
  go_loopw [14] (fun i wr => ∃ k : Nat, k ≤ I.length ∧ i = .int .i64 k ∧ OverI Q C M I (I.take k) eb cb mb pb (.slice Ai I.length ci) rb (tellsF s (overL [] (I.take k))) w wr) (fun i _ => I.length - (intOf i).toNat)
  case atStart => exact ⟨0, Nat.zero_le _, rfl, HT.out⟩
  case round =>
    obtain ⟨k, hk, rfl, hJ⟩ := hrel
    by_cases hlt : k < I.length
    · obtain ⟨x, hx⟩ : ∃ x, I[k]? = some x := ⟨_, List.getElem?_eq_getElem hlt⟩
      obtain ⟨b, e0, hb, q0, q1, q2, q3, q4, q5⟩ := hJ.env.ins.at hx
      subst e0
      have hki : (k : Int) < (I.length : Int) := by omega
      have hk0 : (0 : Int) ≤ (k : Int) := by omega
      obtain ⟨hxa, hxb⟩ := HI.out.size x (List.mem_of_getElem? hx)
      have TAKE : Hid (I.take (k + 1) = I.take k ++ [x]) := Lib.hid (by rw [List.take_add_one, hx]; rfl)
      have OVER : Hid (overL [] (I.take (k + 1)) = overL [] (I.take k) ++ (if (instF (I.take k) 0 x.cls x.con).isSome then [(34, x.atp)] else [])) := Lib.hid (by rw [TAKE.out, overL_snoc, List.nil_append])
      have LEN : Hid ((I.take k).length = k) := Lib.hid (by rw [List.length_take]; omega)
      obtain ⟨V, eV⟩ : ∃ V, V = (wr.alloc (.cells #[.string x.cls, .int .i64 x.atp, .string x.con, .slice none 0 0, .slice none 0 0, .slice none 0 0] 70)).alloc (.cells #[.string x.cls, .string x.con] 116) := ⟨_, rfl⟩
      have hBV : Below wr.heap.size wr V := by rw [eV]; exact (below_new wr _).alloc (by simp) _
      have hV := hJ.on hBV
      have v0 : V.heap[wr.heap.size]? = some (.cells #[.string x.cls, .int .i64 x.atp, .string x.con, .slice none 0 0, .slice none 0 0, .slice none 0 0] 70) := by rw [eV, alloc_get, if_neg (by simp), alloc_get, if_pos rfl]
      have v1 : V.heap[wr.heap.size + 1]? = some (.cells #[.string x.cls, .string x.con] 116) := by rw [eV, alloc_get, if_pos (by simp)]
      have k1 : V.cell? ⟨wr.heap.size, 0, none⟩ = some (.string x.cls) ∧ V.cell? ⟨wr.heap.size, 1, none⟩ = some (.int .i64 x.atp) ∧ V.cell? ⟨wr.heap.size, 2, none⟩ = some (.string x.con) ∧ V.cell? ⟨wr.heap.size + 1, 0, none⟩ = some (.string x.cls) ∧ V.cell? ⟨wr.heap.size + 1, 1, none⟩ = some (.string x.con) := by
        simp [World.cell?, v0, v1]
      obtain ⟨z0, z1, z2, z3, z4⟩ := k1
      obtain ⟨_, _, _, y3⟩ := hV.env.cells
      have hlk : ∀ y : World, y.heap[pb]? = V.heap[pb]? → (Instr.lookup 85 (.map (some pb)) (.agg #[.string x.cls, .string x.con]) true).run Try.prog y = .ok (.tuple #[.int .i64 (((instF (I.take k) 0 x.cls x.con).getD 0 : Nat) : Int), .bool (instF (I.take k) 0 x.cls x.con).isSome]) y := fun y e => hV.env.hd.look_ok hxa hxb y e
      have hk1 := hlk V.drew rfl
      have HV := Lib.hid hV
      have HEV := Lib.hid eV
      have HXS : Hid (x.cls.size ≤ maxLen ∧ x.con.size ≤ maxLen) := Lib.hid ⟨hxa, hxb⟩
      clear hV eV hJ hBV v0 v1 hx hxa hxb hlk
      go_wp2_with fail
      rw [← HEV.out]
      clear q0 q1 q2 q3 q4 q5 hb HEV
      generalize hub : wr.heap.size = ub at *
      clear hub
      cases hin : instF (I.take k) 0 x.cls x.con with
      | some d =>
        rw [hin] at hk1 OVER
        simp only [Option.getD_some, Option.isSome_some, if_true] at hk1 OVER
        have HN : Hid (OverI Q C M I (I.take (k + 1)) eb cb mb pb (.slice (some ⟨b, 0, none⟩) I.length ci) rb (tellsF s (overL [] (I.take k))) w V.drew) := Lib.hid (by rw [TAKE.out]; exact (HV.out.on ((Below.refl _ _).drew)).again hin)
        have HTELL := Lib.hid (tell_any HN.out.ref 34 x.atp)
        have z1' : V.drew.cell? ⟨ub, 1, none⟩ = some (.int .i64 x.atp) := z1
        have HREL : Hid (∀ w', RefAt rb (tellF (tellsF s (overL [] (I.take k))) 34 x.atp) w' → Fr (fun b => b = rb) V.drew w' → OverI Q C M I (I.take (k + 1)) eb cb mb pb (.slice (some ⟨b, 0, none⟩) I.length ci) rb (tellsF s (overL [] (I.take (k + 1)))) w w') := Lib.hid fun w' r1 r2 => by
          rw [OVER.out, tellsF_append]
          exact HN.out.told r1 r2
        clear HV hin HN
        go_region
        go_wp2_with fail
        with_reducible refine HTELL.out.mono ?_
        rintro e w' ⟨rfl, r1, r2⟩
        have T1 := Lib.hid (HREL.out w' r1 r2)
        clear r1 r2
        go_wp2
        go_roundw
        case rel => exact ⟨k + 1, by omega, by go_num, T1.out⟩
        case measure => simp [intOf]; omega
      | none =>
        rw [hin] at hk1 OVER
        simp only [Option.getD_none, Option.isSome_none, Bool.false_eq_true, if_false, List.append_nil] at hk1 OVER
        obtain ⟨w9, r1, r2, r3⟩ := (HV.out.on (((Below.refl _ _).drew).drew)).env.hd.store hin (by rw [LEN.out]; unfold maxLen; omega) HXS.out
        rw [LEN.out] at r1
        have T1 : Hid (OverI Q C M I (I.take (k + 1)) eb cb mb pb (.slice (some ⟨b, 0, none⟩) I.length ci) rb (tellsF s (overL [] (I.take (k + 1)))) w w9) := Lib.hid (by
          rw [OVER.out, TAKE.out]; exact (HV.out.on (((Below.refl _ _).drew).drew)).put r3 r2)
        clear HV hin r2 r3
        go_region
        go_wp2_with fail
        go_region
        go_wp2
        go_roundw
        case rel => exact ⟨k + 1, by omega, by go_num, T1.out⟩
        case measure => simp [intOf]; omega
    · have hke : k = I.length := by omega
      subst hke
      have HRES : Hid (OverRes Q C M I eb cb mb pb (.slice Ai I.length ci) rb s w (.returned (.tuple #[])) wr) := Lib.hid ⟨rfl, by rw [List.take_of_length_le (Nat.le_refl _)] at hJ; exact hJ⟩
      have hd : decide (I.length < I.length) = false := by simp
      clear hJ
      go_wp2
      go_end0
      exact HRES.out
end Go.Proofs.Ytjfhncbfbhkhgaa
