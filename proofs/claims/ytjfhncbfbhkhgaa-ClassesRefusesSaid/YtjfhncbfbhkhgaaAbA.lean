/- Above: a class and all above it. Conditions: those that each theorem names. -/
import Derived.Test.YtjfhncbfbhkhgaaClA
import Derived.Test.YtjfhncbfbhkhgaaAboveM
import Derived.Deep.Cut
import Derived.Laws.EntriesVeiled
import Derived.Deep.DeepCutAuto
namespace Go.Proofs.Ytjfhncbfbhkhgaa
open Go.RowKit
/-- All names that classes speak of. -/
def univ (C : List Cls) : List ByteArray := C.map (·.name) ++ (C.map (·.supers)).flatten
/-- Names are no longer than Go's, and there are not too many. -/
structure OkC (C : List Cls) : Prop where
  size : ∀ u ∈ univ C, u.size ≤ maxLen
  len : (univ C).length ≤ 1048576
theorem clsOf_mem {C : List Cls} {x : ByteArray} {c : Cls} (h : clsOf C x = some c) : c ∈ C ∧ c.name = x := by
  induction C with
  | nil => cases h
  | cons a l ih =>
    unfold clsOf at h
    by_cases e : a.name = x
    · rw [if_pos e] at h; injection h with h; subst h; exact ⟨List.mem_cons_self .., e⟩
    · rw [if_neg e] at h; exact ⟨List.mem_cons_of_mem _ (ih h).1, (ih h).2⟩
theorem clsOf_none {C : List Cls} {x : ByteArray} (h : clsOf C x = none) : ∀ c ∈ C, c.name ≠ x := by
  induction C with
  | nil => intro c hc; cases hc
  | cons a l ih =>
    unfold clsOf at h
    by_cases e : a.name = x
    · rw [if_pos e] at h; cases h
    · rw [if_neg e] at h
      intro c hc
      rcases List.mem_cons.1 hc with rfl | hc
      · exact e
      · exact ih h c hc
theorem supF_mem {C : List Cls} {x y : ByteArray} (h : y ∈ supF C x) : y ∈ univ C ∧ x ∈ C.map (·.name) := by
  unfold supF at h
  cases hc : clsOf C x with
  | none => rw [hc] at h; cases h
  | some c =>
    rw [hc] at h
    obtain ⟨h1, h2⟩ := clsOf_mem hc
    exact ⟨List.mem_append_right _ (List.mem_flatten.2 ⟨c.supers, List.mem_map.2 ⟨c, h1, rfl⟩, h⟩), List.mem_map.2 ⟨c, h1, h2⟩⟩
theorem supF_none {C : List Cls} {x : ByteArray} (h : hasF C x = false) : supF C x = [] := by
  unfold hasF at h; unfold supF
  cases hc : clsOf C x with
  | none => rfl
  | some c => rw [hc] at h; cases h
theorem hasF_mem {C : List Cls} {x : ByteArray} (h : hasF C x = true) : x ∈ C.map (·.name) := by
  unfold hasF at h
  cases hc : clsOf C x with
  | none => rw [hc] at h; cases h
  | some c => obtain ⟨h1, h2⟩ := clsOf_mem hc; exact List.mem_map.2 ⟨c, h1, h2⟩
theorem above_clos {Q : Nat → Prop} {C : List Cls} {M : ByteArray → Option (ByteArray × Nat)} {I : List Ins} {H : HKey → Option Nat} {eb cb mb pb : Nat} {iv : Value} (hC : OkC C) (x : ByteArray) (hx : x.size ≤ maxLen) (N : Nat) (hQ : ∀ b, Q b → b < N) (he : eb < N ∧ cb < N ∧ mb < N ∧ pb < N) :
    ClosOK (tellK (supF C) (hasF C)) (x :: univ C) (fun d => d.st.length ≤ d.seen.length) 48 #[.pointer (some ⟨eb, 0, none⟩)] #[] 49 #[] #[.pointer (some ⟨N, 0, none⟩), .pointer (some ⟨N + 1, 0, none⟩)] 50 #[] #[] (fun j => j ≤ N) (fun y => EnvAt Q C M I H eb cb mb pb iv y ∧ y.cell? ⟨N, 0, none⟩ = some (.pointer (some ⟨eb, 0, none⟩)) ∧ N + 1 ≤ y.heap.size) (BoxS N (N + 1)) := by
  have hsz : ∀ u ∈ x :: univ C, u.size ≤ maxLen := fun u hu => by
    rcases List.mem_cons.1 hu with rfl | hu
    · exact hx
    · exact hC.size u hu
  have hlenU : (x :: univ C).length ≤ 1073741824 := by have := hC.len; simp; omega
  have hrl : ∀ d, GoodD (tellK (supF C) (hasF C)) (x :: univ C) (fun d => d.st.length ≤ d.seen.length) d → d.st.length ≤ 1073741824 := fun d hd => by have h1 : d.st.length ≤ d.seen.length := hd.rel; have h2 := (hd.lens hlenU).1; omega
  refine ⟨fun vs y => by kernel_rfl, fun vs y => by kernel_rfl, fun vs y => by kernel_rfl, fun u y hu hy => ?_, fun d u F y hd hu hs hst hy => ?_, fun d n p F y hd hp hst hy => ?_, fun s F w h => h.lt, fun s F w w' h hs hb => h.keep hb, fun w w' h hs hb => ?_, fun d u hu hr => ?_, fun d hr => ?_, fun d n l l' p _ hr => hr, hlenU, hsz⟩
  · refine (supers_any hy.1 u (hsz u hu)).mono ?_
    rintro e y' ⟨⟨sv, rfl, h1⟩, hb⟩
    exact ⟨⟨sv, rfl, h1.mono (fun b hb => Nat.le_of_lt (hQ b hb))⟩, hb⟩
  · exact add49_any hst (by have := hy.2.2; omega) (hrl d hd) hy.1 N hy.2.1 u (hsz u hu)
  · refine (no50_any n y).mono ?_
    rintro e y' ⟨rfl, hb⟩
    exact AddRes.same hst hb
  · obtain ⟨h1, h2, h3⟩ := h
    refine ⟨h1.keep hs (fun b _ hq => hb b ?_), (World.cell?_of_block (a := ⟨N, 0, none⟩) (hb N (Nat.le_refl _))).trans h2, by omega⟩
    rcases hq with rfl | rfl | rfl | rfl | hq
    · omega
    · omega
    · omega
    · omega
    · exact Nat.le_of_lt (hQ b hq)
  · unfold Wk.enter
    split
    · exact hr
    · have hr' : d.st.length ≤ d.seen.length := hr
      show (if hasF C u = true then d.st ++ [u] else d.st).length ≤ d.seen.length + 1
      split
      · rw [List.length_append, List.length_singleton]; omega
      · omega
  · obtain ⟨seen, path, st⟩ := d
    unfold Wk.step
    split
    · exact hr
    · exact hr
    · unfold Wk.enter
      split
      · exact hr
      · rename_i u l p _ _
        have hr' : st.length ≤ seen.length := hr
        show (if hasF C u = true then st ++ [u] else st).length ≤ seen.length + 1
        split
        · rw [List.length_append, List.length_singleton]; omega
        · omega
theorem SeenAt.made (w : World) : SeenAt (w.alloc (.map #[] 0)) w.heap.size [] := ⟨0, fun _ => none, MapS.made _ _ _, fun x => by simp⟩
def AboveRes (C : List Cls) (x : ByteArray) (w : World) (e : Ending) (w' : World) : Prop :=
  ∃ rv L, e = .returned rv ∧ OwnS w.heap.size w' rv L ∧ (∀ g, C.length < g → L = aboveF (supF C) (hasF C) g [] x) ∧ L.length ≤ 1073741824 ∧ Below w.heap.size w w'
set_option maxRecDepth 100000 in
set_option maxHeartbeats 1000000 in
theorem above_any {Q : Nat → Prop} {C : List Cls} {M : ByteArray → Option (ByteArray × Nat)} {I : List Ins} {H : HKey → Option Nat} {eb cb mb pb : Nat} {iv : Value} {w : World} (h : EnvAt Q C M I H eb cb mb pb iv w) (hQ : ∀ b, Q b → b < w.heap.size) (hC : OkC C) (x : ByteArray) (hx : x.size ≤ maxLen) :
    Calls Try.prog 19 #[.pointer (some ⟨eb, 0, none⟩), .string x] w (AboveRes C x w) := by
  obtain ⟨l1, l2, l3, l4⟩ := h.lts
  have hclos := above_clos (M := M) (I := I) (H := H) (iv := iv) hC x hx w.heap.size hQ ⟨l1, l2, l3, l4⟩
  obtain ⟨V, eV⟩ : ∃ V, V = (w.alloc (.cells #[.pointer (some ⟨eb, 0, none⟩)] 31)).alloc (.cells #[.slice none 0 0] 40) := ⟨_, rfl⟩
  have hzV : V.heap.size = w.heap.size + 2 := by rw [eV]; simp
  have hbV : Below w.heap.size w V := by rw [eV]; exact (below_new w _).alloc (by simp) _
  obtain ⟨W, eW⟩ : ∃ W, W = (V.alloc (.map #[] 0)).alloc (.cells #[.func (.func 48) #[.pointer (some ⟨eb, 0, none⟩)] #[], .func (.func 49) #[] #[.pointer (some ⟨w.heap.size, 0, none⟩), .pointer (some ⟨w.heap.size + 1, 0, none⟩)], .func (.func 50) #[] #[], .map (some V.heap.size)] 113) := ⟨_, rfl⟩
  have hb1 : Below w.heap.size w W := by rw [eW]; exact (hbV.alloc hbV.size _).alloc (by simp; omega) _
  have hsz : W.heap.size = w.heap.size + 4 := by rw [eW]; simp; omega
  have hEW := h.on hb1
  have v0 : V.heap[w.heap.size]? = some (.cells #[.pointer (some ⟨eb, 0, none⟩)] 31) := by rw [eV, alloc_get, if_neg (by simp), alloc_get, if_pos rfl]
  have v1 : V.heap[w.heap.size + 1]? = some (.cells #[.slice none 0 0] 40) := by rw [eV, alloc_get, if_pos (by simp)]
  have hbW : Below V.heap.size V W := by rw [eW]; exact (below_new V _).alloc (by simp) _
  have o0 : W.heap[w.heap.size]? = some (.cells #[.pointer (some ⟨eb, 0, none⟩)] 31) := (hbW.block _ (by omega)).trans v0
  have o1 : W.heap[w.heap.size + 1]? = some (.cells #[.slice none 0 0] 40) := (hbW.block _ (by omega)).trans v1
  have o2 : SeenAt W V.heap.size [] := by
    rw [eW]
    exact (SeenAt.made V).block ((below_new _ _).block _ (by simp))
  have o3 : W.cell? ⟨V.heap.size + 1, 0, none⟩ = some (.func (.func 48) #[.pointer (some ⟨eb, 0, none⟩)] #[]) ∧ W.cell? ⟨V.heap.size + 1, 1, none⟩ = some (.func (.func 49) #[] #[.pointer (some ⟨w.heap.size, 0, none⟩), .pointer (some ⟨w.heap.size + 1, 0, none⟩)]) ∧ W.cell? ⟨V.heap.size + 1, 2, none⟩ = some (.func (.func 50) #[] #[]) ∧ W.cell? ⟨V.heap.size + 1, 3, none⟩ = some (.map (some V.heap.size)) := by
    have h9 : W.heap[V.heap.size + 1]? = some (.cells #[.func (.func 48) #[.pointer (some ⟨eb, 0, none⟩)] #[], .func (.func 49) #[] #[.pointer (some ⟨w.heap.size, 0, none⟩), .pointer (some ⟨w.heap.size + 1, 0, none⟩)], .func (.func 50) #[] #[], .map (some V.heap.size)] 113) := by rw [eW, alloc_get, if_pos (by simp)]
    simp [World.cell?, h9]
  have hbx : BoxS w.heap.size (w.heap.size + 1) [] (fun k => k = w.heap.size + 1) W := ⟨.slice none 0 0, o1, OwnS.nil _ _, fun k => ⟨fun e => .inl e, fun e => e.elim id (fun e => by cases e)⟩⟩
  have hG : GoodD (tellK (supF C) (hasF C)) (x :: univ C) (fun d => d.st.length ≤ d.seen.length) ⟨[], [], []⟩ := by
    refine ⟨List.nodup_nil, fun u hu => (by cases hu), Nat.le_refl _, ⟨fun u _ y hy => List.mem_cons_of_mem _ (supF_mem hy).1, fun e he => (by cases he)⟩, Nat.le_refl _⟩
  have HF := Lib.hid (from_any hclos (sb := V.heap.size) (d := ⟨[], [], []⟩) (F := fun k => k = w.heap.size + 1) (w := W) rfl hG hbx ⟨hEW, by simp [World.cell?, o0], by omega⟩ o2 (fun j hj => ⟨by omega, by omega, by omega⟩) (by omega) x (List.mem_cons_self ..))
  have HB1 := Lib.hid hb1
  have HSZ := Lib.hid hsz
  have HEW := Lib.hid eW
  have HO1 := Lib.hid o1
  obtain ⟨p0, p1, p2, p3⟩ := o3
  have HEV := Lib.hid eV
  have HZV := Lib.hid hzV
  have c0V : V.cell? ⟨w.heap.size, 0, none⟩ = some (.pointer (some ⟨eb, 0, none⟩)) := by simp [World.cell?, v0]
  clear h hQ hclos eW eV hzV hbV hb1 hsz hEW o0 o1 o2 v0 v1 hbW hbx hG l1 l2 l3 l4
  go_enter Try.func19, Try.ntmps19
  have hmm : ∀ y : World, (Instr.makeMap 111 none).run Try.prog y = .ok (.map (some y.heap.size)) (y.alloc (.map #[] 0)) := fun y => rfl
  go_upto_region 2 with (fail)
  rw [← HEV.out]
  go_upto_region 3 with (fail)
  rw [← HEW.out]
  go_wp2_with fail
  with_reducible refine HF.out.mono ?_
  rintro e w2 ⟨rfl, d', F', hw, hG, hst, _, _, hfr, _⟩
  obtain ⟨rv, b1, b2, b3⟩ := hst
  have HRES : Hid (AboveRes C x w (.returned rv) w2) := by
    have hz := HSZ.out
    have hzv := HZV.out
    refine Lib.hid ⟨rv, d'.st, rfl, b2, fun g hg => ?_, ?_, ?_⟩
    · have hT0 : Tells (supF C) (hasF C) (C.map (·.name)) ⟨[], [], []⟩ := ⟨fun u => by simp, fun u hu => supF_none hu, fun u hu => hasF_mem hu⟩
      obtain ⟨n, d2, r1, r2, _, _, _, r3⟩ := tells_walk (U := x :: univ C) _ ⟨[], [], []⟩ x hT0 (Nat.le_refl _) (fun u _ y hy => List.mem_cons_of_mem _ (supF_mem hy).1) (List.mem_cons_self ..)
      have hw2 : Walked (tellK (supF C) (hasF C)) ⟨[], [], []⟩ x d2 := ⟨⟨n, r1.symm⟩, by rw [r2]⟩
      rw [hw.unique hw2]
      refine r3 g ?_
      unfold cntC
      exact Nat.lt_of_le_of_lt (List.length_filter_le _ _) (by simpa using hg)
    · have h1 : d'.st.length ≤ d'.seen.length := hG.rel
      have h2 := (hG.lens (by have := hC.len; simp; omega)).1
      omega
    · have hb := HB1.out
      exact ⟨hfr.os.trans hb.os, hfr.tape.trans hb.tape, hfr.output.trans hb.output, by have := hfr.size; omega, fun j hj => (hfr.block j (by omega) (by omega) (by omega)).trans (hb.block j hj)⟩
  have q1 : w2.cell? ⟨w.heap.size + 1, 0, none⟩ = some rv := by simp [World.cell?, b1]
  obtain ⟨Ar, cr, rfl, _⟩ := own_form b2
  generalize d'.st.length = ln at *
  clear hw hG b1 b2 b3 hfr HF
  go_wp2
  go_ret
  exact HRES.out
end Go.Proofs.Ytjfhncbfbhkhgaa
