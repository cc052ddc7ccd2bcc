/- The contract of kinds.Read: it answers what the reader of the mathematics answers, in new memory. Condition: the text has at most 2^40 bytes. -/
import Derived.Test.YtomhojpoaicioaaReadW
import Derived.Deep.RegionLaw
import Derived.Deep.RegionHeld3
import Derived.Maps.RangeWalk
namespace Go.Proofs.Ytomhojpoaicioaa
open Go.RowKit

theorem cut_yes (s p r : List UInt8) (w : World) (h : cutP p s = some r) : Calls Try.prog 38 #[.string ⟨s.toArray⟩, .string ⟨p.toArray⟩] w fun e w' => e = .returned (.tuple #[.string ⟨r.toArray⟩, .bool true]) ∧ w = w' := by
  refine (Try.strings_CutPrefix ⟨s.toArray⟩ ⟨p.toArray⟩ w).mono ?_
  rintro e w' ⟨rfl, rfl⟩
  unfold cutP at h
  show (Ending.returned (.tuple #[.string ⟨(Lib.trimPrefix s p).toArray⟩, .bool (Lib.hasPrefix s p)]) = _) ∧ _
  by_cases hp : p.isPrefixOf s = true
  · rw [if_pos hp] at h
    injection h with h
    have h1 : Lib.hasPrefix s p = true := by simpa [Lib.hasPrefix] using hp
    have h2 : Lib.trimPrefix s p = r := by unfold Lib.trimPrefix; rw [h1]; simpa using h
    rw [h1, h2]; exact ⟨rfl, rfl⟩
  · rw [if_neg hp] at h; cases h
theorem cut_no (s p : List UInt8) (w : World) (h : cutP p s = none) : Calls Try.prog 38 #[.string ⟨s.toArray⟩, .string ⟨p.toArray⟩] w fun e w' => e = .returned (.tuple #[.string ⟨s.toArray⟩, .bool false]) ∧ w = w' := by
  refine (Try.strings_CutPrefix ⟨s.toArray⟩ ⟨p.toArray⟩ w).mono ?_
  rintro e w' ⟨rfl, rfl⟩
  unfold cutP at h
  show (Ending.returned (.tuple #[.string ⟨(Lib.trimPrefix s p).toArray⟩, .bool (Lib.hasPrefix s p)]) = _) ∧ _
  by_cases hp : p.isPrefixOf s = true
  · rw [if_pos hp] at h; cases h
  · have h1 : Lib.hasPrefix s p = false := by unfold Lib.hasPrefix; exact Bool.eq_false_iff.2 hp
    have h2 : Lib.trimPrefix s p = s := by unfold Lib.trimPrefix; rw [h1]; simp
    rw [h1, h2]; exact ⟨rfl, rfl⟩
theorem star_any (w : World) : Calls Try.prog 20 #[] w fun e w' => e = .returned (.agg #[.slice none 0 0]) ∧ w.alloc (.cells #[.slice none 0 0] 25) = w' := by
  go_enter Try.func20, Try.ntmps20
  go_wp2
  exact bodyPost_ret (v := .agg #[.slice none 0 0]) (by simp [results, Try.results20, go_sem]) rfl ⟨rfl, rfl⟩
theorem star_below (w : World) : Calls Try.prog 20 #[] w fun e w' => e = .returned (.agg #[.slice none 0 0]) ∧ Below w.heap.size w w' := (star_any w).mono fun _ _ ⟨he, hw⟩ => ⟨he, hw ▸ below_new w _⟩
theorem keep_alloc {y : World} {a : Addr} {v : Value} (o : Obj) (h : y.cell? a = some v) : (y.alloc o).cell? a = some v := (World.grownBy_alloc y o none).cell h (by simp)
theorem free_grown {y y' : World} {a : Addr} {v : Value} {row : Option Nat} (hg : y.grownBy y' row) (h : y.cell? a = some v) (hf : y.frozen? a = false) (hne : some a.block ≠ row) : y'.frozen? a = false := (World.frozen?_of_block (hg.block a.block (World.block_lt_of_cell? y a h) hne)).trans hf
theorem free_alloc {y : World} {a : Addr} {v : Value} (o : Obj) (h : y.cell? a = some v) (hf : y.frozen? a = false) : (y.alloc o).frozen? a = false := free_grown (World.grownBy_alloc y o none) h hf (by simp)
theorem one_ok : ∀ u ∈ [Value.slice none 0 0], u.oneCell' = true := by intro u hu; simp at hu; subst hu; rfl
theorem one_ok' (A : Option Addr) (n c : Nat) : ∀ u ∈ [Value.slice A n c], u.oneCell' = true := by intro u hu; simp at hu; subst hu; rfl
theorem keep_off {y : World} {g j : Nat} {u v : Value} (h : y.cell? ⟨g, j + 1, none⟩ = some v) : (y.setCell ⟨g, j, none⟩ u).cell? ⟨g, j + 1, none⟩ = some v := by simp [go_sem, h]
/-- What Read answered. -/
def ReadRes (w : World) (R : Option K) (e : Ending) (w' : World) : Prop :=
  Below w.heap.size w w' ∧ ((∃ k v, R = some k ∧ e = .returned (.tuple #[.agg #[v], .int .i64 0]) ∧ KAt (fun b => w.heap.size ≤ b) w' k v) ∨ (R = none ∧ e = .returned (.tuple #[.agg #[.slice none 0 0], .int .i64 12])))
/-- What the loop in Read knows. -/
def RLoop (w0 : World) (R : Option K) (N : Nat) (s b : Value) (wr : World) : Prop :=
  ∃ (cur : List UInt8) (st : List (List K)) (top : List K) (g0 cap : Nat) (rvs : List Value), s = .string ⟨cur.toArray⟩ ∧ b = .slice (some ⟨g0, 0, none⟩) (st.length + 1) cap ∧ RSt w0.heap.size wr g0 cap (st.reverse ++ [top]) rvs ∧
    readS st top cur = R ∧ st.length + cur.length ≤ N ∧ (∀ l ∈ st.reverse ++ [top], l.length + cur.length ≤ N) ∧ Below w0.heap.size w0 wr
def strLen : Value → Nat
  | .string s => s.size
  | _ => 0
theorem Try.info23 : (Try.prog.info? 23).map (fun i => (i.zero, i.size, i.bytes)) = some (some (.slice none 0 0), 1, 24) := by kernel_rfl
theorem listLen (st : List (List K)) (top : List K) : (st.reverse ++ [top]).length = st.length + 1 := by simp

theorem shut_loop {w0 wr : World} {R : Option K} {N g0 cap : Nat} {rvs : List Value} {cur r : List UInt8} {t top : List K} {st' : List (List K)} (h1 : cutP sOpen cur = none) (h2 : cutP sItem cur = none) (h3 : cutP sShut cur = some r) (htop : top ≠ [])
    (hrd : readS (t :: st') top cur = R) (hcl : cur.length = sShut.length + r.length) (hl1 : st'.length + 1 + cur.length ≤ N) (hl2 : ∀ l ∈ (t :: st').reverse ++ [top], l.length + cur.length ≤ N) (h9 : RSt w0.heap.size wr g0 cap (st'.reverse ++ [t ++ [.mk top]]) rvs) (hb : Below w0.heap.size w0 wr) :
    RLoop w0 R N (.string ⟨r.toArray⟩) (.slice (some ⟨g0, 0, none⟩) (st'.length + 1) cap) wr := by
  refine ⟨r, st', t ++ [.mk top], g0, cap, _, rfl, rfl, h9, by rw [← hrd]; exact (readS_shut h1 h2 h3 htop).symm, ?_, ?_, hb⟩
  · simp [sShut] at hcl; omega
  · intro l hl
    simp only [List.mem_append, List.mem_singleton] at hl
    rcases hl with hl | rfl
    · have := hl2 l (by simp only [List.reverse_cons, List.mem_append]; exact .inl (.inl hl)); omega
    · have := hl2 t (by simp); simp [sShut] at hcl ⊢; omega
theorem shut_one {w0 wr wa w2 : World} {R : Option K} {N g0 cap g cp cva cvb : Nat} {rvs' us : List Value} {Ava Avb : Option Addr} {cur r : List UInt8} {t top : List K} {st' : List (List K)} (h1 : cutP sOpen cur = none) (h2 : cutP sItem cur = none) (h3 : cutP sShut cur = some r) (htop : top ≠ [])
    (hrd : readS (t :: st') top cur = R) (hcl : cur.length = sShut.length + r.length) (hl1 : st'.length + 1 + cur.length ≤ N) (hl2 : ∀ l ∈ (t :: st').reverse ++ [top], l.length + cur.length ≤ N)
    (HRP : RSt w0.heap.size wr g0 cap (st'.reverse ++ [t]) rvs') (hlst : st'.length < rvs'.length) (HRV : rvs'[st'.length] = .slice Ava us.length cva) (HUO : wr.ownsRow w0.heap.size 25 1 (.slice Ava us.length cva) us.length us)
    (HUK : KsAt (Fin w0.heap.size g0 rvs') wr ((st'.reverse ++ [t])[st'.length]'(by simp)) us) (HKB : KAt (Fin w0.heap.size g0 rvs') wr (.mk top) (.slice Avb top.length cvb)) (HBW : Below w0.heap.size w0 wr) (hzr : w0.heap.size ≤ wr.heap.size) (hg0 : w0.heap.size ≤ g0) (bW : Below wr.heap.size wr wa)
    (hown2 : w2.ownsRow w0.heap.size 25 1 (.slice (some ⟨g, 0, none⟩) (us.length + 1) cp) (us.length + 1) (us ++ [.slice Avb top.length cvb])) (hg2 : (wa.alloc (.cells #[.slice Avb top.length cvb] 25)).drew.grownBy w2 (Value.slice Ava us.length cva).ownBlock)
    (hat : (Value.slice Ava us.length cva).ownBlock = some g ∨ g = (wa.alloc (.cells #[.slice Avb top.length cvb] 25)).drew.heap.size) :
    RLoop w0 R N (.string ⟨r.toArray⟩) (.slice (some ⟨g0, 0, none⟩) (st'.length + 1) cap) (w2.setCell ⟨g0, st'.length, none⟩ (.slice (some ⟨g, 0, none⟩) (us.length + 1) cp)) := by
  have hza := bW.size
  have hbn : Below wa.heap.size wa (wa.alloc (.cells #[.slice Avb top.length cvb] 25)).drew := (below_new wa _).drew
  have hat' : (Value.slice (some ⟨g, 0, none⟩) (us.length + 1) cp).ownBlock = (rvs'[st'.length]'hlst).ownBlock ∨ ∃ q, (Value.slice (some ⟨g, 0, none⟩) (us.length + 1) cp).ownBlock = some q ∧ (wa.alloc (.cells #[.slice Avb top.length cvb] 25)).drew.heap.size ≤ q := by
    rw [HRV]
    rcases hat with h | h
    · left; exact h.symm
    · right; exact ⟨g, rfl, by rw [h]; exact Nat.le_refl _⟩
  have h9 := ((HRP.on bW).on hbn).upd st'.length (by simp) hlst (k := .mk top) (us := us) (by rw [HRV]; exact ownsRow_below' (ownsRow_below' HUO bW) hbn) ((HUK.keep (.of_below bW)).keep (.of_below hbn)) ((HKB.on bW).on hbn) hown2 (by rw [HRV]; exact hg2) hat'
  have el : (st'.reverse ++ [t]).set st'.length ((st'.reverse ++ [t])[st'.length]'(by simp) ++ [.mk top]) = st'.reverse ++ [t ++ [.mk top]] := by simp
  rw [el] at h9
  exact shut_loop h1 h2 h3 htop hrd hcl hl1 hl2 h9 (((HBW.trans ((bW.trans (hbn.mono hza)).mono hzr)).grown hg2 (by simp; omega) (fun q hq => (HUO.lt q hq).1)).setCell hg0 _)
theorem shut_two {w0 wr wa w2 : World} {R : Option K} {N g0 cap g cp cva cvb : Nat} {rvs' us : List Value} {Ava Avb : Option Addr} {cur r : List UInt8} {t top : List K} {st' : List (List K)} (h1 : cutP sOpen cur = none) (h2 : cutP sItem cur = none) (h3 : cutP sShut cur = some r) (htop : top ≠ [])
    (hrd : readS (t :: st') top cur = R) (hcl : cur.length = sShut.length + r.length) (hl1 : st'.length + 1 + cur.length ≤ N) (hl2 : ∀ l ∈ (t :: st').reverse ++ [top], l.length + cur.length ≤ N)
    (HRP : RSt w0.heap.size wr g0 cap (st'.reverse ++ [t]) rvs') (hlst : st'.length < rvs'.length) (HRV : rvs'[st'.length] = .slice Ava us.length cva) (HUO : wr.ownsRow w0.heap.size 25 1 (.slice Ava us.length cva) us.length us)
    (HUK : KsAt (Fin w0.heap.size g0 rvs') wr ((st'.reverse ++ [t])[st'.length]'(by simp)) us) (HKB : KAt (Fin w0.heap.size g0 rvs') wr (.mk top) (.slice Avb top.length cvb)) (HBW : Below w0.heap.size w0 wr) (hzr : w0.heap.size ≤ wr.heap.size) (hg0 : w0.heap.size ≤ g0) (bW : Below wr.heap.size wr wa)
    (hown2 : w2.ownsRow w0.heap.size 25 1 (.slice (some ⟨g, 0, none⟩) (us.length + 1) cp) (us.length + 1) (us ++ [.slice none 0 0])) (hg2 : (wa.alloc (.cells #[.slice none 0 0] 25)).drew.grownBy w2 (Value.slice Ava us.length cva).ownBlock)
    (hat : (Value.slice Ava us.length cva).ownBlock = some g ∨ g = (wa.alloc (.cells #[.slice none 0 0] 25)).drew.heap.size) :
    RLoop w0 R N (.string ⟨r.toArray⟩) (.slice (some ⟨g0, 0, none⟩) (st'.length + 1) cap) ((w2.setCell ⟨g0, st'.length, none⟩ (.slice (some ⟨g, 0, none⟩) (us.length + 1) cp)).setCell ⟨g, us.length, none⟩ (.slice Avb top.length cvb)) ∧
    (w2.setCell ⟨g0, st'.length, none⟩ (.slice (some ⟨g, 0, none⟩) (us.length + 1) cp)).cell? ⟨g, us.length, none⟩ = some (.slice none 0 0) ∧ (w2.setCell ⟨g0, st'.length, none⟩ (.slice (some ⟨g, 0, none⟩) (us.length + 1) cp)).frozen? ⟨g, us.length, none⟩ = false := by
  have hza := bW.size
  have hbn : Below wa.heap.size wa (wa.alloc (.cells #[.slice none 0 0] 25)).drew := (below_new wa _).drew
  have hat' : (Value.slice (some ⟨g, 0, none⟩) (us.length + 1) cp).ownBlock = (rvs'[st'.length]'hlst).ownBlock ∨ ∃ q, (Value.slice (some ⟨g, 0, none⟩) (us.length + 1) cp).ownBlock = some q ∧ (wa.alloc (.cells #[.slice none 0 0] 25)).drew.heap.size ≤ q := by
    rw [HRV]
    rcases hat with h | h
    · left; exact h.symm
    · right; exact ⟨g, rfl, by rw [h]; exact Nat.le_refl _⟩
  have h9 := ((HRP.on bW).on hbn).upd st'.length (by simp) hlst (k := .mk []) (us := us) (by rw [HRV]; exact ownsRow_below' (ownsRow_below' HUO bW) hbn) ((HUK.keep (.of_below bW)).keep (.of_below hbn)) (kat_nil _ _ none 0 (Nat.zero_le _)) hown2 (by rw [HRV]; exact hg2) hat'
  have hk9 := RSt.updK (k2 := .mk top) st'.length hlst ((HKB.on bW).on hbn) (by rw [HRV]; exact hg2) hat'
  have el : (st'.reverse ++ [t]).set st'.length ((st'.reverse ++ [t])[st'.length]'(by simp) ++ [.mk []]) = st'.reverse ++ [t ++ [.mk []]] := by simp
  rw [el] at h9
  have htu : t.length = us.length := by have := HUK.1; simpa using this.symm
  have h10 := h9.last st'.length (by simp) (by rw [List.length_set]; exact hlst) (l := t) (k0 := .mk []) (k := .mk top) (g := g) (cp := cp) (by simp) (by rw [List.getElem_set_self, htu]) hk9
  have el2 : (st'.reverse ++ [t ++ [K.mk []]]).set st'.length (t ++ [K.mk top]) = st'.reverse ++ [t ++ [K.mk top]] := by simp
  rw [el2, htu] at h10
  have hbb : Below w0.heap.size w0 (w2.setCell ⟨g0, st'.length, none⟩ (.slice (some ⟨g, 0, none⟩) (us.length + 1) cp)) := ((HBW.trans ((bW.trans (hbn.mono hza)).mono hzr)).grown hg2 (by simp; omega) (fun q hq => (HUO.lt q hq).1)).setCell hg0 _
  have hgb : w0.heap.size ≤ g := (hown2.lt g rfl).1
  obtain ⟨us9, hu9, _⟩ := h9.rows st'.length (by simp) (by rw [List.length_set]; exact hlst)
  rw [List.getElem_set_self] at hu9
  have hgg : g ≠ g0 := fun e => own_apart h9.own hu9 (by decide) g0 rfl (by rw [e]; rfl)
  refine ⟨shut_loop h1 h2 h3 htop hrd hcl hl1 hl2 h10 (hbb.setCell hgb _), ?_, ?_⟩
  · have h7 := hown2.cellAt us.length (by omega)
    simp [go_sem, h7]
  · rw [World.frozen?_setCell]
    rcases hown2.2 with ⟨e, _⟩ | ⟨g', cap', cur', hv, _, hh, _⟩
    · cases e
    · injection hv with e1
      injection e1 with e1
      injection e1 with e1
      subst e1
      simp [World.frozen?, hh]
set_option maxRecDepth 100000 in
set_option maxHeartbeats 4000000 in
theorem read_any (s : List UInt8) (w : World) (hs : s.length ≤ 1099511627776) : Calls Try.prog 12 #[.string ⟨s.toArray⟩] w (ReadRes w (readS [] [] s)) := by
  obtain ⟨i23, hi, hz0, hz1, hz2⟩ := info_parts' Try.info23
  obtain ⟨i25, hj, hy0, hy1, hy2⟩ := info_parts' Try.info25
  go_enter Try.func12, Try.ntmps12
  go_wp2_with fail
  have hb0 := below_new w (.cells #[.slice none 0 0] 25)
  have hz : (w.alloc (.cells #[.slice none 0 0] 25)).heap.size = w.heap.size + 1 := by simp
  have hx0 : (w.alloc (.cells #[.slice none 0 0] 25)).cell? ⟨w.heap.size, 0, none⟩ = some (.slice none 0 0) := by simp [go_sem]
  have hf0 : (w.alloc (.cells #[.slice none 0 0] 25)).frozen? ⟨w.heap.size, 0, none⟩ = false := by simp [go_sem]
  have hst : RLoop (w.alloc (.cells #[.slice none 0 0] 25)) (readS [] [] s) s.length (.string ⟨s.toArray⟩) (.slice (some ⟨w.heap.size + 1, 0, none⟩) 1 1) ((w.alloc (.cells #[.slice none 0 0] 25)).alloc (.cells #[.slice none 0 0] 23)) := by
    refine ⟨s, [], [], w.heap.size + 1, 1, [.slice none 0 0], rfl, rfl, ⟨?_, ?_, ?_⟩, rfl, by simp, by simp, below_new _ _⟩
    · refine ⟨rfl, .inr ⟨w.heap.size + 1, 1, #[.slice none 0 0], rfl, by simp, ?_, by simp, by unfold maxLen; omega, rfl, rfl⟩⟩
      have h9 := (MapKept.heap_alloc (w.alloc (.cells #[.slice none 0 0] 25)) (.cells #[.slice none 0 0] 23)).1
      simpa using h9
    · intro j a b
      have : j = 0 := by simp at b; omega
      subst this
      exact ⟨[], World.ownsRow_nil _ _ _ _, rfl, fun i hi => absurd hi (by simp)⟩
    · intro i j hi hj' g
      simp at hi hj'; omega
  generalize (w.alloc (.cells #[.slice none 0 0] 25)).alloc (.cells #[.slice none 0 0] 23) = w1 at *
  generalize w.alloc (.cells #[.slice none 0 0] 25) = w0 at *
  generalize readS [] [] s = R at *
  generalize hN : s.length = N at *
  have HB0 := Lib.hid hb0
  have HZ := Lib.hid hz
  have HX0 := Lib.hid hx0
  have HF0 := Lib.hid hf0
  have HST := Lib.hid hst
  clear hb0 hz hx0 hf0 hst hN
  go_loopw [0, 4] (fun s0 b wr => RLoop w0 R N s0 b wr) (fun s0 _ _ => strLen s0)
  case atStart => exact HST.out
  case round =>
    obtain ⟨cur, st, top, g0, cap, rvs, rfl, rfl, hR, hread, hl1, hl2, hbw⟩ := hrel
    have hlen := hR.len
    rw [listLen] at hlen
    have hg0 := hR.g0lt
    have hzr := hbw.size
    have HR := Lib.hid hR
    have HRD := Lib.hid hread
    have HL2 := Lib.hid hl2
    have HBW := Lib.hid hbw
    have HLEN := Lib.hid hlen
    clear hR hread hl2 hbw hlen
    have hst47 : st.length ≤ 1099511627776 := by omega
    cases h1 : cutP sOpen cur with
    | some r =>
      have hcl := cutP_len h1
      have H1 := Lib.hid h1
      clear h1
      go_wp2_with fail
      refine (cut_yes cur sOpen r _ H1.out).mono ?_
      rintro e w' ⟨rfl, rfl⟩
      have hown := HR.out.own
      rw [listLen] at hown
      go_wp2_with (at_builtin; refine wpList_append_lies _ rfl _ _ 78 rfl w0.heap.size 23 i23 (.slice none 0 0) 1 24 Try.underlying78 hi hz0 hz1 hz2 rfl (by decide) (.slice (some ⟨g0, 0, none⟩) (st.length + 1) cap) (st.length + 1) rvs rfl (hown.alloc _) ⟨wr.heap.size, 0, none⟩ 1 1 [.slice none 0 0] rfl rfl (one_new wr (.slice none 0 0) 23) (by intro u hu; simp at hu; subst hu; rfl) (by decide) (by unfold maxLen; omega) (by omega) (by simp; omega) _ rfl ?_; intro g cap' w2 hown2 hg2 hat hlt)
      have hst2 : RLoop w0 R N (.string ⟨r.toArray⟩) (.slice (some ⟨g, 0, none⟩) (st.length + 1 + 1) cap') w2 := by
        have hbn := below_new wr (.cells #[.slice none 0 0] 23)
        have h9 := (HR.out.on hbn).push (g := g) (cap' := cap') (by rw [listLen]; exact hown2) hg2 (by
          rcases hat with h | h
          · left; injection h
          · right; rw [h]; exact Nat.le_refl _)
        refine ⟨r, top :: st, [], g, cap', _, rfl, rfl, by simpa using h9, by rw [← HRD.out]; exact (readS_open H1.out).symm, ?_, ?_, ?_⟩
        · simp [sOpen] at hcl ⊢; omega
        · intro l hl
          simp only [List.reverse_cons, List.mem_append, List.mem_singleton] at hl
          rcases hl with hl | rfl
          · have := HL2.out l (by simpa using hl); omega
          · simp; omega
        · exact (HBW.out.trans (hbn.mono hzr)).grown hg2 (by simp; omega) (fun q hq => by have hq' : some g0 = some q := hq; injection hq' with hq'; omega)
      have HS2 := Lib.hid hst2
      clear hst2 hown2 hg2 hat hown
      go_roundw
      case rel => exact HS2.out
      case measure => simp only [strLen, mk_size]; simp [sOpen] at hcl; omega
    | none =>
      cases h2 : cutP sItem cur with
      | some r =>
        have hcl := cutP_len h2
        have H1 := Lib.hid h1
        have H2 := Lib.hid h2
        clear h1 h2
        obtain ⟨us, huo, huk⟩ := HR.out.rows st.length (by simp) (by have := HLEN.out; omega)
        have hlst : st.length < rvs.length := by have := HLEN.out; omega
        have hc0 := HR.out.cell st.length hlst
        have hfr := HR.out.free st.length
        generalize hrv : rvs[st.length] = rv at *
        obtain ⟨Arv, crv, erv⟩ := own_form huo
        subst erv
        have hul : us.length ≤ 1099511627776 := by
          have h8 := huk.1
          have h9 := HL2.out ((st.reverse ++ [top])[st.length]'(by simp)) (List.getElem_mem _)
          omega
        have HUO := Lib.hid huo
        have HUK := Lib.hid huk
        have HRV := Lib.hid hrv
        clear huk hrv
        have hsi : (0 : Int) ≤ (st.length : Int) := by omega
        have hsj : (st.length : Int) < (st.length : Int) + 1 := by omega
        have hsl : st.length < st.length + 1 := by omega
        go_wp2_with fail
        refine (cut_no cur sOpen _ H1.out).mono ?_
        rintro e w' ⟨rfl, rfl⟩
        go_wp2_with fail
        refine (cut_yes cur sItem r _ H2.out).mono ?_
        rintro e w' ⟨rfl, rfl⟩
        go_wp2_with fail
        have hzr2 : w0.heap.size + 0 ≤ wr.heap.size := by omega
        have hg02 := hg0.2
        have hm63 : us.length + 1 ≤ maxLen := by unfold maxLen; omega
        have hm24 : (us.length + 1) * 24 ≤ 140737488355328 := by omega
        have hbs : ∀ (y : World) (o : Obj), wr.heap.size ≤ y.heap.size → w0.heap.size ≤ (y.alloc o).heap.size := fun y o h => by simp; omega
        have hap : some g0 ≠ (Value.slice Arv us.length crv).ownBlock := fun e => own_apart HR.out.own HUO.out (by decide) g0 rfl e.symm
        go_region_law (first | (go_simp; go_at_call 20; refine (star_below _).mono ?_; rintro e y1 ⟨rfl, b1⟩; have b1' : Below wr.heap.size wr y1 := (Below.refl _ wr).drew.trans b1; have hc1 := (b1'.cell (p := ⟨g0, st.length, none⟩) hg02).trans hc0; have hf1 := (b1'.frozen (p := ⟨g0, st.length, none⟩) hg02).trans hfr; have hz1 := b1'.size; have hg1 := Nat.lt_of_lt_of_le hg02 hz1; have huo1 := ownsRow_below' huo b1') | (refine step_append_lies _ rfl (.tmp 37) (.tmp 39) 23 rfl w0.heap.size 25 i25 (.agg #[.slice none 0 0]) 1 24 Try.underlying23 hj hy0 hy1 hy2 rfl Nat.one_pos (.slice Arv us.length crv) us.length us rfl (huo1.alloc _) ⟨y1.heap.size, 0, none⟩ 1 1 [.slice none 0 0] rfl rfl (one_new y1 (.slice none 0 0) 25) one_ok Nat.one_pos hm63 hm24 (hbs _ _ hz1) _ rfl ?_; intro g cp w2 hown2 hg2 hat hlt; have hc2 := hg2.cell (keep_alloc _ hc1) hap; have hf2 := free_grown hg2 (keep_alloc _ hc1) (free_alloc _ hc1 hf1) hap))
        all_goals
          have hst2 : RLoop w0 R N (.string ⟨r.toArray⟩) (.slice (some ⟨g0, 0, none⟩) (st.length + 1) cap) (w2.setCell ⟨g0, st.length, none⟩ (.slice (some ⟨g, 0, none⟩) (us.length + 1) cp)) := by
            have hbn := below_new y1 (.cells #[.slice none 0 0] 25)
            have h9 := ((HR.out.on b1').on hbn).upd st.length (by simp) hlst (k := .mk []) (us := us) (by rw [HRV.out]; exact huo1.alloc _) ((HUK.out.keep (.of_below b1')).keep (.of_below hbn)) (kat_nil _ _ none 0 (Nat.zero_le _)) hown2 (by rw [HRV.out]; exact hg2) (by
              rw [HRV.out]
              rcases hat with h | h
              · left; exact h.symm
              · right; exact ⟨g, rfl, by rw [h]; exact Nat.le_refl _⟩)
            have el : (st.reverse ++ [top]).set st.length ((st.reverse ++ [top])[st.length]'(by simp) ++ [.mk []]) = st.reverse ++ [top ++ [.mk []]] := by simp
            rw [el] at h9
            refine ⟨r, st, top ++ [.mk []], g0, cap, _, rfl, rfl, h9, by rw [← HRD.out]; exact (readS_item H1.out H2.out).symm, ?_, ?_, ?_⟩
            · simp [sItem] at hcl ⊢; omega
            · intro l hl
              simp only [List.mem_append, List.mem_singleton] at hl
              rcases hl with hl | rfl
              · have := HL2.out l (by simp only [List.mem_append]; exact .inl hl); omega
              · have := HL2.out top (by simp); simp [sItem] at hcl ⊢; omega
            · exact ((HBW.out.trans ((b1'.trans (hbn.mono hz1)).mono hzr)).grown hg2 (by simp; omega) (fun q hq => (HUO.out.lt q hq).1)).setCell hg0.1 _
          have HS2 := Lib.hid hst2
          clear hst2 hown2 hg2 hat b1 b1' huo huo1
          have hmea : strLen (.string ⟨r.toArray⟩) < strLen (.string ⟨cur.toArray⟩) := by simp only [strLen, mk_size]; simp [sItem] at hcl; omega
          go_wp2
          go_roundw
          case rel => first | exact HS2.out | ((repeat apply Exists.intro); exact ⟨HS2.out, rfl⟩)
          case measure => exact hmea
      | none =>
        by_cases h3 : ∃ r t st', cutP sShut cur = some r ∧ st = t :: st' ∧ top ≠ []
        · obtain ⟨r, t, st', h3, rfl, htop⟩ := h3
          have hcl := cutP_len h3
          have H1 := Lib.hid h1
          have H2 := Lib.hid h2
          have H3 := Lib.hid h3
          clear h1 h2 h3
          obtain ⟨rvs', vb, hrvs, hrl⟩ : ∃ rvs' vb, rvs = rvs' ++ [vb] ∧ rvs'.length = st'.length + 1 := by
            have h9 := HLEN.out
            have hne : rvs ≠ [] := fun e => by rw [e] at h9; simp at h9
            exact ⟨rvs.dropLast, rvs.getLast hne, (List.dropLast_concat_getLast hne).symm, by rw [List.length_dropLast, h9]; simp⟩
          subst hrvs
          have hRR : RSt w0.heap.size wr g0 cap ((st'.reverse ++ [t]) ++ [top]) (rvs' ++ [vb]) := by have := HR.out; simpa using this
          obtain ⟨hRp, hkb⟩ := hRR.pop
          obtain ⟨us, huo, huk⟩ := hRp.rows st'.length (by simp) (by omega)
          have hlst : st'.length < rvs'.length := by omega
          have hca := hRp.cell st'.length hlst
          have hcb : wr.cell? ⟨g0, st'.length + 1, none⟩ = some vb := by
            have h9 := HR.out.cell (st'.length + 1) (by simp [hrl])
            simpa [← hrl] using h9
          have hfr := hRp.free st'.length
          generalize hrv : rvs'[st'.length] = va at *
          obtain ⟨Ava, cva, eva⟩ := own_form huo
          subst eva
          obtain ⟨Avb, cvb, evb, hmb⟩ := hkb.form
          subst evb
          have htl : (0 : Int) < (top.length : Int) := by have : top.length ≠ 0 := fun e => htop (List.eq_nil_of_length_eq_zero e); omega
          have htl2 : 0 < top.length := by omega
          have hul : us.length ≤ 1099511627776 := by
            have h8 := huk.1
            have h9 := HL2.out ((st'.reverse ++ [t])[st'.length]'(by simp)) (by simp)
            omega
          have hcp : st'.length + 1 ≤ cap := by
            rcases hRp.own.2 with ⟨e, _⟩ | ⟨g', cap', cur', hv, _, _, hc, _⟩
            · cases e
            · injection hv with _ _ e; rw [e]; simpa using hc
          have HUO := Lib.hid huo
          have HUK := Lib.hid huk
          have HRV := Lib.hid hrv
          have HRP := Lib.hid hRp
          have HKB := Lib.hid hkb
          have HRL := Lib.hid hrl
          clear huk hrv hRR hRp hkb hrl
          simp only [List.length_cons] at hst47 hl1
          have hg02 := hg0.2
          have hs0 : (0 : Int) < (st'.length : Int) + 1 := by omega
          have hs1 : (0 : Int) ≤ (st'.length : Int) := by omega
          have hs2 : (st'.length : Int) + 1 < (st'.length : Int) + 1 + 1 := by omega
          have hs3 : (st'.length : Int) < (st'.length : Int) + 1 + 1 := by omega
          have hs4 : (st'.length : Int) + 1 ≤ (cap : Int) := by omega
          unfold maxLen at hmb
          go_wp2_with fail
          refine (cut_no cur sOpen _ H1.out).mono ?_
          rintro e w' ⟨rfl, rfl⟩
          go_wp2_with fail
          refine (cut_no cur sItem _ H2.out).mono ?_
          rintro e w' ⟨rfl, rfl⟩
          go_wp2_with fail
          refine (cut_yes cur sShut r _ H3.out).mono ?_
          rintro e w' ⟨rfl, rfl⟩
          go_wp2_with fail
          have hm63 : us.length + 1 ≤ maxLen := by unfold maxLen; omega
          have hm24 : (us.length + 1) * 24 ≤ 140737488355328 := by omega
          have hap : some g0 ≠ (Value.slice Ava us.length cva).ownBlock := fun e => own_apart HRP.out.own HUO.out (by decide) g0 rfl e.symm
          go_region
          all_goals go_wp2_with fail
          · have bW : Below wr.heap.size wr (wr.alloc (.cells #[.bool false] 4)).drew := (below_new wr _).drew
            generalize (wr.alloc (.cells #[.bool false] 4)).drew = wa at *
            have hza := bW.size
            have hga := Nat.lt_of_lt_of_le hg02 hza
            have hcaw := (bW.cell (p := ⟨g0, st'.length, none⟩) hg02).trans hca
            have hcbw := (bW.cell (p := ⟨g0, st'.length + 1, none⟩) hg02).trans hcb
            have hfrw := (bW.frozen (p := ⟨g0, st'.length, none⟩) hg02).trans hfr
            have huow := ownsRow_below' huo bW
            have hbs : ∀ (o : Obj), w0.heap.size ≤ (wa.alloc o).heap.size := fun o => by simp; omega
            clear hca hcb hfr huo
            have hw1 : IntKind.i64.wrap (st'.length : Int) = (st'.length : Int) := IntWalk.i64_in _ (by omega)
            have hw2 : IntKind.i64.wrap ((st'.length : Int) + 1 - 1) = (st'.length : Int) := by rw [Int.add_sub_cancel]; exact hw1
            have hw3 : (0 : Int) ≤ (st'.length : Int) + 1 := Int.le_of_lt hs0
            have hw4 : ((st'.length : Int) + 1).toNat = st'.length + 1 := rfl
            go_region_law ((refine step_append_lies _ rfl (.tmp 88) (.tmp 94) 23 rfl w0.heap.size 25 i25 (.agg #[.slice none 0 0]) 1 24 Try.underlying23 hj hy0 hy1 hy2 rfl Nat.one_pos (.slice Ava us.length cva) us.length us rfl (huow.alloc _) ⟨wa.heap.size, 0, none⟩ 1 1 [.slice Avb top.length cvb] rfl rfl (one_new wa (.slice Avb top.length cvb) 25) (one_ok' _ _ _) Nat.one_pos hm63 hm24 (hbs _) _ rfl ?_; intro g cp w2 hown2 hg2 hat hlt; have hcb2 := hg2.cell (keep_alloc _ hcbw) hap; have hca2 := hg2.cell (keep_alloc _ hcaw) hap; have hf2 := free_grown hg2 (keep_alloc _ hcaw) (free_alloc _ hcaw hfrw) hap))
            all_goals
              clear hw1 hw2
              have hst2 := shut_one H1.out H2.out H3.out htop HRD.out hcl hl1 HL2.out HRP.out hlst HRV.out HUO.out HUK.out HKB.out HBW.out hzr hg0.1 bW hown2 hg2 hat
              have HS2 := Lib.hid hst2
              have hmea : strLen (.string ⟨r.toArray⟩) < strLen (.string ⟨cur.toArray⟩) := by simp only [strLen, mk_size]; simp [sShut] at hcl; omega
              clear hst2 hown2 hg2 hat bW huow hcb2 hca2 hf2
              go_wp2
              go_roundw
              case rel => first | exact HS2.out | ((repeat apply Exists.intro); exact ⟨HS2.out, rfl⟩)
              case measure => exact hmea
          · have bW : Below wr.heap.size wr (wr.alloc (.cells #[.bool true] 4)).drew := (below_new wr _).drew
            generalize (wr.alloc (.cells #[.bool true] 4)).drew = wa at *
            have hza := bW.size
            have hga := Nat.lt_of_lt_of_le hg02 hza
            have hcaw := (bW.cell (p := ⟨g0, st'.length, none⟩) hg02).trans hca
            have hcbw := (bW.cell (p := ⟨g0, st'.length + 1, none⟩) hg02).trans hcb
            have hfrw := (bW.frozen (p := ⟨g0, st'.length, none⟩) hg02).trans hfr
            have huow := ownsRow_below' huo bW
            have hbs : ∀ (o : Obj), w0.heap.size ≤ (wa.alloc o).heap.size := fun o => by simp; omega
            clear hca hcb hfr huo
            have hw1 : IntKind.i64.wrap (st'.length : Int) = (st'.length : Int) := IntWalk.i64_in _ (by omega)
            have hw2 : IntKind.i64.wrap ((st'.length : Int) + 1 - 1) = (st'.length : Int) := by rw [Int.add_sub_cancel]; exact hw1
            have hw3 : (0 : Int) ≤ (st'.length : Int) + 1 := Int.le_of_lt hs0
            have hw4 : ((st'.length : Int) + 1).toNat = st'.length + 1 := rfl
            go_region_law ((refine step_append_lies _ rfl (.tmp 70) (.tmp 77) 23 rfl w0.heap.size 25 i25 (.agg #[.slice none 0 0]) 1 24 Try.underlying23 hj hy0 hy1 hy2 rfl Nat.one_pos (.slice Ava us.length cva) us.length us rfl (huow.alloc _) ⟨wa.heap.size, 0, none⟩ 1 1 [.slice none 0 0] rfl rfl (one_new wa (.slice none 0 0) 25) one_ok Nat.one_pos hm63 hm24 (hbs _) _ rfl ?_; intro g cp w2 hown2 hg2 hat hlt; have hcb2 := hg2.cell (keep_alloc _ hcbw) hap; have hca2 := hg2.cell (keep_alloc _ hcaw) hap; have hf2 := free_grown hg2 (keep_alloc _ hcaw) (free_alloc _ hcaw hfrw) hap))
            all_goals
              clear hw1 hw2
              obtain ⟨hst2, hcg, hfg⟩ := shut_two H1.out H2.out H3.out htop HRD.out hcl hl1 HL2.out HRP.out hlst HRV.out HUO.out HUK.out HKB.out HBW.out hzr hg0.1 bW hown2 hg2 hat
              clear hown2 hg2 hat hcb2 hca2 hf2
              have hui : (us.length : Int) < (us.length : Int) + 1 := by omega
              have hui0 : (0 : Int) ≤ (us.length : Int) := by omega
              generalize w2.setCell ⟨g0, st'.length, none⟩ (.slice (some ⟨g, 0, none⟩) (us.length + 1) cp) = wb at *
              have HS2 := Lib.hid hst2
              have hmea : strLen (.string ⟨r.toArray⟩) < strLen (.string ⟨cur.toArray⟩) := by simp only [strLen, mk_size]; simp [sShut] at hcl; omega
              clear hst2 bW huow
              go_wp2
              go_roundw
              case rel => first | exact HS2.out | ((repeat apply Exists.intro); exact ⟨HS2.out, rfl⟩)
              case measure => exact hmea
        · have h4 : cutP sShut cur = none ∨ st = [] ∨ top = [] := by
            cases h9 : cutP sShut cur with
            | none => exact .inl rfl
            | some r =>
              cases st with
              | nil => exact .inr (.inl rfl)
              | cons t st' =>
                by_cases ht : top = []
                · exact .inr (.inr ht)
                · exact absurd ⟨r, t, st', h9, rfl, ht⟩ h3
          have HRE := Lib.hid (HRD.out.symm.trans (readS_end h1 h2 h4))
          have H1 := Lib.hid h1
          have H2 := Lib.hid h2
          clear h1 h2 h3
          have hww : w.heap.size < w0.heap.size := by have := HZ.out; omega
          have hcr := (HBW.out.cell (p := ⟨w.heap.size, 0, none⟩) hww).trans HX0.out
          have hfr := (HBW.out.frozen (p := ⟨w.heap.size, 0, none⟩) hww).trans HF0.out
          have hBB := HB0.out.trans (HBW.out.mono (Nat.le_of_lt hww))
          have hzw := hBB.size
          have HBB := Lib.hid hBB
          clear hBB
          by_cases hE : cur = [42] ∧ st = []
          · obtain ⟨rfl, rfl⟩ := hE
            obtain ⟨va, rfl⟩ : ∃ va, rvs = [va] := List.length_eq_one_iff.1 HLEN.out
            have hRS : R = some (.mk top) := HRE.out
            have hRR : RSt w0.heap.size wr g0 cap ([] ++ [top]) ([] ++ [va]) := HR.out
            obtain ⟨_, hkb⟩ := hRR.pop
            have hc0 : wr.cell? ⟨g0, 0, none⟩ = some va := HR.out.cell 0 (by simp)
            obtain ⟨Ava, cva, eva, _⟩ := hkb.form
            subst eva
            have hK9 : KAt (fun b => w.heap.size ≤ b) (wr.setCell ⟨w.heap.size, 0, none⟩ (.slice Ava top.length cva)) (.mk top) (.slice Ava top.length cva) := (hkb.keep (.setCell (fun e => by have := e.1; omega) _)).mono (fun b hb => by have := hb.1; omega)
            have HK9 := Lib.hid hK9
            have HRS := Lib.hid hRS
            clear hK9 hRS hRR hkb h4 HRE
            have hg02 := hg0.2
            have hzww : w.heap.size < wr.heap.size := by omega
            go_wp2_with fail
            refine (cut_no [42] sOpen _ rfl).mono ?_
            rintro e w' ⟨rfl, rfl⟩
            go_wp2_with fail
            refine (cut_no [42] sItem _ rfl).mono ?_
            rintro e w' ⟨rfl, rfl⟩
            go_wp2_with fail
            refine (cut_no [42] sShut _ rfl).mono ?_
            rintro e w' ⟨rfl, rfl⟩
            go_wp2
            exact bodyPost_ret (v := .tuple #[.agg #[.slice Ava top.length cva], .int .i64 0]) (by simp [results, Try.results12, go_sem, hcr]) rfl ⟨HBB.out.setCell (Nat.le_refl _) _, .inl ⟨_, _, HRS.out, rfl, HK9.out⟩⟩
          · have hRN : R = none := by rw [HRE.out, if_neg hE]
            have HRN := Lib.hid hRN
            have hzww : w.heap.size < wr.heap.size := by omega
            have hg02 := hg0.2
            have fin : ∀ y1 : World, Below wr.heap.size wr y1 → ReadRes w R (.returned (.tuple #[.agg #[.slice none 0 0], .int .i64 12])) (y1.setCell ⟨w.heap.size, 0, none⟩ (.slice none 0 0)) := fun y1 hy => ⟨(HBB.out.trans (hy.mono (Nat.le_of_lt hzww))).setCell (Nat.le_refl _) _, .inr ⟨HRN.out, rfl⟩⟩
            have FIN := Lib.hid fin
            clear hRN HRE fin
            by_cases hc42 : cur = [42]
            · subst hc42
              have hst0 : st ≠ [] := fun e => hE ⟨rfl, e⟩
              have hs0 : ((st.length : Int) == 0) = false := by rw [beq_eq_false_iff_ne]; have : st.length ≠ 0 := fun e => hst0 (List.eq_nil_of_length_eq_zero e); omega
              clear h4 hE hst0
              go_wp2_with fail
              refine (cut_no [42] sOpen _ rfl).mono ?_
              rintro e w' ⟨rfl, rfl⟩
              go_wp2_with fail
              refine (cut_no [42] sItem _ rfl).mono ?_
              rintro e w' ⟨rfl, rfl⟩
              go_wp2_with fail
              refine (cut_no [42] sShut _ rfl).mono ?_
              rintro e w' ⟨rfl, rfl⟩
              go_wp2_with fail
              refine (star_below _).mono ?_
              rintro e y1 ⟨rfl, b1⟩
              have d1 := (b1.cell (p := ⟨w.heap.size, 0, none⟩) hzww).trans hcr
              have f1 := (b1.frozen (p := ⟨w.heap.size, 0, none⟩) hzww).trans hfr
              have HFF := Lib.hid (FIN.out y1 b1)
              clear b1
              go_wp2
              exact bodyPost_ret (v := .tuple #[.agg #[.slice none 0 0], .int .i64 12]) (by simp [results, Try.results12, go_sem, d1]) rfl HFF.out
            · clear hE
              cases h9 : cutP sShut cur with
              | none =>
                have H3 := Lib.hid h9
                clear h9 h4
                go_wp2_with fail
                refine (cut_no cur sOpen _ H1.out).mono ?_
                rintro e w' ⟨rfl, rfl⟩
                go_wp2_with fail
                refine (cut_no cur sItem _ H2.out).mono ?_
                rintro e w' ⟨rfl, rfl⟩
                go_wp2_with fail
                refine (cut_no cur sShut _ H3.out).mono ?_
                rintro e w' ⟨rfl, rfl⟩
                go_wp2_with fail
                refine (star_below _).mono ?_
                rintro e y1 ⟨rfl, b1⟩
                have d1 := (b1.cell (p := ⟨w.heap.size, 0, none⟩) hzww).trans hcr
                have f1 := (b1.frozen (p := ⟨w.heap.size, 0, none⟩) hzww).trans hfr
                have HFF := Lib.hid (FIN.out y1 b1)
                clear b1
                go_wp2
                exact bodyPost_ret (v := .tuple #[.agg #[.slice none 0 0], .int .i64 12]) (by simp [results, Try.results12, go_sem, d1]) rfl HFF.out
              | some r =>
                have H3 := Lib.hid h9
                have h5 : st = [] ∨ (st ≠ [] ∧ top = []) := by
                  rcases h4 with h | h | h
                  · rw [h9] at h; cases h
                  · exact .inl h
                  · by_cases hs : st = []
                    · exact .inl hs
                    · exact .inr ⟨hs, h⟩
                clear h9 h4
                rcases h5 with h5 | ⟨h5, h6⟩
                · subst h5
                  go_wp2_with fail
                  refine (cut_no cur sOpen _ H1.out).mono ?_
                  rintro e w' ⟨rfl, rfl⟩
                  go_wp2_with fail
                  refine (cut_no cur sItem _ H2.out).mono ?_
                  rintro e w' ⟨rfl, rfl⟩
                  go_wp2_with fail
                  refine (cut_yes cur sShut r _ H3.out).mono ?_
                  rintro e w' ⟨rfl, rfl⟩
                  go_wp2_with fail
                  refine (star_below _).mono ?_
                  rintro e y1 ⟨rfl, b1⟩
                  have d1 := (b1.cell (p := ⟨w.heap.size, 0, none⟩) hzww).trans hcr
                  have f1 := (b1.frozen (p := ⟨w.heap.size, 0, none⟩) hzww).trans hfr
                  have HFF := Lib.hid (FIN.out y1 b1)
                  clear b1
                  go_wp2
                  exact bodyPost_ret (v := .tuple #[.agg #[.slice none 0 0], .int .i64 12]) (by simp [results, Try.results12, go_sem, d1]) rfl HFF.out
                · subst h6
                  have hlst : st.length < rvs.length := by have := HLEN.out; omega
                  have hcv := HR.out.cell st.length hlst
                  obtain ⟨us, huo, huk⟩ := HR.out.rows st.length (by simp) hlst
                  have hu0 : us.length = 0 := by have := huk.1; simpa using this
                  generalize rvs[st.length] = rv at *
                  obtain ⟨Arv, crv, erv⟩ := own_form huo
                  rw [hu0] at erv
                  subst erv
                  have hs0 : (0 : Int) < (st.length : Int) := by have : st.length ≠ 0 := fun e => h5 (List.eq_nil_of_length_eq_zero e); omega
                  have hs1 : (0 : Int) ≤ (st.length : Int) := by omega
                  have hs2 : (st.length : Int) < (st.length : Int) + 1 := by omega
                  clear huo huk hu0 h5
                  go_wp2_with fail
                  refine (cut_no cur sOpen _ H1.out).mono ?_
                  rintro e w' ⟨rfl, rfl⟩
                  go_wp2_with fail
                  refine (cut_no cur sItem _ H2.out).mono ?_
                  rintro e w' ⟨rfl, rfl⟩
                  go_wp2_with fail
                  refine (cut_yes cur sShut r _ H3.out).mono ?_
                  rintro e w' ⟨rfl, rfl⟩
                  go_wp2_with fail
                  refine (star_below _).mono ?_
                  rintro e y1 ⟨rfl, b1⟩
                  have d1 := (b1.cell (p := ⟨w.heap.size, 0, none⟩) hzww).trans hcr
                  have f1 := (b1.frozen (p := ⟨w.heap.size, 0, none⟩) hzww).trans hfr
                  have HFF := Lib.hid (FIN.out y1 b1)
                  clear b1
                  go_wp2
                  exact bodyPost_ret (v := .tuple #[.agg #[.slice none 0 0], .int .i64 12]) (by simp [results, Try.results12, go_sem, d1]) rfl HFF.out
end Go.Proofs.Ytomhojpoaicioaa
