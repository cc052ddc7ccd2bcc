/- The contracts of the document's name, Lower and Upper, and the walk of the law CharsNames. No conditions but those that each theorem names. -/
import Derived.Test.YtibcclnienfchaaDoorPrints
import Derived.Lib.SmallJoins
import Derived.Deep.RegionHeld3
import Derived.Deep.DeepCutAuto
namespace Go.Proofs.YtibcclnienfchaaDoor
open Go.RowKit

theorem sign_of_range (lo hi : Int) (h : (lo = 97 ∧ hi = 122) ∨ (lo = 65 ∧ hi = 90)) (r : Int) (hr : rangeB lo hi r = true) : signB r = true := by
  unfold signB plainB rangeB at *
  rcases h with ⟨rfl, rfl⟩ | ⟨rfl, rfl⟩ <;> simp at * <;> omega

/-- All signs so far are signs of names. -/
def SignTo (s : ByteArray) (k : Nat) : Prop := ∀ i (h : i < s.size), i < k → signB (s[i].toNat : Int) = true

set_option maxHeartbeats 400000 in
theorem refname_any (lo hi : Int) (hlh : (lo = 97 ∧ hi = 122) ∨ (lo = 65 ∧ hi = 90)) (s : ByteArray) (w : World) (hs : s.size ≤ maxLen) :
    Calls Tryd.prog 27 #[.string s, .int .u8 lo, .int .u8 hi] w fun e w' => e = .returned (.bool (nameB lo hi s)) ∧ w = w' := by
  unfold maxLen at hs
  by_cases h0 : s.size = 0
  · have hn : nameB lo hi s = false := nameB_false (fun h => by unfold NameP at h; omega)
    rw [hn]; clear hn
    have h0' : ((s.size : Int) == 0) = true := by rw [h0]; rfl
    clear h0
    go_enter Tryd.func27, Tryd.ntmps27
    go_wp2
    go_ret
    exact ⟨rfl, rfl⟩
  have h0' : ((s.size : Int) == 0) = false := beq_eq_false_iff_ne.2 (by omega)
  by_cases h32 : 32 < s.size
  · have hn : nameB lo hi s = false := nameB_false (fun h => by unfold NameP at h; omega)
    rw [hn]; clear hn h0
    have h32' : (32 : Int) < (s.size : Int) := by omega
    go_enter Tryd.func27, Tryd.ntmps27
    go_wp2
    go_ret
    exact ⟨rfl, rfl⟩
  have h32' : decide ((32 : Int) < (s.size : Int)) = false := by simp; omega
  have HLH := Lib.hid hlh
  clear hlh
  go_enter Tryd.func27, Tryd.ntmps27
  go_wp2
  go_loop [7] (fun i => ∃ k : Nat, k ≤ s.size ∧ i = .int .i64 k ∧ SignTo s k) (fun i => s.size - (intOf i).toNat)
  case atStart => exact ⟨0, Nat.zero_le _, rfl, fun i _ h => absurd h (Nat.not_lt_zero _)⟩
  case round =>
    obtain ⟨k, hk, rfl, hok⟩ := hrel
    by_cases hlt : k < s.size
    · by_cases hsg : signB (s[k].toNat : Int) = true
      · have hok' : SignTo s (k + 1) := fun i h hi' => by
          by_cases e : i = k
          · subst e; exact hsg
          · exact hok i h (by omega)
        have HOK := Lib.hid hok'
        clear hok hok'
        have hcase : plainB (s[k].toNat : Int) = true ∨ (plainB (s[k].toNat : Int) = false ∧ (((s[k].toNat : Int) != 39) = false ∨ (((s[k].toNat : Int) != 39) = true ∧ ((s[k].toNat : Int) != 95) = false))) := by
          unfold signB at hsg
          simp only [Bool.or_eq_true, beq_iff_eq] at hsg
          by_cases hp : plainB (s[k].toNat : Int) = true
          · exact .inl hp
          · rcases hsg with (e | e) | e
            · exact absurd e hp
            · exact .inr ⟨by simpa using hp, .inl (by rw [e]; rfl)⟩
            · exact .inr ⟨by simpa using hp, .inr ⟨by rw [e]; rfl, by rw [e]; rfl⟩⟩
        clear hsg
        rcases hcase with hp | ⟨hp, hq | ⟨hq, hr⟩⟩
        all_goals
          go_wp2_with (go_at_call 37; refine (refplain_any _ _).mono ?_; rintro e w' ⟨rfl, rfl⟩)
          go_round
          case rel => exact ⟨k + 1, by omega, by go_num, HOK.out⟩
          case measure => simp [intOf]; omega
      · have hn : nameB lo hi s = false := nameB_false (fun h => by
          have h1 := h.2.2 k hlt
          unfold testB at h1
          split at h1
          · exact hsg (sign_of_range lo hi HLH.out _ h1)
          · exact hsg h1)
        have HN := Lib.hid hn
        have hp : plainB (s[k].toNat : Int) = false := by unfold signB at hsg; revert hsg; cases plainB (s[k].toNat : Int) <;> simp
        have hq : ((s[k].toNat : Int) != 39) = true := by unfold signB at hsg; rw [hp] at hsg; simp at hsg ⊢; omega
        have hr : ((s[k].toNat : Int) != 95) = true := by unfold signB at hsg; rw [hp] at hsg; simp at hsg ⊢; omega
        clear hn hsg hok
        go_wp2_with (go_at_call 37; refine (refplain_any _ _).mono ?_; rintro e w' ⟨rfl, rfl⟩)
        go_ret
        exact ⟨ret_bool HN.out.symm, rfl⟩
    · have hp0 : (0 : Int) < s.size := by omega
      have hp1 : 0 < s.size := by omega
      have HN : Hid (rangeB lo hi (s[0].toNat : Int) = nameB lo hi s) := by
        cases e : rangeB lo hi (s[0].toNat : Int)
        · exact (nameB_false (fun h => by have := h.2.2 0 hp1; unfold testB at this; rw [if_pos rfl, e] at this; cases this)).symm
        · refine (nameB_true ⟨hp1, by omega, fun i h => ?_⟩).symm
          unfold testB
          split
          · rename_i h9; subst h9; exact e
          · exact hok i h (by omega)
      have hd : decide (k < s.size) = false := by simpa using hlt
      clear hok
      go_wp2_with (go_at_call 38; refine (within_any _ _ _ _).mono ?_; rintro e w' ⟨rfl, rfl⟩)
      go_ret
      exact ⟨ret_bool HN.out, rfl⟩

set_option maxHeartbeats 400000 in
theorem reflower_any (s : ByteArray) (w : World) (hs : s.size ≤ maxLen) :
    Calls Tryd.prog 12 #[.string s] w fun e w' => e = .returned (.bool (nameB 97 122 s)) ∧ w = w' := by
  go_enter Tryd.func12, Tryd.ntmps12
  go_wp2_with (go_at_call 27; refine (refname_any 97 122 (.inl ⟨rfl, rfl⟩) _ _ hs).mono ?_; rintro e w' ⟨rfl, rfl⟩)
  go_ret
  exact ⟨rfl, rfl⟩
set_option maxHeartbeats 400000 in
theorem refupper_any (s : ByteArray) (w : World) (hs : s.size ≤ maxLen) :
    Calls Tryd.prog 14 #[.string s] w fun e w' => e = .returned (.bool (nameB 65 90 s)) ∧ w = w' := by
  go_enter Tryd.func14, Tryd.ntmps14
  go_wp2_with (go_at_call 27; refine (refname_any 65 90 (.inr ⟨rfl, rfl⟩) _ _ hs).mono ?_; rintro e w' ⟨rfl, rfl⟩)
  go_ret
  exact ⟨rfl, rfl⟩

theorem index_low (k : Nat) : ∃ b : UInt8, ∀ w, (Instr.index 9 (.string ⟨#[97, 90, 39, 48, 95, 98]⟩) (.int .i64 ((k : Int) % 6))).run Tryd.prog w = .ok (.int .u8 (b.toNat : Int)) w := by
  have e : (k : Int) % 6 = ((k % 6 : Nat) : Int) := by omega
  rw [e]
  have hc : k % 6 = 0 ∨ k % 6 = 1 ∨ k % 6 = 2 ∨ k % 6 = 3 ∨ k % 6 = 4 ∨ k % 6 = 5 := by omega
  generalize k % 6 = n at *
  clear e
  rcases hc with rfl | rfl | rfl | rfl | rfl | rfl
  · exact ⟨97, fun _ => rfl⟩
  · exact ⟨90, fun _ => rfl⟩
  · exact ⟨39, fun _ => rfl⟩
  · exact ⟨48, fun _ => rfl⟩
  · exact ⟨95, fun _ => rfl⟩
  · exact ⟨98, fun _ => rfl⟩
theorem index_up (k : Nat) : ∃ b : UInt8, ∀ w, (Instr.index 9 (.string ⟨#[65, 122, 95, 57, 39, 66]⟩) (.int .i64 ((k : Int) % 6))).run Tryd.prog w = .ok (.int .u8 (b.toNat : Int)) w := by
  have e : (k : Int) % 6 = ((k % 6 : Nat) : Int) := by omega
  rw [e]
  have hc : k % 6 = 0 ∨ k % 6 = 1 ∨ k % 6 = 2 ∨ k % 6 = 3 ∨ k % 6 = 4 ∨ k % 6 = 5 := by omega
  generalize k % 6 = n at *
  clear e
  rcases hc with rfl | rfl | rfl | rfl | rfl | rfl
  · exact ⟨65, fun _ => rfl⟩
  · exact ⟨122, fun _ => rfl⟩
  · exact ⟨95, fun _ => rfl⟩
  · exact ⟨57, fun _ => rfl⟩
  · exact ⟨39, fun _ => rfl⟩
  · exact ⟨66, fun _ => rfl⟩

/-- Two rows that the call owns lie in two blocks. -/
def Parted (a b : Value) : Prop := ∀ x y, a.ownBlock = some x → b.ownBlock = some y → x ≠ y
theorem Parted.keep {a b : Value} (h : Parted a b) : b.ownBlock = none ∨ b.ownBlock ≠ a.ownBlock := by
  cases e : b.ownBlock with
  | none => exact .inl rfl
  | some y =>
    right
    intro e2
    exact h y y e2.symm e rfl
theorem Parted.keep' {a b : Value} (h : Parted a b) : a.ownBlock = none ∨ a.ownBlock ≠ b.ownBlock := by
  cases e : a.ownBlock with
  | none => exact .inl rfl
  | some y =>
    right
    intro e2
    exact h y y e e2.symm rfl
theorem parted_low {w : World} {base n m cap g : Nat} {a b : Value} {xs : List Value} (h : Parted a b) (hb : w.ownsRow base 5 1 b n xs) (hg : a.ownBlock = some g ∨ g = w.heap.size + 1) : Parted (.slice (some ⟨g, 0, none⟩) m cap) b := by
  intro x y hx hy
  have hl := (hb.lt y hy).2
  obtain rfl : g = x := by simpa [Value.ownBlock] using hx
  rcases hg with hg | hg
  · exact h _ y hg hy
  · omega
theorem parted_up {H g g2 m cap m2 cap2 : Nat} {b : Value} (h : Parted (.slice (some ⟨g, 0, none⟩) m cap) b) (hg : g < H) (hb : b.ownBlock = some g2 ∨ g2 = H + 1) : Parted (.slice (some ⟨g, 0, none⟩) m cap) (.slice (some ⟨g2, 0, none⟩) m2 cap2) := by
  intro x y hx hy
  obtain rfl : g = x := by simpa [Value.ownBlock] using hx
  obtain rfl : g2 = y := by simpa [Value.ownBlock] using hy
  rcases hb with hb | hb
  · exact h g g2 rfl hb
  · omega

/-- A block whose first cells are these bytes, and may be written. -/
def Held (B : Nat) (l : List UInt8) (w : World) : Prop := ∀ j (h : j < l.length), w.cell? ⟨B, j, none⟩ = some (.int .u8 (l[j].toNat : Int)) ∧ w.frozen? ⟨B, j, none⟩ = false
theorem held_of_own {w : World} {base g cap : Nat} {l : List UInt8} (h : w.ownsRow base 5 1 (.slice (some ⟨g, 0, none⟩) l.length cap) l.length (bc l)) : Held g l w := fun j hj =>
  ⟨by rw [h.cellAt j (by omega)]; simp [bc, hj], h.frozenAt j⟩
theorem Held.below {X B : Nat} {l : List UInt8} {w w' : World} (h : Held B l w) (hb : Below X w w') (hB : B < X) : Held B l w' := fun j hj =>
  ⟨(hb.cell (p := ⟨B, j, none⟩) hB).trans (h j hj).1, (hb.frozen (p := ⟨B, j, none⟩) hB).trans (h j hj).2⟩
theorem Held.set {B : Nat} {l : List UInt8} {w : World} (h : Held B l w) (k : Nat) (hk : k < l.length) (c : Int) (h0 : 0 ≤ c) (h1 : c ≤ 255) : Held B (l.set k (UInt8.ofNat c.toNat)) (w.setCell ⟨B, k, none⟩ (.int .u8 c)) := fun j hj => by
  have hj' : j < l.length := by simpa using hj
  refine ⟨?_, by rw [World.frozen?_setCell]; exact (h j hj').2⟩
  by_cases e : j = k
  · subst e
    have ha : (((UInt8.ofNat c.toNat).toNat : Nat) : Int) = c := by rw [ofNat_toNat _ (by omega)]; omega
    rw [List.getElem_set_self, ha]
    exact World.cell?_setCell_same _ _ _ (h j hj').1
  · rw [World.cell?_setCell_other _ _ _ _ (fun h => e (by injection h with _ h; exact h.symm)), List.getElem_set_ne (fun h => e h.symm)]
    exact (h j hj').1
theorem Held.other {B B' : Nat} {l : List UInt8} {w : World} (h : Held B l w) (hne : B' ≠ B) (k : Nat) (v : Value) : Held B l (w.setCell ⟨B', k, none⟩ v) := fun j hj =>
  ⟨by rw [World.cell?_setCell_other _ _ _ _ (fun h => hne (by injection h))]; exact (h j hj).1, by rw [World.frozen?_setCell]; exact (h j hj).2⟩
theorem held_convert {w : World} {B cap : Nat} {l : List UInt8} (n : Nat) (hn : l.length = n) (h : Held B l w) :
    (convert 23 9 (.slice (some ⟨B, 0, none⟩) n cap)).run Tryd.prog w = .ok (.string ⟨l.toArray⟩) w := by
  subst hn
  refine run_convert_bytes_back w 23 9 5 ⟨B, 0, none⟩ cap l Tryd.underlying23 Tryd.underlying5 Tryd.underlying9 fun j hj => ?_
  have hadd : (⟨B, 0, none⟩ : Addr).add j = ⟨B, j, none⟩ := by unfold Addr.add; split <;> simp_all
  rw [hadd]
  exact (h j hj).1
theorem two_strings (a b : ByteArray) : ∀ u ∈ [Value.string a, Value.string b], u.oneCell' = true := by intro u hu; simp at hu; rcases hu with rfl | rfl <;> rfl
theorem Tryd.info9 : (Tryd.prog.info? 9).map (fun i => (i.zero, i.size, i.bytes)) = some (some (.string ⟨#[]⟩), 1, 16) := by kernel_rfl

set_option maxRecDepth 100000 in
set_option maxHeartbeats 2000000 in
theorem names_walk (a0 : ByteArray) (a1 a2 a3 : Int) (w0 : a0.size ≤ maxLen) (h1 : 0 ≤ a1) (h2 : a1 ≤ 255) (h3 : -9223372036854775808 ≤ a2) (h4 : a2 ≤ 9223372036854775807) (h5 : -9223372036854775808 ≤ a3) (h6 : a3 ≤ 9223372036854775807) (w : World) :
    Calls Tryd.prog 3 #[.string a0, .int .u8 a1, .int .i64 a2, .int .i64 a3] w fun e w' => e = .returned (.bool true) ∧ Below w.heap.size w w' := by
  obtain ⟨i0, hi, hz0, hz1, hz2⟩ := info_parts Tryd.info5
  go_enter Tryd.func3, Tryd.ntmps3
  go_wp2_with fail
  refine (around_any a3 _ _ h5 h6 (by omega) (by omega)).mono ?_
  rintro e w' ⟨n, hn, rfl, rfl⟩
  go_wp2_with fail
  go_loopw [10, 11, 12] (fun vl vu i wr => ∃ (k : Nat) (l u : List UInt8), k ≤ 1 + n ∧ i = .int .i64 k ∧ Hid (l.length = k) ∧ Hid (u.length = k) ∧ wr.ownsRow w.heap.size 5 1 vl l.length (bc l) ∧ wr.ownsRow w.heap.size 5 1 vu u.length (bc u) ∧ Parted vl vu ∧ Below w.heap.size w wr) (fun _ _ i _ => 1 + n - (intOf i).toNat)
  case atStart => exact ⟨0, [], [], by omega, rfl, rfl, rfl, World.ownsRow_nil _ _ _ _, World.ownsRow_nil _ _ _ _, (fun _ _ h => by cases h), Below.refl _ _⟩
  case round =>
    obtain ⟨k, l, u, hk, rfl, hl, hu, hol, hou, hne, hb⟩ := hrel
    have hll : l.length ≤ 36 := by rw [hl.out]; omega
    have hul : u.length ≤ 36 := by rw [hu.out]; omega
    have hsz := hb.size
    by_cases hlt : k < 1 + n
    · obtain ⟨bl, hbl⟩ := index_low k
      obtain ⟨bu, hbu⟩ := index_up k
      have hlt' : (k : Int) < 1 + (n : Int) := by omega
      have HK := Lib.hid hne.keep
      go_wp2_with (first | (at_builtin; refine wpList_append_lies _ rfl (.tmp 23) (.tmp 27) 23 rfl w.heap.size 5 i0 (.int .u8 0) 1 1 Tryd.underlying23 hi hz0 hz1 hz2 rfl (by decide) _ _ _ rfl (hol.alloc _) ⟨wr.heap.size, 0, none⟩ 1 1 [.int .u8 (bl.toNat : Int)] rfl rfl (cell_one_new _ _ _) (one_byte _) (by decide) (by unfold maxLen; omega) (by omega) (by simp; omega) _ rfl ?_; intro g cap x2 hown2 hg2 hlie hgl) | (at_builtin; refine wpList_append_lies _ rfl (.tmp 29) (.tmp 33) 23 rfl w.heap.size 5 i0 (.int .u8 0) 1 1 Tryd.underlying23 hi hz0 hz1 hz2 rfl (by decide) _ _ _ rfl (((hou.alloc _).kept hg2 HK.out).alloc _) ⟨x2.heap.size, 0, none⟩ 1 1 [.int .u8 (bu.toNat : Int)] rfl rfl (cell_one_new _ _ _) (one_byte _) (by decide) (by unfold maxLen; omega) (by omega) (by have := hg2.size; simp at this; simp; omega) _ rfl ?_; intro g3 cap3 x3 hown3 hg3 hlie3 hgl3))
      have R1 := own_step (w1 := wr.alloc (.cells #[.int .u8 (bl.toNat : Int)] 5)) (v := u10) l [bl] (hb.alloc hsz _) (by simp; omega) (hol.alloc _) hown2 hg2 rfl rfl
      have P1 : Parted (.slice (some ⟨g, 0, none⟩) (l.length + 1) cap) u11 := parted_low hne hou (by have h9 : u10.ownBlock = some g ∨ g = (wr.alloc (.cells #[.int .u8 (bl.toNat : Int)] 5)).heap.size := hlie; simpa using h9)
      have hs2 : w.heap.size ≤ x2.heap.size := R1.2.size
      have R2 := own_step (w1 := x2.alloc (.cells #[.int .u8 (bu.toNat : Int)] 5)) (v := u11) u [bu] (R1.2.alloc hs2 _) (by simp; omega) (((hou.alloc _).kept hg2 HK.out).alloc _) hown3 hg3 rfl rfl
      have P2 : Parted (.slice (some ⟨g, 0, none⟩) (l.length + 1) cap) (.slice (some ⟨g3, 0, none⟩) (u.length + 1) cap3) := parted_up P1 hgl (by have h9 : u11.ownBlock = some g3 ∨ g3 = (x2.alloc (.cells #[.int .u8 (bu.toNat : Int)] 5)).heap.size := hlie3; simpa using h9)
      have R3 := (R1.1.alloc (.cells #[.int .u8 (bu.toNat : Int)] 5)).kept hg3 P1.keep'
      go_roundw
      case rel => exact ⟨k + 1, l ++ [bl], u ++ [bu], by omega, by go_num, by show (l ++ [bl]).length = k + 1; rw [List.length_append, hl.out]; rfl, by show (u ++ [bu]).length = k + 1; rw [List.length_append, hu.out]; rfl, R3, R2.1, P2, R2.2⟩
      case measure => simp [intOf]; omega
    · have hlt' : ¬ ((k : Int) < 1 + (n : Int)) := by omega
      obtain rfl : k = 1 + n := by omega
      obtain ⟨g, cap, rfl, hgw, hg⟩ := hol.form (by rw [hl.out]; omega)
      obtain ⟨g2, cap2, rfl, hgw2, hg2⟩ := hou.form (by rw [hu.out]; omega)
      have hgg : g ≠ g2 := hne g g2 rfl rfl
      have hcvl : (convert 23 9 (.slice (some ⟨g, 0, none⟩) l.length cap)).run Tryd.prog wr.drew = .ok (.string ⟨l.toArray⟩) wr.drew := convert_own hol.drew
      have hcvu : (convert 23 9 (.slice (some ⟨g2, 0, none⟩) u.length cap2)).run Tryd.prog wr.drew = .ok (.string ⟨u.toArray⟩) wr.drew := convert_own hou.drew
      clear hne hlt hlt'
      go_wp2_with fail
      go_cut [13] (fun v wx => ∃ t : ByteArray, (t.size : Int) ≤ 50 ∧ v = .slice (some ⟨wr.heap.size, 0, none⟩) 3 3 ∧ wx = (wr.alloc (.cells #[.string t, .string ⟨l.toArray⟩, .string ⟨u.toArray⟩] 9)).drew)
      case first =>
        go_region_with (go_at_call 10; refine (short_any a0 50 _ w0 (by omega) (by omega)).mono ?_; rintro e w' ⟨t, ht, rfl, rfl⟩)
        all_goals
          go_wp2_with fail
          go_meet
          exact ⟨t, ht, rfl, rfl⟩
      case rest =>
        obtain ⟨t, ht, rfl, rfl⟩ := hcut
        clear hcvl hcvu
        have HL0 := (held_of_own hol).below (w' := (wr.alloc (.cells #[.string t, .string ⟨l.toArray⟩, .string ⟨u.toArray⟩] 9)).drew) ((Below.refl wr.heap.size wr).alloc (Nat.le_refl _) _).drew hg
        have HU0 := (held_of_own hou).below (w' := (wr.alloc (.cells #[.string t, .string ⟨l.toArray⟩, .string ⟨u.toArray⟩] 9)).drew) ((Below.refl wr.heap.size wr).alloc (Nat.le_refl _) _).drew hg2
        have HO0 : (wr.alloc (.cells #[.string t, .string ⟨l.toArray⟩, .string ⟨u.toArray⟩] 9)).drew.ownsRow wr.heap.size 9 1 (.slice (some ⟨wr.heap.size, 0, none⟩) 3 3) 3 [.string t, .string ⟨l.toArray⟩, .string ⟨u.toArray⟩] := World.ownsRow_lit (e := 9) (size := 1) wr #[.string t, .string ⟨l.toArray⟩, .string ⟨u.toArray⟩] 3 (Nat.le_refl _) (by decide) rfl
        have HB0 : Below w.heap.size w (wr.alloc (.cells #[.string t, .string ⟨l.toArray⟩, .string ⟨u.toArray⟩] 9)).drew := (hb.alloc hsz _).drew
        have HZ0 : wr.heap.size < (wr.alloc (.cells #[.string t, .string ⟨l.toArray⟩, .string ⟨u.toArray⟩] 9)).drew.heap.size := by show _ < (wr.alloc _).heap.size; simp
        clear hol hou hb
        generalize (wr.alloc (.cells #[.string t, .string ⟨l.toArray⟩, .string ⟨u.toArray⟩] 9)).drew = X0 at *
        generalize wr.heap.size = D at *
        go_wp2_with fail
        refine (around_any a2 _ _ h3 h4 (by omega) (by omega)).mono ?_
        rintro e w' ⟨i1, hi1, rfl, rfl⟩
        have hi1l : i1 < l.length := by rw [hl.out]; omega
        obtain ⟨hc1, hf1⟩ := HL0 i1 hi1l
        have hi1' : (i1 : Int) < (l.length : Int) := by omega
        have hi10 : (0 : Int) ≤ (i1 : Int) := by omega
        have HL1 := HL0.set i1 hi1l a1 h1 h2
        have HU1 := HU0.other (B' := g) hgg i1 (.int .u8 a1)
        have HO1 := ownsRow_setCell_below HO0 (a := ⟨g, i1, none⟩) hg (.int .u8 a1)
        have HB1 : Below w.heap.size w (X0.setCell ⟨g, i1, none⟩ (.int .u8 a1)) := HB0.setCell hgw _
        have HZ1 : D < (X0.setCell ⟨g, i1, none⟩ (.int .u8 a1)).heap.size := by simp; omega
        have K1 := Lib.hid HU1
        have K2 := Lib.hid HO1
        have K3 := Lib.hid HL1
        clear HU1 HO1 HL1 HL0 HU0 HO0 HB0
        go_wp2_with fail
        generalize X0.setCell ⟨g, i1, none⟩ (.int .u8 a1) = X1 at *
        clear hc1 hf1
        refine (around_any a2 _ _ h3 h4 (by omega) (by omega)).mono ?_
        rintro e w' ⟨i2, hi2, rfl, rfl⟩
        have hi2l : i2 < u.length := by rw [hu.out]; omega
        obtain ⟨hc2, hf2⟩ := K1.out i2 hi2l
        have hi2' : (i2 : Int) < (u.length : Int) := by omega
        have hi20 : (0 : Int) ≤ (i2 : Int) := by omega
        have HU2 := K1.out.set i2 hi2l a1 h1 h2
        have HL2 := K3.out.other (B' := g2) (fun h => hgg h.symm) i2 (.int .u8 a1)
        have HO2 := ownsRow_setCell_below K2.out (a := ⟨g2, i2, none⟩) hg2 (.int .u8 a1)
        have HB2 : Below w.heap.size w (X1.setCell ⟨g2, i2, none⟩ (.int .u8 a1)) := HB1.setCell hgw2 _
        have HZ2 : D < (X1.setCell ⟨g2, i2, none⟩ (.int .u8 a1)).heap.size := by simp; omega
        have hcv1 : (convert 23 9 (.slice (some ⟨g, 0, none⟩) l.length cap)).run Tryd.prog (X1.setCell ⟨g2, i2, none⟩ (.int .u8 a1)) = _ := held_convert (cap := cap) l.length (by simp) HL2
        have hcv2 : (convert 23 9 (.slice (some ⟨g2, 0, none⟩) u.length cap2)).run Tryd.prog (X1.setCell ⟨g2, i2, none⟩ (.int .u8 a1)) = _ := held_convert (cap := cap2) u.length (by simp) HU2
        have hL2 : (l.set i1 (UInt8.ofNat a1.toNat)).length ≤ 36 := by simpa using hll
        have hU2 : (u.set i2 (UInt8.ofNat a1.toNat)).length ≤ 36 := by simpa using hul
        generalize l.set i1 (UInt8.ofNat a1.toNat) = L2 at *
        generalize u.set i2 (UInt8.ofNat a1.toNat) = U2 at *
        have K4 := Lib.hid HO2
        clear K1 K2 K3 HU2 HL2 HO2 HB1 HZ1 HZ0
        obtain ⟨j0, hj, hy0, hy1, hy2⟩ := info_parts Tryd.info9
        go_upto_region 12 with (fail)
        generalize X1.setCell ⟨g2, i2, none⟩ (.int .u8 a1) = X2 at *
        clear hc2 hf2
        have hD2 : D ≤ X2.heap.size := by omega
        go_wp2_with (first | (at_builtin; refine wpList_append_own _ rfl (.tmp 54) (.tmp 59) 25 rfl D 9 j0 (.string ⟨#[]⟩) 1 16 Tryd.underlying25 hj hy0 hy1 hy2 rfl (by decide) _ _ _ rfl (K4.out.alloc _) ⟨X2.heap.size, 0, none⟩ 2 2 [.string ⟨L2.toArray⟩, .string ⟨U2.toArray⟩] rfl rfl (cell_two_new _ _ _ _) (two_strings _ _) (by decide) (by decide) (by simp; omega) ?_; intro v3 X3 hown3 hg3 _) | fail)
        have HB3 : Below w.heap.size w X3 := (HB2.alloc HB2.size _).grown (row := some D) hg3 (by simp; omega) (by intro x hx; injection hx with hx; omega)
        obtain ⟨G, C3, rfl, _, hGz⟩ := hown3.form (by decide)
        have HT3 : Texts G [t, ⟨l.toArray⟩, ⟨u.toArray⟩, ⟨L2.toArray⟩, ⟨U2.toArray⟩] X3 := fun q hq => by
          rw [hown3.cellAt q (by simpa using hq)]
          have hq' : q < 5 := by simpa using hq
          have hc : q = 0 ∨ q = 1 ∨ q = 2 ∨ q = 3 ∨ q = 4 := by omega
          rcases hc with rfl | rfl | rfl | rfl | rfl <;> rfl
        have HS : Hid (∀ x ∈ [t, ⟨l.toArray⟩, ⟨u.toArray⟩, ⟨L2.toArray⟩, (⟨U2.toArray⟩ : ByteArray)], x.size ≤ maxLen) := by
          intro x hx
          simp only [List.mem_cons, List.not_mem_nil, or_false] at hx
          unfold maxLen
          rcases hx with rfl | rfl | rfl | rfl | rfl
          · omega
          · show l.toArray.size ≤ _; simp; omega
          · show u.toArray.size ≤ _; simp; omega
          · show L2.toArray.size ≤ _; simp; omega
          · show U2.toArray.size ≤ _; simp; omega
        have HL : Hid ([t, ⟨l.toArray⟩, ⟨u.toArray⟩, ⟨L2.toArray⟩, (⟨U2.toArray⟩ : ByteArray)].length = 5) := rfl
        generalize [t, ⟨l.toArray⟩, ⟨u.toArray⟩, ⟨L2.toArray⟩, (⟨U2.toArray⟩ : ByteArray)] = strs at *
        clear hown3 hg3 HB2 HZ2 K4 hD2 hL2 hU2 hcv1 hcv2 ht hi1' hi10 hi2' hi20 hi1l hi2l hll hul
        go_loopw [14] (fun i y => ∃ j : Nat, j ≤ 5 ∧ i = .int .i64 j ∧ Texts G strs y ∧ Below w.heap.size w y ∧ G < y.heap.size) (fun i _ => 5 - (intOf i).toNat)
        case atStart => exact ⟨0, by omega, rfl, HT3, HB3, hGz⟩
        case round =>
          clear HT3 HB3 hGz
          obtain ⟨j, hj5, rfl, hT, hby, hz⟩ := hrel
          by_cases hlt : j < 5
          · have hjs : j < strs.length := by rw [HL.out]; exact hlt
            have hc0 := hT j hjs
            have hS0 := HS.out _ (show strs.getD j ByteArray.empty ∈ strs by simp [hjs])
            generalize strs.getD j ByteArray.empty = S0 at *
            have HT := Lib.hid hT
            clear hT hjs
            have hj0 : (0 : Int) ≤ (j : Int) := by omega
            have hj6 : (j : Int) < 5 := by omega
            go_wp2_with fail
            go_region_held3 (fun y => y.cell? ⟨G, j, none⟩ = some (.string S0)) (first | exact hc0 | exact hc1 | exact hc2) (first | (go_at_call 11; refine (lower_any _ _ hS0).mono ?_; rintro e y1 ⟨rfl, b1⟩; have hc1 := (b1.cell (p := ⟨G, j, none⟩) hz).trans hc0; have z1 : G < y1.heap.size := Nat.lt_of_lt_of_le hz b1.size) | (go_at_call 12; refine (reflower_any _ _ hS0).mono ?_; rintro e y' ⟨rfl, rfl⟩) | (go_at_call 13; refine (upper_any _ _ hS0).mono ?_; rintro e y2 ⟨rfl, b2⟩; have hc2 := (b2.cell (p := ⟨G, j, none⟩) z1).trans hc1; have z2 : G < y2.heap.size := Nat.lt_of_lt_of_le z1 b2.size) | (go_at_call 14; refine (refupper_any _ _ hS0).mono ?_; rintro e y' ⟨rfl, rfl⟩))
            have T1 : Texts G strs y1 := Texts.below (w := wr.drew) HT.out b1 hz
            have T2 : Texts G strs y2 := T1.below b2 z1
            have B1 : Below w.heap.size w y1 := hby.drew.trans (b1.mono hby.size)
            have B2 : Below w.heap.size w y2 := B1.trans (b2.mono B1.size)
            have HT2 := Lib.hid T2
            clear T1 T2 B1 b1 b2 HT hc0 hc1 z1
            go_wp2
            go_roundw
            case rel => first | exact ⟨j + 1, by omega, by go_num, HT2.out, B2, z2⟩ | ((repeat apply Exists.intro); exact ⟨⟨j + 1, by omega, by go_num, HT2.out, B2, z2⟩, rfl⟩)
            case measure => simp [intOf]; omega
          · obtain rfl : j = 5 := by omega
            go_wp2_with (go_at_call 15; refine (lives_any _).mono ?_; rintro e w' ⟨rfl, hbl⟩)
            go_ret
            exact ⟨rfl, hby.trans (hbl.mono hby.size)⟩
end Go.Proofs.YtibcclnienfchaaDoor
