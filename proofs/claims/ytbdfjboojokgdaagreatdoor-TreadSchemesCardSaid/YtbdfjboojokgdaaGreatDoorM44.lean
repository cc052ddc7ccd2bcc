/- The contract of the document's Context (chapter 5): predicates made of numbers. Conditions: the slice reads as numbers; at most 2^20 predicates. Sources of chapter 5's laws: six texts, made of a text, numbers, a place and a byte. Condition: the slice reads as numbers. -/
import Derived.Test.YtbdfjboojokgdaaGreatDoorM43
import Derived.Test.YtbdfjboojokgdaaGreatDoorM32
import Derived.Test.YtbdfjboojokgdaaGreatDoorM22
import Derived.Test.YtbdfjboojokgdaaGreatDoorM38
import Derived.Laws.IdiomStrings
import Derived.Maps.RangeWalk
import Derived.Deep.RegionLaw
import Derived.Deep.RegionHeld3
namespace Go.Proofs.YtbdfjboojokgdaaGreatDoor
open Go.RowKit

def clsK (k : Int) : ByteArray := if k = 0 then ⟨#[69]⟩ else if k = 1 then ⟨#[79]⟩ else ⟨#[83]⟩
def ctxB (zs : List Int) : Nat → ByteArray
  | 0 => ⟨#[]⟩
  | i + 1 => (if 0 < i then ctxB zs i ++ ⟨#[44, 32]⟩ else ctxB zs i) ++ clsK (aroundI (zs.getD i 0) 3) ++ ⟨#[32]⟩ ++ nameS (zs.getD i 0)
def ctxS (zs : List Int) (m : Nat) : ByteArray :=
  if m = 0 then ⟨#[]⟩ else if m = 1 ∧ zs.length % 2 = 0 then ctxB zs m ++ ⟨#[32, 61, 62, 32]⟩ else ⟨#[40]⟩ ++ ctxB zs m ++ ⟨#[41, 32, 61, 62, 32]⟩
theorem clsK_size (k : Int) : (clsK k).size = 1 := by
  unfold clsK
  split
  · rfl
  · split <;> rfl
theorem nameK_size (k : Int) : (nameK k).size = 1 := by
  unfold nameK
  split
  · rfl
  · split
    · rfl
    · split <;> rfl
theorem ctxB_size (zs : List Int) : ∀ m, (ctxB zs m).size ≤ 5 * m
  | 0 => Nat.zero_le _
  | i + 1 => by
    have := ctxB_size zs i
    have h1 := clsK_size (aroundI (zs.getD i 0) 3)
    have h2 : (nameS (zs.getD i 0)).size = 1 := nameK_size _
    have h3 : (⟨#[32]⟩ : ByteArray).size = 1 := rfl
    have h4 : (⟨#[44, 32]⟩ : ByteArray).size = 2 := rfl
    simp only [ctxB]
    split <;> simp only [ByteArray.size_append] <;> omega
set_option maxRecDepth 100000 in
set_option maxHeartbeats 4000000 in
theorem context_any (P : Nat → Prop) (zs : List Int) (v : Value) (m : Nat) (w : World) (h : IntsAt P w v zs) (hm : m ≤ 1048576) :
    Calls Tryz.prog 15 #[v, .int .i64 m] w fun e w' => e = .returned (.string (ctxS zs m)) ∧ Below w.heap.size w w' := by
  obtain ⟨A, c, rfl, hc, hcm⟩ := h.shape
  unfold maxLen at hcm
  have H1 := Lib.hid h
  have hzl : zs.length ≤ 9223372036854775807 := by omega
  have HZ : Hid (∀ z ∈ zs, -9223372036854775808 ≤ z ∧ z ≤ 9223372036854775807) := by obtain ⟨_, _, _, _, _, h9, _⟩ := h; exact h9
  clear h
  by_cases hm0 : m = 0
  · subst hm0
    go_enter Tryz.func15, Tryz.ntmps15
    go_wp2_with fail
    go_ret
    exact ⟨rfl, Below.refl _ _⟩
  have hmf : ((m : Int) == 0) = false := by rw [beq_eq_false_iff_ne]; omega
  go_enter Tryz.func15, Tryz.ntmps15
  go_wp2_with fail
  go_loopw [5, 6] (fun o i wr => ∃ k : Nat, k ≤ m ∧ i = .int .i64 k ∧ o = .string (ctxB zs k) ∧ Below w.heap.size w wr) (fun _ i _ => m - (intOf i).toNat)
  case atStart => exact ⟨0, Nat.zero_le _, rfl, rfl, Below.refl _ _⟩
  case round =>
    obtain ⟨k, hk, rfl, rfl, hb⟩ := hrel
    have HB := Lib.hid hb
    by_cases hlt : k < m
    · have hki : (k : Int) < (m : Int) := by omega
      have hk0 : (0 : Int) ≤ (k : Int) := by omega
      have hz : -9223372036854775808 ≤ zs.getD k 0 ∧ zs.getD k 0 ≤ 9223372036854775807 := by
        by_cases hkz : k < zs.length
        · have h9 : zs.getD k 0 = zs[k] := by simp [List.getD, List.getElem?_eq_getElem hkz]
          rw [h9]; exact HZ.out _ (List.getElem_mem hkz)
        · have h9 : zs.getD k 0 = 0 := by simp [List.getD, List.getElem?_eq_none (Nat.le_of_not_lt hkz)]
          rw [h9]; omega
      have HOUT : Hid (ctxB zs (k + 1) = (if 0 < k then ctxB zs k ++ ⟨#[44, 32]⟩ else ctxB zs k) ++ clsK (aroundI (zs.getD k 0) 3) ++ ⟨#[32]⟩ ++ nameS (zs.getD k 0)) := rfl
      have HA := Lib.hid (fun W => around_is (zs.getD k 0) 3 W hz.1 hz.2 (by omega) (by omega))
      have HN := Lib.hid (fun W => name_any (zs.getD k 0) W hz.1 hz.2)
      have hbd := aroundI_bd (zs.getD k 0) 3 (by omega)
      have hs1 := ctxB_size zs k
      have hn1 : (nameS (zs.getD k 0)).size = 1 := nameK_size _
      have HC : Hid ((k < zs.length ∧ ∃ b off, A = some ⟨b, off, none⟩ ∧ wr.cell? ⟨b, off + k, none⟩ = some (.int .i64 (zs.getD k 0)) ∧ b < wr.heap.size) ∨ (¬ k < zs.length ∧ zs.getD k 0 = 0)) := by
        by_cases hkz : k < zs.length
        · obtain ⟨b1, o1, e1, l1, k1⟩ := (H1.out.on hb).at k hkz
          exact .inl ⟨hkz, b1, o1, e1, by simpa [List.getD, List.getElem?_eq_getElem hkz] using k1, l1⟩
        · exact .inr ⟨hkz, by simp [List.getD, List.getElem?_eq_none (Nat.le_of_not_lt hkz)]⟩
      generalize zs.getD k 0 = z at *
      generalize hout : ctxB zs k = B at *
      generalize nameS z = N at *
      generalize aroundI z 3 = a at *
      clear hb hz hout
      have HK : Hid (∀ (w' : World), Below wr.heap.size wr w' → Below w.heap.size w w') := fun w' h9 => HB.out.trans (h9.mono HB.out.size)
      obtain ⟨O, hO⟩ : ∃ O : ByteArray, O = (if 0 < k then B ++ ⟨#[44, 32]⟩ else B) := ⟨_, rfl⟩
      have hOs : O.size ≤ B.size + 2 := by
        have h2 : (⟨#[44, 32]⟩ : ByteArray).size = 2 := rfl
        rw [hO]; split
        · rw [ByteArray.size_append]; omega
        · omega
      have ha : (a = 0 ∧ clsK a = ⟨#[69]⟩) ∨ (a = 1 ∧ clsK a = ⟨#[79]⟩) ∨ (a = 2 ∧ clsK a = ⟨#[83]⟩) := by
        have h9 : a = 0 ∨ a = 1 ∨ a = 2 := by omega
        rcases h9 with rfl | rfl | rfl
        · exact .inl ⟨rfl, rfl⟩
        · exact .inr (.inl ⟨rfl, rfl⟩)
        · exact .inr (.inr ⟨rfl, rfl⟩)
      have HFIN : Hid (ctxB zs (k + 1) = O ++ clsK a ++ ⟨#[32]⟩ ++ N) := by show _ = _; rw [HOUT.out, hO]
      have hd1 : ∀ q : World, (Op.stringOp .add B ⟨#[44, 32]⟩).run Tryz.prog q = .ok (.string (B ++ ⟨#[44, 32]⟩)) q := fun q => run_string_add_sum q _ _ (by show _ + 2 ≤ _; omega)
      have hcs := clsK_size a
      generalize clsK a = C at *
      have hd2 : ∀ q : World, (Op.stringOp .add O C).run Tryz.prog q = .ok (.string (O ++ C)) q := fun q => run_string_add_sum q _ _ (by omega)
      have hd3 : ∀ q : World, (Op.stringOp .add (O ++ C) ⟨#[32]⟩).run Tryz.prog q = .ok (.string (O ++ C ++ ⟨#[32]⟩)) q := fun q => run_string_add_sum q _ _ (by rw [ByteArray.size_append]; show _ + 1 ≤ _; omega)
      have hd4 : ∀ q : World, (Op.stringOp .add (O ++ C ++ ⟨#[32]⟩) N).run Tryz.prog q = .ok (.string (O ++ C ++ ⟨#[32]⟩ ++ N)) q := fun q => run_string_add_sum q _ _ (by rw [ByteArray.size_append, ByteArray.size_append]; show _ + _ + 1 + _ ≤ _; omega)
      have HN0 : Hid (Calls Tryz.prog 34 #[.int .i64 z] wr.drew fun e u => e = .returned (.string N) ∧ Below wr.heap.size wr u) := (HN.out wr.drew).mono (fun e u h => ⟨h.1, (Below.refl _ wr).drew.trans h.2⟩)
      have HN1 : Hid (Calls Tryz.prog 34 #[.int .i64 z] (wr.alloc (.cells #[.string ⟨#[69]⟩, .string ⟨#[79]⟩, .string ⟨#[83]⟩] 9)).drew fun e u => e = .returned (.string N) ∧ Below wr.heap.size wr u ∧ u.cell? ⟨wr.heap.size, 0, none⟩ = some (.string ⟨#[69]⟩) ∧ u.cell? ⟨wr.heap.size, 1, none⟩ = some (.string ⟨#[79]⟩) ∧ u.cell? ⟨wr.heap.size, 2, none⟩ = some (.string ⟨#[83]⟩)) := by
        have h5 := (MapKept.heap_alloc wr (.cells #[.string ⟨#[69]⟩, .string ⟨#[79]⟩, .string ⟨#[83]⟩] 9)).1
        have h6 := below_new wr (.cells #[.string ⟨#[69]⟩, .string ⟨#[79]⟩, .string ⟨#[83]⟩] 9)
        refine (HN.out _).mono (fun e u h => ⟨h.1, ?_⟩)
        have h7 : u.heap[wr.heap.size]? = some (.cells #[.string ⟨#[69]⟩, .string ⟨#[79]⟩, .string ⟨#[83]⟩] 9) := (h.2.block wr.heap.size (by simp)).trans h5
        exact ⟨h6.trans (h6.drew.trans (h.2.mono (by simp)) |> fun h8 => (Below.refl _ _).drew.trans (h.2.mono (by simp))), by simp [World.cell?, h7], by simp [World.cell?, h7], by simp [World.cell?, h7]⟩
      clear HOUT hs1 hn1 hOs hbd hcs
      by_cases hk9 : 0 < k
      · have hk9i : (0 : Int) < (k : Int) := by omega
        rw [if_pos hk9] at hO
        subst hO
        rcases HC.out with ⟨hkz, b, off, rfl, hcell, hbl⟩ | ⟨hkz, rfl⟩
        · have hkzi : (k : Int) < (zs.length : Int) := by omega
          clear HC
          rcases ha with ⟨rfl, rfl⟩ | ⟨rfl, rfl⟩ | ⟨rfl, rfl⟩
          all_goals
            go_upto_region 12 with (fail)
            go_region_law (first | (go_simp; go_at_call 16; (with_reducible refine (HA.out _).mono ?_); rintro e3 v ⟨rfl, rfl⟩) | (go_simp; go_at_call 34; (with_reducible refine HN0.out.mono ?_); rintro e4 u ⟨rfl, hu⟩) | (go_simp; go_at_call 34; (with_reducible refine HN1.out.mono ?_); rintro e4 u ⟨rfl, hu, hu0, hu1, hu2⟩))
            all_goals
              go_wp2
              go_roundw
              case rel => first | exact ⟨k + 1, by omega, by go_num, by rw [HFIN.out], by first | exact HK.out _ hu | exact HK.out _ (hu.trans ((below_new _ _).mono hu.size))⟩ | exact ⟨0 + 1, by omega, by go_num, by rw [HFIN.out], by first | exact HK.out _ hu | exact HK.out _ (hu.trans ((below_new _ _).mono hu.size))⟩
              case measure => simp [intOf]; omega
        · have hkzi : ¬ (k : Int) < (zs.length : Int) := by omega
          have hkzd : decide (k < zs.length) = false := by simpa using hkz
          clear HC
          rcases ha with ⟨rfl, rfl⟩ | ⟨rfl, rfl⟩ | ⟨rfl, rfl⟩
          all_goals
            go_upto_region 12 with (fail)
            go_region_law (first | (go_simp; go_at_call 16; (with_reducible refine (HA.out _).mono ?_); rintro e3 v ⟨rfl, rfl⟩) | (go_simp; go_at_call 34; (with_reducible refine HN0.out.mono ?_); rintro e4 u ⟨rfl, hu⟩) | (go_simp; go_at_call 34; (with_reducible refine HN1.out.mono ?_); rintro e4 u ⟨rfl, hu, hu0, hu1, hu2⟩))
            all_goals
              go_wp2
              go_roundw
              case rel => first | exact ⟨k + 1, by omega, by go_num, by rw [HFIN.out], by first | exact HK.out _ hu | exact HK.out _ (hu.trans ((below_new _ _).mono hu.size))⟩ | exact ⟨0 + 1, by omega, by go_num, by rw [HFIN.out], by first | exact HK.out _ hu | exact HK.out _ (hu.trans ((below_new _ _).mono hu.size))⟩
              case measure => simp [intOf]; omega
      · have hk9i : ¬ (0 : Int) < (k : Int) := by omega
        obtain rfl : k = 0 := by omega
        rw [if_neg (by omega)] at hO
        subst hO
        rcases HC.out with ⟨hkz, b, off, rfl, hcell, hbl⟩ | ⟨hkz, rfl⟩
        · have hkzi : (0 : Int) < (zs.length : Int) := by omega
          rw [Nat.add_zero] at hcell
          clear HC
          rcases ha with ⟨rfl, rfl⟩ | ⟨rfl, rfl⟩ | ⟨rfl, rfl⟩
          all_goals
            go_upto_region 12 with (fail)
            go_region_law (first | (go_simp; go_at_call 16; (with_reducible refine (HA.out _).mono ?_); rintro e3 v ⟨rfl, rfl⟩) | (go_simp; go_at_call 34; (with_reducible refine HN0.out.mono ?_); rintro e4 u ⟨rfl, hu⟩) | (go_simp; go_at_call 34; (with_reducible refine HN1.out.mono ?_); rintro e4 u ⟨rfl, hu, hu0, hu1, hu2⟩))
            all_goals
              go_wp2
              go_roundw
              case rel => first | exact ⟨k + 1, by omega, by go_num, by rw [HFIN.out], by first | exact HK.out _ hu | exact HK.out _ (hu.trans ((below_new _ _).mono hu.size))⟩ | exact ⟨0 + 1, by omega, by go_num, by rw [HFIN.out], by first | exact HK.out _ hu | exact HK.out _ (hu.trans ((below_new _ _).mono hu.size))⟩
              case measure => simp [intOf]; omega
        · have hkzi : ¬ (0 : Int) < (zs.length : Int) := by omega
          have hkzd : decide (0 < zs.length) = false := by simpa using hkz
          clear HC
          rcases ha with ⟨rfl, rfl⟩ | ⟨rfl, rfl⟩ | ⟨rfl, rfl⟩
          all_goals
            go_upto_region 12 with (fail)
            go_region_law (first | (go_simp; go_at_call 16; (with_reducible refine (HA.out _).mono ?_); rintro e3 v ⟨rfl, rfl⟩) | (go_simp; go_at_call 34; (with_reducible refine HN0.out.mono ?_); rintro e4 u ⟨rfl, hu⟩) | (go_simp; go_at_call 34; (with_reducible refine HN1.out.mono ?_); rintro e4 u ⟨rfl, hu, hu0, hu1, hu2⟩))
            all_goals
              go_wp2
              go_roundw
              case rel => first | exact ⟨k + 1, by omega, by go_num, by rw [HFIN.out], by first | exact HK.out _ hu | exact HK.out _ (hu.trans ((below_new _ _).mono hu.size))⟩ | exact ⟨0 + 1, by omega, by go_num, by rw [HFIN.out], by first | exact HK.out _ hu | exact HK.out _ (hu.trans ((below_new _ _).mono hu.size))⟩
              case measure => simp [intOf]; omega
    · have hd : decide (k < m) = false := by simpa using hlt
      obtain rfl : k = m := by omega
      clear hb
      have hs1 := ctxB_size zs k
      have he1 : ∀ q : World, (Op.stringOp .add (ctxB zs k) ⟨#[32, 61, 62, 32]⟩).run Tryz.prog q = .ok (.string (ctxB zs k ++ ⟨#[32, 61, 62, 32]⟩)) q := fun q => run_string_add_sum q _ _ (by show _ + 4 ≤ _; omega)
      have he2 : ∀ q : World, (Op.stringOp .add ⟨#[40]⟩ (ctxB zs k)).run Tryz.prog q = .ok (.string (⟨#[40]⟩ ++ ctxB zs k)) q := fun q => run_string_add_sum q _ _ (by show 1 + _ ≤ _; omega)
      have he3 : ∀ q : World, (Op.stringOp .add (⟨#[40]⟩ ++ ctxB zs k) ⟨#[41, 32, 61, 62, 32]⟩).run Tryz.prog q = .ok (.string (⟨#[40]⟩ ++ ctxB zs k ++ ⟨#[41, 32, 61, 62, 32]⟩)) q := fun q => run_string_add_sum q _ _ (by rw [ByteArray.size_append]; show 1 + _ + 5 ≤ _; omega)
      have hm2 : (zs.length : Int).tmod 2 = ((zs.length % 2 : Nat) : Int) := by rw [Int.tmod_eq_emod_of_nonneg (by omega)]; omega
      have hm3 : (zs.length : Int) % 2 = ((zs.length % 2 : Nat) : Int) := by omega
      have hl0 : (0 : Int) ≤ (zs.length : Int) := by omega
      have hl1 : (zs.length : Int) ≤ 9223372036854775807 := by omega
      have HR : Hid (ctxS zs k = if k = 0 then ⟨#[]⟩ else if k = 1 ∧ zs.length % 2 = 0 then ctxB zs k ++ ⟨#[32, 61, 62, 32]⟩ else ⟨#[40]⟩ ++ ctxB zs k ++ ⟨#[41, 32, 61, 62, 32]⟩) := rfl
      generalize ctxB zs k = B at *
      by_cases h1 : k = 1
      · have h1i : ((k : Int) == 1) = true := by rw [h1]; rfl
        by_cases h2 : zs.length % 2 = 0
        · have h2i : (((zs.length % 2 : Nat) : Int) == 0) = true := by rw [h2]; rfl
          have HE : Hid (B ++ ⟨#[32, 61, 62, 32]⟩ = ctxS zs k) := by show _ = _; rw [HR.out, if_neg (by omega), if_pos ⟨h1, h2⟩]
          have h2j : ((zs.length : Int).tmod 2 == 0) = true := by rw [hm2]; exact h2i
          have h2k : ((zs.length : Int) % 2 == 0) = true := by rw [hm3]; exact h2i
          clear h2 HR h1 hm2 hm3
          go_wp2
          go_ret
          exact ⟨by rw [← HE.out]; rfl, HB.out⟩
        · have h2i : (((zs.length % 2 : Nat) : Int) == 0) = false := by rw [beq_eq_false_iff_ne]; omega
          have HE : Hid (⟨#[40]⟩ ++ B ++ ⟨#[41, 32, 61, 62, 32]⟩ = ctxS zs k) := by show _ = _; rw [HR.out, if_neg (by omega), if_neg (by rintro ⟨_, h⟩; exact h2 h)]
          have h2j : ((zs.length : Int).tmod 2 == 0) = false := by rw [hm2]; exact h2i
          have h2k : ((zs.length : Int) % 2 == 0) = false := by rw [hm3]; exact h2i
          clear h2 HR h1 hm2 hm3
          go_wp2
          go_ret
          exact ⟨by rw [← HE.out]; rfl, HB.out⟩
      · have h1i : ((k : Int) == 1) = false := by rw [beq_eq_false_iff_ne]; omega
        have HE : Hid (⟨#[40]⟩ ++ B ++ ⟨#[41, 32, 61, 62, 32]⟩ = ctxS zs k) := by show _ = _; rw [HR.out, if_neg hm0, if_neg (by rintro ⟨h, _⟩; exact h1 h)]
        clear HR h1
        go_wp2
        go_ret
        exact ⟨by rw [← HE.out]; rfl, HB.out⟩
end Go.Proofs.YtbdfjboojokgdaaGreatDoor
namespace Go.Proofs.YtbdfjboojokgdaaGreatDoor
open Go.RowKit Lx

def SomeShort (m : Int) (w : World) (e : Ending) (w' : World) : Prop := ∃ t : ByteArray, (t.size : Int) ≤ m ∧ e = .returned (.string t) ∧ w = w'
theorem short_any (s : ByteArray) (m : Int) (w : World) (hs : s.size ≤ maxLen) (hm : 0 ≤ m) (hm' : m ≤ 9223372036854775807) :
    Calls Tryz.prog 18 #[.string s, .int .i64 m] w (SomeShort m w) := by
  unfold maxLen at hs
  go_enter Tryz.func18, Tryz.ntmps18
  go_wp2
  · go_ret
    exact ⟨s.extract 0 m.toNat, by simp [ByteArray.size_extract]; omega, rfl, rfl⟩
  · go_ret
    exact ⟨s, by assumption, rfl, rfl⟩
theorem bytes_made (w : World) (p : List UInt8) (hp : p.length ≤ maxLen) : ∃ W cap, (convert 9 51 (.string ⟨p.toArray⟩)).run Tryz.prog w = .ok (.slice (some ⟨w.heap.size, 0, none⟩) p.length cap) W ∧ Below w.heap.size w W ∧ w.heap.size < W.heap.size ∧ p.length ≤ cap ∧ cap ≤ maxLen ∧
    ∀ j (_ : j < p.length), W.cell? ⟨w.heap.size, j, none⟩ = some (.int .u8 (p[j].toNat : Int)) ∧ W.frozen? ⟨w.heap.size, j, none⟩ = false := by
  have h := run_bytes_of_string (P := Tryz.prog) w 9 51 5 ⟨p.toArray⟩ Tryz.underlying9 Tryz.underlying51 Tryz.underlying5
  rw [mk_size] at h
  refine ⟨_, _, h, ?_, by simp, grownCap_ge _ _ _ _, grownCap_le_maxLen _ _ _ _ hp, fun j hj => ⟨?_, ?_⟩⟩
  · exact ((Below.refl _ _).drew).alloc (Nat.le_refl _) _
  · generalize grownCap w p.length 0 5 = cap
    have h9 := (MapKept.heap_alloc w.drew (.cells (bytesRow ⟨p.toArray⟩ cap) 5 ((bytesRow ⟨p.toArray⟩ cap).size, (bytesRow ⟨p.toArray⟩ cap).size + 1))).1
    have h8 : (w.drew.alloc (.cells (bytesRow ⟨p.toArray⟩ cap) 5 ((bytesRow ⟨p.toArray⟩ cap).size, (bytesRow ⟨p.toArray⟩ cap).size + 1))).heap[w.heap.size]? = some (.cells (bytesRow ⟨p.toArray⟩ cap) 5 ((bytesRow ⟨p.toArray⟩ cap).size, (bytesRow ⟨p.toArray⟩ cap).size + 1)) := h9
    have h7 := bytesRow_at ⟨p.toArray⟩ cap j (by simpa using hj)
    simp only [World.cell?, h8]
    simpa using h7
  · generalize grownCap w p.length 0 5 = cap
    have h9 := (MapKept.heap_alloc w.drew (.cells (bytesRow ⟨p.toArray⟩ cap) 5 ((bytesRow ⟨p.toArray⟩ cap).size, (bytesRow ⟨p.toArray⟩ cap).size + 1))).1
    have h8 : (w.drew.alloc (.cells (bytesRow ⟨p.toArray⟩ cap) 5 ((bytesRow ⟨p.toArray⟩ cap).size, (bytesRow ⟨p.toArray⟩ cap).size + 1))).heap[w.heap.size]? = some (.cells (bytesRow ⟨p.toArray⟩ cap) 5 ((bytesRow ⟨p.toArray⟩ cap).size, (bytesRow ⟨p.toArray⟩ cap).size + 1)) := h9
    have hsz : p.length ≤ (bytesRow ⟨p.toArray⟩ cap).size := by simp [bytesRow]
    simp only [World.frozen?, h8]
    simp
    omega
theorem bytes_back (w : World) (g cap : Nat) (l : List UInt8) (h : ∀ j (_ : j < l.length), w.cell? ⟨g, j, none⟩ = some (.int .u8 (l[j].toNat : Int))) : (convert 51 9 (.slice (some ⟨g, 0, none⟩) l.length cap)).run Tryz.prog w = .ok (.string ⟨l.toArray⟩) w :=
  run_convert_bytes_back w 51 9 5 ⟨g, 0, none⟩ cap l Tryz.underlying51 Tryz.underlying5 Tryz.underlying9 fun j hj => by rw [Go.WideShapes.add_plain, Nat.zero_add]; exact h j hj
theorem row_cell (w : World) (L : List Value) (t : TypeId) (i : Nat) (h : i < L.length) : (w.alloc (.cells L.toArray t)).cell? ⟨w.heap.size, i, none⟩ = some L[i] := by
  have h9 := (MapKept.heap_alloc w (.cells L.toArray t)).1
  simp only [World.cell?, h9]
  simp [h]
theorem cell_apart {w : World} {b i j : Nat} {v : Value} (h : i ≠ j) : (w.setCell ⟨b, i, none⟩ v).cell? ⟨b, j, none⟩ = w.cell? ⟨b, j, none⟩ := by simp [go_sem]
theorem ctxS_size (zs : List Int) (M : Nat) : (ctxS zs M).size ≤ 5 * M + 6 := by
  have h3 := ctxB_size zs M
  have h5 : (⟨#[40]⟩ : ByteArray).size = 1 := rfl
  have h6 : (⟨#[41, 32, 61, 62, 32]⟩ : ByteArray).size = 5 := rfl
  have h7 : (⟨#[32, 61, 62, 32]⟩ : ByteArray).size = 4 := rfl
  have h8 : (⟨#[]⟩ : ByteArray).size = 0 := rfl
  unfold ctxS
  split
  · omega
  · split
    · simp only [ByteArray.size_append]; omega
    · simp only [ByteArray.size_append]; omega
theorem good_ten {t : Ty} (h : GoodT t) : t.ten := by
  induction h with
  | var s h => trivial
  | con s h => trivial
  | fn a b ha hb iha ihb => exact ⟨⟨trivial, iha⟩, ihb⟩
  | app a b ha hb iha ihb => exact ⟨iha, ihb⟩
theorem good_pos {t : Ty} (h : GoodT t) : 1 ≤ t.pr.length := by
  have hl : ∀ x ∈ lowsL, 1 ≤ x.length := by decide
  have hu : ∀ x ∈ upsL, 1 ≤ x.length := by decide
  cases h with
  | var s h => exact hl _ h
  | con s h => rw [Ty.pr, up_not_arrow h]; exact hu _ h
  | fn a b ha hb =>
    have hsd : (Ty.fn a b).sides = some (a, b) := by
      show (if Ty.isArrow (.con ⟨#[45, 62]⟩) = true then some (a, b) else none) = some (a, b)
      rw [if_pos (by decide)]
    rw [Ty.pr_fun hsd]
    simp only [List.length_append, List.length_cons, List.length_nil]; omega
  | app a b ha hb =>
    rw [Ty.pr_app ha.sides_app]
    simp only [List.length_append, List.length_cons, List.length_nil]; omega
/-- Six texts, none of them great. -/
def Six (w : World) (v : Value) : Prop := ∃ (g cap : Nat) (f : Nat → ByteArray), v = .slice (some ⟨g, 0, none⟩) 6 cap ∧ g < w.heap.size ∧ ∀ j : Nat, j < 6 → w.cell? ⟨g, j, none⟩ = some (.string (f j)) ∧ (f j).size ≤ 1048576
theorem Six.on {w w' : World} {v : Value} (h : Six w v) (hb : Below w.heap.size w w') : Six w' v := by
  obtain ⟨g, cap, f, e, hg, h9⟩ := h
  exact ⟨g, cap, f, e, by have := hb.size; omega, fun j hj => ⟨(hb.cell (p := ⟨g, j, none⟩) hg).trans (h9 j hj).1, (h9 j hj).2⟩⟩
theorem intRow_of_ints' {w : World} {A : Option Addr} {len cap : Nat} {zs : List Int} (h : IntsAt (fun b => b < w.heap.size) w (.slice A len cap) zs) : IntRow w.heap.size w A len ∧ len ≤ 9223372036854775807 := by
  obtain ⟨A', c, e, h1, h2, h3, hr⟩ := h
  injection e with e1 e2 e3
  subst e1 e2 e3
  unfold maxLen at h2
  refine ⟨?_, by omega⟩
  rcases hr with h9 | ⟨b, off, e, hp, hlt, hc⟩
  · exact .inl (by rw [h9]; rfl)
  · exact .inr ⟨b, off, e, hlt, fun i hi => ⟨zs[i], (h3 _ (List.getElem_mem hi)).1, (h3 _ (List.getElem_mem hi)).2, hc i hi⟩⟩
theorem app_mk (a : ByteArray) (l : List UInt8) : a ++ (⟨l.toArray⟩ : ByteArray) = ⟨(a.data.toList ++ l).toArray⟩ := by
  cases a with
  | mk d => apply ByteArray.ext; simp
theorem six_of (y : World) {a b c d e f : ByteArray} (ha : a.size ≤ 1048576) (hb : b.size ≤ 1048576) (hc : c.size ≤ 1048576) (hd : d.size ≤ 1048576) (he : e.size ≤ 1048576) (hf : f.size ≤ 1048576) : Six (y.alloc (.cells #[.string a, .string b, .string c, .string d, .string e, .string f] 9)) (.slice (some ⟨y.heap.size, 0, none⟩) 6 6) := by
  have h9 := (MapKept.heap_alloc y (.cells #[.string a, .string b, .string c, .string d, .string e, .string f] 9)).1
  refine ⟨y.heap.size, 6, fun j => [a, b, c, d, e, f].getD j ⟨#[]⟩, rfl, by simp, fun j hj => ?_⟩
  have hj9 : j = 0 ∨ j = 1 ∨ j = 2 ∨ j = 3 ∨ j = 4 ∨ j = 5 := by omega
  rcases hj9 with rfl | rfl | rfl | rfl | rfl | rfl
  · exact ⟨by simp only [World.cell?, h9]; rfl, ha⟩
  · exact ⟨by simp only [World.cell?, h9]; rfl, hb⟩
  · exact ⟨by simp only [World.cell?, h9]; rfl, hc⟩
  · exact ⟨by simp only [World.cell?, h9]; rfl, hd⟩
  · exact ⟨by simp only [World.cell?, h9]; rfl, he⟩
  · exact ⟨by simp only [World.cell?, h9]; rfl, hf⟩
set_option maxRecDepth 100000 in
set_option maxHeartbeats 2000000 in
theorem srcs_any (s : ByteArray) (v : Value) (zs : List Int) (at' : Int) (c : Int) (w : World) (hs : s.size ≤ maxLen) (h : IntsAt (fun b => b < w.heap.size) w v zs) (ha1 : -9223372036854775808 ≤ at') (ha2 : at' ≤ 9223372036854775807) (hc1 : 0 ≤ c) (hc2 : c ≤ 255) :
    Calls Tryz.prog 6 #[.string s, v, .int .i64 at', .int .u8 c] w fun e w' => ∃ v', e = .returned v' ∧ Six w' v' ∧ Below w.heap.size w w' := by
  have hbd4 := aroundI_bd at' 4 (by omega)
  obtain ⟨m, hm4⟩ := Int.eq_ofNat_of_zero_le hbd4.1
  have hm : m < 4 := by omega
  obtain ⟨hG, hGs, _⟩ := goodZ_good zs
  have hpl := hG.pr_len
  have hpp := good_pos hG
  have hcs := ctxS_size zs m
  have HAR := Lib.hid (fun (X : World) => around_is at' 4 X ha1 ha2 (by omega) (by omega))
  rw [hm4] at HAR
  have HCX := Lib.hid (fun (X : World) (hb9 : Below w.heap.size w X) => context_any _ zs v m X (h.on hb9) (by omega))
  have HGD := Lib.hid (fun (X : World) (hb : Below w.heap.size w X) => goodT_any _ v zs X (h.on hb))
  have HPR : Hid (∀ (Q : Nat → Prop) (tv : Value) (X : World), TyAt Q X (goodZ zs) tv → Calls Tryz.prog 17 #[tv] X fun e w' => e = .returned (.string ⟨(goodZ zs).pr.toArray⟩) ∧ Below X.heap.size X w') := fun Q tv X ht => refprint_any Q (goodZ zs) (good_ten hG) (by omega) tv X ht
  obtain ⟨A, cc, rfl⟩ := h.slice
  obtain ⟨hrow, hzl⟩ := intRow_of_ints' h
  obtain ⟨f0, hf0⟩ := intRowF_of hrow
  have hssz := srcT_len _ (textsF_mem f0 (min zs.length 30))
  rw [textsF_len] at hssz
  have HSRC := Lib.hid (fun (X : World) (hb : Below w.heap.size w X) => sourceT_any A zs.length cc f0 X ((hf0.below hb (Nat.le_refl _)).mono hb.size) hzl)
  have HBW : Hid (Below w.heap.size w w) := Below.refl _ _
  obtain ⟨p, hp⟩ : ∃ p, (ctxS zs m).data.toList ++ (goodZ zs).pr = p := ⟨_, rfl⟩
  have hpl1 : 1 ≤ p.length := by rw [← hp, List.length_append]; omega
  have hpl2 : p.length ≤ 4000 := by
    rw [← hp, List.length_append]
    have : (ctxS zs m).data.toList.length = (ctxS zs m).size := rfl
    omega
  have HP := Lib.hid (app_mk (ctxS zs m) (goodZ zs).pr)
  rw [hp] at HP
  have hbd := aroundI_bd at' (p.length : Int) (by omega)
  obtain ⟨q, hq⟩ := Int.eq_ofNat_of_zero_le hbd.1
  have hqp : q < p.length := by omega
  have HAR2 := Lib.hid (fun (X : World) => around_is at' (p.length : Int) X ha1 ha2 (by omega) (by omega))
  rw [hq] at HAR2
  have hpr9 : (goodZ zs).pr.length ≤ 776 := by omega
  have hpr8 : (⟨(goodZ zs).pr.toArray⟩ : ByteArray).size = (goodZ zs).pr.length := mkS_size _
  have hcx9 : (ctxS zs m).size ≤ 100 := by omega
  have hpz : (⟨p.toArray⟩ : ByteArray).size = p.length := mkS_size _
  have hlz : (⟨#[32, 41]⟩ : ByteArray).size = 2 := rfl
  clear hp hpl hpp hG hGs hcs hrow hf0 hbd hbd4 hm4 hq
  generalize textsF f0 (min zs.length 30) = tx0 at *
  generalize hsr : srcT tx0 = sr at *
  generalize goodZ zs = t at *
  generalize t.pr = pr at *
  generalize ctxS zs m = cx at *
  go_enter Tryz.func6, Tryz.ntmps6
  go_wp2_with fail
  (with_reducible refine (HAR.out _).mono ?_)
  rintro e1 x1 ⟨rfl, rfl⟩
  go_wp2_with fail
  (with_reducible refine (HCX.out _ HBW.out).mono ?_)
  rintro e2 x2 ⟨rfl, hb2⟩
  have HB2 := Lib.hid hb2
  clear hb2
  go_wp2_with fail
  (with_reducible refine (HGD.out _ HB2.out).mono ?_)
  rintro e3 x3 ⟨tv, rfl, ht, hb3⟩
  have HC3 := Lib.hid (HPR.out _ tv x3 ht)
  have HB3 := Lib.hid (HB2.out.trans (hb3.mono HB2.out.size))
  clear hb3 ht
  go_wp2_with fail
  (with_reducible refine HC3.out.mono ?_)
  rintro e4 x4 ⟨rfl, hb4⟩
  have HB4 := Lib.hid (HB3.out.trans (hb4.mono HB3.out.size))
  clear hb4
  go_upto_region 2 with (fail)
  rw [HP.out]
  go_wp2_with fail
  (with_reducible refine (HAR2.out _).mono ?_)
  rintro e5 x5 ⟨rfl, rfl⟩
  obtain ⟨W, cap, hcv, hbW, hgW, hpc, hcm, hcell⟩ := bytes_made x4 p (by unfold maxLen; omega)
  have hz2 := HB4.out.size
  have HBW := Lib.hid (HB4.out.trans (hbW.mono hz2))
  generalize hgg : x4.heap.size = g at *
  have HCL := Lib.hid hcell
  clear hbW hcell
  unfold maxLen at hcm
  have hst := HCL.out q hqp
  have hs1 := hst.1
  have hs2 := hst.2
  have hqi : (q : Int) < (p.length : Int) := by omega
  have hqc : (q : Int) ≤ (cap : Int) := by omega
  have hq0 : (0 : Int) ≤ (q : Int) := by omega
  clear hst
  go_wp2_with fail
  have hcb : (((UInt8.ofNat c.toNat).toNat : Nat) : Int) = c := by
    have : (UInt8.ofNat c.toNat).toNat = c.toNat := by simp; omega
    rw [this]; omega
  have hcv3 : ∀ y : World, (∀ j, y.cell? ⟨g, j, none⟩ = (W.setCell ⟨g, q, none⟩ (.int .u8 c)).cell? ⟨g, j, none⟩) → (convert 51 9 (.slice (some ⟨g, 0, none⟩) p.length cap)).run Tryz.prog y = .ok (.string ⟨(p.set q (UInt8.ofNat c.toNat)).toArray⟩) y := fun y hy => by
    have h9 := bytes_back y g cap (p.set q (UInt8.ofNat c.toNat)) (fun j hj => by
      have hj2 : j < p.length := by simpa using hj
      rw [hy j]
      by_cases hjq : j = q
      · subst hjq
        rw [List.getElem_set_self, hcb]
        simp [go_sem, hs1]
      · rw [List.getElem_set_ne (fun e => hjq e.symm)]
        have h8 := (HCL.out j hj2).1
        have h7 := cell_apart (w := W) (b := g) (i := q) (j := j) (v := .int .u8 c) (fun e => hjq e.symm)
        rw [h7, h8])
    rw [List.length_set] at h9
    exact h9
  have HB5 : Hid (Below w.heap.size w (W.setCell ⟨g, q, none⟩ (.int .u8 c))) := Lib.hid (HBW.out.setCell hz2 _)
  have hg4 : g < (W.setCell ⟨g, q, none⟩ (.int .u8 c)).heap.size := by simpa using hgW
  generalize W.setCell ⟨g, q, none⟩ (.int .u8 c) = w4 at *
  have hol9 : (p.set q (UInt8.ofNat c.toNat)).length = p.length := List.length_set
  generalize p.set q (UInt8.ofNat c.toNat) = own at *
  have HCVY : Hid (∀ y, Below w4.heap.size w4 y → (convert 51 9 (.slice (some ⟨g, 0, none⟩) p.length cap)).run Tryz.prog y = .ok (.string ⟨own.toArray⟩) y) := fun y hy => hcv3 y (fun j => hy.cell (p := ⟨g, j, none⟩) hg4)
  have hcv4 := HCVY.out w4.drew ((Below.refl _ _).drew)
  have HBD : Hid (Below w4.heap.size w4 w4.drew) := (Below.refl _ _).drew
  have HB5d : Hid (Below w.heap.size w w4.drew) := HB5.out.drew
  have HSH := Lib.hid (fun (X : World) => short_any s 60 X hs (by omega) (by omega))
  clear hcv3 hs1 hs2 hcb hcv HCL HB2 HB3 HC3 HCX HGD HPR HAR HAR2 hcm
  have hqle : q ≤ p.length := by omega
  have hadd : ¬ 9223372036854775807 < p.length + 2 := by omega
  go_region_law (first | (go_simp; go_at_call 18; (with_reducible refine (HSH.out _).mono ?_); rintro e y ⟨tx, htx, rfl, hy⟩; obtain rfl := hy.symm) | (go_simp; go_at_call 19; (with_reducible refine (HSRC.out _ HB5d.out).mono ?_); rintro e y ⟨rfl, hy⟩; have hcv5 := HCVY.out y (HBD.out.trans hy); have HY := Lib.hid hy; clear hy))
  all_goals
    have hb9 : Below w.heap.size w y := HB5d.out.trans (HY.out.mono HB5d.out.size)
    have hsx := six_of y (a := tx) (b := ⟨sr.toArray⟩) (c := ⟨p.toArray⟩) (d := ⟨own.toArray⟩) (e := (⟨p.toArray⟩ : ByteArray).extract 0 q) (f := ⟨p.toArray⟩ ++ ⟨#[32, 41]⟩) (by omega) (by rw [mkS_size]; omega) (by omega) (by rw [mkS_size]; omega) (by rw [ByteArray.size_extract]; omega) (by rw [ByteArray.size_append]; omega)
    have HE := Lib.hid (And.intro hsx (hb9.trans ((below_new y (.cells #[.string tx, .string ⟨sr.toArray⟩, .string ⟨p.toArray⟩, .string ⟨own.toArray⟩, .string ((⟨p.toArray⟩ : ByteArray).extract 0 q), .string (⟨p.toArray⟩ ++ ⟨#[32, 41]⟩)] 9)).mono hb9.size)))
    clear hb9 hsx
    go_wp2_with fail
    exact bodyPost_ret (v := .slice (some ⟨y.heap.size, 0, none⟩) 6 6) (by simp [results, Tryz.results6, go_sem]) rfl ⟨_, rfl, HE.out⟩
end Go.Proofs.YtbdfjboojokgdaaGreatDoor
