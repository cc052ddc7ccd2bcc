/- The contract of the document's Context (chapter 5): predicates made of numbers. Conditions: the slice reads as numbers; at most 2^20 predicates. -/
import Derived.Test.YtbdfjboojokgdaaDoorJ42
import Derived.Test.YtbdfjboojokgdaaDoorJ23
namespace Go.Proofs.YtbdfjboojokgdaaDoor
open Go.RowKit

def clsK (k : Int) : ByteArray := if k = 0 then ⟨#[69]⟩ else if k = 1 then ⟨#[79]⟩ else ⟨#[83]⟩
def ctxB (zs : List Int) : Nat → ByteArray
  | 0 => ⟨#[]⟩
  | i + 1 => (if 0 < i then ctxB zs i ++ ⟨#[44, 32]⟩ else ctxB zs i) ++ clsK (aroundI (zs.getD i 0) 3) ++ ⟨#[32]⟩ ++ nameS (zs.getD i 0)
def ctxS (zs : List Int) (m : Nat) : ByteArray :=
  if m = 0 then ⟨#[]⟩ else if m = 1 ∧ zs.length % 2 = 0 then ctxB zs m ++ ⟨#[32, 61, 62, 32]⟩ else ⟨#[40]⟩ ++ ctxB zs m ++ ⟨#[41, 32, 61, 62, 32]⟩
theorem clsK_size (k : Int) : (clsK k).size = 1 := by
  unfold clsK
  split
  · rfl
  · split <;> rfl
theorem nameK_size (k : Int) : (nameK k).size = 1 := by
  unfold nameK
  split
  · rfl
  · split
    · rfl
    · split <;> rfl
theorem ctxB_size (zs : List Int) : ∀ m, (ctxB zs m).size ≤ 5 * m
  | 0 => Nat.zero_le _
  | i + 1 => by
    have := ctxB_size zs i
    have h1 := clsK_size (aroundI (zs.getD i 0) 3)
    have h2 : (nameS (zs.getD i 0)).size = 1 := nameK_size _
    have h3 : (⟨#[32]⟩ : ByteArray).size = 1 := rfl
    have h4 : (⟨#[44, 32]⟩ : ByteArray).size = 2 := rfl
    simp only [ctxB]
    split <;> simp only [ByteArray.size_append] <;> omega
set_option maxRecDepth 100000 in
set_option maxHeartbeats 4000000 in
theorem context_any (P : Nat → Prop) (zs : List Int) (v : Value) (m : Nat) (w : World) (h : IntsAt P w v zs) (hm : m ≤ 1048576) :
    Calls Tryd.prog 50 #[v, .int .i64 m] w fun e w' => e = .returned (.string (ctxS zs m)) ∧ Below w.heap.size w w' := by
  obtain ⟨A, c, rfl, hc, hcm⟩ := h.shape
  unfold maxLen at hcm
  have H1 := Lib.hid h
  have hzl : zs.length ≤ 9223372036854775807 := by omega
  have HZ : Hid (∀ z ∈ zs, -9223372036854775808 ≤ z ∧ z ≤ 9223372036854775807) := by obtain ⟨_, _, _, _, _, h9, _⟩ := h; exact h9
  clear h
  by_cases hm0 : m = 0
  · subst hm0
    go_enter Tryd.func50, Tryd.ntmps50
    go_wp2_with fail
    go_ret
    exact ⟨rfl, Below.refl _ _⟩
  have hmf : ((m : Int) == 0) = false := by rw [beq_eq_false_iff_ne]; omega
  go_enter Tryd.func50, Tryd.ntmps50
  go_wp2_with fail
  go_loopw [5, 6] (fun o i wr => ∃ k : Nat, k ≤ m ∧ i = .int .i64 k ∧ o = .string (ctxB zs k) ∧ Below w.heap.size w wr) (fun _ i _ => m - (intOf i).toNat)
  case atStart => exact ⟨0, Nat.zero_le _, rfl, rfl, Below.refl _ _⟩
  case round =>
    obtain ⟨k, hk, rfl, rfl, hb⟩ := hrel
    have HB := Lib.hid hb
    by_cases hlt : k < m
    · have hki : (k : Int) < (m : Int) := by omega
      have hk0 : (0 : Int) ≤ (k : Int) := by omega
      have hz : -9223372036854775808 ≤ zs.getD k 0 ∧ zs.getD k 0 ≤ 9223372036854775807 := by
        by_cases hkz : k < zs.length
        · have h9 : zs.getD k 0 = zs[k] := by simp [List.getD, List.getElem?_eq_getElem hkz]
          rw [h9]; exact HZ.out _ (List.getElem_mem hkz)
        · have h9 : zs.getD k 0 = 0 := by simp [List.getD, List.getElem?_eq_none (Nat.le_of_not_lt hkz)]
          rw [h9]; omega
      have HOUT : Hid (ctxB zs (k + 1) = (if 0 < k then ctxB zs k ++ ⟨#[44, 32]⟩ else ctxB zs k) ++ clsK (aroundI (zs.getD k 0) 3) ++ ⟨#[32]⟩ ++ nameS (zs.getD k 0)) := rfl
      have HA := Lib.hid (fun W => around_is (zs.getD k 0) 3 W hz.1 hz.2 (by omega) (by omega))
      have HN := Lib.hid (fun W => name_any (zs.getD k 0) W hz.1 hz.2)
      have hbd := aroundI_bd (zs.getD k 0) 3 (by omega)
      have hs1 := ctxB_size zs k
      have hn1 : (nameS (zs.getD k 0)).size = 1 := nameK_size _
      have HC : Hid ((k < zs.length ∧ ∃ b off, A = some ⟨b, off, none⟩ ∧ wr.cell? ⟨b, off + k, none⟩ = some (.int .i64 (zs.getD k 0)) ∧ b < wr.heap.size) ∨ (¬ k < zs.length ∧ zs.getD k 0 = 0)) := by
        by_cases hkz : k < zs.length
        · obtain ⟨b1, o1, e1, l1, k1⟩ := (H1.out.on hb).at k hkz
          exact .inl ⟨hkz, b1, o1, e1, by simpa [List.getD, List.getElem?_eq_getElem hkz] using k1, l1⟩
        · exact .inr ⟨hkz, by simp [List.getD, List.getElem?_eq_none (Nat.le_of_not_lt hkz)]⟩
      generalize zs.getD k 0 = z at *
      generalize hout : ctxB zs k = B at *
      generalize nameS z = N at *
      generalize aroundI z 3 = a at *
      clear hb hz hout
      have HK : Hid (∀ (w' : World), Below wr.heap.size wr w' → Below w.heap.size w w') := fun w' h9 => HB.out.trans (h9.mono HB.out.size)
      obtain ⟨O, hO⟩ : ∃ O : ByteArray, O = (if 0 < k then B ++ ⟨#[44, 32]⟩ else B) := ⟨_, rfl⟩
      have hOs : O.size ≤ B.size + 2 := by
        have h2 : (⟨#[44, 32]⟩ : ByteArray).size = 2 := rfl
        rw [hO]; split
        · rw [ByteArray.size_append]; omega
        · omega
      have ha : (a = 0 ∧ clsK a = ⟨#[69]⟩) ∨ (a = 1 ∧ clsK a = ⟨#[79]⟩) ∨ (a = 2 ∧ clsK a = ⟨#[83]⟩) := by
        have h9 : a = 0 ∨ a = 1 ∨ a = 2 := by omega
        rcases h9 with rfl | rfl | rfl
        · exact .inl ⟨rfl, rfl⟩
        · exact .inr (.inl ⟨rfl, rfl⟩)
        · exact .inr (.inr ⟨rfl, rfl⟩)
      have HFIN : Hid (ctxB zs (k + 1) = O ++ clsK a ++ ⟨#[32]⟩ ++ N) := by show _ = _; rw [HOUT.out, hO]
      have hd1 : ∀ q : World, (Op.stringOp .add B ⟨#[44, 32]⟩).run Tryd.prog q = .ok (.string (B ++ ⟨#[44, 32]⟩)) q := fun q => run_string_add_sum q _ _ (by show _ + 2 ≤ _; omega)
      have hcs := clsK_size a
      generalize clsK a = C at *
      have hd2 : ∀ q : World, (Op.stringOp .add O C).run Tryd.prog q = .ok (.string (O ++ C)) q := fun q => run_string_add_sum q _ _ (by omega)
      have hd3 : ∀ q : World, (Op.stringOp .add (O ++ C) ⟨#[32]⟩).run Tryd.prog q = .ok (.string (O ++ C ++ ⟨#[32]⟩)) q := fun q => run_string_add_sum q _ _ (by rw [ByteArray.size_append]; show _ + 1 ≤ _; omega)
      have hd4 : ∀ q : World, (Op.stringOp .add (O ++ C ++ ⟨#[32]⟩) N).run Tryd.prog q = .ok (.string (O ++ C ++ ⟨#[32]⟩ ++ N)) q := fun q => run_string_add_sum q _ _ (by rw [ByteArray.size_append, ByteArray.size_append]; show _ + _ + 1 + _ ≤ _; omega)
      have HN0 : Hid (Calls Tryd.prog 23 #[.int .i64 z] wr.drew fun e u => e = .returned (.string N) ∧ Below wr.heap.size wr u) := (HN.out wr.drew).mono (fun e u h => ⟨h.1, (Below.refl _ wr).drew.trans h.2⟩)
      have HN1 : Hid (Calls Tryd.prog 23 #[.int .i64 z] (wr.alloc (.cells #[.string ⟨#[69]⟩, .string ⟨#[79]⟩, .string ⟨#[83]⟩] 9)).drew fun e u => e = .returned (.string N) ∧ Below wr.heap.size wr u ∧ u.cell? ⟨wr.heap.size, 0, none⟩ = some (.string ⟨#[69]⟩) ∧ u.cell? ⟨wr.heap.size, 1, none⟩ = some (.string ⟨#[79]⟩) ∧ u.cell? ⟨wr.heap.size, 2, none⟩ = some (.string ⟨#[83]⟩)) := by
        have h5 := (MapKept.heap_alloc wr (.cells #[.string ⟨#[69]⟩, .string ⟨#[79]⟩, .string ⟨#[83]⟩] 9)).1
        have h6 := below_new wr (.cells #[.string ⟨#[69]⟩, .string ⟨#[79]⟩, .string ⟨#[83]⟩] 9)
        refine (HN.out _).mono (fun e u h => ⟨h.1, ?_⟩)
        have h7 : u.heap[wr.heap.size]? = some (.cells #[.string ⟨#[69]⟩, .string ⟨#[79]⟩, .string ⟨#[83]⟩] 9) := (h.2.block wr.heap.size (by simp)).trans h5
        exact ⟨h6.trans (h6.drew.trans (h.2.mono (by simp)) |> fun h8 => (Below.refl _ _).drew.trans (h.2.mono (by simp))), by simp [World.cell?, h7], by simp [World.cell?, h7], by simp [World.cell?, h7]⟩
      clear HOUT hs1 hn1 hOs hbd hcs
      by_cases hk9 : 0 < k
      · have hk9i : (0 : Int) < (k : Int) := by omega
        rw [if_pos hk9] at hO
        subst hO
        rcases HC.out with ⟨hkz, b, off, rfl, hcell, hbl⟩ | ⟨hkz, rfl⟩
        · have hkzi : (k : Int) < (zs.length : Int) := by omega
          clear HC
          rcases ha with ⟨rfl, rfl⟩ | ⟨rfl, rfl⟩ | ⟨rfl, rfl⟩
          all_goals
            go_upto_region 12 with (fail)
            go_region_law (first | (go_simp; go_at_call 36; (with_reducible refine (HA.out _).mono ?_); rintro e3 v ⟨rfl, rfl⟩) | (go_simp; go_at_call 23; (with_reducible refine HN0.out.mono ?_); rintro e4 u ⟨rfl, hu⟩) | (go_simp; go_at_call 23; (with_reducible refine HN1.out.mono ?_); rintro e4 u ⟨rfl, hu, hu0, hu1, hu2⟩))
            all_goals
              go_wp2
              go_roundw
              case rel => first | exact ⟨k + 1, by omega, by go_num, by rw [HFIN.out], by first | exact HK.out _ hu | exact HK.out _ (hu.trans ((below_new _ _).mono hu.size))⟩ | exact ⟨0 + 1, by omega, by go_num, by rw [HFIN.out], by first | exact HK.out _ hu | exact HK.out _ (hu.trans ((below_new _ _).mono hu.size))⟩
              case measure => simp [intOf]; omega
        · have hkzi : ¬ (k : Int) < (zs.length : Int) := by omega
          have hkzd : decide (k < zs.length) = false := by simpa using hkz
          clear HC
          rcases ha with ⟨rfl, rfl⟩ | ⟨rfl, rfl⟩ | ⟨rfl, rfl⟩
          all_goals
            go_upto_region 12 with (fail)
            go_region_law (first | (go_simp; go_at_call 36; (with_reducible refine (HA.out _).mono ?_); rintro e3 v ⟨rfl, rfl⟩) | (go_simp; go_at_call 23; (with_reducible refine HN0.out.mono ?_); rintro e4 u ⟨rfl, hu⟩) | (go_simp; go_at_call 23; (with_reducible refine HN1.out.mono ?_); rintro e4 u ⟨rfl, hu, hu0, hu1, hu2⟩))
            all_goals
              go_wp2
              go_roundw
              case rel => first | exact ⟨k + 1, by omega, by go_num, by rw [HFIN.out], by first | exact HK.out _ hu | exact HK.out _ (hu.trans ((below_new _ _).mono hu.size))⟩ | exact ⟨0 + 1, by omega, by go_num, by rw [HFIN.out], by first | exact HK.out _ hu | exact HK.out _ (hu.trans ((below_new _ _).mono hu.size))⟩
              case measure => simp [intOf]; omega
      · have hk9i : ¬ (0 : Int) < (k : Int) := by omega
        obtain rfl : k = 0 := by omega
        rw [if_neg (by omega)] at hO
        subst hO
        rcases HC.out with ⟨hkz, b, off, rfl, hcell, hbl⟩ | ⟨hkz, rfl⟩
        · have hkzi : (0 : Int) < (zs.length : Int) := by omega
          rw [Nat.add_zero] at hcell
          clear HC
          rcases ha with ⟨rfl, rfl⟩ | ⟨rfl, rfl⟩ | ⟨rfl, rfl⟩
          all_goals
            go_upto_region 12 with (fail)
            go_region_law (first | (go_simp; go_at_call 36; (with_reducible refine (HA.out _).mono ?_); rintro e3 v ⟨rfl, rfl⟩) | (go_simp; go_at_call 23; (with_reducible refine HN0.out.mono ?_); rintro e4 u ⟨rfl, hu⟩) | (go_simp; go_at_call 23; (with_reducible refine HN1.out.mono ?_); rintro e4 u ⟨rfl, hu, hu0, hu1, hu2⟩))
            all_goals
              go_wp2
              go_roundw
              case rel => first | exact ⟨k + 1, by omega, by go_num, by rw [HFIN.out], by first | exact HK.out _ hu | exact HK.out _ (hu.trans ((below_new _ _).mono hu.size))⟩ | exact ⟨0 + 1, by omega, by go_num, by rw [HFIN.out], by first | exact HK.out _ hu | exact HK.out _ (hu.trans ((below_new _ _).mono hu.size))⟩
              case measure => simp [intOf]; omega
        · have hkzi : ¬ (0 : Int) < (zs.length : Int) := by omega
          have hkzd : decide (0 < zs.length) = false := by simpa using hkz
          clear HC
          rcases ha with ⟨rfl, rfl⟩ | ⟨rfl, rfl⟩ | ⟨rfl, rfl⟩
          all_goals
            go_upto_region 12 with (fail)
            go_region_law (first | (go_simp; go_at_call 36; (with_reducible refine (HA.out _).mono ?_); rintro e3 v ⟨rfl, rfl⟩) | (go_simp; go_at_call 23; (with_reducible refine HN0.out.mono ?_); rintro e4 u ⟨rfl, hu⟩) | (go_simp; go_at_call 23; (with_reducible refine HN1.out.mono ?_); rintro e4 u ⟨rfl, hu, hu0, hu1, hu2⟩))
            all_goals
              go_wp2
              go_roundw
              case rel => first | exact ⟨k + 1, by omega, by go_num, by rw [HFIN.out], by first | exact HK.out _ hu | exact HK.out _ (hu.trans ((below_new _ _).mono hu.size))⟩ | exact ⟨0 + 1, by omega, by go_num, by rw [HFIN.out], by first | exact HK.out _ hu | exact HK.out _ (hu.trans ((below_new _ _).mono hu.size))⟩
              case measure => simp [intOf]; omega
    · have hd : decide (k < m) = false := by simpa using hlt
      obtain rfl : k = m := by omega
      clear hb
      have hs1 := ctxB_size zs k
      have he1 : ∀ q : World, (Op.stringOp .add (ctxB zs k) ⟨#[32, 61, 62, 32]⟩).run Tryd.prog q = .ok (.string (ctxB zs k ++ ⟨#[32, 61, 62, 32]⟩)) q := fun q => run_string_add_sum q _ _ (by show _ + 4 ≤ _; omega)
      have he2 : ∀ q : World, (Op.stringOp .add ⟨#[40]⟩ (ctxB zs k)).run Tryd.prog q = .ok (.string (⟨#[40]⟩ ++ ctxB zs k)) q := fun q => run_string_add_sum q _ _ (by show 1 + _ ≤ _; omega)
      have he3 : ∀ q : World, (Op.stringOp .add (⟨#[40]⟩ ++ ctxB zs k) ⟨#[41, 32, 61, 62, 32]⟩).run Tryd.prog q = .ok (.string (⟨#[40]⟩ ++ ctxB zs k ++ ⟨#[41, 32, 61, 62, 32]⟩)) q := fun q => run_string_add_sum q _ _ (by rw [ByteArray.size_append]; show 1 + _ + 5 ≤ _; omega)
      have hm2 : (zs.length : Int).tmod 2 = ((zs.length % 2 : Nat) : Int) := by rw [Int.tmod_eq_emod_of_nonneg (by omega)]; omega
      have hm3 : (zs.length : Int) % 2 = ((zs.length % 2 : Nat) : Int) := by omega
      have hl0 : (0 : Int) ≤ (zs.length : Int) := by omega
      have hl1 : (zs.length : Int) ≤ 9223372036854775807 := by omega
      have HR : Hid (ctxS zs k = if k = 0 then ⟨#[]⟩ else if k = 1 ∧ zs.length % 2 = 0 then ctxB zs k ++ ⟨#[32, 61, 62, 32]⟩ else ⟨#[40]⟩ ++ ctxB zs k ++ ⟨#[41, 32, 61, 62, 32]⟩) := rfl
      generalize ctxB zs k = B at *
      by_cases h1 : k = 1
      · have h1i : ((k : Int) == 1) = true := by rw [h1]; rfl
        by_cases h2 : zs.length % 2 = 0
        · have h2i : (((zs.length % 2 : Nat) : Int) == 0) = true := by rw [h2]; rfl
          have HE : Hid (B ++ ⟨#[32, 61, 62, 32]⟩ = ctxS zs k) := by show _ = _; rw [HR.out, if_neg (by omega), if_pos ⟨h1, h2⟩]
          have h2j : ((zs.length : Int).tmod 2 == 0) = true := by rw [hm2]; exact h2i
          have h2k : ((zs.length : Int) % 2 == 0) = true := by rw [hm3]; exact h2i
          clear h2 HR h1 hm2 hm3
          go_wp2
          go_ret
          exact ⟨by rw [← HE.out]; rfl, HB.out⟩
        · have h2i : (((zs.length % 2 : Nat) : Int) == 0) = false := by rw [beq_eq_false_iff_ne]; omega
          have HE : Hid (⟨#[40]⟩ ++ B ++ ⟨#[41, 32, 61, 62, 32]⟩ = ctxS zs k) := by show _ = _; rw [HR.out, if_neg (by omega), if_neg (by rintro ⟨_, h⟩; exact h2 h)]
          have h2j : ((zs.length : Int).tmod 2 == 0) = false := by rw [hm2]; exact h2i
          have h2k : ((zs.length : Int) % 2 == 0) = false := by rw [hm3]; exact h2i
          clear h2 HR h1 hm2 hm3
          go_wp2
          go_ret
          exact ⟨by rw [← HE.out]; rfl, HB.out⟩
      · have h1i : ((k : Int) == 1) = false := by rw [beq_eq_false_iff_ne]; omega
        have HE : Hid (⟨#[40]⟩ ++ B ++ ⟨#[41, 32, 61, 62, 32]⟩ = ctxS zs k) := by show _ = _; rw [HR.out, if_neg hm0, if_neg (by rintro ⟨h, _⟩; exact h1 h)]
        clear HR h1
        go_wp2
        go_ret
        exact ⟨by rw [← HE.out]; rfl, HB.out⟩
end Go.Proofs.YtbdfjboojokgdaaDoor
