/- The contract of kinds.fits: a term with outer variables alone fits. Conditions: those that the theorem names. -/
import Derived.Test.YtomhojpoaicioaaFlat
namespace Go.Proofs.Ytomhojpoaicioaa
open Go.RowKit

set_option maxRecDepth 100000 in
set_option maxHeartbeats 1000000 in
theorem fits_any (P : Nat → Prop) : ∀ (t : Tm) (v : Value) (w : World), t.occ 0 = false → ZAt P w (emb t) v → Calls Try.prog 44 #[v] w fun e w' => e = .returned (.bool true) ∧ Below w.heap.size w w'
  | .var n, v, w, ho, hv => by
    obtain ⟨A, c, rfl⟩ := hv.form
    have hn : 1 ≤ n := by rcases Nat.eq_zero_or_pos n with e | e; (subst e; simp [Tm.occ] at ho); exact e
    have hn1 : (1 : Int) ≤ (n : Int) := by omega
    clear hv ho
    change Calls Try.prog 44 #[.agg #[.int .i64 1, .int .i64 n, .slice A 0 c]] w _
    go_enter Try.func44, Try.ntmps44
    go_wp2
    go_ret
    exact ⟨rfl, below_new w _⟩
  | .star, v, w, _, hv => by
    obtain ⟨A, c, rfl⟩ := hv.form
    clear hv
    change Calls Try.prog 44 #[.agg #[.int .i64 2, .int .i64 0, .slice A 0 c]] w _
    go_enter Try.func44, Try.ntmps44
    go_wp2
    go_ret
    exact ⟨rfl, below_new w _⟩
  | .arr a b, v, w, ho, hv => by
    have h' : (a.occ 0 || b.occ 0) = false := ho
    rw [Bool.or_eq_false_iff] at h'
    have IHA := Lib.hid (fits_any P a)
    have IHB := Lib.hid (fits_any P b)
    have HO := Lib.hid h'
    have hv9 := hv
    cases hv9 with
    | arr _ _ g off c a0 a1 a2 b0 b1 b2 hp hg c0 c1 c2 c3 c4 c5 hza hzb =>
    obtain ⟨Aa, ca, ea⟩ := hza.form
    obtain ⟨Ab, cb, eb⟩ := hzb.form
    injection ea with ea
    injection eb with eb
    simp only [Array.mk.injEq, List.cons.injEq, and_true] at ea eb
    obtain ⟨rfl, rfl, rfl⟩ := ea
    obtain ⟨rfl, rfl, rfl⟩ := eb
    generalize hFa : formZ (emb a) = Fa at *
    generalize hGa : numZ (emb a) = Ga at *
    generalize hMa : argsZ (emb a) = Ma at *
    generalize hFb : formZ (emb b) = Fb at *
    generalize hGb : numZ (emb b) = Gb at *
    generalize hMb : argsZ (emb b) = Mb at *
    have hb0 := below_new w (.cells #[.int .i64 3, .int .i64 0, .slice (some ⟨g, off, none⟩) 2 c] 49)
    have x2 : (w.alloc (.cells #[.int .i64 3, .int .i64 0, .slice (some ⟨g, off, none⟩) 2 c] 49)).cell? ⟨w.heap.size, 2, none⟩ = some (.slice (some ⟨g, off, none⟩) 2 c) := by simp [go_sem]
    have hz0 : w.heap.size < (w.alloc (.cells #[.int .i64 3, .int .i64 0, .slice (some ⟨g, off, none⟩) 2 c] 49)).heap.size := by simp
    have HZA := Lib.hid (hza.on hb0)
    have HZB := Lib.hid (hzb.on hb0)
    have HB0 := Lib.hid hb0
    have X2 := Lib.hid x2
    have HZ0 := Lib.hid hz0
    have C3 := Lib.hid c3
    have C4 := Lib.hid c4
    have C5 := Lib.hid c5
    clear hv ho h' hza hzb hb0 x2 hz0 hp hFa hGa hMa hFb hGb hMb c3 c4 c5
    go_enter Try.func44, Try.ntmps44
    go_wp2_with fail
    generalize w.alloc (.cells #[.int .i64 3, .int .i64 0, .slice (some ⟨g, off, none⟩) 2 c] 49) = w1 at *
    refine (IHA.out _ w1 HO.out.1 HZA.out).mono ?_
    rintro e w2 ⟨rfl, hb2⟩
    have hz1 := HB0.out.size
    have y2 := (hb2.cell (p := ⟨w.heap.size, 2, none⟩) HZ0.out).trans X2.out
    have e3 := (hb2.cell (p := ⟨g, off + 3, none⟩) (show g < w1.heap.size by omega)).trans ((HB0.out.cell (p := ⟨g, off + 3, none⟩) hg).trans C3.out)
    have e4 := (hb2.cell (p := ⟨g, off + 4, none⟩) (show g < w1.heap.size by omega)).trans ((HB0.out.cell (p := ⟨g, off + 4, none⟩) hg).trans C4.out)
    have e5 := (hb2.cell (p := ⟨g, off + 5, none⟩) (show g < w1.heap.size by omega)).trans ((HB0.out.cell (p := ⟨g, off + 5, none⟩) hg).trans C5.out)
    have HC := Lib.hid (IHB.out _ w2 HO.out.2 (HZB.out.on hb2))
    have HB2 := Lib.hid (HB0.out.trans (hb2.mono hz1))
    clear hb2 c0 c1 c2
    go_wp2_with fail
    refine HC.out.mono ?_
    rintro e w3 ⟨rfl, hb3⟩
    have HB3 := Lib.hid (HB2.out.trans (hb3.mono HB2.out.size))
    clear hb3
    go_wp2
    go_ret
    exact ⟨rfl, HB3.out⟩
end Go.Proofs.Ytomhojpoaicioaa
