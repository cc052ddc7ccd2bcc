/- The contract of the document's Nameless of types (chapter 4): applications, types for all, any. Conditions: names of at most 2^20 bytes, numbers from 0 to 2^20, at most 2^20 nodes. -/
import Derived.Test.YtbdfjboojokgdaaDoorJU37
namespace Go.Proofs.YtbdfjboojokgdaaDoor
open Go.RowKit

set_option maxRecDepth 100000 in
set_option maxHeartbeats 1000000 in
theorem nl_app (n : Nat) (ih : NlIs n) (P Q : Nat → Prop) (a b : Ty) (names : List ByteArray) (v nv : Value) (w : World) (hn : (Ty.app a b).sz ≤ n + 1) (h : TyAt P w (.app a b) v) (hs : StrsAt Q w nv names) (hok : (Ty.app a b).okN) (hlt : (Ty.app a b).lt 1048576) (hz : names.length + (Ty.app a b).sz ≤ 1048576) : Calls Tryd.prog 69 #[v, nv] w (NlRes (.app a b) names w) := by
  obtain ⟨sv, rfl, hs2⟩ := h.tys
  simp only [Ty.form, Ty.num, Ty.name, Ty.args] at hs2 ⊢
  simp only [Ty.sz] at hn hz
  obtain ⟨A, c, rfl, _, _⟩ := hs2.form
  obtain ⟨g, off, A3, c3, rfl, hPg, hgl, k0, k1, k2, k3, hx⟩ := hs2.at 0 (by simp)
  obtain ⟨g', off', A4, c4, e', _, _, m0, m1, m2, m3, hy⟩ := hs2.at 1 (by simp)
  injection e' with e'
  injection e' with e1 e2
  subst e1; subst e2
  simp only [List.getElem_cons_zero, List.getElem_cons_succ, Nat.one_mul, Nat.zero_mul, Nat.add_zero] at k0 k1 k2 k3 hx m0 m1 m2 m3 hy
  simp only [List.length_cons, List.length_nil, Nat.zero_add, Nat.reduceAdd]
  obtain ⟨An, cn, rfl, _, _⟩ := hs.shape
  unfold NlRes
  obtain ⟨W, eW, q1, b1, z1⟩ := one_box w (.int .i64 4) (.int .i64 0) (.string ⟨#[]⟩) (.slice (some ⟨g, off, none⟩) 2 c) 25
  have HEW := Lib.hid eW
  have HQ := Lib.hid q1
  have HB := Lib.hid b1
  have hl1 := nt_pr_le (t := a) (names := names) hlt.1 (by omega)
  have hl2 := nt_pr_le (t := b) (names := names) hlt.2 (by omega)
  have HCB : Hid (∀ q, Below W.heap.size W q → Calls Tryd.prog 69 #[.agg #[.int .i64 b.form, .int .i64 b.num, .string b.name, .slice A4 b.args.length c4], .slice An names.length cn] q fun e q' => e = .returned (.string ⟨(b.nt names.reverse).pr.toArray⟩) ∧ Below W.heap.size W q') := fun q hb => (ih P Q b names _ _ q (by omega) ((hy.on HB.out).on hb) ((hs.on HB.out).on hb) hok.2 hlt.2 (by omega)).mono (by
    rintro e q' ⟨h1, h2⟩; exact ⟨h1, hb.trans (h2.mono hb.size)⟩)
  have HCA : Hid (∀ q, Below W.heap.size W q → Calls Tryd.prog 69 #[.agg #[.int .i64 a.form, .int .i64 a.num, .string a.name, .slice A3 a.args.length c3], .slice An names.length cn] q fun e q' => e = .returned (.string ⟨(a.nt names.reverse).pr.toArray⟩) ∧ Below W.heap.size W q') := fun q hb => (ih P Q a names _ _ q (by omega) ((hx.on HB.out).on hb) ((hs.on HB.out).on hb) hok.1 hlt.1 (by omega)).mono (by
    rintro e q' ⟨h1, h2⟩; exact ⟨h1, hb.trans (h2.mono hb.size)⟩)
  have HK : Hid (∀ q : World, Below W.heap.size W q → q.cell? ⟨w.heap.size, 3, none⟩ = some (.slice (some ⟨g, off, none⟩) 2 c) ∧ (q.cell? ⟨g, off, none⟩ = some (.int .i64 a.form) ∧ q.cell? ⟨g, off + 1, none⟩ = some (.int .i64 a.num) ∧ q.cell? ⟨g, off + 2, none⟩ = some (.string a.name) ∧ q.cell? ⟨g, off + 3, none⟩ = some (.slice A3 a.args.length c3)) ∧ (q.cell? ⟨g, off + 4, none⟩ = some (.int .i64 b.form) ∧ q.cell? ⟨g, off + 4 + 1, none⟩ = some (.int .i64 b.num) ∧ q.cell? ⟨g, off + 4 + 2, none⟩ = some (.string b.name) ∧ q.cell? ⟨g, off + 4 + 3, none⟩ = some (.slice A4 b.args.length c4))) := fun q hb => by
    have hb' := HB.out.trans (hb.mono HB.out.size)
    obtain ⟨_, _, _, _, z4, _⟩ := HQ.out.on hb
    exact ⟨z4, ⟨(hb'.cell (p := ⟨g, _, none⟩) hgl).trans k0, (hb'.cell (p := ⟨g, _, none⟩) hgl).trans k1, (hb'.cell (p := ⟨g, _, none⟩) hgl).trans k2, (hb'.cell (p := ⟨g, _, none⟩) hgl).trans k3⟩, ⟨(hb'.cell (p := ⟨g, _, none⟩) hgl).trans m0, (hb'.cell (p := ⟨g, _, none⟩) hgl).trans m1, (hb'.cell (p := ⟨g, _, none⟩) hgl).trans m2, (hb'.cell (p := ⟨g, _, none⟩) hgl).trans m3⟩⟩
  have hz1 := mk_size (a.nt names.reverse).pr
  have hz2 := mk_size (b.nt names.reverse).pr
  have HE : Hid ((⟨#[40]⟩ : ByteArray) ++ ⟨(a.nt names.reverse).pr.toArray⟩ ++ ⟨#[32]⟩ ++ ⟨(b.nt names.reverse).pr.toArray⟩ ++ ⟨#[41]⟩ = ⟨((Ty.app a b).nt names.reverse).pr.toArray⟩) := by
    show _ = _
    rw [cons_mk, show (⟨#[32]⟩ : ByteArray) = ⟨[32].toArray⟩ from rfl, show (⟨#[41]⟩ : ByteArray) = ⟨[41].toArray⟩ from rfl, append_mk2, append_mk2, append_mk2]
    simp only [Ty.nt, NT.pr, List.cons_append, List.append_assoc, List.nil_append]
  generalize ((Ty.app a b).nt names.reverse).pr = D at *
  generalize hX1 : (⟨(a.nt names.reverse).pr.toArray⟩ : ByteArray) = X1 at *
  generalize hX2 : (⟨(b.nt names.reverse).pr.toArray⟩ : ByteArray) = X2 at *
  have hd1 : ∀ q : World, (Op.stringOp .add ⟨#[40]⟩ X1).run Tryd.prog q = .ok (.string (⟨#[40]⟩ ++ X1)) q := fun q => run_string_add_sum q _ _ (by show 1 + _ ≤ _; omega)
  have hd2 : ∀ q : World, (Op.stringOp .add (⟨#[40]⟩ ++ X1) ⟨#[32]⟩).run Tryd.prog q = .ok (.string (⟨#[40]⟩ ++ X1 ++ ⟨#[32]⟩)) q := fun q => run_string_add_sum q _ _ (by rw [ByteArray.size_append]; show 1 + _ + 1 ≤ _; omega)
  have hd3 : ∀ q : World, (Op.stringOp .add (⟨#[40]⟩ ++ X1 ++ ⟨#[32]⟩) X2).run Tryd.prog q = .ok (.string (⟨#[40]⟩ ++ X1 ++ ⟨#[32]⟩ ++ X2)) q := fun q => run_string_add_sum q _ _ (by rw [ByteArray.size_append, ByteArray.size_append]; show 1 + _ + 1 + _ ≤ _; omega)
  have hd4 : ∀ q : World, (Op.stringOp .add (⟨#[40]⟩ ++ X1 ++ ⟨#[32]⟩ ++ X2) ⟨#[41]⟩).run Tryd.prog q = .ok (.string (⟨#[40]⟩ ++ X1 ++ ⟨#[32]⟩ ++ X2 ++ ⟨#[41]⟩)) q := fun q => run_string_add_sum q _ _ (by rw [ByteArray.size_append, ByteArray.size_append, ByteArray.size_append]; show 1 + _ + 1 + _ + 1 ≤ _; omega)
  obtain ⟨x0, x1, x2, x3, x4, _⟩ := q1
  clear eW b1 h hs hs2 hx hy k0 k1 k2 k3 m0 m1 m2 m3 hl1 hl2 hz1 hz2 hX1 hX2 hok hlt ih hn hz
  generalize a.form = af, a.num = an, a.name = az, a.args.length = al at *
  generalize b.form = bf, b.num = bn, b.name = bs, b.args.length = bl at *
  go_enter Tryd.func69, Tryd.ntmps69
  go_wp2_with fail
  rw [HEW.out]
  go_wp2_with fail
  have hyd : Below W.heap.size W W.drew := (Below.refl _ W).drew
  have hS0 := HK.out W.drew hyd
  go_region_held3 (fun q => q.cell? ⟨w.heap.size, 3, none⟩ = some (.slice (some ⟨g, off, none⟩) 2 c) ∧ (q.cell? ⟨g, off, none⟩ = some (.int .i64 af) ∧ q.cell? ⟨g, off + 1, none⟩ = some (.int .i64 an) ∧ q.cell? ⟨g, off + 2, none⟩ = some (.string az) ∧ q.cell? ⟨g, off + 3, none⟩ = some (.slice A3 al c3)) ∧ (q.cell? ⟨g, off + 4, none⟩ = some (.int .i64 bf) ∧ q.cell? ⟨g, off + 4 + 1, none⟩ = some (.int .i64 bn) ∧ q.cell? ⟨g, off + 4 + 2, none⟩ = some (.string bs) ∧ q.cell? ⟨g, off + 4 + 3, none⟩ = some (.slice A4 bl c4))) (first | with_reducible exact hS0 | with_reducible exact hS1 | with_reducible exact hS2)
    (first | (go_at_call 69; (with_reducible refine (HCA.out _ hyd).mono ?_); rintro e q1 ⟨rfl, hb1⟩; have hS1 := HK.out q1 hb1) | (go_at_call 69; (with_reducible refine (HCB.out _ hb1).mono ?_); rintro e q2 ⟨rfl, hb2⟩; have hS2 := HK.out q2 hb2))
  go_wp2
  go_ret
  exact ⟨by first | rfl | (rw [HE.out]; rfl), HB.out.trans (hb2.mono HB.out.size)⟩
theorem run_append_zeroN (y : World) (ty : TypeId) (A A2 : Option Addr) (n c c2 : Nat) (hn : n ≤ c) : (Builtin.append_ #[28, 28] ty #[.slice A n c, .slice A2 0 c2]).run Tryd.prog y = .ok (.slice A n c) y := by
  obtain ⟨i0, hi, hz0, hzs, hzb⟩ := info_parts' Tryd.info9
  rcases A with _ | a <;> rcases A2 with _ | a2 <;> simp [Builtin.append_, run_underlying Tryd.underlying28, sizeOf, typeInfo, hi, Builtin.lenOf, Builtin.firstCells, hn, loadCells, loadCellsFrom, storeCells]
/-- A slice's texts, as the cells that an append reads. -/
theorem StrsAt.src {Q : Nat → Prop} {w : World} {A : Option Addr} {n c : Nat} {ss : List ByteArray} (h : StrsAt Q w (.slice A n c) ss) (hn : 0 < ss.length) : ∃ b off, A = some ⟨b, off, none⟩ ∧ b < w.heap.size ∧ ∀ j x, (ss.map Value.string)[j]? = some x → w.cell? ((⟨b, off, none⟩ : Addr).add j) = some x := by
  obtain ⟨A', c', e, _, _, hr⟩ := h
  injection e with e1 e2 e3
  subst e1
  rcases hr with h9 | ⟨b, off, e, hp, hlt, hc⟩
  · rw [h9] at hn; simp at hn
  · refine ⟨b, off, e, hlt, fun j x hx => ?_⟩
    obtain ⟨hj, e9⟩ := List.getElem?_eq_some_iff.1 hx
    simp only [List.length_map] at hj
    rw [← e9, List.getElem_map]
    have e8 : (⟨b, off, none⟩ : Addr).add j = ⟨b, off + j, none⟩ := by simp [Addr.add]
    rw [e8]
    exact hc j hj
set_option maxRecDepth 100000 in
set_option maxHeartbeats 1000000 in
theorem nl_all (n : Nat) (ih : NlIs n) (P Q : Nat → Prop) (s : ByteArray) (a : Ty) (names : List ByteArray) (v nv : Value) (w : World) (hn : (Ty.all s a).sz ≤ n + 1) (h : TyAt P w (.all s a) v) (hs : StrsAt Q w nv names) (hok : (Ty.all s a).okN) (hlt : (Ty.all s a).lt 1048576) (hz : names.length + (Ty.all s a).sz ≤ 1048576) : Calls Tryd.prog 69 #[v, nv] w (NlRes (.all s a) names w) := by
  obtain ⟨sv, rfl, hs2⟩ := h.tys
  simp only [Ty.form, Ty.num, Ty.name, Ty.args] at hs2 ⊢
  simp only [Ty.sz] at hn hz
  obtain ⟨A, c, rfl, _, _⟩ := hs2.form
  obtain ⟨g, off, A3, c3, rfl, hPg, hgl, k0, k1, k2, k3, hx⟩ := hs2.at 0 (by simp)
  simp only [List.getElem_cons_zero, Nat.zero_mul, Nat.add_zero] at k0 k1 k2 k3 hx
  simp only [List.length_cons, List.length_nil, Nat.zero_add]
  obtain ⟨An, cn, rfl, hcn, hmn⟩ := hs.shape
  unfold NlRes
  obtain ⟨W, eW, q1, b1, z1⟩ := one_box w (.int .i64 5) (.int .i64 0) (.string s) (.slice (some ⟨g, off, none⟩) 1 c) 25
  have HEW := Lib.hid eW
  have HQ := Lib.hid q1
  have HB := Lib.hid b1
  have hl1 := nt_pr_le (t := a) (names := names ++ [s]) hlt.2 (by simp; omega)
  have hrv : (names ++ [s]).reverse = s :: names.reverse := by simp
  rw [hrv] at hl1
  -- the call, behind the append
  have HC : Hid (∀ (q : World) (gg cap : Nat), Below W.heap.size W q → q.ownsRow W.heap.size 9 1 (.slice (some ⟨gg, 0, none⟩) (names.length + 1) cap) (names.length + 1) (names.map Value.string ++ [.string s]) → Calls Tryd.prog 69 #[.agg #[.int .i64 a.form, .int .i64 a.num, .string a.name, .slice A3 a.args.length c3], .slice (some ⟨gg, 0, none⟩) (names.length + 1) cap] q fun e q' => e = .returned (.string ⟨(a.nt (s :: names.reverse)).pr.toArray⟩) ∧ Below W.heap.size W q') := fun q gg cap hb ho => by
    have hos : OwnS W.heap.size q (.slice (some ⟨gg, 0, none⟩) (names.length + 1) cap) (names ++ [s]) := by
      unfold OwnS; rw [List.map_append, List.length_append]; exact ho
    have h9 := ih P _ a (names ++ [s]) _ _ q (by omega) ((hx.on HB.out).on hb) hos.strs hok hlt.2 (by simp; omega)
    refine h9.mono ?_
    rintro e q' ⟨h1, h2⟩
    rw [hrv] at h1
    exact ⟨h1, hb.trans (h2.mono hb.size)⟩
  have HK : Hid (∀ q : World, Below W.heap.size W q → (q.cell? ⟨w.heap.size, 2, none⟩ = some (.string s) ∧ q.cell? ⟨w.heap.size, 3, none⟩ = some (.slice (some ⟨g, off, none⟩) 1 c)) ∧ (q.cell? ⟨g, off, none⟩ = some (.int .i64 a.form) ∧ q.cell? ⟨g, off + 1, none⟩ = some (.int .i64 a.num) ∧ q.cell? ⟨g, off + 2, none⟩ = some (.string a.name) ∧ q.cell? ⟨g, off + 3, none⟩ = some (.slice A3 a.args.length c3))) := fun q hb => by
    have hb' := HB.out.trans (hb.mono HB.out.size)
    obtain ⟨_, _, _, z3, z4, _⟩ := HQ.out.on hb
    exact ⟨⟨z3, z4⟩, ⟨(hb'.cell (p := ⟨g, _, none⟩) hgl).trans k0, (hb'.cell (p := ⟨g, _, none⟩) hgl).trans k1, (hb'.cell (p := ⟨g, _, none⟩) hgl).trans k2, (hb'.cell (p := ⟨g, _, none⟩) hgl).trans k3⟩⟩
  have hz1 := mk_size (a.nt (s :: names.reverse)).pr
  have HE : Hid ((⟨#[91]⟩ : ByteArray) ++ ⟨(a.nt (s :: names.reverse)).pr.toArray⟩ ++ ⟨#[93]⟩ = ⟨((Ty.all s a).nt names.reverse).pr.toArray⟩) := by
    show _ = _
    rw [cons_mk, show (⟨#[93]⟩ : ByteArray) = ⟨[93].toArray⟩ from rfl, append_mk2]
    simp only [Ty.nt, NT.pr, List.cons_append]
  generalize ((Ty.all s a).nt names.reverse).pr = D at *
  generalize hX1 : (⟨(a.nt (s :: names.reverse)).pr.toArray⟩ : ByteArray) = X1 at *
  have hd1 : ∀ q : World, (Op.stringOp .add ⟨#[91]⟩ X1).run Tryd.prog q = .ok (.string (⟨#[91]⟩ ++ X1)) q := fun q => run_string_add_sum q _ _ (by show 1 + _ ≤ _; omega)
  have hd2 : ∀ q : World, (Op.stringOp .add (⟨#[91]⟩ ++ X1) ⟨#[93]⟩).run Tryd.prog q = .ok (.string (⟨#[91]⟩ ++ X1 ++ ⟨#[93]⟩)) q := fun q => run_string_add_sum q _ _ (by rw [ByteArray.size_append]; show 1 + _ + 1 ≤ _; omega)
  obtain ⟨x0, x1, x2, x3, x4, _⟩ := q1
  obtain ⟨i0, hi, hz0, hzs, hzb⟩ := info_parts' Tryd.info9
  have hnl : names.length ≤ 1048576 := by omega
  have HSW := Lib.hid (hs.on b1)
  have HONE := Lib.hid (one_str s)
  -- behind the second append
  have HNV : Hid (∀ (Y V : World) (rv : Value) (gg cap : Nat), Below W.heap.size W Y → Y.grownBy V rv.ownBlock → (∀ k, rv.ownBlock = some k → W.heap.size ≤ k) → Below W.heap.size W V) := fun Y V rv gg cap hY hg hk => grown_below hY hg hk hY.size
  clear eW b1 h hs hs2 hx k0 k1 k2 k3 hl1 hz1 hX1 hok hlt ih hn hz hrv
  generalize a.form = af, a.num = an, a.name = az, a.args.length = al at *
  by_cases hnil : names = []
  · subst hnil
    simp only [List.length_nil, List.map_nil, List.nil_append, Nat.zero_add] at *
    have HAP : ∀ (y : World) (ty : TypeId), (Builtin.append_ #[28, 28] ty #[.slice none 0 0, .slice An 0 cn]).run Tryd.prog y = .ok (.slice none 0 0) y := fun y ty => run_append_zeroN y ty none An 0 0 cn (Nat.le_refl _)
    rcases An with _ | an9
    all_goals
      go_enter Tryd.func69, Tryd.ntmps69
      go_wp2_with fail
      rw [HEW.out]
      go_wp2_with fail
      have hyd : Below W.heap.size W W.drew := (Below.refl _ W).drew
      have hyda : ∀ o, Below W.heap.size W (W.drew.alloc o) := fun o => hyd.alloc (Nat.le_refl _) o
      have hydb : ∀ o, Below W.heap.size W (W.alloc o) := fun o => (Below.refl _ W).alloc (Nat.le_refl _) o
      have hS0 := HK.out W.drew (Below.refl _ W).drew
      have HN1 : Hid (∀ j x, [Value.string s][j]? = some x → (W.alloc (.cells #[.string s] 9)).cell? ((⟨w.heap.size + 1, 0, none⟩ : Addr).add j) = some x) := by rw [← z1]; exact news_one W (.string s) 9
      go_region_held3 (fun q => (q.cell? ⟨w.heap.size, 2, none⟩ = some (.string s) ∧ q.cell? ⟨w.heap.size, 3, none⟩ = some (.slice (some ⟨g, off, none⟩) 1 c)) ∧ (q.cell? ⟨g, off, none⟩ = some (.int .i64 af) ∧ q.cell? ⟨g, off + 1, none⟩ = some (.int .i64 an) ∧ q.cell? ⟨g, off + 2, none⟩ = some (.string az) ∧ q.cell? ⟨g, off + 3, none⟩ = some (.slice A3 al c3))) (first | with_reducible exact hS0 | with_reducible exact hS1 | with_reducible exact hS2 | exact HK.out _ (hyda _) | exact HK.out _ (hydb _))
        (first | (go_at_call 69; refine (HC.out _ gg cap hbV ho2).mono ?_; rintro e q1 ⟨rfl, hb1⟩; have hS2 := HK.out q1 hb1) | (refine step_append_lies _ rfl (.tmp 58) (.tmp 61) 28 rfl W.heap.size 9 i0 (.string ⟨#[]⟩) 1 16 Tryd.underlying28 hi hz0 hzs hzb rfl (by decide) (.slice none 0 0) 0 [] rfl (World.ownsRow_nil _ _ 9 1) ⟨w.heap.size + 1, 0, none⟩ 1 1 [.string s] (by rfl) (by rfl) HN1.out HONE.out (by omega) (by unfold maxLen; omega) (by omega) (by first | omega | (simp; omega) | simp) (W.heap.size + 1) (by simp) ?_; intro gg cap V ho1 g2 hat _; have ho2 : V.ownsRow W.heap.size 9 1 (.slice (some ⟨gg, 0, none⟩) 1 cap) 1 [.string s] := ho1; have hbV := HNV.out _ V _ gg cap (by first | exact hyda _ | exact hydb _) g2 (fun k hk => by cases hk); have hS1 := HK.out V hbV))
      go_wp2
      go_ret
      exact ⟨by first | rfl | (rw [HE.out]; rfl), HB.out.trans (hb1.mono HB.out.size)⟩
  · have hnp := List.length_pos_iff.2 hnil
    obtain ⟨g1, off1, rfl, hg1, hsrc⟩ := HSW.out.src hnp
    have HSRC := Lib.hid hsrc
    have HSL : Hid ((names.map Value.string).length = names.length * 1) := by simp [Hid]
    have HSO : Hid (∀ u ∈ names.map Value.string, u.oneCell' = true) := fun u hu => by simp at hu; obtain ⟨x, _, rfl⟩ := hu; rfl
    clear hsrc
    generalize names.map Value.string = mg at *
    clear z1
    go_enter Tryd.func69, Tryd.ntmps69
    go_upto_region 1 with (fail)
    rw [HEW.out]
    go_upto_region 18 with (at_builtin; refine wpList_append_lies _ rfl (.tmp 51) (.tmp 52) 28 rfl W.heap.size 9 i0 (.string ⟨#[]⟩) 1 16 Tryd.underlying28 hi hz0 hzs hzb rfl (by decide) (.slice none 0 0) 0 [] rfl (World.ownsRow_nil _ W.heap.size 9 1) ⟨g1, off1, none⟩ names.length cn mg rfl HSL.out HSRC.out HSO.out (by omega) (by unfold maxLen; omega) (by omega) (by omega) W.heap.size rfl ?_; intro g6 c6 V1 h1 hgr1 hat1 _; have hg6 : g6 = W.heap.size := (by rcases hat1 with h9 | h9; (· cases h9); exact h9); subst hg6; have hbV1 : Below W.heap.size W V1 := grown_below (Below.refl _ _) hgr1 (fun k hk => by cases hk) (Nat.le_refl _); have HBV1 := Lib.hid hbV1; have hV1s := hgr1.size; have HOWN1 : Hid (V1.ownsRow W.heap.size 9 1 (.slice (some ⟨W.heap.size, 0, none⟩) names.length c6) names.length mg) := Lib.hid (by simpa using h1); clear h1 hgr1 hat1 hbV1)
    have hbVd : Below W.heap.size W V1.drew := HBV1.out.drew
    have hV1W : W.heap.size ≤ V1.heap.size := by omega
    have hyda : ∀ o, Below W.heap.size W (V1.drew.alloc o) := fun o => hbVd.alloc hV1W o
    have hydb : ∀ o, Below W.heap.size W (V1.alloc o) := fun o => HBV1.out.alloc hV1W o
    have hydc : ∀ o, Below W.heap.size W (V1.alloc o).drew := fun o => (hydb o).drew
    have hS0 := HK.out V1.drew hbVd
    have HN1 : Hid (∀ j x, [Value.string s][j]? = some x → (V1.alloc (.cells #[.string s] 9)).cell? ((⟨V1.heap.size, 0, none⟩ : Addr).add j) = some x) := news_one V1 (.string s) 9
    have HOWN2 : Hid ((V1.alloc (.cells #[.string s] 9)).ownsRow W.heap.size 9 1 (.slice (some ⟨W.heap.size, 0, none⟩) names.length c6) names.length mg) := own_below HOWN1.out (below_new V1 _)
    have hVlt : W.heap.size < V1.heap.size := World.ownsRow.lt HOWN1.out W.heap.size rfl |>.2
    go_region_held3 (fun q => (q.cell? ⟨w.heap.size, 2, none⟩ = some (.string s) ∧ q.cell? ⟨w.heap.size, 3, none⟩ = some (.slice (some ⟨g, off, none⟩) 1 c)) ∧ (q.cell? ⟨g, off, none⟩ = some (.int .i64 af) ∧ q.cell? ⟨g, off + 1, none⟩ = some (.int .i64 an) ∧ q.cell? ⟨g, off + 2, none⟩ = some (.string az) ∧ q.cell? ⟨g, off + 3, none⟩ = some (.slice A3 al c3))) (first | with_reducible exact hS0 | with_reducible exact hS1 | with_reducible exact hS2 | exact HK.out _ (hyda _) | exact HK.out _ (hydb _) | exact HK.out _ (hydc _))
      (first | (go_at_call 69; refine (HC.out _ gg cap hbV ho2).mono ?_; rintro e q1 ⟨rfl, hb1⟩; have hS2 := HK.out q1 hb1) | (refine step_append_lies _ rfl (.tmp 58) (.tmp 61) 28 rfl W.heap.size 9 i0 (.string ⟨#[]⟩) 1 16 Tryd.underlying28 hi hz0 hzs hzb rfl (by decide) (.slice (some ⟨W.heap.size, 0, none⟩) names.length c6) names.length mg (by rfl) HOWN2.out ⟨V1.heap.size, 0, none⟩ 1 1 [.string s] (by rfl) (by rfl) HN1.out HONE.out (by omega) (by unfold maxLen; omega) (by omega) (by first | omega | (simp; omega)) (V1.heap.size + 1) (by simp) ?_; intro gg cap V ho2 g2 hat _; have hbV := HNV.out _ V _ gg cap (by first | exact hyda _ | exact hydb _ | exact hydc _) g2 (fun k hk => by simp [Value.ownBlock] at hk; omega); have hS1 := HK.out V hbV))
    go_wp2
    go_ret
    exact ⟨by first | rfl | (rw [HE.out]; rfl), HB.out.trans (hb1.mono HB.out.size)⟩
theorem nl_any : ∀ n, NlIs n
  | 0 => fun P Q t names v nv w hn => by cases t <;> simp [Ty.sz] at hn
  | n + 1 => fun P Q t names v nv w hn h hs hok hlt hz => by
    have ih := nl_any n
    cases t with
    | hole m => exact nl_hole P Q m names v nv w h hs hok hlt
    | var s => exact nl_var P Q s names v nv w h hs hlt (by omega)
    | con s => exact nl_con P Q s names v nv w h hs
    | app a b => exact nl_app n ih P Q a b names v nv w hn h hs hok hlt hz
    | all s a => exact nl_all n ih P Q s a names v nv w hn h hs hok hlt hz
end Go.Proofs.YtbdfjboojokgdaaDoor
