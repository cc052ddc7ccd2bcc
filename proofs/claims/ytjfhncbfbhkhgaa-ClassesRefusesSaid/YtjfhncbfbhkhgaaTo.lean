/- to: the places of the way to a class. Conditions: those that each theorem names. -/
import Derived.Test.YtjfhncbfbhkhgaaRev
namespace Go.Proofs.Ytjfhncbfbhkhgaa
open Go.RowKit
/-- A way is shorter than there are things that were come to. -/
theorem bfs_way_len {α : Type} {next : α → List α} {a : α} {D : List (α × List Nat)} {v : List Nat} {j : Nat} (h : BfsI next a D v j) : ∀ (n k : Nat) (x : α) (w : List Nat), k ≤ n → D[k]? = some (x, w) → w.length ≤ k := by
  intro n
  induction n with
  | zero =>
    intro k x w hk hd
    have : k = 0 := by omega
    subst this
    rw [h.first] at hd; injection hd with hd; injection hd with _ hd; subst hd; exact Nat.le_refl _
  | succ n ih =>
    intro k x w hk hd
    rcases h.from_ x w (List.mem_of_getElem? hd) with rfl | ⟨y, u, i, rfl, hy, _, _⟩
    · exact Nat.zero_le _
    · obtain ⟨m, hm⟩ := List.getElem?_of_mem hy
      have hmk : m < k := by
        rcases Nat.lt_or_ge m k with h1 | h1
        · exact h1
        · exfalso
          have hs : slt (u ++ [i]) u := by
            rcases Nat.lt_or_ge k m with h2 | h2
            · obtain ⟨h3, e3⟩ := List.getElem?_eq_some_iff.1 hd
              obtain ⟨h4, e4⟩ := List.getElem?_eq_some_iff.1 hm
              have := List.pairwise_iff_getElem.1 h.inc k m h3 h4 h2
              rw [e3, e4] at this; exact this
            · have : m = k := by omega
              subst this
              rw [hd] at hm; injection hm with hm; injection hm with _ hm
              simp at hm
          rcases hs with hs | ⟨hs, _⟩ <;> simp at hs
          omega
      have := ih m y u (by omega) hm
      simp; omega
theorem bfs_short {α : Type} {next : α → List α} {a : α} {D : List (α × List Nat)} {v : List Nat} {j : Nat} (h : BfsI next a D v j) {x : α} {w : List Nat} (hx : (x, w) ∈ D) : w.length < D.length := by
  obtain ⟨k, hk⟩ := List.getElem?_of_mem hx
  have h1 := bfs_way_len h k k x w (Nat.le_refl _) hk
  have h2 := (List.getElem?_eq_some_iff.1 hk).1
  omega
def lenV : Value → Nat
  | .slice _ n _ => n
  | _ => 0
def ToRes (D : List (ByteArray × List Nat)) (x : ByteArray) (w : World) (e : Ending) (w' : World) : Prop :=
  Below w.heap.size w w' ∧ ((x ∉ D.map Prod.fst ∧ e = .returned (.tuple #[.slice none 0 0, .bool false])) ∨ ∃ u rv, (x, u) ∈ D ∧ e = .returned (.tuple #[rv, .bool true]) ∧ OwnZ w.heap.size w' rv u)
set_option maxRecDepth 100000 in
set_option maxHeartbeats 4000000 in
theorem to_any {B : Nat} {C : List Cls} {a : ByteArray} {D : List (ByteArray × List Nat)} {v : List Nat} {j k ob lb : Nat} {w : World} (h : WaysAt B a D k ob lb w) (hb : BfsI (supF C) a D v j) (hl : D.length ≤ 1048577) (hD : ∀ y ∈ D.map Prod.fst, y.size ≤ maxLen) {x : ByteArray} (hx : x.size ≤ maxLen) :
    Calls Try.prog 46 #[.pointer (some ⟨ob, 0, none⟩), .string x] w (ToRes D x w) := by
  obtain ⟨qv, o1, _⟩ := h.obj
  have c2 : w.cell? ⟨ob, 2, none⟩ = some (.map (some lb)) := by simp [World.cell?, o1]
  have HH := Lib.hid h
  have HBF := Lib.hid hb
  have HLL := Lib.hid hl
  have HDS := Lib.hid hD
  rcases h.last.look hx with ⟨hn, k1⟩ | ⟨u, y0, i0, hm, _, k1⟩
  · have k2 := k1 w rfl
    have HN := Lib.hid hn
    clear h hb hn k1 o1 hl hD
    go_enter Try.func46, Try.ntmps46
    go_wp2
    go_ret2
    exact ⟨below_new _ _, .inl ⟨HN.out, rfl⟩⟩
  · have k2 := (k1 w rfl).1
    have HM := Lib.hid hm
    obtain ⟨i9, hi3, hz3, hs3, hb3⟩ := info_parts Try.info3
    have hlo := lt_of_block o1
    have hll := h.last.lt
    clear h hb k1 o1 hl hD hm
    go_enter Try.func46, Try.ntmps46
    go_wp2
    go_loopw [1, 8] (fun cv lv wr => ∃ c : ByteArray, ∃ t z : List Nat, cv = .string c ∧ u = t ++ z ∧ (c, t) ∈ D ∧ OwnZ w.heap.size wr lv z.reverse ∧ Below w.heap.size w wr) (fun _ lv _ => u.length - lenV lv)
    case atStart => exact ⟨x, u, [], rfl, by simp, HM.out, World.ownsRow_nil _ _ 3 1, below_new _ _⟩
    case round =>
      obtain ⟨c, t, z, rfl, hut, hct, hoz, hbl⟩ := hrel
      obtain ⟨Al, cl, rfl, _⟩ := own_form hoz
      have hw9 := HH.out.on hbl
      obtain ⟨q9, p1, _⟩ := hw9.obj
      have c1 : wr.cell? ⟨ob, 1, none⟩ = some (.string a) := by simp [World.cell?, p1]
      have c2' : wr.cell? ⟨ob, 2, none⟩ = some (.map (some lb)) := by simp [World.cell?, p1]
      by_cases hca : c = a
      · subst hca
        have ht : t = [] := HBF.out.one hct HBF.out.a_mem
        subst ht
        rw [List.nil_append] at hut
        subst hut
        have HRV := Lib.hid (reverse_any hoz)
        have HRES : Hid (∀ e w', RevRes w.heap.size (.slice Al u.reverse.length cl) u.reverse wr e w' → e = .returned (.tuple #[]) ∧ ToRes D x w (.returned (.tuple #[.slice Al u.reverse.length cl, .bool true])) w') := Lib.hid fun e w' ⟨he, r1, r2⟩ => by
          rw [List.reverse_reverse] at r1
          exact ⟨he, hbl.trans (r2.below hbl.size (fun k hk => (World.ownsRow.lt hoz k hk).1)), .inr ⟨u, _, HM.out, rfl, r1⟩⟩
        clear hct hoz hbl hw9 p1
        generalize hul : u.reverse.length = ul at *
        go_wp2_with fail
        with_reducible refine HRV.out.mono ?_
        rintro e w' hrev
        obtain ⟨rfl, hr⟩ := HRES.out e w' hrev
        have HR := Lib.hid hr
        clear hr hrev
        go_wp2
        go_ret2
        exact HR.out
      · have hcs := HDS.out c (List.mem_map.2 ⟨_, hct, rfl⟩)
        have hne : (c.toList == a.toList) = false := by rw [← beq_toListBytes, beq_eq_false_iff_ne]; exact hca
        rcases hw9.last.look hcs with ⟨hn, _⟩ | ⟨t2, y, i, hm2, hst, k9⟩
        · exact absurd (List.mem_map.2 ⟨_, hct, rfl⟩) hn
        · have htt : t2 = t := HBF.out.one hm2 hct
          subst htt
          rcases hst with ⟨rfl, _, _⟩ | ⟨t', rfl, hy⟩
          · exfalso
            have := HBF.out.way c [] hct
            injection this with this; exact hca this.symm
          · have k10 := (k9 wr rfl).2
            obtain ⟨V, eV⟩ : ∃ V, V = (wr.alloc (.cells #[.string y, .int .i64 (i : Nat)] 125)).alloc (.cells #[.int .i64 (i : Nat)] 3) := ⟨_, rfl⟩
            have hBV : Below wr.heap.size wr V := by rw [eV]; exact (below_new _ _).alloc (by simp) _
            have v0 : V.heap[wr.heap.size]? = some (.cells #[.string y, .int .i64 (i : Nat)] 125) := by rw [eV, alloc_get, if_neg (by simp), alloc_get, if_pos rfl]
            have HOW : Hid (V.ownsRow w.heap.size 3 1 (.slice Al z.reverse.length cl) z.reverse.length (z.reverse.map natV)) := Lib.hid (own_on hoz hBV)
            have HNW : Hid (∀ j u, [Value.int .i64 (i : Nat)][j]? = some u → V.cell? ((⟨wr.heap.size + 1, 0, none⟩ : Addr).add j) = some u) := Lib.hid (by
              have h9 := one_new (wr.alloc (.cells #[.string y, .int .i64 (i : Nat)] 125)) (.int .i64 (i : Nat)) 3
              rw [show (wr.alloc (.cells #[.string y, .int .i64 (i : Nat)] 125)).heap.size = wr.heap.size + 1 by simp] at h9
              rw [eV]; exact h9)
            have hul : u.length < D.length := bfs_short HBF.out HM.out
            have hzl : z.reverse.length + 1 ≤ u.length := by rw [hut]; simp
            have hDl := HLL.out
            have H63 : Hid (z.reverse.length + 1 ≤ maxLen) := Lib.hid (by unfold maxLen; omega)
            have HBY : Hid ((z.reverse.length + 1) * 8 ≤ 140737488355328) := Lib.hid (by omega)
            have HSZ : Hid (w.heap.size ≤ V.heap.size) := Lib.hid (Nat.le_trans hbl.size hBV.size)
            have HP : Hid (∀ v' w3, w3.ownsRow w.heap.size 3 1 v' (z.reverse.length + 1) (z.reverse.map natV ++ [.int .i64 (i : Nat)]) → V.grownBy w3 (Value.slice Al z.reverse.length cl).ownBlock →
                w3.cell? ⟨wr.heap.size, 0, none⟩ = some (.string y) ∧ (∃ t2 z2, u = t2 ++ z2 ∧ (y, t2) ∈ D ∧ OwnZ w.heap.size w3 v' z2.reverse ∧ Below w.heap.size w w3 ∧ lenV v' = z.reverse.length + 1)) := Lib.hid fun v' w3 g1 g2 => by
              have hnb : (Value.slice Al z.reverse.length cl).ownBlock ≠ some wr.heap.size := fun e => by have := (World.ownsRow.lt hoz _ e).2; omega
              have g3 : w3.heap[wr.heap.size]? = _ := (g2.block wr.heap.size (lt_of_block v0) (fun e => hnb e.symm)).trans v0
              refine ⟨by simp [World.cell?, g3], t', i :: z, by rw [hut]; simp, hy, ?_, ?_, ?_⟩
              · unfold OwnZ
                rw [List.reverse_cons, List.length_append, List.map_append]; exact g1
              · exact (hbl.trans (hBV.mono hbl.size)).trans ⟨g2.os, g2.tape, g2.output, g2.size, fun m hm => g2.block m (by have := hBV.size; have := hbl.size; omega) (fun e => by have := (World.ownsRow.lt hoz m e.symm).1; omega)⟩
              · obtain ⟨A3, c3, e, _⟩ := own_form g1
                rw [e]; rfl
            have HEV := Lib.hid eV
            clear hoz hbl hw9 p1 eV hBV v0 hm2 k9 hct hcs
            generalize hzn : z.reverse.length = zn at *
            obtain rfl := HEV.out
            clear HEV
            go_upto_region 7 with (fail)
            go_wp2_with (at_builtin; refine wpList_append_own_at _ rfl (.tmp 33) (.tmp 36) 22 rfl w.heap.size 3 i9 (.int .i64 0) 1 8 Try.underlying22 hi3 hz3 hs3 hb3 rfl (by decide) _ zn (z.reverse.map natV) rfl HOW.out ⟨wr.heap.size + 1, 0, none⟩ 1 1 [.int .i64 (i : Nat)] rfl rfl HNW.out (by intro u hu; simp at hu; subst hu; rfl) H63.out HBY.out HSZ.out ?_; intro v' w3 hown2 hg2 _ hat2; obtain ⟨p1, p2⟩ := HP.out v' w3 hown2 hg2; obtain ⟨A3, c3, rfl, _⟩ := own_form hown2; have HP2 := Lib.hid p2; clear p2 hown2 hg2 hat2)
            obtain ⟨t2, z2, e1, e2, e3, e4, e5⟩ := HP2.out
            exact ⟨⟨y, t2, z2, rfl, e1, e2, e3, e4⟩, by simp only [lenV]; omega⟩
end Go.Proofs.Ytjfhncbfbhkhgaa
