/- The contracts of chars.scanByte and chars.Scan. Condition: the text has at most 2^40 bytes. -/
import Derived.Test.YtibcclnienfchaaDoorLetters
import Derived.Deep.QuietTactic
import Derived.BigQuiet
namespace Go.Proofs.YtibcclnienfchaaDoor
open Go.RowKit

/-! ### Plain mathematics -/
def hexI (c : UInt8) : Int := Lib.indexByte [48, 49, 50, 51, 52, 53, 54, 55, 56, 57, 97, 98, 99, 100, 101, 102] c
def scanStep (l : List UInt8) : Option (UInt8 × Nat) :=
  match l with
  | [] => none
  | a :: r =>
    if plainB (a.toNat : Int) then some (a, 1)
    else if a ≠ 39 then none
    else match r with
      | h :: lo :: _ =>
        if hexI h < 0 ∨ hexI lo < 0 then none
        else if plainB (hexI h * 16 + hexI lo) then none
        else some (UInt8.ofNat (hexI h * 16 + hexI lo).toNat, 3)
      | _ => none
def scanF : Nat → List UInt8 → Option (List UInt8)
  | 0, l => if l = [] then some [] else none
  | f + 1, l => if l = [] then some [] else match scanStep l with
    | none => none
    | some (c, n) => (scanF f (l.drop n)).map (c :: ·)
def scanL (l : List UInt8) : Option (List UInt8) := if l = [95] then some [] else if l = [] then none else scanF l.length l

theorem hexI_fin : ∀ m : Fin 256, hexI (UInt8.ofNat m.val) = -1 ∨ (0 ≤ hexI (UInt8.ofNat m.val) ∧ hexI (UInt8.ofNat m.val) < 16 ∧ hexD (hexI (UInt8.ofNat m.val)).toNat = UInt8.ofNat m.val) := by decide +kernel
theorem ofNat_self (c : UInt8) : UInt8.ofNat c.toNat = c := by simp
theorem hexI_cases (c : UInt8) : hexI c = -1 ∨ (0 ≤ hexI c ∧ hexI c < 16 ∧ hexD (hexI c).toNat = c) := by
  have := hexI_fin ⟨c.toNat, c.toNat_lt⟩
  simpa [ofNat_self] using this
theorem hexI_hexD_fin : ∀ m : Fin 16, hexI (hexD m.val) = (m.val : Int) := by decide +kernel
theorem hexI_hexD (n : Nat) (h : n < 16) : hexI (hexD n) = (n : Int) := hexI_hexD_fin ⟨n, h⟩
theorem plain39 : plainB (((39 : UInt8).toNat : Nat) : Int) = false := by decide +kernel
theorem plain95 : plainB (((95 : UInt8).toNat : Nat) : Int) = false := by decide +kernel

/-- What stands at a print's head is scanned as the byte that it is the print of. -/
theorem step_print (c : UInt8) (r : List UInt8) : scanStep (byteP c ++ r) = some (c, (byteP c).length) := by
  unfold byteP
  by_cases h : plainB (c.toNat : Int) = true
  · rw [if_pos h]
    simp [scanStep, h]
  · rw [if_neg h]
    have hc := c.toNat_lt
    have e1 := hexI_hexD (c.toNat / 16) (by omega)
    have e2 := hexI_hexD (c.toNat % 16) (by omega)
    have e3 : ((c.toNat / 16 : Nat) : Int) * 16 + ((c.toNat % 16 : Nat) : Int) = (c.toNat : Int) := by omega
    simp only [List.cons_append, List.nil_append, scanStep]
    rw [if_neg (by rw [plain39]; simp), if_neg (by simp)]
    rw [e1, e2, e3, if_neg (by omega), if_neg h]
    simp
/-- And what is scanned is the print of a byte. -/
theorem print_step (l : List UInt8) (c : UInt8) (n : Nat) (h : scanStep l = some (c, n)) : n = (byteP c).length ∧ ∃ r, l = byteP c ++ r := by
  unfold scanStep at h
  match l, h with
  | a :: r, h =>
    simp only at h
    by_cases hp : plainB (a.toNat : Int) = true
    · rw [if_pos hp] at h
      obtain ⟨rfl, rfl⟩ := Prod.mk.inj (Option.some.inj h)
      have hb : byteP a = [a] := by unfold byteP; rw [if_pos hp]
      exact ⟨by rw [hb]; rfl, r, by rw [hb]; rfl⟩
    · rw [if_neg hp] at h
      by_cases ha : a ≠ 39
      · rw [if_pos ha] at h; cases h
      · rw [if_neg ha] at h
        have ha' : a = 39 := by simpa using ha
        match r, h with
        | [], h => cases h
        | [_], h => cases h
        | x :: y :: r, h =>
          simp only at h
          by_cases hx : hexI x < 0 ∨ hexI y < 0
          · rw [if_pos hx] at h; cases h
          · rw [if_neg hx] at h
            by_cases hq : plainB (hexI x * 16 + hexI y) = true
            · rw [if_pos hq] at h; cases h
            · rw [if_neg hq] at h
              obtain ⟨rfl, rfl⟩ := Prod.mk.inj (Option.some.inj h)
              rcases hexI_cases x with e | ⟨b1, b2, b3⟩
              · omega
              rcases hexI_cases y with e | ⟨d1, d2, d3⟩
              · omega
              have hv : (UInt8.ofNat (hexI x * 16 + hexI y).toNat).toNat = (hexI x * 16 + hexI y).toNat := ofNat_toNat _ (by omega)
              have hb : byteP (UInt8.ofNat (hexI x * 16 + hexI y).toNat) = [39, x, y] := by
                unfold byteP
                rw [hv, if_neg (by rw [show (((hexI x * 16 + hexI y).toNat : Nat) : Int) = hexI x * 16 + hexI y by omega]; exact hq)]
                rw [show (hexI x * 16 + hexI y).toNat / 16 = (hexI x).toNat by omega, show (hexI x * 16 + hexI y).toNat % 16 = (hexI y).toNat by omega, b3, d3]
              exact ⟨by rw [hb]; rfl, r, by rw [hb, ha']; rfl⟩
theorem byteP_pos (c : UInt8) : 0 < (byteP c).length := by unfold byteP; split <;> simp
theorem step_len {l : List UInt8} {c : UInt8} {n : Nat} (h : scanStep l = some (c, n)) : 1 ≤ n ∧ n ≤ l.length := by
  obtain ⟨e, r, rfl⟩ := print_step l c n h
  have := byteP_pos c
  simp; omega

theorem scanF_more : ∀ (f g : Nat) (l : List UInt8), l.length ≤ f → l.length ≤ g → scanF f l = scanF g l
  | f, g, [], _, _ => by cases f <;> cases g <;> simp [scanF]
  | 0, _, a :: l, h, _ => by simp at h
  | f + 1, 0, a :: l, _, h => by simp at h
  | f + 1, g + 1, a :: l, hf, hg => by
    simp only [scanF]
    cases h : scanStep (a :: l) with
    | none => rfl
    | some x =>
      obtain ⟨c, n⟩ := x
      have := step_len h
      simp only
      rw [scanF_more f g ((a :: l).drop n) (by simp at *; omega) (by simp at *; omega)]
theorem scanF_print : ∀ (x : List UInt8) (f : Nat), (printM x).length ≤ f → scanF f (printM x) = some x
  | [], f, _ => by cases f <;> simp [scanF, printM]
  | c :: r, f, h => by
    have e : printM (c :: r) = byteP c ++ printM r := by simp [printM]
    rw [e] at h ⊢
    have hp := byteP_pos c
    rw [List.length_append] at h
    obtain ⟨g, rfl⟩ : ∃ g, f = g + 1 := ⟨f - 1, by omega⟩
    have hne : byteP c ++ printM r ≠ [] := by intro h0; have h9 := congrArg List.length h0; rw [List.length_append, List.length_nil] at h9; omega
    simp only [scanF, hne, if_false, step_print]
    rw [List.drop_left, scanF_print r g (by omega)]
    rfl
theorem scan_print (x : List UInt8) : scanL (printL x) = some x := by
  unfold scanL printL
  by_cases hx : x = []
  · subst hx; simp
  · rw [if_neg hx]
    obtain ⟨c, r, rfl⟩ : ∃ c r, x = c :: r := by cases x with | nil => exact absurd rfl hx | cons c r => exact ⟨c, r, rfl⟩
    have e : printM (c :: r) = byteP c ++ printM r := by simp [printM]
    have hs := step_print c (printM r)
    rw [← e] at hs
    have h1 : printM (c :: r) ≠ [95] := by intro h0; rw [h0] at hs; simp [scanStep] at hs; exact absurd hs.1 (by decide)
    have h2 : printM (c :: r) ≠ [] := by intro h0; rw [h0] at hs; simp [scanStep] at hs
    rw [if_neg h1, if_neg h2]
    exact scanF_print _ _ (Nat.le_refl _)

/-! ### chars.scanByte -/
theorem index_any (c : UInt8) (w : World) :
    Calls Tryd.prog 43 #[.string ⟨#[48, 49, 50, 51, 52, 53, 54, 55, 56, 57, 97, 98, 99, 100, 101, 102]⟩, .int .u8 (c.toNat : Int)] w fun e w' => e = .returned (.int .i64 (hexI c)) ∧ w' = w := by
  have h := Tryd.strings_IndexByte ⟨#[48, 49, 50, 51, 52, 53, 54, 55, 56, 57, 97, 98, 99, 100, 101, 102]⟩ (c.toNat : Int) w
  have e : ((c.toNat : Int).toNat).toUInt8 = c := by simp
  rw [e] at h
  exact h

def stepC (l : List UInt8) : UInt8 := match scanStep l with | some x => x.1 | none => 0
def stepN (l : List UInt8) : Nat := match scanStep l with | some x => x.2 | none => 0
/-- The call returned these two, and only drew. -/
def Drawn (v : Value) (w : World) (e : Ending) (w' : World) : Prop := e = .returned v ∧ ∃ n, w' = w.drewN n

theorem list_head (s : ByteArray) (h : 0 < s.size) : ∃ r, s.data.toList = s[0] :: r := by
  have h0 := Lib.data_getElem? s 0 h
  cases hl : s.data.toList with
  | nil => rw [hl] at h0; cases h0
  | cons a r => rw [hl] at h0; simp at h0; exact ⟨r, by rw [h0]⟩
theorem list_three (s : ByteArray) (h : 2 < s.size) : ∃ r, s.data.toList = s[0] :: s[1] :: s[2] :: r := by
  have h0 := Lib.data_getElem? s 0 (by omega)
  have h1 := Lib.data_getElem? s 1 (by omega)
  have h2 := Lib.data_getElem? s 2 (by omega)
  match hl : s.data.toList, h0, h1, h2 with
  | a :: b :: c :: r, h0, h1, h2 => simp at h0 h1 h2; exact ⟨r, by rw [h0, h1, h2]⟩

theorem or16_fin : ∀ (a b : Fin 16), bits BinOp.or IntKind.i64 ((a.val : Int) * 16) (b.val : Int) = (a.val : Int) * 16 + (b.val : Int) := by decide +kernel
theorem or16 (a b : Int) (h0 : 0 ≤ a) (h1 : a < 16) (h2 : 0 ≤ b) (h3 : b < 16) : bits BinOp.or IntKind.i64 (a * 16) b = a * 16 + b := by
  have := or16_fin ⟨a.toNat, by omega⟩ ⟨b.toNat, by omega⟩
  simp only at this
  rw [show ((a.toNat : Nat) : Int) = a by omega, show ((b.toNat : Nat) : Int) = b by omega] at this
  exact this

set_option maxHeartbeats 400000 in
theorem scanByte_any (s : ByteArray) (w : World) (hs : 0 < s.size) :
    Calls Tryd.prog 32 #[.string s] w (Drawn (.tuple #[.int .u8 ((stepC s.data.toList).toNat : Int), .int .i64 (stepN s.data.toList)]) w) := by
  have hp0 : (0 : Int) < s.size := by omega
  have hw32 := wrap32_byte s[0]
  by_cases hpl : plainB (s[0].toNat : Int) = true
  · have HE : Hid (scanStep s.data.toList = some (s[0], 1)) := by obtain ⟨r, e⟩ := list_head s hs; rw [e]; simp only [scanStep]; rw [if_pos hpl]; exact rfl
    have HC : Hid (stepC s.data.toList = s[0]) := by unfold stepC; rw [HE.out]; exact rfl
    have HN : Hid (stepN s.data.toList = 1) := by unfold stepN; rw [HE.out]; exact rfl
    go_enter Tryd.func32, Tryd.ntmps32
    go_wp2_with (go_at_call 31; refine (plain_any _ _).mono ?_; rintro e w' ⟨rfl, rfl⟩)
    go_ret2
    exact ⟨by rw [HC.out, HN.out]; rfl, 0, rfl⟩
  have hpl' : plainB (s[0].toNat : Int) = false := by simpa using hpl
  by_cases h39 : s[0] = 39
  · by_cases h3 : s.size < 3
    · have h3' : decide ((s.size : Int) < 3) = true := by simp; omega
      have e39 : ((s[0].toNat : Int) != 39) = false := by rw [h39]; decide
      have HE : Hid (scanStep s.data.toList = none) := by
        obtain ⟨r, e⟩ := list_head s hs
        have hl : r.length < 2 := by rw [Lib.size_eq, e] at h3; simp at h3; omega
        rw [e]; simp only [scanStep]; rw [if_neg hpl, if_neg (by simpa using h39)]
        match r, hl with
        | [], _ => exact rfl
        | [_], _ => exact rfl
      have HC : Hid (stepC s.data.toList = 0) := by unfold stepC; rw [HE.out]; exact rfl
      have HN : Hid (stepN s.data.toList = 0) := by unfold stepN; rw [HE.out]; exact rfl
      clear h39
      go_enter Tryd.func32, Tryd.ntmps32
      go_wp2_with (go_at_call 31; refine (plain_any _ _).mono ?_; rintro e w' ⟨rfl, rfl⟩)
      go_ret2
      exact ⟨by rw [HC.out, HN.out]; rfl, 0, rfl⟩
    · have h3' : decide ((s.size : Int) < 3) = false := by simp; omega
      have e39 : ((s[0].toNat : Int) != 39) = false := by rw [h39]; decide
      have hp1 : (1 : Int) < s.size := by omega
      have hp2 : (2 : Int) < s.size := by omega
      have HS : Hid (scanStep s.data.toList = if hexI s[1] < 0 ∨ hexI s[2] < 0 then none else if plainB (hexI s[1] * (16 : Int) + hexI s[2]) then none else some (UInt8.ofNat (hexI s[1] * (16 : Int) + hexI s[2]).toNat, 3)) := by
        obtain ⟨r, e⟩ := list_three s (by omega)
        rw [e]; simp only [scanStep]; rw [if_neg hpl, if_neg (by simpa using h39)]; exact rfl
      have c1 := hexI_cases s[1]
      have c2 := hexI_cases s[2]
      have d1 : -1 ≤ hexI s[1] ∧ hexI s[1] < 16 := by omega
      have d2 : -1 ≤ hexI s[2] ∧ hexI s[2] < 16 := by omega
      obtain ⟨l1, u1⟩ := d1
      obtain ⟨l2, u2⟩ := d2
      clear h39 c1 c2
      go_enter Tryd.func32, Tryd.ntmps32
      go_wp2_with (go_at_call 31; refine (plain_any _ _).mono ?_; rintro e w' ⟨rfl, rfl⟩)
      go_quiet ((go_at_call 43; exact Calls.quiet_of_same (index_any _ _)))
      generalize hexI s[1] = a at *
      generalize hexI s[2] = b at *
      clear hw32
      by_cases ha : a < 0
      · have HE : Hid (scanStep s.data.toList = none) := by rw [HS.out, if_pos (.inl ha)]; exact rfl
        have HC : Hid (stepC s.data.toList = 0) := by unfold stepC; rw [HE.out]; exact rfl
        have HN : Hid (stepN s.data.toList = 0) := by unfold stepN; rw [HE.out]; exact rfl
        clear HS HE
        go_wp2
        go_ret2
        exact ⟨by rw [HC.out, HN.out]; rfl, _, rfl⟩
      by_cases hb : b < 0
      · have HE : Hid (scanStep s.data.toList = none) := by rw [HS.out, if_pos (.inr hb)]; exact rfl
        have HC : Hid (stepC s.data.toList = 0) := by unfold stepC; rw [HE.out]; exact rfl
        have HN : Hid (stepN s.data.toList = 0) := by unfold stepN; rw [HE.out]; exact rfl
        clear HS HE
        have hb' : decide (b < 0) = true := by simpa using hb
        go_wp2
        go_ret2
        exact ⟨by rw [HC.out, HN.out]; rfl, _, rfl⟩
      have ha' : 0 ≤ a := by omega
      have hb' : 0 ≤ b := by omega
      have hb2 : decide (b < 0) = false := by simpa using hb
      have hor := or16 a b ha' u1 hb' u2
      have hmod : (a * 16 + b) % 256 = a * 16 + b := by omega
      have hm0 : 0 ≤ a * 16 + b := by omega
      have hm1 : a * 16 + b < 256 := by omega
      have hw32 : wrap32 (a * 16 + b) = a * 16 + b := by unfold wrap32; omega
      have hw64 : wrap64 (a * 16) = a * 16 := by unfold wrap64; omega
      by_cases hq : plainB (a * 16 + b) = true
      · have HE : Hid (scanStep s.data.toList = none) := by rw [HS.out, if_neg (by omega), if_pos hq]; exact rfl
        have HC : Hid (stepC s.data.toList = 0) := by unfold stepC; rw [HE.out]; exact rfl
        have HN : Hid (stepN s.data.toList = 0) := by unfold stepN; rw [HE.out]; exact rfl
        clear HS HE
        go_wp2_with (go_at_call 31; refine (plain_any _ _).mono ?_; rintro e w' ⟨rfl, rfl⟩)
        go_ret2
        exact ⟨by rw [HC.out, HN.out]; rfl, _, rfl⟩
      · have hq' : plainB (a * 16 + b) = false := by simpa using hq
        have HE : Hid (scanStep s.data.toList = some (UInt8.ofNat (a * 16 + b).toNat, 3)) := by rw [HS.out, if_neg (by omega), if_neg hq]; exact rfl
        have HC : Hid (((stepC s.data.toList).toNat : Int) = a * 16 + b) := by
          unfold stepC; rw [HE.out]
          have : (((UInt8.ofNat (a * 16 + b).toNat).toNat : Nat) : Int) = a * 16 + b := by rw [ofNat_toNat _ (by omega)]; omega
          exact this
        have HN : Hid (stepN s.data.toList = 3) := by unfold stepN; rw [HE.out]; exact rfl
        clear HS HE hq
        go_wp2_with (go_at_call 31; refine (plain_any _ _).mono ?_; rintro e w' ⟨rfl, rfl⟩)
        go_ret2
        exact ⟨by rw [HC.out, HN.out]; rfl, _, rfl⟩
  · have e39 : ((s[0].toNat : Int) != 39) = true := by
      simp only [bne_iff_ne]; intro h; exact h39 (UInt8.toNat_inj.1 (by show s[0].toNat = 39; omega))
    have HE : Hid (scanStep s.data.toList = none) := by obtain ⟨r, e⟩ := list_head s hs; rw [e]; simp only [scanStep]; rw [if_neg hpl, if_pos h39]; exact rfl
    have HC : Hid (stepC s.data.toList = 0) := by unfold stepC; rw [HE.out]; exact rfl
    have HN : Hid (stepN s.data.toList = 0) := by unfold stepN; rw [HE.out]; exact rfl
    clear h39
    go_enter Tryd.func32, Tryd.ntmps32
    go_wp2_with (go_at_call 31; refine (plain_any _ _).mono ?_; rintro e w' ⟨rfl, rfl⟩)
    go_ret2
    exact ⟨by rw [HC.out, HN.out]; rfl, 0, rfl⟩

/-! ### chars.Scan -/
/-- What Scan answers, as values. -/
def scanV (r : Option (List UInt8)) : Value := match r with
  | some l => .tuple #[.string ⟨l.toArray⟩, .int .i64 0]
  | none => .tuple #[.string ⟨#[]⟩, .int .i64 12]

/-- What has been scanned so far, and what is left. -/
def ScanInv (l : List UInt8) (out : List UInt8) (k : Nat) : Prop := k ≤ l.length ∧ out.length ≤ k ∧ scanF l.length l = (scanF (l.length - k) (l.drop k)).map (out ++ ·)
theorem scanInv_start (l : List UInt8) : ScanInv l [] 0 := ⟨Nat.zero_le _, Nat.le_refl _, by simp⟩
theorem scanInv_end {l out : List UInt8} {k : Nat} (h : ScanInv l out k) (hk : ¬ k < l.length) : scanF l.length l = some out := by
  rw [h.2.2, List.drop_eq_nil_of_le (by omega)]
  have : l.length - k = 0 := by omega
  rw [this]; simp [scanF]
theorem scanF_step {l : List UInt8} (hl : l ≠ []) {f : Nat} (hf : l.length ≤ f) : scanF f l = match scanStep l with
    | none => none
    | some (c, n) => (scanF (l.length - n) (l.drop n)).map (c :: ·) := by
  obtain ⟨g, rfl⟩ : ∃ g, f = g + 1 := ⟨f - 1, by have := List.length_pos_iff.2 hl; omega⟩
  simp only [scanF, hl, if_false]
  cases h : scanStep l with
  | none => rfl
  | some x =>
    obtain ⟨c, n⟩ := x
    have := step_len h
    simp only
    rw [scanF_more g (l.length - n) (l.drop n) (by simp; omega) (by simp)]
theorem scanInv_none {l out : List UInt8} {k : Nat} (h : ScanInv l out k) (hk : k < l.length) (hn : scanStep (l.drop k) = none) : scanF l.length l = none := by
  rw [h.2.2, scanF_step (by intro e; have := congrArg List.length e; simp at this; omega) (by simp), hn]
  rfl
theorem scanInv_some {l out : List UInt8} {k : Nat} (h : ScanInv l out k) (hk : k < l.length) {c : UInt8} {n : Nat} (hn : scanStep (l.drop k) = some (c, n)) : ScanInv l (out ++ [c]) (k + n) := by
  have hl := step_len hn
  rw [List.length_drop] at hl
  refine ⟨by omega, by have := h.2.1; simp; omega, ?_⟩
  rw [h.2.2, scanF_step (by intro e; have := congrArg List.length e; simp at this; omega) (by simp), hn]
  simp only [List.length_drop, List.drop_drop, Option.map_map]
  rw [show l.length - k - n = l.length - (k + n) by omega]
  congr 1
  funext x
  simp

theorem stepN_zero {l : List UInt8} (h : stepN l = 0) : scanStep l = none := by
  unfold stepN at h
  cases e : scanStep l with
  | none => rfl
  | some x => rw [e] at h; obtain ⟨c, n⟩ := x; have := step_len e; simp at h; omega
theorem stepN_pos {l : List UInt8} (h : stepN l ≠ 0) : scanStep l = some (stepC l, stepN l) := by
  unfold stepN stepC at *
  cases e : scanStep l with
  | none => rw [e] at h; exact absurd rfl h
  | some x => rfl
theorem stepN_le (l : List UInt8) : stepN l ≤ 3 := by
  by_cases h : stepN l = 0
  · omega
  · obtain ⟨e, _⟩ := print_step l _ _ (stepN_pos h)
    have := byteP_len (stepC l); omega

set_option maxHeartbeats 1000000 in
theorem scan_any (s : ByteArray) (w : World) (hs : s.size ≤ 1099511627776) :
    Calls Tryd.prog 20 #[.string s] w fun e w' => e = .returned (scanV (scanL s.data.toList)) ∧ Below w.heap.size w w' := by
  by_cases h95 : s.data.toList = [95]
  · have e1 : s.toList = [95] := by rw [Lib.toList_data]; exact h95
    have e2 : scanL s.data.toList = some [] := by rw [h95]; rfl
    rw [e2]; clear e2 h95
    go_enter Tryd.func20, Tryd.ntmps20
    go_wp2
    go_ret2
    exact ⟨rfl, Below.refl _ _⟩
  have e95 : (s.toList == [95]) = false := by rw [Lib.toList_data]; simpa using h95
  by_cases h0 : s.size = 0
  · have e0 := toList_nil s h0
    have e1 : scanL s.data.toList = none := by rw [← Lib.toList_data, e0]; rfl
    rw [e1]; clear e1 h0 h95 e95
    go_enter Tryd.func20, Tryd.ntmps20
    go_wp2
    go_ret2
    exact ⟨rfl, Below.refl _ _⟩
  have e0 := toList_ne s (by omega)
  have hp0 : (0 : Int) < s.size := by omega
  have hlen := Lib.size_eq s
  have HL : Hid (scanL s.data.toList = scanF s.data.toList.length s.data.toList) := by
    unfold scanL
    rw [if_neg h95, if_neg (by intro e; rw [hlen, e] at h0; exact h0 rfl)]
    exact rfl
  have HZ := Lib.hid hlen
  clear h95 hlen
  obtain ⟨i0, hi, hz0, hz1, hz2⟩ := info_parts Tryd.info5
  go_enter Tryd.func20, Tryd.ntmps20
  go_wp2_with (at_make; refine wpList_make_own _ rfl _ _ 23 rfl w.heap.size 5 i0 (.int .u8 0) 1 Tryd.underlying23 hi hz0 hz1 _ _ _ s.size rfl rfl rfl (by rw [hz2]; omega) (by unfold maxLen; omega) (Nat.le_refl _) ?_; intro w1 hown hg)
  go_loopw [4, 5] (fun v i wr => ∃ (k : Nat) (out : List UInt8), i = .int .i64 k ∧ ScanInv s.data.toList out k ∧ wr.ownsRow w.heap.size 5 1 v out.length (bc out) ∧ Below w.heap.size w wr) (fun _ i _ => s.size - (intOf i).toNat)
  case atStart => exact ⟨0, [], rfl, scanInv_start _, hown, (Below.refl _ _).grown hg (Nat.le_refl _) (by intro k hk; cases hk)⟩
  case round =>
    obtain ⟨k, out, rfl, hinv, hownr, hb⟩ := hrel
    clear hown hg
    have hsz := hb.size
    have hk : k ≤ s.size := by have := hinv.1; rw [HZ.out]; exact this
    have hol := hinv.2.1
    by_cases hlt : k < s.size
    · have hklt : k < s.data.toList.length := by rw [← HZ.out]; exact hlt
      have hx : (s.extract k s.size).data.toList = s.data.toList.drop k := by rw [Lib.extract_data]; exact List.take_of_length_le (by rw [List.length_drop, ← HZ.out]; omega)
      have hxs : 0 < (s.extract k s.size).size := by rw [ByteArray.size_extract]; omega
      go_wp2_with fail
      refine (scanByte_any _ _ hxs).mono ?_
      rintro e w2 ⟨rfl, nd, rfl⟩
      rw [hx]
      have HZERO := Lib.hid (@stepN_zero (s.data.toList.drop k))
      have HPOS := Lib.hid (@stepN_pos (s.data.toList.drop k))
      have hm3 := stepN_le (s.data.toList.drop k)
      clear hx hxs
      generalize stepC (s.data.toList.drop k) = c at *
      generalize stepN (s.data.toList.drop k) = m at *
      by_cases hm : m = 0
      · subst hm
        have HF : Hid (scanL s.data.toList = none) := by rw [HL.out, scanInv_none hinv hklt (HZERO.out rfl)]; exact rfl
        clear hinv HZERO HPOS
        go_wp2
        go_ret2
        exact ⟨by rw [HF.out]; rfl, below_drewN hb _⟩
      · have hI := scanInv_some hinv hklt (HPOS.out hm)
        have hkm : k + m ≤ s.size := by have := hI.1; rw [HZ.out]; exact this
        have HI := Lib.hid hI
        have hm0 : ((m : Int) == 0) = false := by simp; omega
        clear hinv HZERO HPOS hI
        have hownd : (wr.drewN nd).ownsRow w.heap.size 5 1 u4 out.length (bc out) := hownr
        have hbd := below_drewN hb nd
        have hszd : w.heap.size ≤ (wr.drewN nd).heap.size := hsz
        generalize wr.drewN nd = wd at *
        clear hownr hb hsz
        go_wp2_with (at_builtin; refine wpList_append_own _ rfl (.tmp 28) (.tmp 30) 23 rfl w.heap.size 5 i0 (.int .u8 0) 1 1 Tryd.underlying23 hi hz0 hz1 hz2 rfl (by decide) _ _ _ rfl (hownd.alloc _) ⟨wd.heap.size, 0, none⟩ 1 1 [.int .u8 (c.toNat : Int)] rfl rfl (cell_one_new _ _ _) (one_byte _) (by unfold maxLen; omega) (by omega) (by simp; omega) ?_; intro v' w2 hown2 hg2 _)
        have R := own_step _ [c] (hbd.alloc hszd _) (by simp; omega) (hownd.alloc _) hown2 hg2 rfl rfl
        go_roundw
        case rel => exact ⟨k + m, out ++ [c], by go_num, HI.out, R.1, R.2⟩
        case measure => simp [intOf]; omega
    · have hcv := convert_own hownr
      have HF : Hid (scanL s.data.toList = some out) := by rw [HL.out, scanInv_end hinv (by rw [← HZ.out]; exact hlt)]; exact rfl
      have hd : decide (k < s.size) = false := by simpa using hlt
      clear hinv
      go_wp2
      go_ret2
      exact ⟨by rw [HF.out]; rfl, hb⟩
end Go.Proofs.YtibcclnienfchaaDoor
