/- Maps whose keys are pairs of names. No conditions but those that each theorem names. -/
import Derived.Test.YtjfhncbfbhkhgaaMem
import Derived.Test.YtjfhncbfbhkhgaaMapK
import Derived.DeepKeys4
namespace Go.Proofs.Ytjfhncbfbhkhgaa
open Go.RowKit Go.WideMaps Go.Maps
theorem Try.laidOut : laidOutB Try.prog = true := by kernel_rfl
theorem Try.row116 : (116 : TypeId) < Try.prog.types.size := of_decide_eq_true (by kernel_rfl)
theorem Try.wide116 : (match Try.prog.underlying 116 with | some (.array _ _) | some (.struct _) => true | _ => false) = true := by kernel_rfl
theorem Try.kta : Try.prog.keyTypeAt 2 116 = true := by kernel_rfl
set_option maxRecDepth 100000 in
theorem head_law : KeyLaw Try.prog 116 := deep_law_laid Try.laidOut (m := 2) (by omega) Try.row116 Try.kta Try.wide116
theorem head_keyed : Keyed Try.prog 116 := Keyed.of_law head_law
/-- A class's name and a constructor's. -/
abbrev HKey := {p : ByteArray × ByteArray // p.1.size ≤ maxLen ∧ p.2.size ≤ maxLen}
def hkey (p : HKey) : Value := .agg #[.string p.1.1, .string p.1.2]
def hlit (p : HKey) : Lit := .string (keyBytes [.string p.1.1.data.toList, .string p.1.2.data.toList])
theorem Try.sz9 : Try.prog.cellsOf 9 = 1 := by kernel_rfl
theorem Try.sz116 : Try.prog.cellsOf 116 = 2 := by kernel_rfl
theorem Try.keyType116 : Try.prog.keyType 116 = true := by kernel_rfl
set_option maxRecDepth 100000 in
theorem head_key (p : HKey) : keyOf Try.prog 116 (hkey p) = some (hlit p) := by
  obtain ⟨⟨a, b⟩, ha, hb⟩ := p
  obtain ⟨m, hm⟩ : ∃ m, Try.prog.types.size = m + 1 := ⟨Try.prog.types.size - 1, (Nat.succ_pred_eq_of_pos (Nat.lt_of_le_of_lt (Nat.zero_le _) Try.row116)).symm⟩
  simp only at ha hb
  unfold keyOf hkey hlit
  simp only [Try.underlying116]
  rw [if_pos (by simp [Try.keyType116, Value.formed, Try.underlying116, Try.sz116]), hm]
  unfold Program.keyLits
  simp only [Try.underlying116, Value.cells]
  rw [if_pos (by simp [Try.sz116])]
  simp [Try.sz9, Program.keyLits, Try.underlying9, ha, hb]
set_option maxRecDepth 100000 in
theorem head_inj {x y : HKey} (h : y ≠ x) : hlit y ≠ hlit x := fun e => h (by
  have h1 := head_key y
  rw [e] at h1
  have h2 := head_keyed.inj h1 (head_key x)
  obtain ⟨⟨a, b⟩, ha⟩ := x
  obtain ⟨⟨c, d⟩, hc⟩ := y
  unfold hkey at h2
  simp only at h2
  injection h2 with h2
  have e1 := congrArg (fun l => l.toList) h2
  simp at e1
  obtain ⟨rfl, rfl⟩ := e1
  rfl)
theorem zero59 (y : World) : (zeroValue 59).run Try.prog y = .ok (.agg #[.string ⟨#[]⟩, .int .i64 0, .string ⟨#[]⟩, .slice none 0 0, .slice none 0 0, .slice none 0 0]) y := Try.zeroValue59 y
theorem zero118 (y : World) : (zeroValue 118).run Try.prog y = .ok (.agg #[.string ⟨#[]⟩, .int .i64 0]) y := Try.zeroValue118 y
theorem zero3 (y : World) : (zeroValue 3).run Try.prog y = .ok (.int .i64 0) y := Try.zeroValue3 y
theorem zero40 (y : World) : (zeroValue 40).run Try.prog y = .ok (.slice none 0 0) y := Try.zeroValue40 y
theorem field59_4 (a b c d e f : Value) (w : World) : (Instr.field 59 (.agg #[a, b, c, d, e, f]) 4).run Try.prog w = .ok e w := by kernel_rfl
theorem field59_1 (a b c d e f : Value) (w : World) : (Instr.field 59 (.agg #[a, b, c, d, e, f]) 1).run Try.prog w = .ok b w := by kernel_rfl
end Go.Proofs.Ytjfhncbfbhkhgaa
