/- A disk's small calls: the atomic number, Halted; how many bytes all files have (a range over the map). -/
import Derived.Test.YtkieacidpiffpaaDskA
import Derived.Test.YtkieacidpiffpaaLays
import Derived.Laws.LoneSync
namespace Go.Proofs.Ytkieacidpiffpaa
open Go Go.RowKit
set_option linter.unusedVariables false
set_option linter.unusedSimpArgs false

theorem aload {w : World} {b o : Nat} {x : Int} (h : w.cell? ⟨b, o, none⟩ = some (.int .i64 x)) : Calls Try.prog 51 #[.pointer (some ⟨b, o, none⟩)] w fun e w' => e = .returned (.int .i64 x) ∧ w = w' := by
  have hd := run_call_load (P := Try.prog) Try.func60 (by kernel_rfl) (by kernel_rfl) (by kernel_rfl) .i64 (by kernel_rfl) h
  go_enter Try.func51, Try.ntmps51
  go_wp2
  go_ret
  exact ⟨rfl, rfl⟩
theorem astore {w : World} {b o : Nat} {x : Value} {y : Int} (h : w.cell? ⟨b, o, none⟩ = some x) (hf : w.frozen? ⟨b, o, none⟩ = false) : Calls Try.prog 26 #[.pointer (some ⟨b, o, none⟩), .int .i64 y] w fun e w' => e = .returned (.tuple #[]) ∧ w.setCell ⟨b, o, none⟩ (.int .i64 y) = w' := by
  have hd := run_call_store (P := Try.prog) Try.func52 (by kernel_rfl) (by kernel_rfl) (by kernel_rfl) (by kernel_rfl) (k := .i64) (y := y) h hf
  go_enter Try.func26, Try.ntmps26
  go_wp2
  go_end0
  exact ⟨rfl, rfl⟩
theorem aadd {w : World} {b o : Nat} {x : Int} (h : w.cell? ⟨b, o, none⟩ = some (.int .i64 x)) (hf : w.frozen? ⟨b, o, none⟩ = false) (hx : 0 < x ∧ x ≤ 9223372036854775807) : Calls Try.prog 53 #[.pointer (some ⟨b, o, none⟩), .int .i64 (-1)] w fun e w' => (∃ v, e = .returned v) ∧ w.setCell ⟨b, o, none⟩ (.int .i64 (x - 1)) = w' := by
  have hs : (Op.intArith .add .i64 x (-1)).run Try.prog w = .ok (.int .i64 (x - 1)) w := by
    simp [go_sem, Op.intArith]; rw [IntKind.wrap_i64]; omega
  have hd := run_call_add (P := Try.prog) Try.func61 (by kernel_rfl) (by kernel_rfl) (by kernel_rfl) .i64 (by kernel_rfl) (x := x) (y := -1) (s := x - 1) h hf hs
  clear hs
  go_enter Try.func53, Try.ntmps53
  go_wp2
  go_ret
  exact ⟨⟨_, rfl⟩, rfl⟩
theorem DkAt.cells {w : World} {d : Dk} (h : DkAt w d) : w.cell? ⟨d.B, 0, none⟩ = some (.int .i64 d.room) ∧ w.cell? ⟨d.B, 1, none⟩ = some (.map (some d.M)) ∧ w.cell? ⟨d.B, 2, none⟩ = some (.bool d.full) ∧ w.cell? ⟨d.B, 3, none⟩ = some (.int .i64 d.left) ∧ ∀ i, w.frozen? ⟨d.B, i, none⟩ = false := by
  refine ⟨?_, ?_, ?_, ?_, fun i => h.box.frozen i⟩ <;> rw [h.box.cell] <;> rfl
theorem halted_any {w : World} {d : Dk} (h : DkAt w d) : Calls Try.prog 24 #[.pointer (some ⟨d.B, 0, none⟩)] w fun e w' => e = .returned (.bool (decide (d.left = 0))) ∧ w = w' := by
  obtain ⟨c0, c1, c2, c3, cf⟩ := h.cells
  have hl := aload c3
  have HL := Lib.hid hl
  clear hl h cf
  go_enter Try.func24, Try.ntmps24
  go_wp2_with (go_at_call 51; refine HL.out.mono ?_; rintro e w1 ⟨rfl, rfl⟩)
  go_ret
  exact ⟨rfl, rfl⟩
end Go.Proofs.Ytkieacidpiffpaa
