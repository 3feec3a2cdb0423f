/- Fronts of a list of lists; what FrameScans asks besides. -/
import Derived.Test.YtdagpmmachaeaaaFscH
import Derived.Test.YtdagpmmachaeaaaFrmW
namespace Go.Proofs.Ytdagpmmachaeaaa
open Go Go.RowKit
set_option linter.unusedVariables false
set_option linter.unusedSimpArgs false

theorem size_list (W : World) : (sizeOf (Try.prog.elem 42)).run Try.prog W = .ok 1 W := by
  obtain ⟨i0, hi, hz0, hz1, hz2⟩ := info_parts infoSl
  rw [show Try.prog.elem 42 = 22 by kernel_rfl]
  simp [sizeOf, typeInfo, hi, hz1]
theorem under_lists : Try.prog.underlying 42 = some (.slice (Try.prog.elem 42)) := by
  rw [show Try.prog.elem 42 = 22 by kernel_rfl]; exact Try.underlying42
theorem run_hl (A : Option Addr) (n c h : Nat) (hh : h ≤ c) (W : World) :
    (Instr.slice 42 (.slice A n c) none (some (.int .i64 h)) none).run Try.prog W = .ok (.slice (cutAt A 0 c) h c) W := by
  rw [run_slice_h W _ A n c under_lists .i64 h (by omega) (by omega), size_list]; rfl
theorem cutAt_zero (A : Option Addr) (c : Nat) : cutAt A 0 c = A := by
  unfold cutAt
  split
  · rfl
  · cases A <;> simp [Addr.add]
theorem Lists.front {hi : Nat} {W : World} {A : Option Addr} {ls : List (List Int)} (h : Lists hi W A ls) (c j : Nat) : Lists hi W (cutAt A 0 c) (ls.take j) := fun hne => by
  rw [cutAt_zero]
  obtain ⟨b, o, rfl, hbh, hc⟩ := h (by intro e; rw [e] at hne; simp at hne)
  refine ⟨b, o, rfl, hbh, fun i l hi => hc i l ?_⟩
  rw [List.getElem?_take] at hi
  split at hi
  · exact hi
  · cases hi
theorem OwnB.slice {base : Nat} {W : World} {v : Value} {bs : List Int} (h : OwnB base W v bs) : ∃ B d, v = .slice B bs.length d ∧ bs.length ≤ d ∧ Bytes W.heap.size W B bs := by
  obtain ⟨B, d, rfl, hd, h2⟩ := own_bytes h rfl
  refine ⟨B, d, rfl, hd, ?_⟩
  rcases h2 with rfl | ⟨g, rfl, hr⟩
  · exact Bytes.nil _ _ _
  · exact hr.bytes.up hr.lt
theorem mem_rows {ls : List (List Int)} {x : List Int} (h : x ∈ ls) : 8 + x.length ≤ (rowsB ls).length := by
  obtain ⟨i, hi, rfl⟩ := List.getElem_of_mem h
  have := rowsB_next hi
  have := rowsB_len_take ls (i + 1)
  omega
theorem frs_of {ls : List (List Int)} (h : (rowsB ls).length ≤ 3000) : Frs ls := fun x hx => by have := mem_rows hx; omega
theorem len_of_rows (ls : List (List Int)) : 8 * ls.length ≤ (rowsB ls).length := by
  induction ls with
  | nil => simp
  | cons x r ih => rw [rowsB_cons, List.length_append, frameB_len, List.length_cons]; omega
theorem rows_byte {ls : List (List Int)} (hs : ∀ x ∈ ls, Short x) (hl : Frs ls) : Byte (rowsB ls) := by
  induction ls with
  | nil => intro x hx; simp [rowsB] at hx
  | cons x r ih =>
    rw [rowsB_cons]
    exact (frameB_byte (hs x List.mem_cons_self).1 (by have := hl x List.mem_cons_self; omega)).append (ih (fun y hy => hs y (List.mem_cons_of_mem _ hy)) (fun y hy => hl y (List.mem_cons_of_mem _ hy)))
theorem rows_short {ls : List (List Int)} (hs : ∀ x ∈ ls, Short x) (h : (rowsB ls).length ≤ 3000) : Short (rowsB ls) := ⟨rows_byte hs (frs_of h), by omega⟩
end Go.Proofs.Ytdagpmmachaeaaa
