/- Arguments that are lists of bytes, and lists of these, opened. -/
import Derived.Test.YtkieacidpiffpaaDskB
import Derived.Test.YtkieacidpiffpaaRows
import Derived.ProofKit
import Derived.Deep.Slices
import Derived.OpenShut
import Derived.ChangeArms
namespace Go.Proofs.Ytkieacidpiffpaa
open Go Go.ChangeShapes Go.WideShapes Go.ChangeAt Go.RowKit
set_option linter.unusedVariables false
set_option linter.unusedSimpArgs false

theorem list_of {α : Type} {Q : Nat → α → Prop} : ∀ n, (∀ i, i < n → ∃ x, Q i x) → ∃ l : List α, l.length = n ∧ ∀ i x, l[i]? = some x → Q i x
  | 0, _ => ⟨[], rfl, fun i x h => by simp at h⟩
  | n + 1, h => by
    obtain ⟨l, hl, hq⟩ := list_of n (fun i hi => h i (by omega))
    obtain ⟨x, hx⟩ := h n (by omega)
    refine ⟨l ++ [x], by simp [hl], fun i y hy => ?_⟩
    by_cases e : i < l.length
    · rw [List.getElem?_append_left e] at hy; exact hq i y hy
    · rw [List.getElem?_append_right (by omega)] at hy
      have : i = n := by
        have := (List.getElem?_eq_some_iff.1 hy).1
        simp at this; omega
      subst this
      rw [hl] at hy
      simp at hy
      subst hy
      exact hx

theorem spot_none {W : World} {a : Addr} {v : Value} (h : W.cell? a = some v) : a.spot = none := by
  cases hs : a.spot with
  | none => rfl
  | some z =>
    unfold World.cell? at h
    cases ho : W.heap[a.block]? with
    | none => simp [ho] at h
    | some o => cases o <;> simp [ho, hs] at h
theorem add_block (a : Addr) (k : Nat) : (a.add k).block = a.block := by unfold Addr.add; split <;> rfl
theorem add_addk (a : Addr) (n i j : Nat) (hn : n ≠ 0) (h : i = 0 → a.spot = none) : (a.add (i * n)).add j = ⟨a.block, a.off + i * n + j, none⟩ := by
  obtain ⟨b, o, sp⟩ := a
  by_cases e : i = 0
  · have := h e
    simp only at this
    subst e this
    by_cases e' : j = 0 <;> simp [Addr.add, e']
  · have e4 : ¬ i * n = 0 := Nat.mul_ne_zero e hn
    by_cases e' : j = 0
    · subst e'; simp only [Addr.add, if_neg e4, if_true, Nat.add_zero]
    · simp only [Addr.add, if_neg e4, if_neg e']
theorem cells_byte : Try.prog.cellsOf 5 = 1 := by kernel_rfl
theorem cells_bytes : Try.prog.cellsOf 22 = 1 := by kernel_rfl
set_option maxRecDepth 100000 in
theorem open_bytes {H : Type} {enc : TypeId × Value → H} {W : World} {spare : Nat → Bool} {held : Bool} {v : Value} {d : DataW H} {p : List MemPlace} (h : DataW.Trod enc Try.prog W 0 spare held 22 v d p)
    (hv : ∃ A n c, v = .slice A n c) :
    ∃ (A : Option Addr) (cap : Nat) (bs : List Int), v = .slice A bs.length cap ∧ bs.length ≤ cap ∧ cap ≤ maxLen ∧ Bytes W.heap.size W A bs ∧ ∀ x ∈ bs, 0 ≤ x ∧ x ≤ 255 := by
  obtain ⟨fuel, hf⟩ := h
  obtain ⟨A0, n0, c0, rfl⟩ := hv
  rcases Go.Deep.open_slice Try.underlying22 hf with ⟨hc, _⟩ | ⟨a, len, cap, m, n, D, Pl, hcs, _, hlc, hcm, hm, hx, hi⟩
  · simp only [Value.cells, List.cons.injEq, and_true] at hc
    simp only [Value.slice.injEq] at hc
    obtain ⟨rfl, rfl, rfl⟩ := hc
    exact ⟨none, 0, [], rfl, Nat.le_refl _, by decide, fun h => absurd rfl h, fun t ht => by simp at ht⟩
  simp only [Value.cells, List.cons.injEq, and_true] at hcs
  simp only [Value.slice.injEq] at hcs
  obtain ⟨rfl, rfl, rfl⟩ := hcs
  have hlm : n0 ≤ m := by rw [hm]; split <;> omega
  obtain ⟨bs, hbs, hq⟩ := list_of (Q := fun i (x : Int) => W.cell? ⟨a.block, a.off + i, none⟩ = some (.int .u8 x) ∧ (i = 0 → a.spot = none) ∧ a.block < W.heap.size ∧ 0 ≤ x ∧ x ≤ 255) n0 (fun i hin => by
    obtain ⟨cs', hcl, ht'⟩ := hi i (by omega)
    rw [cells_byte] at hcl
    obtain ⟨hcsz, _, hat⟩ := World.cells?_some hcl
    obtain ⟨k, e0, f0, w0⟩ := DataW.trod_int Try.underlying5 ht'
    subst e0
    have q0 : W.cell? ((a.add (i * 1)).add 0) = some (.int .u8 k) := hat 0 (by simp)
    have hsp : i = 0 → a.spot = none := fun e => by subst e; simpa [Addr.add] using spot_none q0
    have hab : a.block < W.heap.size := by
      have := World.block_lt_of_cell? W _ q0
      rwa [add_block, add_block] at this
    rw [add_addk a 1 i 0 (by decide) hsp] at q0
    have a0 : 0 ≤ k ∧ k ≤ 255 := by simpa [Lit.wf, IntKind.min, IntKind.max, IntKind.signed, IntKind.bits] using w0
    exact ⟨k, by simpa using q0, hsp, hab, a0.1, a0.2⟩)
  refine ⟨some a, c0, bs, by rw [hbs], by omega, hcm, fun hne => ?_, fun t ht => ?_⟩
  · have h0 : 0 < bs.length := by
      cases bs with
      | nil => exact absurd rfl hne
      | cons _ _ => simp
    have h1 := hq 0 _ (List.getElem?_eq_getElem h0)
    obtain ⟨b, o, sp⟩ := a
    have hs := h1.2.1 rfl
    simp only at hs
    subst hs
    exact ⟨b, o, rfl, h1.2.2.1, fun i x hi => (hq i x hi).1⟩
  · obtain ⟨i, hi⟩ := List.getElem?_of_mem ht
    exact (hq i t hi).2.2.2
end Go.Proofs.Ytkieacidpiffpaa
