/- A list of lists of bytes, opened; how much it is. -/
import Derived.Test.YtkieacidpiffpaaOpenD
import Derived.Test.YtkieacidpiffpaaDskQ
namespace Go.Proofs.Ytkieacidpiffpaa
open Go Go.ChangeShapes Go.WideShapes Go.ChangeAt Go.RowKit
set_option linter.unusedVariables false
set_option linter.unusedSimpArgs false

theorem bulk_pos {H : Type} (d : DataW H) : 1 ≤ Rows.uptoBulk d := by
  cases d with
  | lit l => cases l <;> simp [Rows.uptoBulk]
  | _ => simp [Rows.uptoBulk]
theorem bulk_len {H : Type} : ∀ (ds : List (DataW H)), ds.length ≤ Rows.uptoBulkAll ds
  | [] => by simp
  | d :: r => by have := bulk_len r; have := bulk_pos d; simp only [Rows.uptoBulkAll, List.length_cons]; omega
theorem bulk_rows {H : Type} : ∀ (ls : List (List Int)) (ds : List (DataW H)), ls.length = ds.length → (∀ (i : Nat) (x : List Int) (d : DataW H), ls[i]? = some x → ds[i]? = some d → x.length + 1 ≤ Rows.uptoBulk d) → wt ls ≤ 8 * Rows.uptoBulkAll ds
  | [], ds, _, _ => by simp [wt]
  | x :: r, [], h, _ => by simp at h
  | x :: r, d :: ds, h, hq => by
    have h1 := bulk_rows r ds (by simpa using h) (fun i x' d' hx hd => hq (i + 1) x' d' (by simpa using hx) (by simpa using hd))
    have h2 := hq 0 x d rfl rfl
    rw [wt_cons]
    simp only [Rows.uptoBulkAll]
    omega
theorem add_at (a : Addr) (i : Nat) (h : i = 0 → a.spot = none) : a.add i = ⟨a.block, a.off + i, none⟩ := by
  obtain ⟨b, o, sp⟩ := a
  by_cases e : i = 0
  · have := h e
    simp only at this
    subst e this
    simp [Addr.add]
  · simp [Addr.add, e]
set_option maxRecDepth 100000 in
theorem open_bytesU {H : Type} {enc : TypeId × Value → H} {W : World} {spare : Nat → Bool} {held : Bool} {v : Value} {d : DataW H} {p : List MemPlace} {fuel : Nat} (hf : DataW.trod enc Try.prog W 0 spare held fuel 22 [v] = some (d, p)) :
    ∃ (A : Option Addr) (cap : Nat) (bs : List Int), v = .slice A bs.length cap ∧ bs.length ≤ cap ∧ cap ≤ maxLen ∧ Bytes W.heap.size W A bs ∧ (∀ x ∈ bs, 0 ≤ x ∧ x ≤ 255) ∧ bs.length + 1 ≤ Rows.uptoBulk d := by
  rcases Go.Deep.open_slice1 Try.underlying22 cells_byte hf with ⟨hc, hx⟩ | ⟨a, n0, c0, m, n, V, D, Pl, hcs, _, hlc, hcm, hm, hx, hi⟩
  · simp only [List.cons.injEq, and_true] at hc
    subst hc
    exact ⟨none, 0, [], rfl, Nat.le_refl _, by decide, fun h => absurd rfl h, fun t ht => by simp at ht, bulk_pos d⟩
  simp only [List.cons.injEq, and_true] at hcs
  subst hcs
  simp only [Prod.mk.injEq] at hx
  have hlm : n0 ≤ m := by rw [hm]; split <;> omega
  obtain ⟨bs, hbs, hq⟩ := list_of (Q := fun i (x : Int) => W.cell? ⟨a.block, a.off + i, none⟩ = some (.int .u8 x) ∧ (i = 0 → a.spot = none) ∧ a.block < W.heap.size ∧ 0 ≤ x ∧ x ≤ 255) n0 (fun i hin => by
    obtain ⟨q0, ht'⟩ := hi i (by omega)
    obtain ⟨k, e0, f0, w0⟩ := DataW.trod_int Try.underlying5 ht'
    simp only [List.cons.injEq, and_true] at e0
    rw [e0] at q0
    have hsp : i = 0 → a.spot = none := fun e => by subst e; simpa [Addr.add] using spot_none q0
    have hab : a.block < W.heap.size := by
      have := World.block_lt_of_cell? W _ q0
      rwa [add_block] at this
    rw [add_at a i hsp] at q0
    have a0 : 0 ≤ k ∧ k ≤ 255 := by simpa [Lit.wf, IntKind.min, IntKind.max, IntKind.signed, IntKind.bits] using w0
    exact ⟨k, q0, hsp, hab, a0.1, a0.2⟩)
  refine ⟨some a, c0, bs, by rw [hbs], by omega, hcm, fun hne => ?_, fun t ht => ?_, ?_⟩
  · have h0 : 0 < bs.length := by
      cases bs with
      | nil => exact absurd rfl hne
      | cons _ _ => simp
    have h1 := hq 0 _ (List.getElem?_eq_getElem h0)
    obtain ⟨b, o, sp⟩ := a
    have hs := h1.2.1 rfl
    simp only at hs
    subst hs
    exact ⟨b, o, rfl, h1.2.2.1, fun i x hi => (hq i x hi).1⟩
  · obtain ⟨i, hi⟩ := List.getElem?_of_mem ht
    exact (hq i t hi).2.2.2
  · rw [hx.1]
    have h1 := bulk_len ((List.range n0).map D)
    rw [List.length_map, List.length_range] at h1
    simp only [Rows.uptoBulk]
    omega
set_option maxRecDepth 100000 in
theorem open_lists {H : Type} {enc : TypeId × Value → H} {W : World} {spare : Nat → Bool} {held : Bool} {v : Value} {d : DataW H} {p : List MemPlace} (h : DataW.Trod enc Try.prog W 0 spare held 45 v d p)
    (hv : ∃ A n c, v = .slice A n c) :
    ∃ (A : Option Addr) (cap : Nat) (ls : List (List Int)), v = .slice A ls.length cap ∧ ls.length ≤ cap ∧ cap ≤ maxLen ∧ Lists W.heap.size W A ls ∧ (∀ x ∈ ls, Short x) ∧ wt ls ≤ 8 * Rows.uptoBulk d := by
  obtain ⟨fuel, hf⟩ := h
  obtain ⟨A0, n0, c0, rfl⟩ := hv
  rcases Go.Deep.open_slice1 Try.underlying45 cells_bytes hf with ⟨hc, _⟩ | ⟨a, len, cap, m, n, V, D, Pl, hcs, _, hlc, hcm, hm, hx, hi⟩
  · simp only [Value.cells, List.cons.injEq, and_true] at hc
    simp only [Value.slice.injEq] at hc
    obtain ⟨rfl, rfl, rfl⟩ := hc
    exact ⟨none, 0, [], rfl, Nat.le_refl _, by decide, fun h => absurd rfl h, fun t ht => by simp at ht, by simp [wt]⟩
  simp only [Value.cells, List.cons.injEq, and_true] at hcs
  simp only [Value.slice.injEq] at hcs
  obtain ⟨rfl, rfl, rfl⟩ := hcs
  simp only [Prod.mk.injEq] at hx
  have hlm : n0 ≤ m := by rw [hm]; split <;> omega
  obtain ⟨ls, hls, hq⟩ := list_of (Q := fun i (x : List Int) => (∃ B c, W.cell? ⟨a.block, a.off + i, none⟩ = some (.slice B x.length c) ∧ Bytes W.heap.size W B x) ∧ (i = 0 → a.spot = none) ∧ a.block < W.heap.size ∧ Short x ∧ x.length + 1 ≤ Rows.uptoBulk (D i)) n0 (fun i hin => by
    obtain ⟨q0, ht'⟩ := hi i (by omega)
    obtain ⟨B, c, bs, e0, h1, h2, h3, h4, h5⟩ := open_bytesU ht'
    rw [e0] at q0
    have hsp : i = 0 → a.spot = none := fun e => by subst e; simpa [Addr.add] using spot_none q0
    have hab : a.block < W.heap.size := by
      have := World.block_lt_of_cell? W _ q0
      rwa [add_block] at this
    rw [add_at a i hsp] at q0
    exact ⟨bs, ⟨B, c, q0, h3⟩, hsp, hab, ⟨h4, by unfold maxLen at h2; omega⟩, h5⟩)
  refine ⟨some a, c0, ls, by rw [hls], by omega, hcm, fun hne => ?_, fun t ht => ?_, ?_⟩
  · have h0 : 0 < ls.length := by
      cases ls with
      | nil => exact absurd rfl hne
      | cons _ _ => simp
    have h1 := hq 0 _ (List.getElem?_eq_getElem h0)
    obtain ⟨b, o, sp⟩ := a
    have hs := h1.2.1 rfl
    simp only at hs
    subst hs
    exact ⟨b, o, rfl, h1.2.2.1, fun i x hi => (hq i x hi).1⟩
  · obtain ⟨i, hi⟩ := List.getElem?_of_mem ht
    exact (hq i t hi).2.2.2.1
  · rw [hx.1]
    have h1 := bulk_rows ls ((List.range n0).map D) (by simp [hls]) (fun i x d' hx hd => by
      have h2 := (hq i x hx).2.2.2.2
      have hi : i < n0 := by have := (List.getElem?_eq_some_iff.1 hx).1; omega
      rw [List.getElem?_map, List.getElem?_range hi] at hd
      simp only [Option.map_some, Option.some.injEq] at hd
      rw [← hd]; exact h2)
    simp only [Rows.uptoBulk]
    omega
end Go.Proofs.Ytkieacidpiffpaa
