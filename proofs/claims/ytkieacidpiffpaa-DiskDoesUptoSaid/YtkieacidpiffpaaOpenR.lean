/- A list of calls on a disk, opened; how much it is. -/
import Derived.Test.YtkieacidpiffpaaOpenE
import Derived.Test.YtkieacidpiffpaaDskR
import Derived.Lib.SmallJoins
namespace Go.Proofs.Ytkieacidpiffpaa
open Go Go.ChangeShapes Go.WideShapes Go.ChangeAt Go.RowKit
set_option linter.unusedVariables false
set_option linter.unusedSimpArgs false

theorem cells_op : Try.prog.cellsOf 42 = 4 := by kernel_rfl
theorem cells_strO : Try.prog.cellsOf 9 = 1 := by kernel_rfl
theorem cells_intO : Try.prog.cellsOf 3 = 1 := by kernel_rfl
theorem bulk_ops {H : Type} : ∀ (xs : List OpG) (ds : List (DataW H)), xs.length = ds.length → (∀ (i : Nat) (x : OpG) (d : DataW H), xs[i]? = some x → ds[i]? = some d → x.name.size + x.bs.length + 1 ≤ Rows.uptoBulk d) → wo xs ≤ Rows.uptoBulkAll ds
  | [], ds, _, _ => by simp [wo]
  | x :: r, [], h, _ => by simp at h
  | x :: r, d :: ds, h, hq => by
    have h1 := bulk_ops r ds (by simpa using h) (fun i x' d' hx hd => hq (i + 1) x' d' (by simpa using hx) (by simpa using hd))
    have h2 := hq 0 x d rfl rfl
    rw [wo_cons]
    simp only [Rows.uptoBulkAll]
    omega
set_option maxRecDepth 100000 in
theorem open_ops {H : Type} {enc : TypeId × Value → H} {W : World} {spare : Nat → Bool} {held : Bool} {v : Value} {d : DataW H} {p : List MemPlace} (h : DataW.Trod enc Try.prog W 0 spare held 36 v d p)
    (hv : ∃ A n c, v = .slice A n c) :
    ∃ (A : Option Addr) (cap : Nat) (xs : List OpG), v = .slice A xs.length cap ∧ xs.length ≤ cap ∧ cap ≤ maxLen ∧ Opers W.heap.size W A xs ∧ wo xs ≤ Rows.uptoBulk d := by
  obtain ⟨fuel, hf⟩ := h
  obtain ⟨A0, n0, c0, rfl⟩ := hv
  rcases Go.Deep.open_slice Try.underlying36 hf with ⟨hc, _⟩ | ⟨a, len, cap, m, n, D, Pl, hcs, _, hlc, hcm, hm, hx, hi⟩
  · simp only [Value.cells, List.cons.injEq, and_true] at hc
    simp only [Value.slice.injEq] at hc
    obtain ⟨rfl, rfl, rfl⟩ := hc
    exact ⟨none, 0, [], rfl, Nat.le_refl _, by decide, fun h => absurd rfl h, by simp [wo]⟩
  simp only [Value.cells, List.cons.injEq, and_true] at hcs
  simp only [Value.slice.injEq] at hcs
  obtain ⟨rfl, rfl, rfl⟩ := hcs
  simp only [Prod.mk.injEq] at hx
  have hlm : n0 ≤ m := by rw [hm]; split <;> omega
  obtain ⟨xs, hxs, hq⟩ := list_of (Q := fun i (x : OpG) => OpOk W.heap.size W a.block (a.off + i * 4) x ∧ (i = 0 → a.spot = none) ∧ a.block < W.heap.size ∧ x.name.size + x.bs.length + 1 ≤ Rows.uptoBulk (D i)) n0 (fun i hin => by
    obtain ⟨cs', hcl, ht'⟩ := hi i (by omega)
    rw [cells_op] at hcl
    obtain ⟨_, _, hat⟩ := World.cells?_some hcl
    obtain ⟨y0, y1, y2, y3, n', hxx, hlen, g0, g1, g2, g3⟩ := Go.Joins.trod_struct4 Try.underlying42 ht'
    rw [cells_op] at hlen
    match cs', hlen with
    | [c0, c1, c2, c3], _ =>
      simp only [cells_byte, cells_strO, cells_bytes, cells_intO, List.drop_zero, List.take_succ_cons, List.take_zero, List.drop_succ_cons] at g0 g1 g2 g3
      obtain ⟨k0, e0, f0, w0⟩ := DataW.trod_int Try.underlying5 g0
      obtain ⟨s1, e1, f1, w1⟩ := DataW.trod_string Try.underlying9 g1
      obtain ⟨B, c, bs, e2, hb1, hb2, hB, hby, hbu⟩ := open_bytesU (d := y2.1) (p := y2.2) g2
      obtain ⟨z3, e3, f3, w3⟩ := DataW.trod_int Try.underlying3 g3
      simp only [List.cons.injEq, and_true] at e0 e1 e3
      subst e0 e1 e2 e3
      have q0 := hat 0 (by simp)
      have q1 := hat 1 (by simp)
      have q2 := hat 2 (by simp)
      have q3 := hat 3 (by simp)
      have hsp : i = 0 → a.spot = none := fun e => by subst e; simpa [Addr.add] using spot_none q0
      have hab : a.block < W.heap.size := by
        have := World.block_lt_of_cell? W _ q0
        rwa [add_block, add_block] at this
      have hd : ∀ j, (a.add (i * 4)).add j = ⟨a.block, a.off + i * 4 + j, none⟩ := fun j => add_addk a 4 i j (by decide) hsp
      rw [hd] at q0 q1 q2 q3
      have a0 : 0 ≤ k0 ∧ k0 ≤ 255 := by simpa [Lit.wf, IntKind.min, IntKind.max, IntKind.signed, IntKind.bits] using w0
      have a3 : -9223372036854775808 ≤ z3 ∧ z3 ≤ 9223372036854775807 := by simpa [Lit.wf, IntKind.min, IntKind.max, IntKind.signed, IntKind.bits] using w3
      refine ⟨⟨k0, s1, bs, z3⟩, ⟨q0, q1, ⟨B, c, q2, hB⟩, q3, a0, hby, a3, w1⟩, hsp, hab, ?_⟩
      simp only [Prod.mk.injEq] at hxx
      rw [hxx.1]
      simp only [Rows.uptoBulk, Rows.uptoBulkAll]
      have hs : Rows.uptoBulk y1.1 = s1.size + 1 := by
        rw [f1]
        show s1.data.toList.length + 1 = s1.data.size + 1
        rw [Array.length_toList]
      rw [hs]
      show s1.size + bs.length + 1 ≤ _
      omega)
  refine ⟨some a, c0, xs, by rw [hxs], by omega, hcm, fun hne => ?_, ?_⟩
  · have h0 : 0 < xs.length := by
      cases xs with
      | nil => exact absurd rfl hne
      | cons _ _ => simp
    have h1 := hq 0 _ (List.getElem?_eq_getElem h0)
    obtain ⟨b, o, sp⟩ := a
    have hs := h1.2.1 rfl
    simp only at hs
    subst hs
    exact ⟨b, o, rfl, h1.2.2.1, fun i x hi => (hq i x hi).1⟩
  · rw [hx.1]
    have h1 := bulk_ops xs ((List.range n0).map D) (by simp [hxs]) (fun i x d' hx hd => by
      have h2 := (hq i x hx).2.2.2
      have hi : i < n0 := by have := (List.getElem?_eq_some_iff.1 hx).1; omega
      rw [List.getElem?_map, List.getElem?_range hi] at hd
      simp only [Option.map_some, Option.some.injEq] at hd
      rw [← hd]; exact h2)
    simp only [Rows.uptoBulk]
    omega
end Go.Proofs.Ytkieacidpiffpaa
