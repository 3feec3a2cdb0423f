/- Calls on a disk, as a law is handed them; how much they are. -/
import Derived.Test.YtkieacidpiffpaaDskQ
namespace Go.Proofs.Ytkieacidpiffpaa
open Go Go.RowKit Go.Shelf
set_option linter.unusedVariables false
set_option linter.unusedSimpArgs false

structure OpG where
  kind : Int
  name : ByteArray
  bs : List Int
  n : Int
structure OpOk (hi : Nat) (W : World) (b o : Nat) (x : OpG) : Prop where
  c0 : W.cell? ⟨b, o + 0, none⟩ = some (.int .u8 x.kind)
  c1 : W.cell? ⟨b, o + 1, none⟩ = some (.string x.name)
  c2 : ∃ B c, W.cell? ⟨b, o + 2, none⟩ = some (.slice B x.bs.length c) ∧ Bytes hi W B x.bs
  c3 : W.cell? ⟨b, o + 3, none⟩ = some (.int .i64 x.n)
  kind : 0 ≤ x.kind ∧ x.kind ≤ 255
  byte : Byte x.bs
  n : -9223372036854775808 ≤ x.n ∧ x.n ≤ 9223372036854775807
  name : x.name.size ≤ maxLen
theorem OpOk.keep {hi lo : Nat} {W W' : World} {b o : Nat} {x : OpG} (h : OpOk hi W b o x) (hb : Below lo W W') (hl : hi ≤ lo) (hbl : b < lo) : OpOk hi W' b o x := by
  obtain ⟨B, c, h1, h2⟩ := h.c2
  exact ⟨(hb.cell (p := ⟨b, o + 0, none⟩) hbl).trans h.c0, (hb.cell (p := ⟨b, o + 1, none⟩) hbl).trans h.c1, ⟨B, c, (hb.cell (p := ⟨b, o + 2, none⟩) hbl).trans h1, h2.keep hb hl⟩, (hb.cell (p := ⟨b, o + 3, none⟩) hbl).trans h.c3, h.kind, h.byte, h.n, h.name⟩
def Opers (hi : Nat) (W : World) (A : Option Addr) (xs : List OpG) : Prop :=
  xs ≠ [] → ∃ b o, A = some ⟨b, o, none⟩ ∧ b < hi ∧ ∀ i x, xs[i]? = some x → OpOk hi W b (o + i * 4) x
theorem Opers.keep {hi lo : Nat} {W W' : World} {A : Option Addr} {xs : List OpG} (h : Opers hi W A xs) (hb : Below lo W W') (hl : hi ≤ lo) : Opers hi W' A xs := fun hne => by
  obtain ⟨b, o, rfl, hbh, hc⟩ := h hne
  exact ⟨b, o, rfl, hbh, fun i x hi => (hc i x hi).keep hb hl (Nat.lt_of_lt_of_le hbh hl)⟩
def wo (xs : List OpG) : Nat := (xs.map fun x => x.name.size + x.bs.length + 1).sum
def wh (xs : List OpG) : Nat := (xs.map fun x => x.bs.length + x.name.size).sum
theorem wo_cons (x : OpG) (r : List OpG) : wo (x :: r) = x.name.size + x.bs.length + 1 + wo r := by simp [wo]
theorem wo_wh : ∀ xs : List OpG, wh xs + xs.length = wo xs
  | [] => rfl
  | x :: r => by rw [wo_cons, ← wo_wh r]; simp [wh]; omega
theorem wh_next {xs : List OpG} {k : Nat} (h : k < xs.length) : wh (xs.take (k + 1)) = wh (xs.take k) + ((xs[k]).bs.length + (xs[k]).name.size) := by
  unfold wh
  rw [List.take_succ_eq_append_getElem h, List.map_append, List.sum_append]; simp
theorem wh_all (xs : List OpG) (k : Nat) : wh (xs.take k) ≤ wh xs := by
  unfold wh
  conv => rhs; rw [← List.take_append_drop k xs, List.map_append, List.sum_append]
  omega
def WhR (w : World) (xs : List OpG) (v i : Value) (W : World) : Prop := ∃ k : Nat, k ≤ xs.length ∧ i = .int .i64 k ∧ v = .int .i64 (wh (xs.take k) : Nat) ∧ ∃ j, W = w.drewN j
end Go.Proofs.Ytkieacidpiffpaa
