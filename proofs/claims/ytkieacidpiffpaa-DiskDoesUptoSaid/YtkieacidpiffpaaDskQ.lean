/- Lists of bytes, one behind the other; a disk that has one file, or none yet. -/
import Derived.Test.YtkieacidpiffpaaLawDC
namespace Go.Proofs.Ytkieacidpiffpaa
open Go Go.RowKit Go.Shelf
set_option linter.unusedVariables false
set_option linter.unusedSimpArgs false

/-- Where lists of bytes stand. -/
def Lists (hi : Nat) (W : World) (A : Option Addr) (ls : List (List Int)) : Prop :=
  ls ≠ [] → ∃ b o, A = some ⟨b, o, none⟩ ∧ b < hi ∧ ∀ i l, ls[i]? = some l → ∃ B c, W.cell? ⟨b, o + i, none⟩ = some (.slice B l.length c) ∧ Bytes hi W B l
theorem Lists.keep {hi lo : Nat} {W W' : World} {A : Option Addr} {ls : List (List Int)} (h : Lists hi W A ls) (hb : Below lo W W') (hl : hi ≤ lo) : Lists hi W' A ls := fun hne => by
  obtain ⟨b, o, rfl, hbh, hc⟩ := h hne
  refine ⟨b, o, rfl, hbh, fun i l hi => ?_⟩
  obtain ⟨B, c, h1, h2⟩ := hc i l hi
  exact ⟨B, c, (hb.cell (p := ⟨b, o + i, none⟩) (Nat.lt_of_lt_of_le hbh hl)).trans h1, h2.keep hb hl⟩
def wt (ls : List (List Int)) : Nat := (ls.map fun x => x.length + 8).sum
theorem wt_cons (x : List Int) (r : List (List Int)) : wt (x :: r) = x.length + 8 + wt r := by simp [wt]
theorem wt_flat : ∀ ls : List (List Int), ls.flatten.length + 8 * ls.length = wt ls
  | [] => rfl
  | x :: r => by rw [wt_cons, ← wt_flat r]; simp; omega
theorem flat_next {ls : List (List Int)} {k : Nat} (h : k < ls.length) : (ls.take (k + 1)).flatten = (ls.take k).flatten ++ ls[k] := by
  rw [List.take_succ_eq_append_getElem h, List.flatten_append]; simp
theorem flat_le (ls : List (List Int)) {j k : Nat} (h : j ≤ k) : (ls.take j).flatten.length ≤ (ls.take k).flatten.length := by
  rw [show ls.take j = (ls.take k).take j by rw [List.take_take, Nat.min_eq_left h]]
  conv => rhs; rw [← List.take_append_drop j (ls.take k), List.flatten_append, List.length_append]
  omega
theorem flat_all (ls : List (List Int)) (k : Nat) : (ls.take k).flatten.length ≤ ls.flatten.length := by
  conv => rhs; rw [← List.take_append_drop k ls, List.flatten_append, List.length_append]
  omega
theorem flat_byte {ls : List (List Int)} (h : ∀ x ∈ ls, Byte x) (k : Nat) : Byte (ls.take k).flatten := fun y hy => by
  obtain ⟨x, hx, hyx⟩ := List.mem_flatten.1 hy
  exact h x (List.mem_of_mem_take hx) y hyx
abbrev stL (ex : Bool) (bs : List Int) (n : Nat) : Md := bif ex then mF 10000 bs n else mN 10000
theorem S_append {ex : Bool} {bs cs : List Int} {n : Nat} (h0 : ex = false → bs = [] ∧ n = 0) (h : bs.length + cs.length ≤ 10000) : (stL ex bs n).append sF cs = (stL true (bs ++ cs) n, 0) := by
  cases ex with
  | true => exact F_append h
  | false =>
    obtain ⟨rfl, rfl⟩ := h0 rfl
    exact F_first (by simpa using h)
theorem S_sync (bs : List Int) (n : Nat) : (stL true bs n).sync sF = (stL true bs bs.length, 0) := F_sync _ _ _
theorem S_crash (ex : Bool) (bs : List Int) (n : Nat) (z : Int) : (stL ex bs n).crash z = stL ex (bs.take (min (n + z.toNat) (max n bs.length))) (min (n + z.toNat) (max n bs.length)) := by
  cases ex with
  | true => rfl
  | false => rfl
theorem S_read {ex : Bool} {bs : List Int} {n : Nat} (h0 : ex = false → bs = []) : readB (stL ex bs n) sF = bs := by
  cases ex with
  | true => rfl
  | false => rw [h0 rfl]; rfl
theorem On.srcW {w W : World} {own : Nat → Prop} {B : Nat} {m : Md} (h : On w own B m W) {A : Option Addr} {bs : List Int} (hA : Bytes w.heap.size W A bs) : Src own W A bs := fun hne => by
  obtain ⟨b, o, rfl, hb, hc⟩ := hA hne
  exact ⟨b, o, rfl, fun h2 => by have := h.un.own b h2; omega, Nat.lt_of_lt_of_le hb h.un.below.size, hc⟩
/-- A row of the law's own, that is none of the disk's. -/
structure Rw (w : World) (own : Nat → Prop) (W : World) (v : Value) (bs : List Int) : Prop where
  row : OwnB w.heap.size W v bs
  off : ∀ g, v.ownBlock = some g → ¬ own g
theorem Rw.next {w W W' : World} {own own' : Nat → Prop} {v : Value} {bs : List Int} (h : Rw w own W v bs) (k : Nx own W W' own') : Rw w own' W' v bs :=
  ⟨h.row.of_eq fun g hg => k.1.block g (h.row.size g hg) (h.off g hg), fun g hg h2 => by
    rcases k.2 g h2 with h3 | h3
    · exact h.off g hg h3
    · have := h.row.size g hg; omega⟩
theorem Rw.then {w W W' : World} {own : Nat → Prop} {v : Value} {bs : List Int} (h : Rw w own W v bs) (k : Below W.heap.size W W') : Rw w own W' v bs := ⟨h.row.of_eq fun g hg => k.block g (h.row.size g hg), h.off⟩
theorem Rw.bytes {w W : World} {own : Nat → Prop} {A : Option Addr} {n c : Nat} {bs : List Int} (h : Rw w own W (.slice A n c) bs) : Bytes W.heap.size W A bs := by
  obtain ⟨B, d, e, _, hb⟩ := own_bytes h.row rfl
  cases e
  rcases hb with hb | ⟨g, rfl, hb⟩
  · rw [hb]; exact Bytes.nil _ _ _
  · exact hb.bytes.up hb.lt
theorem On.grown {w W W' : World} {own : Nat → Prop} {B : Nat} {m : Md} {v : Value} {bs : List Int} (h : On w own B m W) (r : Rw w own W v bs) (k : W.grownBy W' v.ownBlock) : On w own B m W' :=
  ⟨⟨h.un.below.grown k h.un.below.size fun g hg => (r.row.lt g hg).1, h.un.own⟩, h.l.keep fun i hi => k.block i (h.l.lt hi) fun e => r.off i e.symm hi⟩
theorem Rw.grown {w W W' : World} {own : Nat → Prop} {B n : Nat} {m : Md} {v v' : Value} {bs cs : List Int} (h : On w own B m W) (r : Rw w own W v bs) (ho : W'.ownsRow w.heap.size 5 1 v' n (cellsB bs ++ cellsB cs)) (hn : n = bs.length + cs.length) (hat : v'.ownBlock = v.ownBlock ∨ v'.ownBlock = some W.heap.size) : Rw w own W' v' (bs ++ cs) := by
  subst hn
  refine ⟨by unfold OwnB; rw [cellsB_app, List.length_append]; exact ho, fun g hg h2 => ?_⟩
  rcases hat with h3 | h3
  · exact r.off g (h3 ▸ hg) h2
  · rw [hg] at h3
    have := h.l.lt h2
    have : g = W.heap.size := Option.some.inj h3
    omega
end Go.Proofs.Ytkieacidpiffpaa
