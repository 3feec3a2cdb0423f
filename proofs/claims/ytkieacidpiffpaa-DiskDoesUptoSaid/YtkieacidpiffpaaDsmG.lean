/- Names told whole; texts; a halted disk's calls. -/
import Derived.Test.YtkieacidpiffpaaDsmF
import Derived.Test.YtkieacidpiffpaaLawDC
namespace Go.Proofs.Ytkieacidpiffpaa
open Go Go.RowKit Go.Shelf
set_option linter.unusedVariables false
set_option linter.unusedSimpArgs false

def StrRow (W : World) (g : Nat) (ls : List (List UInt8)) : Prop := g < W.heap.size ∧ ∀ i s, ls[i]? = some s → W.cell? ⟨g, i, none⟩ = some (encStr s)
theorem StrRow.of_eq {W W' : World} {g : Nat} {ls : List (List UInt8)} (h : StrRow W g ls) (hs : W.heap.size ≤ W'.heap.size) (e : W'.heap[g]? = W.heap[g]?) : StrRow W' g ls :=
  ⟨Nat.lt_of_lt_of_le h.1 hs, fun i s hi => (World.cell?_of_block (a := ⟨g, i, none⟩) e).trans (h.2 i s hi)⟩
theorem StrRow.below {W W' : World} {g : Nat} {ls : List (List UInt8)} (h : StrRow W g ls) (hb : Below W.heap.size W W') : StrRow W' g ls := h.of_eq hb.size (hb.block g h.1)
def nmS (fs : List Vw) : List (List UInt8) := (fs.map fun f => nmL f.name).mergeSort fun x y => decide (x ≤ y)
theorem nmS_length (fs : List Vw) : (nmS fs).length = fs.length := by unfold nmS; rw [List.length_mergeSort, List.length_map]
theorem m_namesS {own : Nat → Prop} {w : World} {B : Nat} {m : Md} (h : Lk own w B m) {n : Nat} (hn : m.fs.length = n) : Calls Try.prog 22 #[.pointer (some ⟨B, 0, none⟩)] w fun e w' =>
    ∃ g c, e = .returned (.slice (some ⟨g, 0, none⟩) n c) ∧ StrRow w' g (nmS m.fs) ∧ w.heap.size ≤ g ∧ Below w.heap.size w w' := by
  obtain ⟨d, h1, rfl, rfl, rfl⟩ := h
  refine (names_any h1).mono fun e w' hq => ?_
  obtain ⟨g, c, he, ho, hb⟩ := hq
  have hl : d.fs.length = n := by rw [← hn]; exact (List.length_map ..).symm
  have hx : (d.fs.map fun f => nmL f.vw.name).mergeSort (fun x y => decide (x ≤ y)) = nmS d.md.fs := by
    unfold nmS
    congr 1
    show _ = (vws d.fs).map _
    unfold vws
    rw [List.map_map]; rfl
  rw [hx, hl] at ho
  subst hl
  have hlt := ho.lt g rfl
  refine ⟨g, c, he, ⟨hlt.2, fun i s hi => ?_⟩, hlt.1, hb⟩
  have h2 := ho.cellAt i (by
    have := (List.getElem?_eq_some_iff.1 hi).1
    rw [nmS_length] at this
    have h3 : d.md.fs.length = d.fs.length := hn
    omega)
  rw [h2, List.getElem?_map, hi]; rfl
set_option maxHeartbeats 2000000 in
theorem texts_same {w : World} {g1 g2 n c1 c2 : Nat} {ls : List (List UInt8)} (h1 : StrRow w g1 ls) (h2 : StrRow w g2 ls) (hn : n = ls.length) (hm : n ≤ 1000000) :
    Calls Try.prog 25 #[.slice (some ⟨g1, 0, none⟩) n c1, .slice (some ⟨g2, 0, none⟩) n c2] w fun e w' => e = .returned (.bool true) ∧ Below w.heap.size w w' := by
  have H1 := Lib.hid (And.intro h1 h2)
  have HN := Lib.hid hn
  clear h1 h2 hn
  go_enter Try.func25, Try.ntmps25
  go_wp2
  go_loopw [5] (fun i W => ∃ k : Nat, k ≤ n ∧ i = .int .i64 k ∧ Below w.heap.size w W) (fun i _ => n - (intOf i).toNat)
  case atStart => exact ⟨0, Nat.zero_le _, rfl, Below.refl _ _⟩
  case round =>
    obtain ⟨k, hk, rfl, hb⟩ := hrel
    have HB := Lib.hid hb
    by_cases hlt : k < n
    · have hks : k < ls.length := by have := HN.out; omega
      have x1 := (H1.out.1.below hb).2 k ls[k] (List.getElem?_eq_getElem hks)
      have x2 := (H1.out.2.below hb).2 k ls[k] (List.getElem?_eq_getElem hks)
      rw [encStr] at x1 x2
      generalize (⟨ls[k].toArray⟩ : ByteArray) = s at x1 x2
      clear hb hks
      go_wp2_with fail
      go_quiet (fail)
      go_wp2
      go_roundw
      case rel => exact ⟨k + 1, by omega, by go_num, below_drewN HB.out _⟩
      case measure => simp [intOf]; omega
    · obtain rfl : k = n := by omega
      clear hb
      go_wp2
      go_ret
      exact ⟨rfl, HB.out⟩
theorem m_halted {own : Nat → Prop} {w : World} {B : Nat} {m : Md} (h : Lk own w B m) : Calls Try.prog 24 #[.pointer (some ⟨B, 0, none⟩)] w fun e w' => e = .returned (.bool (decide (m.left = 0))) ∧ w = w' := by
  obtain ⟨d, h1, rfl, rfl, rfl⟩ := h
  exact halted_any h1
theorem halted_says {m : Md} (h : m.left = 0) (s : ByteArray) (bs : List Int) (n : Int) : m.append s bs = (m, 130) ∧ m.sync s = (m, 130) ∧ m.cut s n = (m, 130) ∧ m.drop s = (m, 130) := by
  unfold Md.append Md.sync Md.cut Md.drop Md.call
  simp only [if_pos h, and_self]
theorem tilde_ok {m : Md} (h1 : m.full = false) (h2 : m.left = -1) (hu : sizes m.fs ≤ m.room) (h64 : m.fs.length < 64) : (m.append ⟨#[126]⟩ []).2 = 0 := by
  rw [append_plain ⟨h1, h2⟩]
  unfold Md.app
  rw [if_neg (by rw [h1]; simp; omega)]
  split
  · rfl
  · rw [if_neg (by
      intro h
      rcases h with h | h | h
      · omega
      · exact absurd h (by decide)
      · exact absurd h (by decide))]
end Go.Proofs.Ytkieacidpiffpaa
