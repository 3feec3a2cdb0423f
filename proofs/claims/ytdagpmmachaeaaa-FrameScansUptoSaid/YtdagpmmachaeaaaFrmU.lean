/- Frames: the document's Same, of lists that are alike. -/
import Derived.Test.YtdagpmmachaeaaaFrmT
namespace Go.Proofs.Ytdagpmmachaeaaa
open Go Go.RowKit
set_option linter.unusedVariables false
set_option linter.unusedSimpArgs false

theorem Held.lists {base : Nat} {W : World} {v : Value} {l : List (List Int)} (h : Held base W v l) : ∃ A c, v = .slice A l.length c ∧ l.length ≤ c ∧ Lists W.heap.size W A l := by
  obtain ⟨xs, ho, he⟩ := h
  rcases ho.2 with ⟨rfl, h0⟩ | ⟨g, cap, cur, rfl, hb, hw, h1, h2, h3, h4⟩
  · exact ⟨none, 0, by rw [h0], by omega, fun hne => absurd (List.length_eq_zero_iff.1 h0) hne⟩
  · refine ⟨_, cap, rfl, h1, fun _ => ⟨g, 0, rfl, (Array.getElem?_eq_some_iff.1 hw).1, fun i bs hi => ?_⟩⟩
    obtain ⟨B, d, e, hn⟩ := he i bs hi
    refine ⟨B, d, ?_, hn.bytes⟩
    rw [Nat.zero_add, show W.cell? ⟨g, i, none⟩ = cur[i]? from (show Whole W g 22 cur from hw).cell i]
    rw [← h4, List.getElem?_take] at e
    split at e
    · rw [Array.getElem?_toList] at e; exact e
    · cases e
theorem Lists.keep {hi lo : Nat} {W W' : World} {A : Option Addr} {ls : List (List Int)} (h : Lists hi W A ls) (hb : Below lo W W') (hl : hi ≤ lo) : Lists hi W' A ls := fun hne => by
  obtain ⟨b, o, rfl, hbh, hc⟩ := h hne
  refine ⟨b, o, rfl, hbh, fun i l hi => ?_⟩
  obtain ⟨B, c, e, hB⟩ := hc i l hi
  exact ⟨B, c, (hb.cell (p := ⟨b, o + i, none⟩) (by show b < lo; omega)).trans e, hB.keep hb hl⟩
theorem Lists.up {hi ho : Nat} {W : World} {A : Option Addr} {ls : List (List Int)} (h : Lists hi W A ls) (hl : hi ≤ ho) : Lists ho W A ls := fun hne => by
  obtain ⟨b, o, rfl, hbh, hc⟩ := h hne
  refine ⟨b, o, rfl, by omega, fun i l hi => ?_⟩
  obtain ⟨B, c, e, hB⟩ := hc i l hi
  exact ⟨B, c, e, hB.up hl⟩
def SameRel (w : World) (n : Nat) (i : Value) (W : World) : Prop := ∃ k : Nat, k ≤ n ∧ i = .int .i64 k ∧ ∃ q, W = w.drewN q
set_option maxRecDepth 100000 in
set_option maxHeartbeats 4000000 in
theorem same_any {hi : Nat} (A B : Option Addr) (ca cb n m : Nat) (ls : List (List Int)) (w : World) (hA : Lists hi w A ls) (hB : Lists hi w B ls) (hl : ls.length ≤ 9223372036854775807) (hn : n = ls.length) (hm : m = ls.length) :
    Calls Try.prog 23 #[.slice A n ca, .slice B m cb] w fun e w' => e = .returned (.bool true) ∧ Below w.heap.size w w' := by
  obtain rfl : n = m := by omega
  have HA := Lib.hid hA
  have HB := Lib.hid hB
  have HN := Lib.hid hn
  have hl' : n ≤ 9223372036854775807 := by omega
  clear hA hB hl hn hm
  go_enter Try.func23, Try.ntmps23
  go_wp2
  go_loopw [5] (SameRel w n) (fun i _ => n - (intOf i).toNat)
  case atStart => exact ⟨0, Nat.zero_le _, rfl, 0, rfl⟩
  case round =>
    obtain ⟨k, hk, rfl, q, rfl⟩ := hrel
    by_cases hlt : k < n
    · have hks : k < ls.length := by have := HN.out; omega
      have hne : ls ≠ [] := by intro e; simp [e] at hks
      obtain ⟨b1, o1, rfl, _, hc1⟩ := HA.out hne
      obtain ⟨b2, o2, rfl, _, hc2⟩ := HB.out hne
      obtain ⟨C1, d1, e1, hb1⟩ := hc1 k ls[k] (List.getElem?_eq_getElem hks)
      obtain ⟨C2, d2, e2, hb2⟩ := hc2 k ls[k] (List.getElem?_eq_getElem hks)
      have r1 : ∀ j, (convert 22 9 (.slice C1 (ls[k]).length d1)).run Try.prog (w.drewN j) = .ok (.string (strOfNums ls[k])) (w.drewN j) := fun j => conv_str (W := w.drewN j) hb1 d1 _ rfl
      have r2 : ∀ j, (convert 22 9 (.slice C2 (ls[k]).length d2)).run Try.prog (w.drewN j) = .ok (.string (strOfNums ls[k])) (w.drewN j) := fun j => conv_str (W := w.drewN j) hb2 d2 _ rfl
      generalize strOfNums ls[k] = s at r1 r2
      generalize (ls[k]).length = ln at e1 e2 r1 r2
      clear hc1 hc2 hb1 hb2 hne hks
      go_wp2
      go_quiet (fail)
      go_wp2
      go_roundw
      case rel => exact ⟨k + 1, by omega, by go_num, _, rfl⟩
      case measure => simp [intOf]; omega
    · obtain rfl : k = n := by omega
      go_wp2
      go_ret
      exact ⟨rfl, below_draws (Below.refl _ _) q⟩
end Go.Proofs.Ytdagpmmachaeaaa
