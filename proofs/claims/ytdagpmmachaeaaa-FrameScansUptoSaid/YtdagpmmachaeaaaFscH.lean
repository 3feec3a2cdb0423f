/- How long frames one behind the other are, as the statement weighs them. -/
import Derived.Test.YtdagpmmachaeaaaFscR
namespace Go.Proofs.Ytdagpmmachaeaaa
open Go Go.RowKit
set_option linter.unusedVariables false
set_option linter.unusedSimpArgs false

def HvRel (w : World) (ls : List (List Int)) (v i : Value) (W : World) : Prop := ∃ k : Nat, k ≤ ls.length ∧ i = .int .i64 k ∧ v = .int .i64 ((rowsB (ls.take k)).length : Nat) ∧ w = W
set_option maxHeartbeats 4000000 in
theorem fheavy_any {hi : Nat} (A : Option Addr) (ca n : Nat) (ls : List (List Int)) (w : World) (hR : Lists hi w A ls) (ht : (rowsB ls).length ≤ 1000000000) (hn : n = ls.length) (hn2 : n ≤ 1000000000) :
    Calls Try.prog 24 #[.slice A n ca] w fun e w' => e = .returned (.bool (decide ((3000 : Int) < ((rowsB ls).length : Nat)))) ∧ w = w' := by
  have HR := Lib.hid hR
  have HT := Lib.hid ht
  have HN := Lib.hid hn
  clear hR ht hn
  go_enter Try.func24, Try.ntmps24
  go_wp2
  go_loopw [3, 4] (HvRel w ls) (fun _ i _ => n - (intOf i).toNat)
  case atStart => exact ⟨0, Nat.zero_le _, rfl, rfl, rfl⟩
  case round =>
    obtain ⟨k, hk, rfl, rfl, rfl⟩ := hrel
    by_cases hlt : k < n
    · have hks : k < ls.length := by have := HN.out; omega
      have hne : ls ≠ [] := by intro e; simp [e] at hks
      obtain ⟨b1, o1, rfl, _, hc1⟩ := HR.out hne
      obtain ⟨C1, d1, e1, hb1⟩ := hc1 k ls[k] (List.getElem?_eq_getElem hks)
      have hnx := rowsB_next hks
      have hle := Nat.le_trans (rowsB_len_take ls (k + 1)) HT.out
      generalize (ls[k]).length = m at e1 hnx
      rw [hnx] at hle
      have HNX := Lib.hid hnx
      clear hnx hc1 hb1 hne
      generalize (rowsB (ls.take k)).length = r at hle HNX
      go_wp2
      go_roundw
      case rel => exact ⟨k + 1, by omega, by go_num, by rw [HNX.out]; go_num, rfl⟩
      case measure => simp [intOf]; omega
    · obtain rfl : k = n := by have := HN.out; omega
      have HE : (rowsB (ls.take k)).length = (rowsB ls).length := by rw [List.take_of_length_le (by have := HN.out; omega)]
      rw [HE]
      clear HE
      go_wp2
      go_ret
      exact ⟨by first | rfl | simp, rfl⟩
end Go.Proofs.Ytdagpmmachaeaaa
