/- SumSums, the Go function: it comes out true. -/
import Derived.Test.YtdagpmmachaeaaaSumK
namespace Go.Proofs.Ytdagpmmachaeaaa
open Go Go.RowKit
set_option linter.unusedVariables false
set_option linter.unusedSimpArgs false

theorem Bytes.al {hi : Nat} {W : World} {A : Option Addr} {bs : List Int} (h : Bytes hi W A bs) (hh : hi ≤ W.heap.size) (o : Obj) : Bytes hi (W.alloc o) A bs := h.keep ((Below.refl _ _).alloc (Nat.le_refl _) o) hh
theorem size_al {hi : Nat} {W : World} (h : hi ≤ W.heap.size) (o : Obj) : hi ≤ (W.alloc o).heap.size := by simp; omega
set_option maxHeartbeats 2000000 in
theorem ssums_true (A : Option Addr) (ca : Nat) (xs : List Int) (B : Option Addr) (cb : Nat) (bs : List Int) (w : World) (hA : Bytes w.heap.size w A xs) (hB : Bytes w.heap.size w B bs) (hs : Short xs) (ht : Short bs) :
    Calls Try.prog 4 #[.slice A xs.length ca, .slice B bs.length cb] w fun e w' => e = .returned (.bool true) ∧ Below w.heap.size w w' := by
  have HA := Lib.hid hA
  have HB := Lib.hid hB
  have h1 := hs.2
  have h2 := ht.2
  have HS := Lib.hid hs
  have HT := Lib.hid ht
  clear hA hB hs ht
  by_cases hs1 : xs.length ≤ 1500
  · by_cases hs2 : bs.length ≤ 1500
    · go_enter Try.func4, Try.ntmps4
      go_wp2_with (first
        | (go_at_call 13; refine (known_true _).mono ?_; rintro e W1 ⟨rfl, hb⟩; have HB1 := Lib.hid hb; have hz := hb.size; have HA2 := Lib.hid (HA.out.keep hb (Nat.le_refl _)); have HB2 := Lib.hid (HB.out.keep hb (Nat.le_refl _)); clear hb)
        | (go_at_call 14; ((with_reducible refine (sum_two _ HA2.out HB2.out hz HS.out HT.out rfl rfl rfl).mono ?_); rintro e w1 ⟨rfl, rfl⟩))
        | (go_at_call 15; ((with_reducible refine (rsum_two _ (HA2.out.al hz _) (HB2.out.al hz _) (size_al hz _) HS.out HT.out (by simp) rfl rfl).mono ?_); rintro e w1 ⟨rfl, rfl⟩))
        | (go_at_call 14; ((with_reducible refine (sum_one _ ((HB2.out.al hz _).al (size_al hz _) _) (size_al (size_al hz _) _) HT.out (by simp) rfl).mono ?_); rintro e w1 ⟨rfl, rfl⟩))
        | (go_at_call 15; ((with_reducible refine (rsum_one _ (((HB2.out.al hz _).al (size_al hz _) _).al (size_al (size_al hz _) _) _) (size_al (size_al (size_al hz _) _) _) HT.out (by simp) rfl).mono ?_); rintro e w1 ⟨rfl, rfl⟩)))
      go_ret
      exact ⟨rfl, (((HB1.out.alloc hz _).alloc (by simp; omega) _).alloc (by simp; omega) _).alloc (by simp; omega) _⟩
    · go_enter Try.func4, Try.ntmps4
      go_wp2_with (go_at_call 13; refine (known_true _).mono ?_; rintro e W1 ⟨rfl, hb⟩; have HB1 := Lib.hid hb; clear hb)
      go_ret
      exact ⟨rfl, HB1.out⟩
  · go_enter Try.func4, Try.ntmps4
    go_wp2_with (go_at_call 13; refine (known_true _).mono ?_; rintro e W1 ⟨rfl, hb⟩; have HB1 := Lib.hid hb; clear hb)
    go_ret
    exact ⟨rfl, HB1.out⟩
end Go.Proofs.Ytdagpmmachaeaaa
