/- FrameScans, the Go function: it comes out true, where what is handed in is no greater than memory is. -/
import Derived.Test.YtdagpmmachaeaaaFscN
import Derived.Test.YtdagpmmachaeaaaLawFW
namespace Go.Proofs.Ytdagpmmachaeaaa
open Go Go.RowKit
set_option linter.unusedVariables false
set_option linter.unusedSimpArgs false

set_option maxHeartbeats 8000000 in
theorem fscans_true (A : Option Addr) (ca : Nat) (ls : List (List Int)) (z : Int) (w : World) (hR : Lists w.heap.size w A ls) (hs : ∀ x ∈ ls, Short x) (hz : -9223372036854775808 ≤ z ∧ z ≤ 9223372036854775807) (ht : (rowsB ls).length ≤ 1000000000) (hca : ls.length ≤ ca) :
    Calls Try.prog 10 #[.slice A ls.length ca, .int .i64 z] w fun e w' => e = .returned (.bool true) ∧ Below w.heap.size w w' := by
  have hn8 := len_of_rows ls
  have HR := Lib.hid hR
  have HS := Lib.hid hs
  clear hR hs
  obtain ⟨q, hq⟩ : ∃ q, q = (rowsB ls).length := ⟨_, rfl⟩
  have HQ := Lib.hid hq
  obtain ⟨N, hN⟩ : ∃ N, N = ls.length := ⟨_, rfl⟩
  have HN := Lib.hid hN
  rw [← hq] at ht hn8
  rw [← hN] at hca hn8 ⊢
  clear hq hN
  by_cases hh : q ≤ 3000
  · have hd0 : decide ((3000 : Int) < (q : Int)) = false := decide_eq_false (by omega)
    have HF := Lib.hid (frs_of (ls := ls) (by rw [← HQ.out]; exact hh))
    have HSH := Lib.hid (rows_short HS.out (by rw [← HQ.out]; exact hh))
    obtain ⟨m, hm, hml⟩ := max_nat z hz
    have hmod : (m : Int) % ((q : Int) + 1) = ((m % (q + 1) : Nat) : Int) := rfl
    have hat : m % (q + 1) ≤ q := by have := Nat.mod_lt m (show 0 < q + 1 by omega); omega
    generalize m % (q + 1) = k at hmod hat
    obtain ⟨j, hj, hJL, hJE, hjk⟩ := scan_cut HF.out (k := k) (by rw [← HQ.out]; exact hat)
    have HJL := Lib.hid hJL
    obtain ⟨r, hr⟩ : ∃ r, r = (rowsB (ls.take j)).length := ⟨_, rfl⟩
    rw [← hr] at hJE hjk
    have HRR := Lib.hid hr
    have HJE := Lib.hid hJE
    have HSC := Lib.hid (scan_rows HF.out)
    rw [← HN.out] at hj
    have HJN : Hid ((ls.take j).length = j) := Lib.hid (by rw [List.length_take, ← HN.out]; omega)
    have HTK : Hid ((((rowsB ls).take k).drop 0) = (rowsB ls).take k) := Lib.hid (List.drop_zero ..)
    have HKL : Hid (k = ((rowsB ls).take k).length) := Lib.hid (by rw [List.length_take, ← HQ.out]; omega)
    have HJS : Hid (∀ x ∈ ls.take j, Short x) := Lib.hid (fun x hx => HS.out x (List.mem_of_mem_take hx))
    have HJF : Hid (Frs (ls.take j)) := Lib.hid (fun x hx => HF.out x (List.mem_of_mem_take hx))
    have hc2 := run_hl A N ca j (by omega)
    have hd1 : decide ((j : Int) ≤ (N : Int)) = true := decide_eq_true (by omega)
    have hd2 : decide ((r : Int) ≤ (k : Int)) = true := decide_eq_true (by omega)
    clear hJL hr hJE
    go_enter Try.func10, Try.ntmps10
    go_wp2_with (first
      | (go_at_call 24; ((with_reducible refine (fheavy_any A ca N ls w HR.out (by rw [← HQ.out]; exact ht) HN.out (by omega)).mono ?_); rintro e w0 ⟨rfl, rfl⟩; rw [← HQ.out]))
      | (go_at_call 16; refine (fknown_true _).mono ?_; rintro e W1 ⟨rfl, hb⟩; have HB1 := Lib.hid hb; have hz1 := hb.size; have HR1 := Lib.hid (HR.out.keep hb (Nat.le_refl _)); clear hb)
      | (go_at_call 25; ((with_reducible refine (rows_any A ca N ls W1 HR1.out hz1 HS.out HF.out (by rw [← HQ.out]; omega) HN.out (by omega)).mono ?_); rintro e w2 ⟨v, rfl, ho, hb⟩; obtain ⟨B, d, rfl, hd, hB⟩ := ho.slice; rw [← HQ.out] at hd ⊢; have HBB := Lib.hid hB; have HB2 := Lib.hid (HB1.out.trans (hb.mono hz1)); have hz2 := HB2.out.size; have hc1 := run_h B q d k (by omega); clear ho hb hB))
      | (go_at_call 21; ((with_reducible refine (scan_any B d q (rowsB ls) w2 HBB.out HSH.out (by rw [← HQ.out]; omega) (by rw [← HQ.out]; omega) HQ.out).mono ?_); rintro e w3 ⟨v3, rfl, hh3, hb⟩; rw [HSC.out.1] at hh3; rw [HSC.out.2, ← HQ.out]; obtain ⟨L, c3, rfl, _, hL⟩ := hh3.lists; rw [← HN.out]; have HL := Lib.hid hL; have HBB3 := Lib.hid (HBB.out.keep hb (Nat.le_refl _)); have hz23 := hb.size; have HB3 := Lib.hid (HB2.out.trans (hb.mono hz2)); have hz3 := HB3.out.size; clear hh3 hL hb))
      | (go_at_call 21; ((with_reducible refine (scan_any (cutAt B 0 d) d k ((rowsB ls).take k) w3 ((HTK.out ▸ cutAt_bytes HBB3.out (Nat.zero_le k) (by rw [← HQ.out]; exact hat) (by rw [← HQ.out]; exact hd)).up hz23) (short_take HSH.out k) (by rw [← HKL.out]; omega) (by rw [← HKL.out]; omega) HKL.out).mono ?_); rintro e w4 ⟨v4, rfl, hh4, hb⟩; rw [HJL.out] at hh4; rw [HJE.out]; obtain ⟨L4, c4, rfl, _, hL⟩ := hh4.lists; rw [HJN.out]; have HL4 := Lib.hid hL; have HLK := Lib.hid ((HL.out.keep hb (Nat.le_refl _)).up hb.size); have HB4 := Lib.hid (HB3.out.trans (hb.mono hz3)); have hz4 := HB4.out.size; have HR4 := Lib.hid ((HR.out.keep HB4.out (Nat.le_refl _)).up hz4); clear hh4 hL hb))
      | (go_at_call 23; ((with_reducible refine (same_any L A c3 ca N N ls w4 HLK.out HR4.out (by rw [← HN.out]; omega) HN.out HN.out).mono ?_); rintro e w5 ⟨rfl, hb⟩; have HB5 := Lib.hid (HB4.out.trans (hb.mono hz4)); have hz5 := HB5.out.size; have HL5 := Lib.hid (HL4.out.keep hb (Nat.le_refl _)); have HR5 := Lib.hid ((HR4.out.keep hb (Nat.le_refl _)).front ca j); clear hb))
      | (go_at_call 23; ((with_reducible refine (same_any L4 (cutAt A 0 ca) c4 ca j j (ls.take j) w5 HL5.out HR5.out (by rw [HJN.out]; omega) HJN.out.symm HJN.out.symm).mono ?_); rintro e w6 ⟨rfl, hb⟩; have HB6 := Lib.hid (HB5.out.trans (hb.mono hz5)); have hz6 := HB6.out.size; have HR6 := Lib.hid ((HR.out.keep HB6.out (Nat.le_refl _)).front ca j); clear hb))
      | (go_at_call 25; ((with_reducible refine (rows_any (cutAt A 0 ca) ca j (ls.take j) w6 HR6.out hz6 HJS.out HJF.out (by rw [← HRR.out]; omega) HJN.out.symm (by omega)).mono ?_); rintro e w7 ⟨v7, rfl, ho, hb⟩; obtain ⟨B7, d7, rfl, _, _⟩ := ho.slice; rw [← HRR.out]; have HB7 := Lib.hid (HB6.out.trans (hb.mono hz6)); clear ho hb)))
    go_ret
    exact ⟨rfl, HB7.out⟩
  · have hd0 : decide ((3000 : Int) < (q : Int)) = true := decide_eq_true (by omega)
    go_enter Try.func10, Try.ntmps10
    go_wp2_with (first
      | (go_at_call 24; ((with_reducible refine (fheavy_any A ca N ls w HR.out (by rw [← HQ.out]; exact ht) HN.out (by omega)).mono ?_); rintro e w0 ⟨rfl, rfl⟩; rw [← HQ.out]))
      | (go_at_call 16; refine (fknown_true _).mono ?_; rintro e W1 ⟨rfl, hb⟩; have HB1 := Lib.hid hb; clear hb))
    go_ret
    exact ⟨rfl, HB1.out⟩
end Go.Proofs.Ytdagpmmachaeaaa
