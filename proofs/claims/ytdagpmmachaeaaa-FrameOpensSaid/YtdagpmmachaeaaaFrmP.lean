/- Frames: the program's Open. -/
import Derived.Test.YtdagpmmachaeaaaFrmO
import Derived.Test.YtdagpmmachaeaaaLawSP
import Derived.Deep.DeepCutAuto
namespace Go.Proofs.Ytdagpmmachaeaaa
open Go Go.RowKit
set_option linter.unusedVariables false
set_option linter.unusedSimpArgs false

theorem heldF_def (bs : List Int) : heldF bs = (bs.take (8 + numN bs)).drop 8 := rfl
theorem lists_frame {hi b ca : Nat} {W : World} (A : Option Addr) (bs : List Int) (h0 : W.cell? ⟨b, 0, none⟩ = some (.slice (cutAt A 0 ca) 4 ca)) (h1 : W.cell? ⟨b, 1, none⟩ = some (.slice (cutAt A 8 ca) (numN bs) (ca - 8)))
    (hB : Bytes hi W A bs) (hb : b < W.heap.size) (hh : hi ≤ W.heap.size) (h8 : numN bs + 8 ≤ bs.length) (hc : bs.length ≤ ca) : Lists W.heap.size W (some ⟨b, 0, none⟩) [bs.take 4, heldF bs] := by
  have g0 : Bytes hi W (cutAt A 0 ca) (bs.take 4) := by have := cutAt_bytes hB (Nat.zero_le 4) (by omega) hc; rwa [List.drop_zero] at this
  have g1 : Bytes hi W (cutAt A 8 ca) (heldF bs) := cutAt_bytes hB (by omega) (by omega) hc
  refine fun _ => ⟨b, 0, rfl, hb, fun i l hl => ?_⟩
  match i, hl with
  | 0, hl => cases hl; exact ⟨_, _, by rw [h0, List.length_take, Nat.min_eq_left (by omega)], g0.up hh⟩
  | 1, hl => cases hl; exact ⟨_, _, by rw [h1]; congr 3; simp [heldF]; omega, g1.up hh⟩
  | i + 2, hl => simp at hl
theorem small_frame {bs : List Int} (h : Short bs) : Small [bs.take 4, heldF bs] := small_two (short_take h _) (short_drop (short_take h _) _)
theorem sum_frame_at {hi b ca : Nat} {W : World} (A : Option Addr) (bs : List Int) (h0 : W.cell? ⟨b, 0, none⟩ = some (.slice (cutAt A 0 ca) 4 ca)) (h1 : W.cell? ⟨b, 1, none⟩ = some (.slice (cutAt A 8 ca) (numN bs) (ca - 8)))
    (hB : Bytes hi W A bs) (hb : b < W.heap.size) (hh : hi ≤ W.heap.size) (h8 : numN bs + 8 ≤ bs.length) (hc : bs.length ≤ ca) (hs : Short bs) :
    Calls Try.prog 14 #[.slice (some ⟨b, 0, none⟩) 2 2] W fun e w' => e = .returned (.int .u32 (sumN [bs.take 4, heldF bs])) ∧ W = w' :=
  sum_any _ _ 2 [bs.take 4, heldF bs] _ (lists_frame A bs h0 h1 hB hb hh h8 hc) (small_frame hs)
theorem number_sum_at {hi ca : Nat} {W : World} (A : Option Addr) (bs : List Int) (hB : Bytes hi W A bs) (h8 : 8 ≤ bs.length) (hc : bs.length ≤ ca) (hs : Short bs) :
    Calls Try.prog 29 #[.slice (cutAt A 4 ca) (bs.length - 4) (ca - 4)] W fun e w' => e = .returned (.int .u32 (numN (bs.drop 4))) ∧ ∃ k, w' = W.drewN k := by
  have := cutAt_bytes hB (l := 4) (h := bs.length) (by omega) (Nat.le_refl _) hc
  rw [List.take_length] at this
  exact number_any _ _ _ W this (short_drop hs _) (by simp; omega) (by simp)
theorem below_draws {B : Nat} {a w : World} (h : Below B a w) (n : Nat) : Below B a (w.drewN n) := ⟨h.os, h.tape, h.output, h.size, h.block⟩
def E16 (z : Int) : Value := .int .u16 z
set_option maxHeartbeats 8000000 in
theorem open_any (A : Option Addr) (ca n0 : Nat) (bs : List Int) (w : World) (hA : Bytes w.heap.size w A bs) (hs : Short bs) (hca : bs.length ≤ ca) (hl : bs.length ≤ 100000) (hn0 : n0 = bs.length) :
    Calls Try.prog 19 #[.slice A n0 ca] w (OpenOut bs E16 w) := by
  subst hn0
  have h2 := hs.2
  have HA := Lib.hid hA
  have HS := Lib.hid hs
  have hlt := numN_lt hs.1
  clear hA hs
  by_cases h8 : 8 ≤ bs.length
  · by_cases hn : numN bs ≤ 60000 ∧ numN bs + 8 ≤ bs.length
    · obtain ⟨hn1, hn2⟩ := hn
      have hc1 : ∀ W, (Instr.slice 22 (.slice A bs.length ca) none (some (.int .i64 4)) none).run Try.prog W = .ok (.slice (cutAt A 0 ca) 4 ca) W := run_h A bs.length ca 4 (by omega)
      have hc2 : ∀ W, (Instr.slice 22 (.slice A bs.length ca) (some (.int .i64 8)) (some (.int .i64 (8 + (numN bs : Int)))) none).run Try.prog W = .ok (.slice (cutAt A 8 ca) (numN bs) (ca - 8)) W := fun W => by
        have := run_lh A bs.length ca 8 (8 + numN bs) (by omega) (by omega) W
        rw [Nat.add_sub_cancel_left] at this; exact this
      have hc3 : ∀ W, (Instr.slice 22 (.slice A bs.length ca) (some (.int .i64 4)) none none).run Try.prog W = .ok (.slice (cutAt A 4 ca) (bs.length - 4) (ca - 4)) W := run_l A bs.length ca 4 (by omega)
      have HY : Hid (sumN [bs.take 4, heldF bs] = numN (bs.drop 4) → okF bs = true) := Lib.hid (fun e => okF_yes h8 hn1 hn2 e)
      have HN : Hid (¬ sumN [bs.take 4, heldF bs] = numN (bs.drop 4) → okF bs = false) := Lib.hid (fun e => okF_no (fun h => e h.2.2.2))
      have hs4 := sum_lt [bs.take 4, heldF bs]
      generalize hm : numN bs = n at hlt hn1 hn2 hc2
      have HM := Lib.hid hm
      clear hm
      have hd1 : decide (60000 < (n : Int)) = false := decide_eq_false (by omega)
      have hd2 : decide ((bs.length : Int) - 8 < (n : Int)) = false := decide_eq_false (by omega)
      by_cases heq : sumN [bs.take 4, heldF bs] = numN (bs.drop 4)
      · have HOK := Lib.hid (HY.out heq)
        have hne : (((sumN [bs.take 4, heldF bs] : Nat) : Int) != ((numN (bs.drop 4) : Nat) : Int)) = false := bne_eq_false_iff_eq.2 (by exact_mod_cast heq)
        clear heq
        go_enter Try.func19, Try.ntmps19
        go_wp2_with (go_at_call 29; ((with_reducible refine (number_any ca bs.length bs w HA.out HS.out (by omega) rfl).mono ?_); rintro e W1 ⟨rfl, hw⟩; rw [HM.out]; have HB1 : Hid (Below w.heap.size w W1) := (by obtain ⟨k, rfl⟩ := hw; exact Lib.hid (below_draws (Below.refl _ _) k)); clear hw; have hz1 := HB1.out.size; have HA1 := Lib.hid (HA.out.keep HB1.out (Nat.le_refl _))))
        go_region_with (first
        | (go_at_call 14; ((with_reducible refine (sum_frame_at (hi := w.heap.size) (ca := ca) A bs ?h0 ?h1 ?hB ?hb ?hh ?h8 hca HS.out).mono ?_); (case h0 => exact (Whole.new W1 22 _).cell 0); (case h1 => rw [HM.out]; exact (Whole.new W1 22 _).cell 1); (case hB => exact HA1.out.al hz1 _); (case hb => simp); (case hh => simp; omega); (case h8 => rw [HM.out]; omega); rintro e w4 ⟨rfl, rfl⟩))
        | (go_at_call 29; ((with_reducible refine (number_sum_at (hi := w.heap.size) (ca := ca) A bs ?hB h8 hca HS.out).mono ?_); (case hB => first | exact HA1.out.al hz1 _ | exact HA1.out.dr); rintro e w5 ⟨rfl, k5, rfl⟩)))
        all_goals
          go_wp2_with (go_at_call 30; ((with_reducible refine (clone_any (hi := w.heap.size) (cutAt A 8 ca) (ca - 8) n (heldF bs) _ ?hB ?hh ?hl ?hn).mono ?_); (case hB => exact cutAt_bytes (h := 8 + numN bs) (HA1.out.al hz1 _ : Bytes w.heap.size _ A bs) (by omega) (by rw [HM.out]; omega) hca); (case hh => simp; omega); (case hl => rw [heldF_len HOK.out, HM.out]; omega); (case hn => rw [heldF_len HOK.out, HM.out]); rintro e w6 ⟨B, d, rfl, hd, hn6, hb6⟩; rw [heldF_len HOK.out, HM.out]; have HR : Hid (OpenOut bs E16 w (.returned (.tuple #[.slice B n d, .int .i64 (8 + (n : Int)), .int .u16 0])) w6) := (by
            refine Lib.hid ⟨(below_draws (HB1.out.alloc hz1 _) _).trans (hb6.mono (by simp; omega)), .inl ⟨HOK.out, B, d, by rw [HM.out]; rfl, by rw [heldF_len HOK.out, HM.out] at hd; rw [HM.out]; exact hd, hn6.lower (by simp; omega)⟩⟩); clear hd hn6 hb6))
          go_ret3
          exact HR.out
      · have hne : (((sumN [bs.take 4, heldF bs] : Nat) : Int) != ((numN (bs.drop 4) : Nat) : Int)) = true := bne_iff_ne.2 (fun e => heq (by exact_mod_cast e))
        have HNO := Lib.hid (HN.out heq)
        clear heq
        go_enter Try.func19, Try.ntmps19
        go_wp2_with (go_at_call 29; ((with_reducible refine (number_any ca bs.length bs w HA.out HS.out (by omega) rfl).mono ?_); rintro e W1 ⟨rfl, hw⟩; rw [HM.out]; have HB1 : Hid (Below w.heap.size w W1) := (by obtain ⟨k, rfl⟩ := hw; exact Lib.hid (below_draws (Below.refl _ _) k)); clear hw; have hz1 := HB1.out.size; have HA1 := Lib.hid (HA.out.keep HB1.out (Nat.le_refl _))))
        go_region_with (first
        | (go_at_call 14; ((with_reducible refine (sum_frame_at (hi := w.heap.size) (ca := ca) A bs ?h0 ?h1 ?hB ?hb ?hh ?h8 hca HS.out).mono ?_); (case h0 => exact (Whole.new W1 22 _).cell 0); (case h1 => rw [HM.out]; exact (Whole.new W1 22 _).cell 1); (case hB => exact HA1.out.al hz1 _); (case hb => simp); (case hh => simp; omega); (case h8 => rw [HM.out]; omega); rintro e w4 ⟨rfl, rfl⟩))
        | (go_at_call 29; ((with_reducible refine (number_sum_at (hi := w.heap.size) (ca := ca) A bs ?hB h8 hca HS.out).mono ?_); (case hB => first | exact HA1.out.al hz1 _ | exact HA1.out.dr); rintro e w5 ⟨rfl, k5, rfl⟩)))
        all_goals
          go_wp2
          go_ret3
          exact ⟨below_draws (HB1.out.alloc hz1 _) _, .inr ⟨HNO.out, rfl⟩⟩
    · have HNO := Lib.hid (okF_no (bs := bs) (fun h => hn ⟨h.2.1, h.2.2.1⟩))
      generalize hm : numN bs = n at hlt hn
      have HM := Lib.hid hm
      clear hm
      by_cases hn1 : n ≤ 60000
      · have hd1 : decide (60000 < (n : Int)) = false := decide_eq_false (by omega)
        have hd2 : decide ((bs.length : Int) - 8 < (n : Int)) = true := decide_eq_true (by omega)
        clear hn
        go_enter Try.func19, Try.ntmps19
        go_wp2_with (go_at_call 29; ((with_reducible refine (number_any ca bs.length bs w HA.out HS.out (by omega) rfl).mono ?_); rintro e W1 ⟨rfl, hw⟩; rw [HM.out]; have HB1 : Hid (Below w.heap.size w W1) := (by obtain ⟨k, rfl⟩ := hw; exact Lib.hid (below_draws (Below.refl _ _) k)); clear hw; have hz1 := HB1.out.size; have HA1 := Lib.hid (HA.out.keep HB1.out (Nat.le_refl _))))
        go_ret3
        exact ⟨HB1.out, .inr ⟨HNO.out, rfl⟩⟩
      · have hd1 : decide (60000 < (n : Int)) = true := decide_eq_true (by omega)
        clear hn
        go_enter Try.func19, Try.ntmps19
        go_wp2_with (go_at_call 29; ((with_reducible refine (number_any ca bs.length bs w HA.out HS.out (by omega) rfl).mono ?_); rintro e W1 ⟨rfl, hw⟩; rw [HM.out]; have HB1 : Hid (Below w.heap.size w W1) := (by obtain ⟨k, rfl⟩ := hw; exact Lib.hid (below_draws (Below.refl _ _) k)); clear hw; have hz1 := HB1.out.size; have HA1 := Lib.hid (HA.out.keep HB1.out (Nat.le_refl _))))
        go_ret3
        exact ⟨HB1.out, .inr ⟨HNO.out, rfl⟩⟩
  · have HNO := Lib.hid (okF_no (bs := bs) (fun h => h8 h.1))
    have hd0 : decide ((bs.length : Int) < 8) = true := decide_eq_true (by omega)
    go_enter Try.func19, Try.ntmps19
    go_wp2
    go_ret3
    exact ⟨Below.refl _ _, .inr ⟨HNO.out, rfl⟩⟩
end Go.Proofs.Ytdagpmmachaeaaa
