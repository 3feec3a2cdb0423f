/- Frames: the document's Open. -/
import Derived.Test.YtdagpmmachaeaaaFrmP
import Derived.IntWalk
namespace Go.Proofs.Ytdagpmmachaeaaa
open Go Go.RowKit
set_option linter.unusedVariables false
set_option linter.unusedSimpArgs false

theorem rsum_frame_at {hi b ca : Nat} {W : World} (A : Option Addr) (bs : List Int) (h0 : W.cell? ⟨b, 0, none⟩ = some (.slice (cutAt A 0 ca) 4 ca)) (h1 : W.cell? ⟨b, 1, none⟩ = some (.slice (cutAt A 8 ca) (numN bs) (ca - 8)))
    (hB : Bytes hi W A bs) (hb : b < W.heap.size) (hh : hi ≤ W.heap.size) (h8 : numN bs + 8 ≤ bs.length) (hc : bs.length ≤ ca) (hs : Short bs) :
    Calls Try.prog 15 #[.slice (some ⟨b, 0, none⟩) 2 2] W fun e w' => e = .returned (.int .u32 (sumN [bs.take 4, heldF bs])) ∧ W = w' :=
  rsum_any _ _ 2 [bs.take 4, heldF bs] _ (lists_frame A bs h0 h1 hB hb hh h8 hc) (small_frame hs)
theorem rnumber_sum_at {hi ca : Nat} {W : World} (A : Option Addr) (bs : List Int) (hB : Bytes hi W A bs) (h8 : 8 ≤ bs.length) (hc : bs.length ≤ ca) (hs : Short bs) :
    Calls Try.prog 31 #[.slice (cutAt A 4 ca) (bs.length - 4) (ca - 4)] W fun e w' => e = .returned (.int .u32 (numN (bs.drop 4))) ∧ ∃ k, w' = W.drewN k := by
  have := cutAt_bytes hB (l := 4) (h := bs.length) (by omega) (Nat.le_refl _) hc
  rw [List.take_length] at this
  exact rnumber_any _ _ _ W this (short_drop hs _) (by simp; omega) (by simp)
def E64 (z : Int) : Value := .int .i64 z
set_option maxHeartbeats 8000000 in
theorem ropen_any (A : Option Addr) (ca n0 : Nat) (bs : List Int) (w : World) (hA : Bytes w.heap.size w A bs) (hs : Short bs) (hca : bs.length ≤ ca) (hl : bs.length ≤ 100000) (hn0 : n0 = bs.length) :
    Calls Try.prog 20 #[.slice A n0 ca] w (OpenOut bs E64 w) := by
  subst hn0
  obtain ⟨i0, hi, hz0, hz1, hz2⟩ := info_parts infoByte
  have HI := Lib.hid (And.intro hi (And.intro hz0 (And.intro hz1 hz2)))
  clear hi hz0 hz1 hz2
  have h2 := hs.2
  have HA := Lib.hid hA
  have HS := Lib.hid hs
  have hlt := numN_lt hs.1
  clear hA hs
  by_cases h8 : 8 ≤ bs.length
  · have hd0 : decide ((bs.length : Int) < 8) = false := decide_eq_false (by omega)
    by_cases hn : numN bs ≤ 60000 ∧ numN bs + 8 ≤ bs.length
    · obtain ⟨hn1, hn2⟩ := hn
      have hc1 : ∀ W, (Instr.slice 22 (.slice A bs.length ca) none (some (.int .i64 4)) none).run Try.prog W = .ok (.slice (cutAt A 0 ca) 4 ca) W := run_h A bs.length ca 4 (by omega)
      have hc2 : ∀ W, (Instr.slice 22 (.slice A bs.length ca) (some (.int .i64 8)) (some (.int .i64 (8 + (numN bs : Int)))) none).run Try.prog W = .ok (.slice (cutAt A 8 ca) (numN bs) (ca - 8)) W := fun W => by
        have := run_lh A bs.length ca 8 (8 + numN bs) (by omega) (by omega) W
        rw [Nat.add_sub_cancel_left] at this; exact this
      have hc3 : ∀ W, (Instr.slice 22 (.slice A bs.length ca) (some (.int .i64 4)) none none).run Try.prog W = .ok (.slice (cutAt A 4 ca) (bs.length - 4) (ca - 4)) W := run_l A bs.length ca 4 (by omega)
      have HY : Hid (sumN [bs.take 4, heldF bs] = numN (bs.drop 4) → okF bs = true) := Lib.hid (fun e => okF_yes h8 hn1 hn2 e)
      have HN : Hid (¬ sumN [bs.take 4, heldF bs] = numN (bs.drop 4) → okF bs = false) := Lib.hid (fun e => okF_no (fun h => e h.2.2.2))
      have hs4 := sum_lt [bs.take 4, heldF bs]
      generalize hm : numN bs = n at hlt hn1 hn2 hc2
      have HM := Lib.hid hm
      clear hm
      have hd1 : decide (60000 < (n : Int)) = false := decide_eq_false (by omega)
      have hd2 : decide ((bs.length : Int) - 8 < (n : Int)) = false := decide_eq_false (by omega)
      have hw8 : IntKind.i64.wrap (8 + (n : Int)) = 8 + (n : Int) := IntWalk.i64_in _ (by omega)
      by_cases heq : sumN [bs.take 4, heldF bs] = numN (bs.drop 4)
      · have HOK := Lib.hid (HY.out heq)
        have HL : Hid ((heldF bs).length = n) := Lib.hid ((heldF_len HOK.out).trans HM.out)
        have hne : (((numN (bs.drop 4) : Nat) : Int) != ((sumN [bs.take 4, heldF bs] : Nat) : Int)) = false := bne_eq_false_iff_eq.2 (by exact_mod_cast heq.symm)
        clear heq
        go_enter Try.func20, Try.ntmps20
        go_wp2_with (first
          | (go_at_call 31; ((with_reducible refine (rnumber_any ca bs.length bs w HA.out HS.out (by omega) rfl).mono ?_); rintro e W1 ⟨rfl, hw⟩; rw [HM.out]; have HB1 : Hid (Below w.heap.size w W1) := (by obtain ⟨k, rfl⟩ := hw; exact Lib.hid (below_draws (Below.refl _ _) k)); clear hw; have hz1 := HB1.out.size; have HA1 := Lib.hid (HA.out.keep HB1.out (Nat.le_refl _))))
          | (go_at_call 31; ((with_reducible refine (rnumber_any ca bs.length bs W1 HA1.out HS.out (by omega) rfl).mono ?_); rintro e W2 ⟨rfl, hw⟩; rw [HM.out]; have HB2 : Hid (Below w.heap.size w W2) := (by obtain ⟨k, rfl⟩ := hw; exact Lib.hid (below_draws HB1.out k)); clear hw; have hz2 := HB2.out.size; have HA2 := Lib.hid (HA.out.keep HB2.out (Nat.le_refl _))))
          | (go_at_call 31; ((with_reducible refine (rnumber_any ca bs.length bs W2 HA2.out HS.out (by omega) rfl).mono ?_); rintro e W3 ⟨rfl, hw⟩; rw [HM.out]; have HB3 : Hid (Below w.heap.size w W3) := (by obtain ⟨k, rfl⟩ := hw; exact Lib.hid (below_draws HB2.out k)); clear hw; have hz3 := HB3.out.size; have HA3 := Lib.hid (HA.out.keep HB3.out (Nat.le_refl _)))))
        go_region_with (first
          | (go_at_call 15; ((with_reducible refine (rsum_frame_at (hi := w.heap.size) (ca := ca) A bs ?h0 ?h1 ?hB ?hb ?hh ?h8 hca HS.out).mono ?_); (case h0 => exact (Whole.new W3 22 _).cell 0); (case h1 => rw [HM.out]; exact (Whole.new W3 22 _).cell 1); (case hB => exact HA3.out.al hz3 _); (case hb => simp); (case hh => simp; omega); (case h8 => rw [HM.out]; omega); rintro e w4 ⟨rfl, rfl⟩))
          | (go_at_call 31; ((with_reducible refine (rnumber_sum_at (hi := w.heap.size) (ca := ca) A bs ?hB h8 hca HS.out).mono ?_); (case hB => first | exact HA3.out.al hz3 _ | exact HA3.out.dr); rintro e w5 ⟨rfl, k5, rfl⟩)))
        all_goals
          go_wp2_with (at_builtin; refine wpList_append_from _ rfl (.tmp 39) (.tmp 43) 22 rfl w.heap.size 5 i0 _ 1 1 Try.underlying22 HI.out.1 HI.out.2.1 HI.out.2.2.1 HI.out.2.2.2 rfl (by decide) (.slice none 0 0) 0 [] rfl (World.ownsRow_nil _ _ _ _) (cutAt A 8 ca) n (ca - 8) (cellsB (heldF bs)) rfl ?hnone (by rw [cellsB_length, HL.out, Nat.mul_one]) ?hfrom (cellsB_one _) (by unfold maxLen; omega) (by omega) (by simp; omega) ?_; (case hnone => exact fun e => by rw [← HL.out]; exact (cutAt_bytes (h := 8 + numN bs) HA3.out (by omega) (by rw [HM.out]; omega) hca : Bytes w.heap.size W3 (cutAt A 8 ca) (heldF bs)).none e); (case hfrom => exact cellsB_from (cutAt_bytes (h := 8 + numN bs) (HA3.out.al hz3 _ : Bytes w.heap.size _ A bs) (by omega) (by rw [HM.out]; omega) hca)); intro v' w6 hown hgrow hat; rw [Nat.zero_add, List.nil_append] at hown; have HR : Hid (OpenOut bs E64 w (.returned (.tuple #[v', .int .i64 (8 + (n : Int)), .int .i64 0])) w6) := (by
              obtain ⟨B, d, rfl, hd, hr⟩ := own_bytes hown HL.out.symm
              rw [HL.out] at hd ⊢
              exact Lib.hid ⟨(below_draws (HB3.out.alloc hz3 _) _).trans ((below_grown hgrow).mono (by simp; omega)), .inl ⟨HOK.out, B, d, by rw [HM.out]; rfl, by rw [HM.out]; exact hd, hr⟩⟩); clear hown hgrow hat)
          go_ret3
          exact HR.out
      · have hne : (((numN (bs.drop 4) : Nat) : Int) != ((sumN [bs.take 4, heldF bs] : Nat) : Int)) = true := bne_iff_ne.2 (fun e => heq (by exact_mod_cast e.symm))
        have HNO := Lib.hid (HN.out heq)
        clear heq
        go_enter Try.func20, Try.ntmps20
        go_wp2_with (first
          | (go_at_call 31; ((with_reducible refine (rnumber_any ca bs.length bs w HA.out HS.out (by omega) rfl).mono ?_); rintro e W1 ⟨rfl, hw⟩; rw [HM.out]; have HB1 : Hid (Below w.heap.size w W1) := (by obtain ⟨k, rfl⟩ := hw; exact Lib.hid (below_draws (Below.refl _ _) k)); clear hw; have hz1 := HB1.out.size; have HA1 := Lib.hid (HA.out.keep HB1.out (Nat.le_refl _))))
          | (go_at_call 31; ((with_reducible refine (rnumber_any ca bs.length bs W1 HA1.out HS.out (by omega) rfl).mono ?_); rintro e W2 ⟨rfl, hw⟩; rw [HM.out]; have HB2 : Hid (Below w.heap.size w W2) := (by obtain ⟨k, rfl⟩ := hw; exact Lib.hid (below_draws HB1.out k)); clear hw; have hz2 := HB2.out.size; have HA2 := Lib.hid (HA.out.keep HB2.out (Nat.le_refl _))))
          | (go_at_call 31; ((with_reducible refine (rnumber_any ca bs.length bs W2 HA2.out HS.out (by omega) rfl).mono ?_); rintro e W3 ⟨rfl, hw⟩; rw [HM.out]; have HB3 : Hid (Below w.heap.size w W3) := (by obtain ⟨k, rfl⟩ := hw; exact Lib.hid (below_draws HB2.out k)); clear hw; have hz3 := HB3.out.size; have HA3 := Lib.hid (HA.out.keep HB3.out (Nat.le_refl _)))))
        go_region_with (first
          | (go_at_call 15; ((with_reducible refine (rsum_frame_at (hi := w.heap.size) (ca := ca) A bs ?h0 ?h1 ?hB ?hb ?hh ?h8 hca HS.out).mono ?_); (case h0 => exact (Whole.new W3 22 _).cell 0); (case h1 => rw [HM.out]; exact (Whole.new W3 22 _).cell 1); (case hB => exact HA3.out.al hz3 _); (case hb => simp); (case hh => simp; omega); (case h8 => rw [HM.out]; omega); rintro e w4 ⟨rfl, rfl⟩))
          | (go_at_call 31; ((with_reducible refine (rnumber_sum_at (hi := w.heap.size) (ca := ca) A bs ?hB h8 hca HS.out).mono ?_); (case hB => first | exact HA3.out.al hz3 _ | exact HA3.out.dr); rintro e w5 ⟨rfl, k5, rfl⟩)))
        all_goals
          go_wp2
          go_ret3
          exact ⟨below_draws (HB3.out.alloc hz3 _) _, .inr ⟨HNO.out, rfl⟩⟩
    · have HNO := Lib.hid (okF_no (bs := bs) (fun h => hn ⟨h.2.1, h.2.2.1⟩))
      generalize hm : numN bs = n at hlt hn
      have HM := Lib.hid hm
      clear hm
      by_cases hn1 : n ≤ 60000
      · have hd1 : decide (60000 < (n : Int)) = false := decide_eq_false (by omega)
        have hd2 : decide ((bs.length : Int) - 8 < (n : Int)) = true := decide_eq_true (by omega)
        clear hn
        go_enter Try.func20, Try.ntmps20
        go_wp2_with (first
          | (go_at_call 31; ((with_reducible refine (rnumber_any ca bs.length bs w HA.out HS.out (by omega) rfl).mono ?_); rintro e W1 ⟨rfl, hw⟩; rw [HM.out]; have HB1 : Hid (Below w.heap.size w W1) := (by obtain ⟨k, rfl⟩ := hw; exact Lib.hid (below_draws (Below.refl _ _) k)); clear hw; have hz1 := HB1.out.size; have HA1 := Lib.hid (HA.out.keep HB1.out (Nat.le_refl _))))
          | (go_at_call 31; ((with_reducible refine (rnumber_any ca bs.length bs W1 HA1.out HS.out (by omega) rfl).mono ?_); rintro e W2 ⟨rfl, hw⟩; rw [HM.out]; have HB2 : Hid (Below w.heap.size w W2) := (by obtain ⟨k, rfl⟩ := hw; exact Lib.hid (below_draws HB1.out k)); clear hw; have hz2 := HB2.out.size; have HA2 := Lib.hid (HA.out.keep HB2.out (Nat.le_refl _))))
          | (go_at_call 31; ((with_reducible refine (rnumber_any ca bs.length bs W2 HA2.out HS.out (by omega) rfl).mono ?_); rintro e W3 ⟨rfl, hw⟩; rw [HM.out]; have HB3 : Hid (Below w.heap.size w W3) := (by obtain ⟨k, rfl⟩ := hw; exact Lib.hid (below_draws HB2.out k)); clear hw; have hz3 := HB3.out.size; have HA3 := Lib.hid (HA.out.keep HB3.out (Nat.le_refl _)))))
        go_ret3
        exact ⟨HB2.out, .inr ⟨HNO.out, rfl⟩⟩
      · have hd1 : decide (60000 < (n : Int)) = true := decide_eq_true (by omega)
        clear hn
        go_enter Try.func20, Try.ntmps20
        go_wp2_with (first
          | (go_at_call 31; ((with_reducible refine (rnumber_any ca bs.length bs w HA.out HS.out (by omega) rfl).mono ?_); rintro e W1 ⟨rfl, hw⟩; rw [HM.out]; have HB1 : Hid (Below w.heap.size w W1) := (by obtain ⟨k, rfl⟩ := hw; exact Lib.hid (below_draws (Below.refl _ _) k)); clear hw; have hz1 := HB1.out.size; have HA1 := Lib.hid (HA.out.keep HB1.out (Nat.le_refl _))))
          | (go_at_call 31; ((with_reducible refine (rnumber_any ca bs.length bs W1 HA1.out HS.out (by omega) rfl).mono ?_); rintro e W2 ⟨rfl, hw⟩; rw [HM.out]; have HB2 : Hid (Below w.heap.size w W2) := (by obtain ⟨k, rfl⟩ := hw; exact Lib.hid (below_draws HB1.out k)); clear hw; have hz2 := HB2.out.size; have HA2 := Lib.hid (HA.out.keep HB2.out (Nat.le_refl _))))
          | (go_at_call 31; ((with_reducible refine (rnumber_any ca bs.length bs W2 HA2.out HS.out (by omega) rfl).mono ?_); rintro e W3 ⟨rfl, hw⟩; rw [HM.out]; have HB3 : Hid (Below w.heap.size w W3) := (by obtain ⟨k, rfl⟩ := hw; exact Lib.hid (below_draws HB2.out k)); clear hw; have hz3 := HB3.out.size; have HA3 := Lib.hid (HA.out.keep HB3.out (Nat.le_refl _)))))
        go_ret3
        exact ⟨HB1.out, .inr ⟨HNO.out, rfl⟩⟩
  · have HNO := Lib.hid (okF_no (bs := bs) (fun h => h8 h.1))
    have hd0 : decide ((bs.length : Int) < 8) = true := decide_eq_true (by omega)
    go_enter Try.func20, Try.ntmps20
    go_wp2
    go_ret3
    exact ⟨Below.refl _ _, .inr ⟨HNO.out, rfl⟩⟩
end Go.Proofs.Ytdagpmmachaeaaa
