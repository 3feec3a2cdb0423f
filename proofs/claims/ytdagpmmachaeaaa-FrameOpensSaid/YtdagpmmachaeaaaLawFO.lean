/- FrameOpens, the Go function: it comes out true. -/
import Derived.Test.YtdagpmmachaeaaaFrmW
import Derived.Test.YtdagpmmachaeaaaLawFW
namespace Go.Proofs.Ytdagpmmachaeaaa
open Go Go.RowKit
set_option linter.unusedVariables false
set_option linter.unusedSimpArgs false

theorem Held.slice {base : Nat} {W : World} {v : Value} {l : List (List Int)} (h : Held base W v l) : ∃ A c, v = .slice A l.length c := h.form
set_option maxHeartbeats 8000000 in
theorem fopens_true (A : Option Addr) (ca : Nat) (bs : List Int) (w : World) (hA : Bytes w.heap.size w A bs) (hs : Short bs) (hca : bs.length ≤ ca) :
    Calls Try.prog 9 #[.slice A bs.length ca] w fun e w' => e = .returned (.bool true) ∧ Below w.heap.size w w' := by
  have h2 := hs.2
  have HS := Lib.hid hs
  have HA := Lib.hid hA
  clear hA hs
  by_cases hl : bs.length ≤ 1500
  · have hd0 : decide (1500 < (bs.length : Int)) = false := decide_eq_false (by omega)
    have hll := scanL_len bs.length bs
    cases hok : okF bs with
    | true =>
      have HO := Lib.hid hok
      have HN := Lib.hid (heldF_len hok).symm
      clear hok
      go_enter Try.func9, Try.ntmps9
      go_wp2_with (first
        | (go_at_call 16; refine (fknown_true _).mono ?_; rintro e W1 ⟨rfl, hb⟩; have HB1 := Lib.hid hb; have hz1 := hb.size; have HA1 := Lib.hid (HA.out.keep hb (Nat.le_refl _)); clear hb)
        | (go_at_call 19; ((with_reducible refine (open_yes A ca bs.length bs W1 (HA1.out.up hz1) HS.out hca (by omega) rfl HO.out).mono ?_); rintro e w2 ⟨B, d, rfl, hn, hb⟩; have HX := Lib.hid hn; have HB2 := Lib.hid (HB1.out.trans (hb.mono hz1)); have hz2 := HB2.out.size; have HA2 := Lib.hid (HA.out.keep HB2.out (Nat.le_refl _)); clear hn hb))
        | (go_at_call 20; ((with_reducible refine (ropen_yes A ca bs.length bs w2 (HA2.out.up hz2) HS.out hca (by omega) rfl HO.out).mono ?_); rintro e w3 ⟨C, d3, rfl, hn, hb⟩; have HY := Lib.hid hn; have HX3 := Lib.hid (HX.out.keep hb (Nat.le_refl _)); have HB3 := Lib.hid (HB2.out.trans (hb.mono hz2)); have hz3 := HB3.out.size; have HA3 := Lib.hid (HA.out.keep HB3.out (Nat.le_refl _)); clear hn hb))
        | (go_at_call 21; ((with_reducible refine (scan_any A ca bs.length bs w3 (HA3.out.up hz3) HS.out hca (by omega) rfl).mono ?_); rintro e w4 ⟨v, rfl, hh, hb⟩; have HX4 := Lib.hid (HX3.out.keep hb (Nat.le_refl _)); have HY4 := Lib.hid (HY.out.keep hb (Nat.le_refl _)); obtain ⟨L, c4, rfl, _, hL⟩ := hh.lists; have HL := Lib.hid hL; have HB4 := Lib.hid (HB3.out.trans (hb.mono hz3)); have hz4 := HB4.out.size; have HA4 := Lib.hid (HA.out.keep HB4.out (Nat.le_refl _)); clear hh hb hL))
        | (go_at_call 22; ((with_reducible refine (rscan_any A ca bs.length bs w4 (HA4.out.up hz4) HS.out hca (by omega) rfl).mono ?_); rintro e w5 ⟨v5, rfl, hh, hb⟩; have hc1 := conv_str (HX4.out.keep hb (Nat.le_refl _)).bytes d (numN bs) HN.out; have hc2 := conv_str (HY4.out.keep hb (Nat.le_refl _)).bytes d3 (numN bs) HN.out; obtain ⟨L5, c5, rfl, _, hL⟩ := hh.lists; have HL5 := Lib.hid hL; have HLK := Lib.hid ((HL.out.keep hb (Nat.le_refl _)).up hb.size); have HB5 := Lib.hid (HB4.out.trans (hb.mono hz4)); have hz5 := HB5.out.size; clear hh hb hL))
        | (go_at_call 23; ((with_reducible refine (same_any L L5 c4 c5 _ _ (scanL bs.length bs) w5 HLK.out HL5.out (by omega) rfl rfl).mono ?_); rintro e w6 ⟨rfl, hb⟩; have HB6 := Lib.hid (HB5.out.trans (hb.mono hz5)); clear hb)))
      go_ret
      exact ⟨rfl, HB6.out⟩
    | false =>
      have HO := Lib.hid hok
      clear hok
      go_enter Try.func9, Try.ntmps9
      go_wp2_with (first
        | (go_at_call 16; refine (fknown_true _).mono ?_; rintro e W1 ⟨rfl, hb⟩; have HB1 := Lib.hid hb; have hz1 := hb.size; have HA1 := Lib.hid (HA.out.keep hb (Nat.le_refl _)); clear hb)
        | (go_at_call 19; ((with_reducible refine (open_no A ca bs.length bs W1 (HA1.out.up hz1) HS.out hca (by omega) rfl HO.out).mono ?_); rintro e w2 ⟨rfl, hb⟩; have HB2 := Lib.hid (HB1.out.trans (hb.mono hz1)); have hz2 := HB2.out.size; have HA2 := Lib.hid (HA.out.keep HB2.out (Nat.le_refl _)); clear hb))
        | (go_at_call 20; ((with_reducible refine (ropen_no A ca bs.length bs w2 (HA2.out.up hz2) HS.out hca (by omega) rfl HO.out).mono ?_); rintro e w3 ⟨rfl, hb⟩; have HB3 := Lib.hid (HB2.out.trans (hb.mono hz2)); have hz3 := HB3.out.size; have HA3 := Lib.hid (HA.out.keep HB3.out (Nat.le_refl _)); clear hb))
        | (go_at_call 21; ((with_reducible refine (scan_any A ca bs.length bs w3 (HA3.out.up hz3) HS.out hca (by omega) rfl).mono ?_); rintro e w4 ⟨v, rfl, hh, hb⟩; obtain ⟨L, c4, rfl, _, hL⟩ := hh.lists; have HL := Lib.hid hL; have HB4 := Lib.hid (HB3.out.trans (hb.mono hz3)); have hz4 := HB4.out.size; have HA4 := Lib.hid (HA.out.keep HB4.out (Nat.le_refl _)); clear hh hb hL))
        | (go_at_call 22; ((with_reducible refine (rscan_any A ca bs.length bs w4 (HA4.out.up hz4) HS.out hca (by omega) rfl).mono ?_); rintro e w5 ⟨v5, rfl, hh, hb⟩; have hc1 := conv_str (Bytes.nil 0 w5 none) 0 0 rfl; obtain ⟨L5, c5, rfl, _, hL⟩ := hh.lists; have HL5 := Lib.hid hL; have HLK := Lib.hid ((HL.out.keep hb (Nat.le_refl _)).up hb.size); have HB5 := Lib.hid (HB4.out.trans (hb.mono hz4)); have hz5 := HB5.out.size; clear hh hb hL))
        | (go_at_call 23; ((with_reducible refine (same_any L L5 c4 c5 _ _ (scanL bs.length bs) w5 HLK.out HL5.out (by omega) rfl rfl).mono ?_); rintro e w6 ⟨rfl, hb⟩; have HB6 := Lib.hid (HB5.out.trans (hb.mono hz5)); clear hb)))
      go_ret
      exact ⟨rfl, HB6.out⟩
  · have hd0 : decide (1500 < (bs.length : Int)) = true := decide_eq_true (by omega)
    go_enter Try.func9, Try.ntmps9
    go_wp2_with (go_at_call 16; refine (fknown_true _).mono ?_; rintro e W1 ⟨rfl, hb⟩; have HB1 := Lib.hid hb; clear hb)
    go_ret
    exact ⟨rfl, HB1.out⟩
end Go.Proofs.Ytdagpmmachaeaaa
