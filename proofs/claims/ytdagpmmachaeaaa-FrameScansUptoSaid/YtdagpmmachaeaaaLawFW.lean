/- FrameWraps, the Go function: it comes out true. -/
import Derived.Test.YtdagpmmachaeaaaFrmK
namespace Go.Proofs.Ytdagpmmachaeaaa
open Go Go.RowKit
set_option linter.unusedVariables false
set_option linter.unusedSimpArgs false

theorem short_frame {bs : List Int} (h : Short bs) (hl : bs.length ≤ 60000) : Short (frameB bs) := ⟨frameB_byte h.1 (by omega), by rw [frameB_len]; omega⟩
set_option maxHeartbeats 4000000 in
theorem fwraps_true (A : Option Addr) (ca : Nat) (bs : List Int) (w : World) (hA : Bytes w.heap.size w A bs) (hs : Short bs) :
    Calls Try.prog 8 #[.slice A bs.length ca] w fun e w' => e = .returned (.bool true) ∧ Below w.heap.size w w' := by
  have h2 := hs.2
  have HS := Lib.hid hs
  have HA := Lib.hid hA
  clear hA hs
  by_cases hl : bs.length ≤ 1500
  · have hd0 : decide (1500 < (bs.length : Int)) = false := decide_eq_false (by omega)
    have HL : Hid ((frameB bs).length = 8 + bs.length) := Lib.hid (frameB_len bs)
    generalize hL : (frameB bs).length = L at HL
    have HLL := Lib.hid hL
    clear hL
    go_enter Try.func8, Try.ntmps8
    go_wp2_with (first
      | (go_at_call 16; refine (fknown_true _).mono ?_; rintro e W1 ⟨rfl, hb⟩; have HB1 := Lib.hid hb; have hz1 := hb.size; have HA1 := Lib.hid (HA.out.keep hb (Nat.le_refl _)); clear hb)
      | (go_at_call 17; ((with_reducible refine (wrap_n A ca bs.length bs W1 (HA1.out.up hz1) HS.out (by omega) rfl).mono ?_); rintro e w2 ⟨g, d, rfl, hd, hr, hb⟩; rw [HLL.out]; have HB2 := Lib.hid (HB1.out.trans (hb.mono hz1)); have HR2 := Lib.hid hr; have hz2 := HB2.out.size; have hg2 := hr.lt; have HA2 := Lib.hid (HA.out.keep HB2.out (Nat.le_refl _)); clear hd hr hb))
      | (go_at_call 18; ((with_reducible refine (rwrap_n A ca bs.length bs w2 (HA2.out.up hz2) HS.out (by omega) rfl).mono ?_); rintro e w3 ⟨g3, d3, rfl, hd, hr, hb⟩; rw [HLL.out]; have HB3 := Lib.hid (HB2.out.trans (hb.mono hz2)); have hc1 := conv_str (HR2.out.keep hb hg2).bytes d L HLL.out.symm; have hc2 := conv_str hr.bytes d3 L HLL.out.symm; clear hd hr hb)))
    go_ret
    exact ⟨rfl, HB3.out⟩
  · have hd0 : decide (1500 < (bs.length : Int)) = true := decide_eq_true (by omega)
    go_enter Try.func8, Try.ntmps8
    go_wp2_with (go_at_call 16; refine (fknown_true _).mono ?_; rintro e W1 ⟨rfl, hb⟩; have HB1 := Lib.hid hb; clear hb)
    go_ret
    exact ⟨rfl, HB1.out⟩
end Go.Proofs.Ytdagpmmachaeaaa
