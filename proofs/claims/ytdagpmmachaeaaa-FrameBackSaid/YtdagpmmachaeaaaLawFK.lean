/- FrameBack, the Go function: it comes out true. -/
import Derived.Test.YtdagpmmachaeaaaLawFW
namespace Go.Proofs.Ytdagpmmachaeaaa
open Go Go.RowKit
set_option linter.unusedVariables false
set_option linter.unusedSimpArgs false

theorem NewB.far {base : Nat} {W : World} {B : Option Addr} {bs : List Int} (h : NewB base W B bs) {p : Addr} (hp : p.block < base) (u : Value) : NewB base (W.setCell p u) B bs :=
  h.imp id fun ⟨g, e, hr⟩ => ⟨g, e, hr.far (by have := hr.base; omega) u⟩
theorem RowB.any {base : Nat} {W : World} {g : Nat} {bs : List Int} (h : RowB base W g bs) : RowB 0 W g bs := ⟨Nat.zero_le _, h.whole⟩
def BackRel (w : World) (b4 g4 n : Nat) (B : Option Addr) (bs : List Int) (i : Value) (W : World) : Prop :=
  ∃ (k : Nat) (ls : List Int), k ≤ n ∧ i = .int .i64 k ∧ ls.length = n ∧ RowB 0 W g4 ls ∧ Below w.heap.size w W ∧ NewB b4 W B bs
set_option maxHeartbeats 4000000 in
theorem fback_true (A : Option Addr) (ca : Nat) (bs : List Int) (M : Option Addr) (cm : Nat) (ms : List Int) (w : World) (hA : Bytes w.heap.size w A bs) (hM : Bytes w.heap.size w M ms) (hs : Short bs) (ht : Short ms) :
    Calls Try.prog 12 #[.slice A bs.length ca, .slice M ms.length cm] w fun e w' => e = .returned (.bool true) ∧ Below w.heap.size w w' := by
  have h2 := hs.2
  have h3 := ht.2
  have HS := Lib.hid hs
  have HT := Lib.hid ht
  have HA := Lib.hid hA
  have HM := Lib.hid hM
  clear hA hs hM ht
  by_cases hl : bs.length ≤ 1500
  · have hd0 : decide (1500 < (bs.length : Int)) = false := decide_eq_false (by omega)
    by_cases hl2 : ms.length ≤ 1500
    · have hd1 : decide (1500 < (ms.length : Int)) = false := decide_eq_false (by omega)
      obtain ⟨i0, hi, hz0, hz1, hz2⟩ := info_parts infoByte
      have HI := Lib.hid (And.intro hi (And.intro hz0 (And.intro hz1 hz2)))
      clear hi hz0 hz1 hz2
      have HL : Hid ((frameB bs).length = 8 + bs.length) := Lib.hid (frameB_len bs)
      generalize hL : (frameB bs).length = L at HL
      have HLL := Lib.hid hL
      have hL1 := Nat.le_of_eq HL.out
      have hL2 := Nat.le_of_eq HL.out.symm
      clear hL
      have HF : Hid (Short (frameB bs ++ ms)) := Lib.hid ⟨(frameB_byte HS.out.1 (by omega)).append HT.out.1, by rw [List.length_append, HLL.out]; omega⟩
      go_enter Try.func12, Try.ntmps12
      go_wp2_with (first
        | (go_at_call 16; refine (fknown_true _).mono ?_; rintro e W1 ⟨rfl, hb⟩; have HB1 := Lib.hid hb; have hz1 := hb.size; have HA1 := Lib.hid (HA.out.keep hb (Nat.le_refl _)); clear hb)
        | (go_at_call 17; ((with_reducible refine (wrap_n A ca bs.length bs W1 (HA1.out.up hz1) HS.out (by omega) rfl).mono ?_); rintro e w2 ⟨g, d, rfl, hd, hr, hb⟩; rw [HLL.out]; have HB2 := Lib.hid (HB1.out.trans (hb.mono hz1)); have HR2 := Lib.hid hr; have hz2 := HB2.out.size; have hg2 := hr.lt; clear hd hr hb))
        | (at_builtin; refine wpList_append_from _ rfl (.tmp 30) (.tmp 31) 22 rfl w2.heap.size 5 i0 _ 1 1 Try.underlying22 HI.out.1 HI.out.2.1 HI.out.2.2.1 HI.out.2.2.2 rfl (by decide) (.slice none 0 0) 0 [] rfl (World.ownsRow_nil _ _ _ _) (some ⟨g, 0, none⟩) L d (cellsB (frameB bs)) rfl (fun h => by cases h) (by rw [cellsB_length, HLL.out, Nat.mul_one]) (cellsB_from HR2.out.bytes) (cellsB_one _) (by unfold maxLen; omega) (by omega) (Nat.le_refl _) ?_; intro v' w3 hown hgrow hat; rw [Nat.zero_add, List.nil_append] at hown; have ho : OwnB w2.heap.size w3 v' (frameB bs) := (by unfold OwnB; rw [HLL.out]; exact hown); have hb3 := below_grown hgrow; obtain ⟨g3, d3, rfl, hd, hr⟩ := ho.form (by simp [frameB, num4]); rw [HLL.out] at ho ⊢; have HB3 := Lib.hid hb3; have HO3 := Lib.hid ho; have hz3 := hb3.size; have HM3 := Lib.hid (HM.out.keep (HB2.out.trans (hb3.mono hz2)) (Nat.le_refl _)); clear hown hgrow hat ho hb3 hd hr)
        | (at_builtin; refine wpList_append_from _ rfl (.tmp 33) (.tmp 34) 22 rfl w2.heap.size 5 i0 _ 1 1 Try.underlying22 HI.out.1 HI.out.2.1 HI.out.2.2.1 HI.out.2.2.2 rfl (by decide) (.slice (some ⟨g3, 0, none⟩) L d3) L (cellsB (frameB bs)) rfl (by have := HO3.out; unfold OwnB at this; rw [HLL.out] at this; exact this) M ms.length cm (cellsB ms) rfl HM3.out.none (by simp [cellsB]) (cellsB_from HM3.out) (cellsB_one _) (by unfold maxLen; omega) (by omega) hz3 ?_; intro v' w4 hown hgrow hat; rw [← cellsB_app] at hown; have ho : OwnB w2.heap.size w4 v' (frameB bs ++ ms) := (by unfold OwnB; rw [List.length_append, HLL.out]; exact hown); have hb4 := grown_below HB3.out hgrow HO3.out hz3; obtain ⟨g4, d4, rfl, hd, hr⟩ := ho.form (by simp [frameB, num4]); have HD4 := Lib.hid hd; rw [List.length_append, HLL.out]; have HB4 := Lib.hid (HB2.out.trans (hb4.mono hz2)); have HR4 := Lib.hid hr; have hz4 := hb4.size; have hg4 := hr.lt; have hg4' := hr.base; clear hown hgrow hat ho hb4 hd hr)
        | (go_at_call 19; ((with_reducible refine (open_yes (some ⟨g4, 0, none⟩) d4 (L + ms.length) (frameB bs ++ ms) w4 (HR4.out.bytes.up (by omega)) HF.out HD4.out (by rw [List.length_append, HLL.out]; omega) (by rw [List.length_append, HLL.out]) (okF_frame (by omega) ms)).mono ?_); rintro e w5 ⟨B, d5, rfl, hn, hb⟩; rw [numN_frame (by omega : bs.length ≤ 60000), show 8 + bs.length = L from HL.out.symm]; rw [heldF_frame (by omega : bs.length ≤ 60000)] at hn; have HR5 := Lib.hid (HR4.out.keep hb hg4); have HB5 := Lib.hid (HB4.out.trans (hb.mono (by omega))); have HN5 := Lib.hid hn; clear hn hb)))
      have HB2' := HB2
      go_loopw [11] (BackRel w w4.heap.size g4 (L + ms.length) B bs) (fun i _ => L + ms.length - (intOf i).toNat)
      case atStart => exact ⟨0, frameB bs ++ ms, Nat.zero_le _, rfl, by rw [List.length_append, HLL.out], HR5.out.any, HB5.out, HN5.out⟩
      case round =>
        obtain ⟨k, ls, hk, rfl, hls, hr, hb, hn⟩ := hrel
        rename_i W _
        have HR := Lib.hid hr
        have HB := Lib.hid hb
        have HN := Lib.hid hn
        have HLS := Lib.hid hls
        clear hr hb hn hls
        by_cases hlt : k < L + ms.length
        · have hks : k < ls.length := by have := HLS.out; omega
          obtain ⟨hc1, hc2⟩ := HR.out.cell (List.getElem?_eq_getElem hks)
          generalize ls[k] = u at hc1
          generalize hy : bits .xor .u8 u 255 = y
          clear hks
          go_wp2
          go_roundw
          case rel => exact ⟨k + 1, ls.set k y, by omega, by go_num, by rw [List.length_set]; exact HLS.out, HR.out.put y, HB.out.setCell (by show _ ≤ g4; omega) _, HN.out.far (by show g4 < _; omega) _⟩
          case measure => simp [intOf]; omega
        · obtain rfl : k = L + ms.length := by omega
          have hcx := conv_str HN.out.bytes d5 bs.length rfl
          have hcb := conv_str (HA.out.keep HB.out (Nat.le_refl _)) ca bs.length rfl
          go_wp2
          go_ret
          exact ⟨rfl, HB.out⟩
    · have hd1 : decide (1500 < (ms.length : Int)) = true := decide_eq_true (by omega)
      go_enter Try.func12, Try.ntmps12
      go_wp2_with (go_at_call 16; refine (fknown_true _).mono ?_; rintro e W1 ⟨rfl, hb⟩; have HB1 := Lib.hid hb; clear hb)
      go_ret
      exact ⟨rfl, HB1.out⟩
  · have hd0 : decide (1500 < (bs.length : Int)) = true := decide_eq_true (by omega)
    go_enter Try.func12, Try.ntmps12
    go_wp2_with (go_at_call 16; refine (fknown_true _).mono ?_; rintro e W1 ⟨rfl, hb⟩; have HB1 := Lib.hid hb; clear hb)
    go_ret
    exact ⟨rfl, HB1.out⟩
end Go.Proofs.Ytdagpmmachaeaaa
