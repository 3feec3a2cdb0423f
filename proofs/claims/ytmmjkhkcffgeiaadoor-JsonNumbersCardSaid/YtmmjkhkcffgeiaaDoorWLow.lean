/- json's writer: a letter below 32. -/
import Derived.Test.YtmmjkhkcffgeiaaDoorHexAt
import Derived.IntWalk
namespace Go.Proofs.YtmmjkhkcffgeiaaDoor
open Go Go.RowKit Go.Shelf

set_option maxHeartbeats 4000000 in
set_option maxRecDepth 100000 in
theorem w_low (B b : Nat) (bs : List Value) (h16 l16 : Nat) (hh : h16 < 16) (hl16 : l16 < 16) (c : UInt8) (hc : c.toNat < 32) (hcq : (c.toNat : Int) / 16 = h16) (hcr : (c.toNat : Int) % 16 = l16) (W : World) (h : Bld B b bs W) (hlen : bs.length + 6 ≤ 140737488355328) :
    Calls Tryd.prog 54 #[.pointer (some ⟨b, 0, none⟩), .int .u8 c.toNat] W (WPost B b (bs ++ Lib.byteCells (encLetter c)) W) := by
  have he : encLetter c = [92, 117, 48, 48, hexD h16, hexD l16] := by
    have n1 : ¬ (c = 34 ∨ c = 92) := by
      rintro (e | e)
      · rw [e] at hc; exact absurd hc (by decide)
      · rw [e] at hc; exact absurd hc (by decide)
    unfold encLetter
    rw [if_neg n1, if_pos (by rw [UInt8.lt_iff_toNat_lt]; exact hc), show c.toNat / 16 = h16 by omega, show c.toNat % 16 = l16 by omega]
  have HE := Lib.hid he
  clear he
  have HB := Lib.hid h
  clear h
  have H1 := Lib.hid (bld_str B b bs ⟨#[92, 117, 48, 48]⟩ W HB.out (by show _ + 4 ≤ _; omega))
  have H2 := Lib.hid (fun (bs' : List Value) (c : Int) W1 (h : BldAt B b bs' W1) (hl : bs'.length + 1 ≤ 140737488355328) => bld_byte B b bs' c W1 (.inr h) hl)
  have hq1 : ((c.toNat : Int) == 34) = false := by simp; omega
  have hq2 : ((c.toNat : Int) == 92) = false := by simp; omega
  have hi1 := hex_at h16 hh
  have hi2 := hex_at l16 hl16
  have hb0 : (0 : Int) ≤ c.toNat := by omega
  have hb1 : (c.toNat : Int) < 32 := by omega
  have ht1 : (c.toNat : Int).tdiv 16 = h16 := by rw [Int.tdiv_eq_ediv_of_nonneg hb0]; exact hcq
  have ht2 : (c.toNat : Int).tmod 16 = l16 := by rw [Int.tmod_eq_emod_of_nonneg hb0]; exact hcr
  have ht3 : IntKind.u8.wrap (h16 : Int) = h16 := IntWalk.u8_in _ (by omega)
  have ht4 : IntKind.u8.wrap (l16 : Int) = l16 := IntWalk.u8_in _ (by omega)
  go_enter Tryd.func54, Tryd.ntmps54
  go_wp2_with (go_at_call 36; refine H1.out.mono ?_; rintro e W1 ⟨rfl, h1⟩; have K1 := Lib.hid h1; clear h1)
  have hl1 : (bs ++ Lib.strCells ⟨#[92, 117, 48, 48]⟩).length = bs.length + 4 := by rw [List.length_append, Lib.strCells_length]; rfl
  have HL1 := Lib.hid hl1
  clear hl1
  go_region_with (go_at_call 53; refine (H2.out _ _ _ K1.out.1.drew (by rw [HL1.out]; omega)).mono ?_; rintro e W2 ⟨rfl, h2⟩; have K2 := Lib.hid h2; clear h2)
  go_wp2_with fail
  go_region_with (go_at_call 53; refine (H2.out _ _ _ K2.out.1.drew (by rw [List.length_append, HL1.out, List.length_singleton]; omega)).mono ?_; rintro e W3 ⟨rfl, h3⟩; have K3 := Lib.hid h3; clear h3)
  go_wp2_with fail
  go_end0
  refine ⟨rfl, ?_, (K1.out.2.trans ((Wr.refl B b W1).drew.trans K2.out.2)).trans ((Wr.refl B b W2).drew.trans K3.out.2)⟩
  rw [HE.out]
  have := K3.out.1
  simpa [Lib.byteCells, Lib.strCells] using this
theorem w_letter (B b : Nat) (bs : List Value) (c : UInt8) (W : World) (h : Bld B b bs W) (hlen : bs.length + 6 ≤ 140737488355328) :
    Calls Tryd.prog 54 #[.pointer (some ⟨b, 0, none⟩), .int .u8 c.toNat] W (WPost B b (bs ++ Lib.byteCells (encLetter c)) W) := by
  by_cases hc : c.toNat < 32
  · exact w_low B b bs (c.toNat / 16) (c.toNat % 16) (by omega) (by omega) c hc (by omega) (by omega) W h hlen
  · exact w_letter_32 B b bs c W h hlen hc
end Go.Proofs.YtmmjkhkcffgeiaaDoor
