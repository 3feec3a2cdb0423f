/- json's writer: letter, comma, text. -/
import Derived.Test.YtmmjkhkcffgeiaaDoorBld
import Derived.Test.YtmmjkhkcffgeiaaDoorJMath
import Derived.Deep.DeepCutAuto
namespace Go.Proofs.YtmmjkhkcffgeiaaDoor
open Go Go.RowKit Go.Shelf

def hexB : ByteArray := ⟨#[48, 49, 50, 51, 52, 53, 54, 55, 56, 57, 97, 98, 99, 100, 101, 102]⟩
def WPost (B b : Nat) (bs : List Value) (W : World) (e : Ending) (w' : World) : Prop := e = .returned (.tuple #[]) ∧ BldAt B b bs w' ∧ Wr B b W w'

set_option maxHeartbeats 4000000 in
set_option maxRecDepth 100000 in
theorem w_letter_32 (B b : Nat) (bs : List Value) (c : UInt8) (W : World) (h : Bld B b bs W) (hlen : bs.length + 6 ≤ 140737488355328) (h32 : ¬ c.toNat < 32) :
    Calls Tryd.prog 54 #[.pointer (some ⟨b, 0, none⟩), .int .u8 c.toNat] W (WPost B b (bs ++ Lib.byteCells (encLetter c)) W) := by
  have hc1 : (c.toNat : Int) ≤ 255 := by have := c.toNat_lt; omega
  have hc0 : 0 ≤ (c.toNat : Int) := by omega
  have HB := Lib.hid h
  clear h
  by_cases hq : c = 34 ∨ c = 92
  · have he : encLetter c = [92, c] := by unfold encLetter; rw [if_pos hq]
    have HE := Lib.hid he
    clear he
    have H1 := Lib.hid (bld_byte B b bs 92 W HB.out (by omega))
    have H2 := Lib.hid (fun W1 (h : BldAt B b (bs ++ [.int .u8 92]) W1) => bld_byte B b (bs ++ [.int .u8 92]) c.toNat W1 (.inr h) (by simp; omega))
    have hq2 : (((c.toNat : Int) == 34) = true) ∨ (((c.toNat : Int) == 34) = false ∧ ((c.toNat : Int) == 92) = true) := by
      rcases hq with rfl | rfl
      · exact .inl (by decide)
      · exact .inr (by decide)
    clear hq
    rcases hq2 with hq | ⟨hq, hq3⟩
    all_goals
      go_enter Tryd.func54, Tryd.ntmps54
      go_wp2_with (first | (go_at_call 53; refine (H2.out _ K1.out.1).mono ?_; rintro e W2 ⟨rfl, h2⟩; have K2 := Lib.hid h2; clear h2) | (go_at_call 53; refine H1.out.mono ?_; rintro e W1 ⟨rfl, h1⟩; have K1 := Lib.hid h1; clear h1))
      go_end0
      refine ⟨rfl, ?_, K1.out.2.trans K2.out.2⟩
      rw [HE.out]
      have := K2.out.1
      simpa [Lib.byteCells] using this
  · have hq1 : ((c.toNat : Int) == 34) = false := by
      have : c.toNat ≠ 34 := fun e => hq (.inl (UInt8.toNat_inj.1 e))
      simp; omega
    have hq2 : ((c.toNat : Int) == 92) = false := by
      have : c.toNat ≠ 92 := fun e => hq (.inr (UInt8.toNat_inj.1 e))
      simp; omega
    · have hlt := h32
      have he : encLetter c = [c] := by unfold encLetter; rw [if_neg hq, if_neg (by rw [UInt8.lt_iff_toNat_lt]; exact hlt)]
      have HE := Lib.hid he
      clear he hq
      have hltz : ¬ (c.toNat : Int) < 32 := by omega
      have H1 := Lib.hid (bld_byte B b bs c.toNat W HB.out (by omega))
      go_enter Tryd.func54, Tryd.ntmps54
      go_wp2_with (go_at_call 53; refine H1.out.mono ?_; rintro e W1 ⟨rfl, h1⟩; have K1 := Lib.hid h1; clear h1)
      go_end0
      refine ⟨rfl, ?_, K1.out.2⟩
      rw [HE.out]
      have := K1.out.1
      simpa [Lib.byteCells] using this
end Go.Proofs.YtmmjkhkcffgeiaaDoor
