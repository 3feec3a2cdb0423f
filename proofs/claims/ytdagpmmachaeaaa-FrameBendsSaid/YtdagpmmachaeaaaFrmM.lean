/- Frames, plain mathematics: a number's four bytes; a frame's bytes. -/
import Derived.Test.YtdagpmmachaeaaaSumM
namespace Go.Proofs.Ytdagpmmachaeaaa
set_option linter.unusedVariables false
set_option linter.unusedSimpArgs false

def num4 (n : Nat) : List Int := [(n : Int) / 16777216, (n : Int) / 65536 % 256, (n : Int) / 256 % 256, (n : Int) % 256]
theorem num4_len (n : Nat) : (num4 n).length = 4 := rfl
theorem num4_byte {n : Nat} (h : n < 4294967296) : Byte (num4 n) := fun x hx => by simp only [num4, List.mem_cons, List.not_mem_nil, or_false] at hx; omega
def frameB (bs : List Int) : List Int := num4 bs.length ++ num4 (sumN [num4 bs.length, bs]) ++ bs
theorem frameB_len (bs : List Int) : (frameB bs).length = 8 + bs.length := by simp [frameB, num4_len]; omega
theorem frameB_byte {bs : List Int} (h : Byte bs) (hl : bs.length < 4294967296) : Byte (frameB bs) := ((num4_byte hl).append (num4_byte (sum_lt _))).append h
/-- The number of four bytes. -/
def numOf4 (a b c d : Int) : Int := a * 16777216 + b * 65536 + c * 256 + d
theorem num4_back {n : Nat} (h : n < 4294967296) : numOf4 ((n : Int) / 16777216) ((n : Int) / 65536 % 256) ((n : Int) / 256 % 256) ((n : Int) % 256) = n := by unfold numOf4; omega
theorem frame_none : frameB [] = [0, 0, 0, 0, 33, 68, 223, 28] := by decide +kernel
end Go.Proofs.Ytdagpmmachaeaaa
