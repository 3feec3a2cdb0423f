/- What the statements on paths call, in one form each. -/
import Derived.Test.YtamlaknfakaanaaGreatDoorQ10
import Derived.Test.YtamlaknfakaanaaGreatDoorQ12
import Derived.Test.YtamlaknfakaanaaGreatDoorQ13
import Derived.Test.YtamlaknfakaanaaGreatDoorQ11
namespace Go.Proofs.YtamlaknfakaanaaGreatDoor
open Go Go.RowKit
structure Wy (W : World) (A : Option Addr) (c : Nat) (ps : List GStep) : Prop where
  steps : Steps W.heap.size W A ps
  le : ps.length ≤ c
  cap : c ≤ maxLen
theorem Wy.later {W W' : World} {A : Option Addr} {c : Nat} {ps : List GStep} (h : Wy W A c ps) (hb : Below W.heap.size W W') : Wy W' A c ps := ⟨h.steps.keep hb hb.size, h.le, h.cap⟩
def ValOk (g : GV) (W : World) (e : Ending) (w' : World) : Prop :=
  ∃ BL BO dL dO, e = .returned (.tuple #[.agg #[.int .u8 g.kind, .int .i64 g.num, .string g.str, .slice BL g.items.length dL, .slice BO g.vals.length dO], .int .u16 0]) ∧ Vl w' g BL BO dL dO ∧ Below W.heap.size W w'
end Go.Proofs.YtamlaknfakaanaaGreatDoor

