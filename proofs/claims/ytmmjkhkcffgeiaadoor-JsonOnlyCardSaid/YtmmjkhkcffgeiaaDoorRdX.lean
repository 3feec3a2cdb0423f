/- json.Decode. -/
import Derived.Test.YtmmjkhkcffgeiaaDoorRdW
import Derived.Defers
import Derived.Recover
import Derived.Laws.Pointers
namespace Go.Proofs.YtmmjkhkcffgeiaaDoor
open Go Go.RowKit Go.Shelf
set_option linter.unusedVariables false
set_option linter.unusedSimpArgs false

theorem ta_errno (n : Int) (w : World) : (Instr.typeAssert (.iface 25 (.int .u16 n)) 20 25 true).run Tryd.prog w = .ok (.tuple #[.int .u16 n, .bool true]) w := by kernel_rfl
theorem ta_num0 (v : Value) (w : World) : (Instr.typeAssert (.iface 133 v) 20 25 true).run Tryd.prog w = .ok (.tuple #[.int .u16 0, .bool false]) w := by kernel_rfl
theorem ta_num (v : Value) (w : World) : (Instr.typeAssert (.iface 133 v) 20 54 true).run Tryd.prog w = .ok (.tuple #[.iface 133 v, .bool true]) w := by kernel_rfl
theorem slots13 (p v : Value) : #[p] ++ (Array.replicate 12 undef).setIfInBounds 3 v = #[p, undef, undef, undef, v, undef, undef, undef, undef, undef, undef, undef, undef] := rfl
set_option maxHeartbeats 4000000 in
set_option maxRecDepth 100000 in
theorem catch_errno (p : Addr) (x : Int) (n : Int) (older : List PanicEntry) (w : World) (hc : w.cell? p = some (.int .u16 x)) (hz : w.frozen? p = false) :
    CallsD Tryd.prog 23 #[.pointer (some p)] (.panicking ({ v := .iface 25 (.int .u16 n), recovered := false } :: older)) w fun e u' w' =>
      e = .returned (.tuple #[]) ∧ u' = .panicking ({ v := .iface 25 (.int .u16 n), recovered := true } :: older) ∧ w' = w.setCell p (.int .u16 n) := by
  refine callsD_of_wpS Tryd.func23 rfl fun c₀ cs hu => ?_
  apply wpS_seq
  apply wpS_region
  simp [wpOpsS, go_sem, recoverD, hu, Tryd.ntmps23, Exit.thenS]
  refine wpS_of_wp ?_
  rw [slots13]
  have t0 := ta_errno n
  go_wp2
  simp_all [bodyPostS, results, Tryd.results23]
set_option maxHeartbeats 4000000 in
set_option maxRecDepth 100000 in
theorem catch_num (p : Addr) (x : Int) (N : Value) (older : List PanicEntry) (w : World) (hc : w.cell? p = some (.int .u16 x)) (hz : w.frozen? p = false) :
    CallsD Tryd.prog 23 #[.pointer (some p)] (.panicking ({ v := .iface 133 N, recovered := false } :: older)) w fun e u' w' =>
      e = .returned (.tuple #[]) ∧ u' = .panicking ({ v := .iface 133 N, recovered := true } :: older) ∧ w' = w.setCell p (.int .u16 20) := by
  refine callsD_of_wpS Tryd.func23 rfl fun c₀ cs hu => ?_
  apply wpS_seq
  apply wpS_region
  simp [wpOpsS, go_sem, recoverD, hu, Tryd.ntmps23, Exit.thenS]
  refine wpS_of_wp ?_
  rw [slots13]
  have t0 := ta_num0 N
  have t1 := ta_num N
  go_wp2
  simp_all [bodyPostS, results, Tryd.results23]
set_option maxHeartbeats 4000000 in
set_option maxRecDepth 100000 in
theorem catch_none (p : Addr) (w : World) :
    CallsD Tryd.prog 23 #[.pointer (some p)] .returning w fun e u' w' => e = .returned (.tuple #[]) ∧ u' = .returning ∧ w' = w := by
  refine callsD_of_wpS Tryd.func23 rfl fun c₀ cs hu => ?_
  apply wpS_seq
  apply wpS_region
  simp [wpOpsS, go_sem, recoverD, hu, Tryd.ntmps23, Exit.thenS]
  refine wpS_of_wp ?_
  rw [slots13]
  go_wp2
  cases c₀
  simp_all [bodyPostS, results, Tryd.results23]
end Go.Proofs.YtmmjkhkcffgeiaaDoor
