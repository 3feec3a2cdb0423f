/- TurnApart, the Go function: it comes out true. -/
import Derived.Test.YtlhfnemcpgfcdaaDoorQ36
import Derived.Test.YtlhfnemcpgfcdaaDoorQ30
import Derived.Test.YtlhfnemcpgfcdaaDoorQ24
import Derived.Lib.QuietBelow
namespace Go.Proofs.YtlhfnemcpgfcdaaDoor
open Go Go.RowKit
open Go.Sort (grow)
set_option linter.unusedVariables false
set_option linter.unusedSimpArgs false
structure AB2 (w W:World) (ca cb:Array Value):Prop where
 a:Whole W w.heap.size 25 ca
 b:Whole W (w.heap.size+1) 25 cb
 below:Below w.heap.size w W
theorem AB2.new (w:World) (ca cb:Array Value):AB2 w ((w.alloc (.cells ca 25)).alloc (.cells cb 25)) ca cb:=
 ⟨(Whole.new w _ ca).alloc _,by have:=Whole.new (w.alloc (.cells ca 25)) 25 cb;rwa [World.size_alloc] at this,((Below.refl _ _).alloc (Nat.le_refl _) _).alloc (by simp) _⟩
theorem AB2.step {w W W':World} {ca cb:Array Value} (h:AB2 w W ca cb) (hb:Below W.heap.size W W'):AB2 w W' ca cb:=
 ⟨h.a.below hb h.a.lt,h.b.below hb h.b.lt,h.below.trans (hb.mono h.below.size)⟩
theorem AB2.alloc {w W:World} {ca cb:Array Value} (h:AB2 w W ca cb) (o:Obj):AB2 w (W.alloc o) ca cb:=h.step (below_alloc W o)
theorem oneG_bd {g:GV} {c:GC} {m:Int} (h:OneG g c m):CBd c:=⟨by have:=h.v.2.2.1;omega,by have:=h.len;omega,by have:=h.key;omega,by have:=h.s;omega,fun s hs=>by have:=(h.clean s hs).1;omega⟩
theorem gc_same' (c:GC):c.Same c:=⟨rfl,rfl,rfl,rfl,rfl,rfl,by
 unfold samePB
 rw [Lib.allEq_all sameStep c.path c.path rfl (fun j hj=>by simp [sameStep])]
 simp,same_refl _⟩
end Go.Proofs.YtlhfnemcpgfcdaaDoor
