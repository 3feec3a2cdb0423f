/- Same and Sound of a component, the program's. -/
import Derived.Test.YtlhfnemcpgfcdaaDoorQ10
import Derived.Test.YtlhfnemcpgfcdaaDoorQ15
import Derived.Test.YtlhfnemcpgfcdaaDoorQ16
import Derived.Laws.StructEq
namespace Go.Proofs.YtlhfnemcpgfcdaaDoor
open Go Go.RowKit
set_option linter.unusedVariables false
set_option linter.unusedSimpArgs false
structure Cc (W:World) (c:GC) (A AL AO:Option Addr) (cp cL cO:Nat):Prop where
 path:Wy W A cp c.path
 v:Vl W c.v AL AO cL cO
theorem Cc.later {W W':World} {c:GC} {A AL AO:Option Addr} {cp cL cO:Nat} (h:Cc W c A AL AO cp cL cO) (hb:Below W.heap.size W W'):Cc W' c A AL AO cp cL cO:=⟨h.path.later hb,h.v.later hb⟩
theorem wy_nil (W:World):Wy W none 0 []:=⟨fun h=>absurd rfl h,Nat.le_refl _,by decide⟩
theorem vl_noG (W:World):Vl W noG none none 0 0:=⟨.inl ⟨rfl,rfl⟩,⟨rfl,.inl ⟨rfl,rfl⟩⟩⟩
structure CTwo (w W:World) (ca cb:Array Value):Prop where
 a:Whole W w.heap.size 36 ca
 b:Whole W (w.heap.size+1) 36 cb
 below:Below w.heap.size w W
theorem CTwo.new (w:World) (ca cb:Array Value):CTwo w ((w.alloc (.cells ca 36)).alloc (.cells cb 36)) ca cb:=
 ⟨(Whole.new w 36 ca).alloc _,by have:=Whole.new (w.alloc (.cells ca 36)) 36 cb;rwa [World.size_alloc] at this,((Below.refl _ _).alloc (Nat.le_refl _) _).alloc (by simp) _⟩
theorem CTwo.step {w W W':World} {ca cb:Array Value} (h:CTwo w W ca cb) (hb:Below W.heap.size W W'):CTwo w W' ca cb:=
 ⟨h.a.below hb h.a.lt,h.b.below hb h.b.lt,h.below.trans (hb.mono h.below.size)⟩
end Go.Proofs.YtlhfnemcpgfcdaaDoor
