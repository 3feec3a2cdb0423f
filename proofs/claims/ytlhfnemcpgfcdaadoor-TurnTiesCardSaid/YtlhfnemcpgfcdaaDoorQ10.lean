/- Components, as plain mathematics: when one is sound, when it may be done to a value, and what comes of it. -/
import Derived.Test.YtlhfnemcpgfcdaaDoorQ8
import Derived.Test.YtlhfnemcpgfcdaaDoorQ4
import Derived.Test.YtlhfnemcpgfcdaaDoorQ9
namespace Go.Proofs.YtlhfnemcpgfcdaaDoor
open Go Go.RowKit
set_option linter.unusedVariables false
set_option linter.unusedSimpArgs false
structure GC where
 kind:Int
 path:List GStep
 key:ByteArray
 i:Int
 j:Int
 n:Int
 v:GV
 s:ByteArray
def noG:GV:=.mk 0 0 ⟨#[]⟩ [] [] []
def samePB (p q:List GStep):Bool:=decide (p.length=q.length) && Lib.allEq sameStep p q
def GC.Same (a b:GC):Prop:=
 a.kind=b.kind∧a.key.toList=b.key.toList∧a.i=b.i∧a.j=b.j∧a.n=b.n∧a.s.toList=b.s.toList∧samePB a.path b.path=true∧a.v.Same b.v
def GC.Silent (c:GC):Prop:=
 (c.kind=1∨c.kind=9∨c.n=0)∧(c.kind=2∨c.kind=3∨c.key.toList=[])∧(c.kind=2∨c.kind=4∨c.kind=6∨c.v.Same noG)∧(4≤c.kind∨c.i=0)∧(c.kind=7∨c.j=0)∧(c.kind=8∨c.s.toList=[])
def GC.KindOk (c:GC):Prop:=(1≤c.kind∧c.kind≤9)∧c.Silent∧(c.kind=8→c.s.toList≠[]∧valid c.s=true)∧(c.kind=9→1≤c.n)
def GC.ValueOk (c:GC):Prop:=c.v.Sound∧c.path.length+1+c.v.deep≤16∧c.v.weight≤20000
def GC.Sound (c:GC):Prop:=0≤c.i∧0≤c.j∧valid c.key=true∧soundP c.path=true∧c.KindOk∧c.ValueOk
def nChars (s:ByteArray):Nat:=(List.range s.size).countP fun k=>decide (cutS s k<s.size)
theorem count_below (c:Nat):∀ n,(List.range n).countP (fun k=>decide (k<c))=min n c
 | 0=>by simp
 | n+1=>by
  rw [List.range_succ,List.countP_append,count_below c n]
  by_cases h:n<c<;>simp [h]<;>omega
theorem nChars_is {s:ByteArray} {c:Nat} (h:CharsS s c) (hc:c≤s.size):nChars s=c:=by
 unfold nChars
 have e:(fun k=>decide (cutS s k<s.size))=fun k=>decide (k<c):=funext fun k=>by
  have:=Chars.iff (k:=k) h
  unfold cutS
  simp only [this]
 rw [e,count_below]
 omega
theorem nChars_chars (s:ByteArray):CharsS s (nChars s)∧nChars s≤s.size:=by
 obtain ⟨c,hc,h⟩:=charsS_some s
 rw [nChars_is h hc]
 exact ⟨h,hc⟩
def worksOn (k:Int):Int:=if k=1 then 2 else if k=2∨k=3 then 5 else if k=8∨k=9 then 3 else 4
def chkL (n:Int) (k:Int) (i j:Int):Int:=
 if k=4 then (if 0≤i∧i≤n then 0 else 32) else if k=5∨k=6 then (if 0≤i∧i<n then 0 else 32) else if k=7 then (if (0≤i∧i<n)∧0≤j∧j<n then 0 else 32) else 31
def chkH (h:GV) (c:GC):Int:=
 if h.kind≠worksOn c.kind then 31
 else if h.kind=4 then chkL h.items.length c.kind c.i c.j
 else if h.kind=3 then chkT (nChars h.str) c.kind.toNat c.i c.n
 else if c.kind=3∧there c.key h.keys=false then 33 else 0
def doH (h:GV) (c:GC):GV:=
 if c.kind=1 then .mk h.kind (IntKind.i64.wrap (h.num+c.n)) h.str h.items h.keys h.vals
 else if c.kind=2 then (if there c.key h.keys=true then .mk h.kind h.num h.str h.items h.keys (h.vals.set (place c.key h.keys) c.v) else .mk h.kind h.num h.str h.items (insL h.keys (place c.key h.keys) c.key) (insL h.vals (place c.key h.keys) c.v))
 else if c.kind=3 then .mk h.kind h.num h.str h.items (remL h.keys (place c.key h.keys)) (remL h.vals (place c.key h.keys))
 else if c.kind=8 then .mk h.kind h.num (insS h.str c.i.toNat c.s) h.items h.keys h.vals
 else if c.kind=9 then .mk h.kind h.num (delS h.str c.i.toNat c.n.toNat) h.items h.keys h.vals
 else .mk h.kind h.num h.str (doL h.items ⟨c.kind.toNat,c.i.toNat,c.j.toNat,c.v⟩) h.keys h.vals
end Go.Proofs.YtlhfnemcpgfcdaaDoor
