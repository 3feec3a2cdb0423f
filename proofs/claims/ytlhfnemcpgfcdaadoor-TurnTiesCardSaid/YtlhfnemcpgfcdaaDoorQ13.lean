/- Texts in one: KeysAt, Walk, WalkT. -/
import Derived.Test.YtlhfnemcpgfcdaaDoorQ12
import Derived.Sort.Walk0
import Derived.Test.YtlhfnemcpgfcdaaDoorQ6
import Derived.Test.YtlhfnemcpgfcdaaDoorQ8
import Derived.Test.YtlhfnemcpgfcdaaDoorQ11
import Derived.BigQuiet
import Derived.Deep.QuietTactic
namespace Go.Proofs.YtlhfnemcpgfcdaaDoor
open Go Go.RowKit Go.Sort
theorem bl_trans {x y z:List UInt8} (h1:Op.bytesLess x y=true) (h2:Op.bytesLess y z=true):Op.bytesLess x z=true:=by
 rw [bytesLess_eq,decide_eq_true_eq] at h1 h2 ⊢
 exact List.lt_trans h1 h2
theorem bl_asymm {x y:List UInt8} (h1:Op.bytesLess x y=true):Op.bytesLess y x=false∧(x == y)=false∧(y == x)=false:=by
 have h2:=leq_less y x
 rw [h1] at h2
 have h3:Op.bytesLess y x=false∧(y == x)=false:=by simpa using h2
 refine ⟨h3.1,?_,h3.2⟩
 have:¬ y=x:=by simpa using h3.2
 simpa using fun e=>this e.symm
theorem keys_at (key:ByteArray) {ks:List ByteArray} (h:KeysOk ks) (i:Nat) (x:ByteArray) (hx:ks[i]? = some x):
  (i<place key ks∧Op.bytesLess x.toList key.toList=true∧(x.toList == key.toList)=false∧((i:Int) == (place key ks:Int))=false∧(i == place key ks)=false) ∨
  (i=place key ks∧Op.bytesLess x.toList key.toList=false∧(x.toList == key.toList)=there key ks) ∨
  (¬ i<place key ks∧Op.bytesLess x.toList key.toList=false∧(x.toList == key.toList)=false∧((i:Int) == (place key ks:Int))=false∧(i == place key ks)=false):=by
 have hlen:∀ j y,ks[j]? = some y→j<ks.length:=fun j y hy=>(List.getElem?_eq_some_iff.1 hy).1
 rcases Nat.lt_trichotomy i (place key ks) with hi | hi | hi
 ·have hl:=place_lt key ks i x hx hi
  exact .inl ⟨hi,hl,(bl_asymm hl).2.1,by simp;omega,by simp;omega⟩
 ·subst hi
  exact .inr (.inl ⟨rfl,place_stop key ks x hx,by unfold there;rw [hx]⟩)
 ·have habove:∀ j y,place key ks<j→ks[j]? = some y→Op.bytesLess key.toList y.toList=true:=by
   intro j
   induction j with
   | zero=>intro y hj;omega
   | succ j ih=>
    intro y hj hy
    have hjl:=hlen _ _ hy
    obtain ⟨z, hz⟩ : ∃ z, ks[j]? = some z := ⟨ks[j]'(by omega), List.getElem?_eq_getElem (by omega)⟩
    have hzy:Op.bytesLess z.toList y.toList=true:=(h (j+1) y hjl hy).2 j z rfl hz
    by_cases e:j=place key ks
    ·have hst:Op.bytesLess z.toList key.toList=false:=place_stop key ks z (by rw [← e];exact hz)
     have h2:=leq_less key.toList z.toList
     rw [hst] at h2
     have h3:Op.bytesLess key.toList z.toList=true∨key.toList=z.toList:=by simpa using h2
     rcases h3 with h3 | h3
     ·exact bl_trans h3 hzy
     ·rw [h3];exact hzy
    ·exact bl_trans (ih z (by omega) hz) hzy
  have ha:=bl_asymm (habove i x hi hx)
  exact .inr (.inr ⟨by omega,ha.1,ha.2.2,by simp;omega,by simp;omega⟩)
theorem key_place {ks:List ByteArray} (h:KeysOk ks) {k:Nat} {key:ByteArray} (hk:ks[k]? = some key):place key ks=k∧there key ks=true:=by
 rcases keys_at key h k key hk with ⟨_,_,he,_⟩ | ⟨e,_,ht⟩ | ⟨_,_,he,_⟩
 ·simp at he
 ·exact ⟨e.symm,by rw [← ht];simp⟩
 ·simp at he
open Go Go.RowKit
theorem sound_parts {g:GV} (h:g.Sound):SelfOk g∧(∀ x∈g.items,x.Sound)∧∀ x∈g.vals,x.Sound:=by
 cases g with
 | mk k n s l ks ov=>
  simp only [GV.Sound] at h
  exact ⟨h.1,(sounds_iff l).1 h.2.1,(sounds_iff ov).1 h.2.2⟩
def Clean (s:GStep):Prop:=s.key.size≤1000000000∧(s.list=true→s.key.toList=[])∧(s.list=false→s.i=0)
theorem below_draws (W:World) (n:Nat):Below W.heap.size W (W.drewN n):=⟨rfl,rfl,rfl,Nat.le_refl _,fun _ _=>rfl⟩
theorem infoStep:(Tryd.prog.info? 50).map (fun i=>(i.zero,i.size,i.bytes))=some (some (.agg #[.bool false,.int .i64 0,.string ⟨#[]⟩]),3,32):=by kernel_rfl
end Go.Proofs.YtlhfnemcpgfcdaaDoor
