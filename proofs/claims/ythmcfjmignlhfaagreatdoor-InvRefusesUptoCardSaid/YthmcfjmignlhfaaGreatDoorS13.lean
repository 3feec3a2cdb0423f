/- What the statements on paths call, in one form each. -/
import Derived.Test.YthmcfjmignlhfaaGreatDoorS9
import Derived.Test.YthmcfjmignlhfaaGreatDoorS11
import Derived.Test.YthmcfjmignlhfaaGreatDoorS12
import Derived.Test.YthmcfjmignlhfaaGreatDoorS10
namespace Go.Proofs.YthmcfjmignlhfaaGreatDoor
open Go Go.RowKit
structure Wy (W:World) (A:Option Addr) (c:Nat) (ps:List GStep):Prop where
 steps:Steps W.heap.size W A ps
 le:ps.length<=c
 cap:c<=maxLen
theorem Wy.later {W W':World} {A c ps} (h:Wy W A c ps) (hb:Below W.heap.size W W'):Wy W' A c ps:=⟨h.steps.keep hb hb.size,h.le,h.cap⟩
theorem zjw {x g y:GV} {s:GStep} {r:List GStep} (e:g.put x (s :: r)=some y):∃ h z,g.inside s=some h/\h.put x r=some z/\y=g.setIn s z:=by
 simp only [GV.put] at e;cases hi:g.inside s with
 | none=>rw [hi] at e;cases e
 | some h=>
  rw [hi] at e;simp only [Option.bind_some] at e;cases hp:h.put x r with
  | none=>rw [hp] at e;cases e
  | some z=>
   rw [hp] at e;simp only [Option.map_some,Option.some.injEq] at e;exact ⟨h,z,rfl,hp,e.symm⟩
theorem zf8 {g h z:GV} {s:GStep} (hg:g.Sound) (hz:z.Sound) (hi:g.inside s=some h):(g.setIn s z).Sound:=by
 have hne:∀ (l:List GV) (k:Nat) (a:GV),l[k]? = some a->l≠[]:=fun l k a e e2=>by rw [e2] at e;simp at e
 cases g with
 | mk k n zs l ks ov=>
  simp only [GV.Sound,zam] at hg;obtain ⟨⟨h1,h2,h3,h4,h5⟩,hl,ho⟩:=hg;have hm:∀ (l:List GV) (k:Nat),(∀ x∈l,x.Sound)->∀ x∈l.set k z,x.Sound:=fun l k h x hx=>(List.mem_or_eq_of_mem_set hx).elim (h x) (fun e=>e ▸ hz)
  rcases zaI hi with ⟨hs,hk,k',hik,hgx⟩ | ⟨hs,hk,ht,hgx⟩
  ·simp only [GV.kq] at hk
   simp only [GV.setIn,hs,if_true,GV.kq,GV.num,GV.str,GV.il,GV.keys,GV.vz,GV.Sound,zam];exact ⟨⟨h1,h2,h3,.inl hk,h5⟩,hm _ _ hl,ho⟩
  ·simp only [GV.kq] at hk
   simp only [GV.setIn,hs,GV.kq,GV.num,GV.str,GV.il,GV.keys,GV.vz,GV.Sound,zam,Bool.false_eq_true,if_false];refine ⟨⟨h1,h2,h3,h4,.inl ⟨hk,?_⟩⟩,hl,hm _ _ ho⟩
   rcases h5 with h | h
   ·exact h.2
   ·exact absurd hk h.1
theorem zfB {x:GV} (hx:x.Sound):∀ (p:List GStep) (g y:GV),g.Sound->g.put x p=some y->y.Sound
 | [],g,y,_,e=>by simp [GV.put] at e;subst e;exact hx
 | s :: r,g,y,hg,e=>by
  obtain ⟨h,z,hi,hp,rfl⟩:=zjw e;have hh:h.Sound:=by
   rcases zaI hi with ⟨_,_,k',_,hgx⟩ | ⟨_,_,_,hgx⟩
   ·exact (zbE hg).2.1 h (List.mem_of_getElem? hgx)
   ·exact (zbE hg).2.2 h (List.mem_of_getElem? hgx)
  exact zf8 hg (zfB hx r h z hh hp) hi
end Go.Proofs.YthmcfjmignlhfaaGreatDoor
