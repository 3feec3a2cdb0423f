/- Texts in one: KeysAt, Walk, WalkT. -/
import Derived.Test.YthmcfjmignlhfaaGreatDoorS10
import Derived.Sort.Walk0
import Derived.Test.YthmcfjmignlhfaaGreatDoorS5
import Derived.Test.YthmcfjmignlhfaaGreatDoorS8
import Derived.Test.YthmcfjmignlhfaaGreatDoorS9
import Derived.Test.YthmcfjmignlhfaaGreatDoorS6
import Derived.BigQuiet
import Derived.Deep.QuietTactic
namespace Go.Proofs.YthmcfjmignlhfaaGreatDoor
open Go Go.RowKit Go.Sort
open Go Go.RowKit
def cellsP (ps:List GStep):List Value:=ps.flatMap encG
theorem zga (ps:List GStep) (s:GStep):cellsP (ps++[s])=cellsP ps++encG s:=by simp [cellsP]
theorem zea:∀ (ps:List GStep) (i:Nat) (s:GStep),ps[i]? = some s->(cellsP ps)[i * 3]? = some (.bool s.list)/\(cellsP ps)[i * 3+1]? = some (.int .i64 s.i)/\(cellsP ps)[i * 3+2]? = some (.string s.key)
 | [],i,s,h=>by simp at h
 | x :: r,0,s,h=>by simp at h;subst h;simp [cellsP,encG]
 | x :: r,i+1,s,h=>by
  have:=zea r i s (by simpa using h)
  have e:cellsP (x :: r)=encG x++cellsP r:=by simp [cellsP]
  rw [e,show (i+1) * 3=i * 3+3 by omega,show i * 3+3+1=i * 3+1+3 by omega,show i * 3+3+2=i * 3+2+3 by omega]
  simpa [encG] using this
theorem zim {W:World} {base:Nat} {v:Value} {ps:List GStep} (h:W.ownsRow base 102 3 v ps.length (cellsP ps)):∃ A c,v=.slice A ps.length c/\ps.length<=c/\c<=maxLen/\Steps W.heap.size W A ps:=by
 rcases h.2 with ⟨rfl,hn⟩ | ⟨g,cap,cur,rfl,hb,hg,h1,h2,h3,h4⟩
 ·exact ⟨none,0,by rw [hn],by omega,by decide,fun hne=>absurd (List.length_eq_zero_iff.1 hn) hne⟩
 ·refine ⟨_,cap,rfl,h1,h2,fun _=>⟨_,rfl,rfl,(Array.getElem?_eq_some_iff.1 hg).1,fun i s hs=>?_⟩⟩
  obtain ⟨e0,e1,e2⟩:=zea ps i s hs;have hc:=fun j u (hj:(cellsP ps)[j]? = some u)=>h.cells (g:=g) rfl j u hj
  simp only [zdT] at hc;exact ⟨hc _ _ e0,hc _ _ e1,hc _ _ e2⟩
theorem zbE {g:GV} (h:g.Sound):SelfOk g/\(∀ x∈g.il,x.Sound)/\∀ x∈g.vz,x.Sound:=by
 cases g with
 | mk k n s l ks ov=>
  simp only [GV.Sound] at h;exact ⟨h.1,(zam l).1 h.2.1,(zam ov).1 h.2.2⟩
theorem infoStep:(Tryz.prog.info? 102).map (fun i=>(i.zero,i.size,i.bytes))=some (some (.agg #[.bool false,.int .i64 0,.string ⟨#[]⟩]),3,32):=by kernel_rfl
theorem zll {ok:Nat->Prop} {W:World} {b o n c k:Nat} {l:List GV} {x:GV} (h:LstV ok W (.slice (some ⟨b,o,none⟩) n c) l) (hk:l[k]? = some x):∃ AL AO cL cO,Spot ok W b (o+k * 5) x AL AO cL cO:=by
 rcases h with ⟨rfl,_⟩ | ⟨b',o',c',he,_,_,_,hE⟩
 ·simp at hk
 ·cases he
  exact (GV.els_get hE hk).spot
theorem zls {ok:Nat->Prop} {W:World} {b o n c k:Nat} {ks:List ByteArray} {l:List GV} {x:GV} (h:ObjV ok W (.slice (some ⟨b,o,none⟩) n c) ks l) (hk:l[k]? = some x):∃ AL AO cL cO,Spot ok W b (o+k * 6+1) x AL AO cL cO:=by
 rcases h.2 with ⟨rfl,_⟩ | ⟨b',o',c',he,_,_,_,_,hE⟩
 ·simp at hk
 ·cases he
  have:=GV.els_get hE hk;rw [show o+1+k * 6=o+k * 6+1 by omega] at this
  exact this.spot
end Go.Proofs.YthmcfjmignlhfaaGreatDoor
