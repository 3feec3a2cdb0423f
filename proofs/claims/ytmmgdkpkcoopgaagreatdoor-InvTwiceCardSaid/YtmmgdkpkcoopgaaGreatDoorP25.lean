/- What One answers may be done. -/
import Derived.Test.YtmmgdkpkcoopgaaGreatDoorP23
import Derived.Test.YtmmgdkpkcoopgaaGreatDoorP24
namespace Go.Proofs.YtmmgdkpkcoopgaaGreatDoor
open Go Go.RowKit
set_option linter.unusedVariables false
set_option linter.unusedSimpArgs false
theorem zeg {key:ByteArray} {ks:List ByteArray} (h:there key ks=true):∃ k,ks[place key ks]? = some k/\k.toList=key.toList:=by
 unfold there at h;cases hk:ks[place key ks]? with
 | none=>rw [hk] at h;simp at h
 | some k=>rw [hk] at h;exact ⟨k,rfl,by simpa using h⟩
theorem zkE {a b:ByteArray} (h:a.toList=b.toList):valid a=valid b:=by
 have h2:a.data.toList=b.data.toList:=by simpa [ByteArray.toList_eq] using h
 have:a=b:=by
  apply ByteArray.ext
  exact Array.ext' h2
 rw [this]
theorem zl1 {g h:GV} {s:GStep} (hg:g.Sound) (hc:Clean s) (hi:g.inside s=some h):oddB s=false:=by
 rcases zaE hi with ⟨hl,_,k,hik,_⟩ | ⟨hl,hk,ht,_⟩
 ·have h0:=hc.2.1 hl
  have h1:decide (s.i<0)=false:=decide_eq_false (by omega)
  unfold oddB;rw [if_pos hl,h1,h0]
  rfl
 ·obtain ⟨k,hk1,hk2⟩:=zeg ht
  have hv:=(zb7 hg hk _ k (List.getElem?_eq_some_iff.1 hk1).1 hk1).1;rw [zkE hk2] at hv;have h0:=hc.2.2 hl;have hl2:¬ s.list=true:=by rw [hl];exact Bool.false_ne_true
  unfold oddB;rw [if_neg hl2,hv,h0]
  rfl
theorem zjL:∀ (p:List GStep) (g h:GV),g.Sound->(∀ s∈p,Clean s)->g.get p=some h->p.any oddB=false
 | [],_,_,_,_,_=>rfl
 | s :: r,g,h,hg,hc,e=>by
  simp only [GV.get] at e;cases hi:g.inside s with
  | none=>rw [hi] at e;cases e
  | some y=>
   rw [hi] at e;have h1:=zl1 hg (hc s (List.mem_cons_self ..)) hi;have h2:=zjL r y h (zdF hg hi) (fun t ht=>hc t (List.mem_cons_of_mem _ ht)) e
   rw [List.any_cons,h1,h2]
   rfl
theorem zm2 {s:ByteArray} (h:AscB s) (p:Nat) (hp:p<s.size):wdS s p=1:=by
 unfold wdS;have ha : (s[p]'hp).toNat < 128 := h _ (by
  rw [ByteArray.getElem_eq_getElem_data];exact Array.mem_toList_iff.2 (Array.getElem_mem _))
 rw [decode_ascii s p hp ha]
theorem zfA {s:ByteArray} (h:AscB s):∀ k,k<=s.size->cutAt (wdS s) s.size k=k
 | 0,_=>rfl
 | k+1,hk=>by
  rw [cutAt,zfA h k (by omega),if_pos (by omega),zm2 h k (by omega)]
theorem za7 {s:ByteArray} (h:AscB s):nChars s=s.size:=
 zgI ⟨fun k hk=>by rw [zfA h k (by omega)];exact hk,zfA h _ (Nat.le_refl _)⟩ (Nat.le_refl _)
theorem zlT (s:ByteArray):valid (strX++plainB s)=true:=by
 have h1:∀ b∈(strX++plainB s).data.toList,b.toNat<128:=fun b hb=>by
  rw [ByteArray.data_append,Array.toList_append,List.mem_append] at hb;rcases hb with hb | hb
  ·have:b=120:=by simpa [strX] using hb
   subst this
   decide
  ·exact zeJ s b hb
 unfold valid;have h:=Lib.validD_ascii (strX++plainB s).data.toList.length (strX++plainB s).data.toList (fun b hb=>h1 b (by rw [List.take_length] at hb;exact hb))
 rw [h,List.drop_length]
 rfl
theorem zmV (s:ByteArray):(strX++plainB s).toList≠[]:=by
 rw [ByteArray.toList_eq,ByteArray.data_append,Array.toList_append];simp [strX]
theorem zcY {g c m} (h:OneG g c m):Small c:=
 ⟨by have:=h.v.2.2.1;omega,by have:=h.key;omega,by have:=h.s;omega,fun s hs=>by have:=(h.clean s hs).1;omega⟩
theorem zdK {s:ByteArray} (h:s =⟨#[]⟩):s.toList=[]:=by rw [h];exact zaG
theorem zmS {g c} (o:OneG g c 1) (hg:g.Sound) (ha:g.Asc):c.Sound/\∃ h,g.get c.path=some h/\chkH h c=0:=by
 have hf:∃ h,g.get c.path=some h/\Fit h c:=by
  rcases o.fits with h | h
  ·exact absurd h (by decide)
  ·exact h.2
 obtain ⟨h,hget,hfit⟩:=hf;have hsp:soundP c.path=true:=by
  unfold soundP;rw [zjL _ _ _ hg o.clean hget];have:=o.len;simp
  omega
 have hval:c.ValueOk:=⟨o.v.1,by have:=o.v.2.1;have:=o.len;omega,by have:=o.v.2.2.1;omega⟩
 have hha:=zg4 _ _ _ ha hget;have hn:=za7 (s:=h.str) (by cases h with | mk k n z l ks ov=>simp only [GV.Asc] at hha;exact hha.1)
 have hno:noG.Same noG:=zcb noG;have hve:valid (⟨#[]⟩:ByteArray)=true:=by decide
 refine ⟨?_,h,hget,?_⟩
 ·rcases hfit with ⟨k,hk,e1,e2,e3,e4,e5⟩ | ⟨hk,e1,e2,e3,⟨k,⟨a,ea,hea⟩,e4,s,es⟩ | ⟨k,es,a,b,ea,eb,h1,h2⟩⟩ | ⟨hk,e1,e2,e3,k,i,j,ek,ei,ej,h4,h7,hchk,hj,hv⟩ | ⟨hk,e1,e2,e3,e4,hvk,hk2⟩
  ·exact ⟨by omega,by omega,by rw [e1];exact hve,hsp,⟨by omega,⟨.inl k,.inr (.inr (zdK e1)),.inr (.inr (.inr (by rw [e5];exact hno))),.inr e2,.inr e3,.inr (zdK e4)⟩,fun h=>by omega,fun h=>by omega⟩,hval⟩
  ·exact ⟨by omega,by omega,by rw [e1];exact hve,hsp,⟨by omega,⟨.inr (.inr e4),.inr (.inr (zdK e1)),.inr (.inr (.inr (by rw [e3];exact hno))),.inl (by omega),.inr e2,.inl k⟩,fun _=>by rw [es];exact ⟨zmV s,zlT s⟩,fun h=>by omega⟩,hval⟩
  ·exact ⟨by omega,by omega,by rw [e1];exact hve,hsp,⟨by omega,⟨.inr (.inl k),.inr (.inr (zdK e1)),.inr (.inr (.inr (by rw [e3];exact hno))),.inl (by omega),.inr e2,.inr (zdK es)⟩,fun h=>by omega,fun h=>by omega⟩,hval⟩
  ·refine ⟨by omega,by omega,by rw [e1];exact hve,hsp,⟨by omega,⟨.inr (.inr e2),.inr (.inr (zdK e1)),?_,.inl (by omega),?_,.inr (zdK e3)⟩,fun h=>by omega,fun h=>by omega⟩,hval⟩
   ·rcases hv with h | h | h
    ·exact .inr (.inl (by omega))
    ·exact .inr (.inr (.inl (by omega)))
    ·exact .inr (.inr (.inr (by rw [h];exact hno)))
   ·rcases hj with h | h
    ·exact .inl (by omega)
    ·exact .inr (by omega)
  ·refine ⟨by omega,by omega,hvk,hsp,⟨by omega,⟨.inr (.inr e3),by omega,?_,.inr e1,.inr e2,.inr (zdK e4)⟩,fun h=>by omega,fun h=>by omega⟩,hval⟩
   rcases hk2 with h | h
   ·exact .inl h
   ·exact .inr (.inr (.inr (by rw [h.2.2];exact hno)))
 ·unfold chkH worksOn
  rcases hfit with ⟨k,hk,e1,e2,e3,e4,e5⟩ | ⟨hk,e1,e2,e3,⟨k,⟨a,ea,hea⟩,e4,s,es⟩ | ⟨k,es,a,b,ea,eb,h1,h2⟩⟩ | ⟨hk,e1,e2,e3,k,i,j,ek,ei,ej,h4,h7,hchk,hj,hv⟩ | ⟨hk,e1,e2,e3,e4,hvk,hk2⟩
  ·simp [k,hk]
  ·rw [hn,k,hk,ea,if_neg (by decide),if_neg (by decide),if_pos rfl]
   unfold chkT;rw [if_pos (by decide),if_pos (by omega)]
  ·rw [hn,k,hk,ea,eb,if_neg (by decide),if_neg (by decide),if_pos rfl]
   unfold chkT;rw [if_neg (by decide),if_pos (by decide),if_pos (by omega)]
  ·have e1':¬ (c.kq=1):=by omega
   have e2':¬ (c.kq=2\/c.kq=3):=by omega
   have e3':¬ (c.kq=8\/c.kq=9):=by omega
   rw [if_neg e1',if_neg e2',if_neg e3',if_neg (by rw [hk];decide),if_pos hk,ei,ej,ek]
   exact hchk
  ·have e1':¬ (c.kq=1):=by omega
   have e2':c.kq=2\/c.kq=3:=by omega
   rw [if_neg e1',if_pos e2',if_neg (by rw [hk];decide),if_neg (by rw [hk];decide),if_neg (by rw [hk];decide),if_neg]
   rintro ⟨h3,h4⟩
   rcases hk2 with h | h
   ·omega
   ·rw [h.2.1] at h4
    cases h4
end Go.Proofs.YtmmgdkpkcoopgaaGreatDoor
