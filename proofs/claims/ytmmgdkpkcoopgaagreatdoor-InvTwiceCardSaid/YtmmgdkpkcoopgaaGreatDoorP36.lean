/- Texts in one: InvU, InvV, InvS. -/
import Derived.Test.YtmmgdkpkcoopgaaGreatDoorP35
import Derived.Test.YtmmgdkpkcoopgaaGreatDoorP25
import Derived.Test.YtmmgdkpkcoopgaaGreatDoorLaysR
import Derived.Laws.MakeOwn
import Derived.ArgAppend
import Derived.Shelf.SlicesQ.Reverse
namespace Go.Proofs.YtmmgdkpkcoopgaaGreatDoor
open Go Go.RowKit
set_option linter.unusedVariables false
set_option linter.unusedSimpArgs false
mutual
def GV.Lens:GV->Prop
 | .mk _ _ _ l ks ov=>ks.length=ov.length/\GV.LensS l/\GV.LensS ov
def GV.LensS:List GV->Prop
 | []=>True
 | g :: r=>GV.Lens g/\GV.LensS r
end
theorem zeH:∀ l:List GV,GV.LensS l↔∀ x∈l,x.Lens
 | []=>by simp [GV.LensS]
 | g :: r=>by simp [GV.LensS,zeH r]
mutual
theorem zlW {ok:Nat->Prop} {W:World}:∀ (g:GV) (b off:Nat),GV.at ok W b off g->g.Lens
 | .mk k n s l ks ov,b,off,h=>by
  simp only [GV.at] at h;obtain ⟨L,O,_,_,_,_,_,hl,hk,ho⟩:=h;simp only [GV.Lens];refine ⟨hk,?_,?_⟩
  ·rcases hl with ⟨e,_⟩ | ⟨b',o',c,_,_,_,_,he⟩
   ·subst e;simp [GV.LensS]
   ·exact zcT l b' 5 o' he
  ·rcases ho with ⟨e,_⟩ | ⟨b',o',c,_,_,_,_,_,he⟩
   ·subst e;simp [GV.LensS]
   ·exact zcT ov b' 6 (o'+1) he
theorem zcT {ok:Nat->Prop} {W:World}:∀ (l:List GV) (b step off:Nat),GV.els ok W b step off l->GV.LensS l
 | [],_,_,_,_=>by simp [GV.LensS]
 | g :: r,b,step,off,h=>by
  simp only [GV.els] at h;simp only [GV.LensS];exact ⟨zlW g b off h.1,zcT r b step (off+step) h.2⟩
end
theorem zjX {W g AL AO cL cO} (h:Vl W g AL AO cL cO):g.Lens:=by
 obtain ⟨hL,hO⟩:=h;cases g with
 | mk k n s l ks ov=>
  simp only [GV.Lens];refine ⟨hO.1,?_,?_⟩
  ·rcases hL with ⟨e,_⟩ | ⟨b',o',c,_,_,_,_,he⟩
   ·simp only [GV.il] at e;subst e;simp [GV.LensS]
   ·exact zcT l b' 5 o' he
  ·rcases hO.2 with ⟨e,_⟩ | ⟨b',o',c,_,_,_,_,_,he⟩
   ·simp only [GV.vz] at e;subst e;simp [GV.LensS]
   ·exact zcT ov b' 6 (o'+1) he
theorem zg1 {g h:GV} {s:GStep} (hg:g.Lens) (hi:g.inside s=some h):h.Lens:=by
 cases g with
 | mk k n z l ks ov=>
  simp only [GV.Lens] at hg;rcases zaE hi with ⟨_,_,k',_,hgx⟩ | ⟨_,_,_,hgx⟩
  ·exact (zeH l).1 hg.2.1 h (List.mem_of_getElem? hgx)
  ·exact (zeH ov).1 hg.2.2 h (List.mem_of_getElem? hgx)
theorem zfw:∀ (p:List GStep) (g h:GV),g.Lens->g.get p=some h->h.Lens
 | [],g,h,hg,e=>by simp [GV.get] at e;subst e;exact hg
 | s :: r,g,h,hg,e=>by
  simp only [GV.get] at e;cases hi:g.inside s with
  | none=>rw [hi] at e;cases e
  | some y=>rw [hi] at e;exact zfw r y h (zg1 hg hi) e
theorem zhE {g:GV} (h:g.Lens):g.keys.length=g.vz.length:=by cases g with | mk k n s l ks ov=>simp only [GV.Lens] at h;exact h.1
theorem zml {h:GV} (ha:h.Asc):AscB h.str:=by cases h with | mk k n z l ks ov=>simp only [GV.Asc] at ha;exact ha.1
theorem zeY {W g AL AO cL cO} (h:Vl W g AL AO cL cO) (c:GC):∃ d n,TurnsTo g c d n:=
 ziS g c fun x hx=>zhE (zfw _ _ _ (zjX h) hx)
theorem zk8 {key k':ByteArray} (h:k'.toList=key.toList):k'=key:=by
 have h2:k'.data.toList=key.data.toList:=by simpa [ByteArray.toList_eq] using h
 exact ByteArray.ext (Array.ext' h2)
theorem zlZ {h:GV} {key:ByteArray} (h5:h.kq=5) (hs:h.Sound) (hl:h.keys.length=h.vz.length) (ht:there key h.keys=true):TieV h key:=by
 obtain ⟨k,hk1,hk2⟩:=zeg ht;rw [zk8 hk2] at hk1;exact ⟨h5,hs,hl,hk1⟩
theorem zjQ {h:GV} {key:ByteArray} {v:GV} (hd:(GV.mk h.kq h.num h.str h.il (insL h.keys (place key h.keys) key) (insL h.vz (place key h.keys) v)).Sound) (h5:h.kq=5):place key (insL h.keys (place key h.keys) key)=place key h.keys/\there key (insL h.keys (place key h.keys) key)=true:=
 zgy (zb7 hd h5) (zcM _ _ _ (zbA _ _))
theorem zaU {h:GV} {c:GC} (hf:Fit h c):(c.kq≠2->c.kq≠3->c.key =⟨#[]⟩)/\(c.kq≠8->c.s =⟨#[]⟩)/\(c.kq≠7->c.j=0)/\(c.kq<=3->c.i=0)/\(c.kq≠1->c.kq≠9->c.n=0)/\(c.kq≠2->c.kq≠4->c.kq≠6->c.v=noG):=by
 rcases hf with ⟨k,hk,e1,e2,e3,e4,e5⟩ | ⟨hk,e1,e2,e3,⟨k,⟨a,ea,hea⟩,e4,s,es⟩ | ⟨k,es,a,b,ea,eb,h1,h2⟩⟩ | ⟨hk,e1,e2,e3,k,i,j,ek,ei,ej,h4,h7,hchk,hj,hv⟩ | ⟨hk,e1,e2,e3,e4,hvk,hk2⟩
 ·exact ⟨fun _ _=>e1,fun _=>e4,fun _=>e3,fun _=>e2,fun h=>absurd k h,fun _ _ _=>e5⟩
 ·exact ⟨fun _ _=>e1,fun h=>absurd k h,fun _=>e2,fun h=>by omega,fun _ _=>e4,fun _ _ _=>e3⟩
 ·exact ⟨fun _ _=>e1,fun _=>es,fun _=>e2,fun h=>by omega,fun _ h=>absurd k h,fun _ _ _=>e3⟩
 ·refine ⟨fun _ _=>e1,fun _=>e3,fun h=>?_,fun h=>by omega,fun _ _=>e2,fun h2 h3 h5=>?_⟩
  ·rcases hj with h' | h'
   ·omega
   ·omega
  ·rcases hv with h' | h' | h'
   ·omega
   ·omega
   ·exact h'
 ·refine ⟨fun h h'=>by omega,fun _=>e4,fun _=>e2,fun _=>e1,fun _ _=>e3,fun h2 _ _=>?_⟩
  rcases hk2 with h | h
  ·exact absurd h h2
  ·exact h.2.2
theorem zcV {a b:GC} (h1:a.kq=b.kq) (h2:a.path=b.path) (h3:a.key=b.key) (h4:a.i=b.i) (h5:a.j=b.j) (h6:a.n=b.n) (h7:a.v=b.v) (h8:a.s=b.s):a=b:=by
 cases a;cases b;simp_all
theorem zlh {n:Nat} {k i j:Int} (h:chkL n k i j=0):0<=i/\((k=4/\i<=n)\/((k=5\/k=6)/\i<n)\/(k=7/\i<n/\0<=j/\j<n)):=by
 unfold chkL at h;split at h
 ·split at h
  ·omega
  ·omega
 ·split at h
  ·split at h
   ·omega
   ·omega
  ·split at h
   ·split at h
    ·omega
    ·omega
   ·omega
theorem zkW {h:GV} {c:GC} (hk:4<=c.kq/\c.kq<=7) (e:chkH h c=0):h.kq=4/\chkL h.il.length c.kq c.i c.j=0:=by
 have h1:=zaS e;have h2:worksOn c.kq=4:=by unfold worksOn;rw [if_neg (by omega),if_neg (by omega),if_neg (by omega)]
 rw [h2] at h1;unfold chkH at e;rw [if_neg (by rw [h2,h1];decide),if_pos h1] at e
 exact ⟨h1,e⟩
theorem zbB {h:GV} {c:GC} (hk:4<=c.kq/\c.kq<=7) (h4:h.kq=4) (e:chkL h.il.length c.kq c.i c.j=0):chkH h c=0:=by
 have h2:worksOn c.kq=4:=by unfold worksOn;rw [if_neg (by omega),if_neg (by omega),if_neg (by omega)]
 unfold chkH;rw [if_neg (by rw [h2,h4];decide),if_pos h4]
 exact e
theorem zcA {h:GV} {c:GC} (hk:c.kq=2\/(c.kq=3/\there c.key h.keys=true)) (h5:h.kq=5):chkH h c=0:=by
 have h2:worksOn c.kq=5:=by unfold worksOn;rw [if_neg (by omega),if_pos (by omega)]
 unfold chkH;rw [if_neg (by rw [h2,h5];decide),if_neg (by rw [h5];decide),if_neg (by rw [h5];decide),if_neg]
 rintro ⟨h3,h4⟩
 rcases hk with h | h
 ·omega
 ·rw [h.2] at h4;cases h4
theorem zgK {h:GV} {c:GC} (hk:c.kq=8\/c.kq=9) (e:chkH h c=0):h.kq=3/\chkT (nChars h.str) c.kq.toNat c.i c.n=0:=by
 have h1:=zaS e;have h2:worksOn c.kq=3:=by unfold worksOn;rw [if_neg (by omega),if_neg (by omega),if_pos hk]
 rw [h2] at h1;unfold chkH at e;rw [if_neg (by rw [h2,h1];decide),if_neg (by rw [h1];decide),if_pos h1] at e
 exact ⟨h1,e⟩
theorem zdG {h:GV} {c:GC} (hk:c.kq=8\/c.kq=9) (h3:h.kq=3) (e:chkT (nChars h.str) c.kq.toNat c.i c.n=0):chkH h c=0:=by
 have h2:worksOn c.kq=3:=by unfold worksOn;rw [if_neg (by omega),if_neg (by omega),if_pos hk]
 unfold chkH;rw [if_neg (by rw [h2,h3];decide),if_neg (by rw [h3];decide),if_pos h3]
 exact e
theorem zng {h:GV} {c:GC} (hk:c.kq=8):doH h c=.mk h.kq h.num (insS h.str c.i.toNat c.s) h.il h.keys h.vz:=by
 unfold doH;rw [if_neg (by omega),if_neg (by omega),if_neg (by omega),if_pos hk]
theorem znh {h:GV} {c:GC} (hk:c.kq=9):doH h c=.mk h.kq h.num (delS h.str c.i.toNat c.n.toNat) h.il h.keys h.vz:=by
 unfold doH;rw [if_neg (by omega),if_neg (by omega),if_neg (by omega),if_neg (by omega),if_pos hk]
theorem zni {h:GV} {c:GC} (hk:c.kq=3):doH h c=.mk h.kq h.num h.str h.il (remL h.keys (place c.key h.keys)) (remL h.vz (place c.key h.keys)):=by
 unfold doH;rw [if_neg (by omega),if_neg (by omega),if_pos hk]
theorem zlX {h:GV} {c:GC} (hk:c.kq=1):doH h c=.mk h.kq (IntKind.i64.wrap (h.num+c.n)) h.str h.il h.keys h.vz:=by
 unfold doH;rw [if_pos hk]
theorem zdn {s:ByteArray} (h:AscB s) {k:Nat} (hk:k<=s.size):cutS s k=k:=zfA h k hk
theorem zco {a b:ByteArray} (ha:AscB a) (hb:AscB b):AscB (a++b):=fun x hx=>by
 rw [ByteArray.data_append,Array.toList_append,List.mem_append] at hx;rcases hx with h | h
 ·exact ha x h
 ·exact hb x h
theorem zbv {s:ByteArray} (h:AscB s) (a b:Nat):AscB (s.extract a b):=fun x hx=>by
 apply h x
 rw [ByteArray.data_extract] at hx;simp only [Array.toList_extract,List.extract_eq_take_drop] at hx;exact List.mem_of_mem_drop (List.mem_of_mem_take hx)
theorem zh8 {s t:ByteArray} (hs:AscB s) {a:Nat} (ha:a<=s.size):insS s a t=s.extract 0 a++t++s.extract a s.size:=by
 unfold insS;rw [zdn hs ha]
theorem zlu {s:ByteArray} (hs:AscB s) {a b:Nat} (ha:a+b<=s.size):delS s a b=s.extract 0 a++s.extract (a+b) s.size:=by
 unfold delS;rw [zdn hs (by omega),zdn hs ha]
theorem zfZ {s:ByteArray} (hs:AscB s) {a b:Nat} (ha:a+b<=s.size):partS s a b=s.extract a (a+b):=by
 unfold partS;rw [zdn hs (by omega),zdn hs ha]
theorem zhC {s t:ByteArray} (hs:AscB s) (ht:AscB t) (a:Nat):AscB (insS s a t):=zco (zco (zbv hs _ _) ht) (zbv hs _ _)
theorem zkQ {s:ByteArray} (hs:AscB s) (a b:Nat):AscB (delS s a b):=zco (zbv hs _ _) (zbv hs _ _)
theorem zfL {s t:ByteArray} (hs:AscB s) {a:Nat} (ha:a<=s.size):(insS s a t).size=s.size+t.size:=by
 rw [zh8 hs ha];simp only [ByteArray.size_append,ByteArray.size_extract];omega
theorem zjx {s:ByteArray} (hs:AscB s) {a b:Nat} (ha:a+b<=s.size):(delS s a b).size=s.size - b:=by
 rw [zlu hs ha];simp only [ByteArray.size_append,ByteArray.size_extract];omega
theorem zld {s t:ByteArray} (hs:AscB s) (ht:AscB t) {a:Nat} (ha:a<=s.size):partS (insS s a t) a t.size=t:=by
 rw [zfZ (zhC hs ht a) (by rw [zfL hs ha];omega),zh8 hs ha]
 apply ByteArray.ext
 apply Array.ext'
 simp only [ByteArray.data_extract,ByteArray.data_append,Array.toList_extract,Array.toList_append,List.extract_eq_take_drop];have h1:s.data.toList.length=s.size:=rfl;have h2:t.data.toList.length=t.size:=rfl;simp only [List.drop_zero,Nat.sub_zero];rw [List.append_assoc,List.drop_append_of_le_length (by rw [List.length_take,h1];omega),List.drop_eq_nil_of_le (by rw [List.length_take,h1];omega),List.nil_append,List.take_append_of_le_length (by rw [h2];omega),List.take_of_length_le (by rw [h2];omega)]
end Go.Proofs.YtmmgdkpkcoopgaaGreatDoor
namespace Go.Proofs.YtmmgdkpkcoopgaaGreatDoor
open Go Go.RowKit
set_option linter.unusedVariables false
set_option linter.unusedSimpArgs false
theorem zj2 {c:GC} (hS:c.Sound) (q:c.kq=1) (hv:c.v=noG) (m:Int):(⟨c.kq,c.path,⟨#[]⟩,0,0,m,noG,⟨#[]⟩⟩:GC).Sound:=by
 obtain ⟨_,_,_,hp,_,hval⟩:=hS;have he:(⟨#[]⟩:ByteArray).toList=[]:=zaG;refine ⟨Int.le_refl _,Int.le_refl _,(show valid (⟨#[]⟩:ByteArray)=true by decide),hp,⟨⟨by show 1<=c.kq;omega,by show c.kq<=9;omega⟩,⟨.inl q,.inr (.inr he),.inr (.inr (.inr (zcb _))),.inr rfl,.inr rfl,.inr he⟩,fun h=>?_,fun h=>?_⟩,?_⟩
 ·have:c.kq=8:=h;omega
 ·have:c.kq=9:=h;omega
 ·unfold GC.ValueOk at hval ⊢
  rw [hv] at hval;exact hval
theorem zle (m n:Int):IntKind.i64.wrap (m+wrap64 (-wrap64 (-n)))=IntKind.i64.wrap (m+n):=by
 rw [IntKind.wrap_i64,IntKind.wrap_i64];unfold wrap64;omega
theorem zeF {h:GV} {c:GC} (hk:c.kq=1) (h2:h.kq=2):chkH h c=0:=by
 have h3:worksOn c.kq=2:=by unfold worksOn;rw [if_pos hk]
 unfold chkH;rw [if_neg (by rw [h3,h2];decide),if_neg (by rw [h2];decide),if_neg (by rw [h2];decide),if_neg]
 rintro ⟨h,_⟩
 omega
def Backs (h:GV) (c d:GC):Prop:=chkH (doH h c) d=0/\∃ g,Undo (doH h c) d g/\chkH h g=0/\doH h g=doH h c/\g.Sound/\g.path=c.path
theorem zbq {h:GV} {c d g:GC} (hS:c.Sound) (hck:chkH h c=0) (hk:chkH (doH h c) d=0) (hu:Undo (doH h c) d g) (e:g=c):Backs h c d:=⟨hk,g,hu,by rw [e];exact hck,by rw [e],by rw [e];exact hS,by rw [e]⟩
theorem zmN {h:GV} {c:GC} (hS:c.Sound) (hck:chkH h c=0) (hf:Fit h c) (q:c.kq=1):Backs h c (undo1 h c):=by
 obtain ⟨eK,eS,eJ,eI,eN,eV⟩:=zaU hf;have h2:h.kq=2:=by have:=zaS hck;rw [q] at this;exact this
 refine ⟨?_,undo1 (doH h c) (undo1 h c),.inl ⟨q,rfl⟩,?_,?_,?_,rfl⟩
 ·rw [zlX q]
  exact zeF q h2
 ·exact zeF q h2
 ·rw [zlX (show (undo1 (doH h c) (undo1 h c)).kq=1 from q),zlX q]
  show GV.mk _ (IntKind.i64.wrap (h.num+wrap64 (-wrap64 (-c.n)))) _ _ _ _=_
  rw [zle]
 ·exact zj2 hS q (eV (by omega) (by omega) (by omega)) _
theorem zl4 {h:GV} {c:GC} (hh:h.Sound) (hl:h.keys.length=h.vz.length) (hS:c.Sound) (hck:chkH h c=0) (hf:Fit h c) (q:c.kq=2) (ht:there c.key h.keys=false):Backs h c (undo2n c):=by
 obtain ⟨eK,eS,eJ,eI,eN,eV⟩:=zaU hf;have h5:h.kq=5:=by have:=zaS hck;rw [q] at this;exact this
 have hds:=zec hh hS hck;have hdo:=ziZ (h:=h) (c:=c) q (by rw [ht];exact Bool.false_ne_true)
 rw [hdo] at hds;obtain ⟨hp,hth⟩:=zjQ hds h5;refine zbq hS hck (g:=undo3t (undo2n c) c.v) ?_ ?_ ?_
 ·rw [hdo]
  exact zcA (.inr ⟨rfl,hth⟩) h5
 ·rw [hdo]
  refine .inr (.inr (.inr (.inl ⟨rfl,hth,c.v,?_,rfl⟩)))
  show (insL h.vz (place c.key h.keys) c.v)[place c.key (insL h.keys (place c.key h.keys) c.key)]? = _
  rw [hp];have hlen:place c.key h.keys<=h.vz.length:=by have:=zbA c.key h.keys;omega
  exact zcM _ _ _ hlen
 ·exact zcV q.symm rfl rfl (eI (by omega)).symm (eJ (by omega)).symm (eN (by omega) (by omega)).symm rfl (eS (by omega)).symm
theorem zmn {h:GV} {c:GC} {x:GV} (hh:h.Sound) (hS:c.Sound) (hck:chkH h c=0) (hf:Fit h c) (q:c.kq=2) (ht:there c.key h.keys=true) (hx:h.vz[place c.key h.keys]? = some x):Backs h c (undo2t c x):=by
 obtain ⟨eK,eS,eJ,eI,eN,eV⟩:=zaU hf;have h5:h.kq=5:=by have:=zaS hck;rw [q] at this;exact this
 have hdo:=zhl (h:=h) (c:=c) q ht;refine zbq hS hck (g:=undo2t (undo2t c x) c.v) ?_ ?_ ?_
 ·rw [hdo]
  exact zcA (.inl rfl) h5
 ·rw [hdo]
  refine .inr (.inr (.inl ⟨rfl,ht,c.v,?_,rfl⟩))
  show (h.vz.set (place c.key h.keys) c.v)[place c.key h.keys]? = _
  rw [List.getElem?_set_self (List.getElem?_eq_some_iff.1 hx).1]
 ·exact zcV q.symm rfl rfl (eI (by omega)).symm (eJ (by omega)).symm (eN (by omega) (by omega)).symm rfl (eS (by omega)).symm
theorem zlO {h:GV} {c:GC} {x:GV} (hh:h.Sound) (hl:h.keys.length=h.vz.length) (hS:c.Sound) (hck:chkH h c=0) (hf:Fit h c) (q:c.kq=3) (ht:there c.key h.keys=true) (hx:h.vz[place c.key h.keys]? = some x):Backs h c (undo3t c x):=by
 obtain ⟨eK,eS,eJ,eI,eN,eV⟩:=zaU hf;have h5:h.kq=5:=by have:=zaS hck;rw [q] at this;exact this
 have hV:=zlZ h5 hh hl ht;obtain ⟨hp,hth⟩:=zjk hV;have hdo:=zni (h:=h) (c:=c) q;refine zbq hS hck (g:=undo2n (undo3t c x)) ?_ ?_ ?_
 ·rw [hdo]
  exact zcA (.inl rfl) h5
 ·rw [hdo]
  exact .inr (.inl ⟨rfl,hth,rfl⟩)
 ·exact zcV q.symm rfl rfl (eI (by omega)).symm (eJ (by omega)).symm (eN (by omega) (by omega)).symm (eV (by omega) (by omega) (by omega)).symm (eS (by omega)).symm
theorem zfg {h:GV} {c:GC} (hk:4<=c.kq/\c.kq<=7) (hck:chkH h c=0) (hj:0<=c.j):h.kq=4/\∃ i j:Nat,c.i=i/\c.j=j/\((c.kq=4/\i<=h.il.length)\/((c.kq=5\/c.kq=6)/\i<h.il.length)\/(c.kq=7/\i<h.il.length/\j<h.il.length)):=by
 obtain ⟨h4,hq⟩:=zkW hk hck;obtain ⟨hi,hr⟩:=zlh hq;exact ⟨h4,c.i.toNat,c.j.toNat,by omega,by omega,by omega⟩
theorem zmG {h:GV} {c:GC} (hS:c.Sound) (hck:chkH h c=0) (hf:Fit h c) (q:c.kq=4):Backs h c (undo4 h c):=by
 obtain ⟨eK,eS,eJ,eI,eN,eV⟩:=zaU hf;obtain ⟨h4,i,j,hi,hj,hr⟩:=zfg (by omega) hck hS.2.1
 have hle:i<=h.il.length:=by omega
 have hdo:=zjI (h:=h) (c:=c) (by omega)
 rw [zjH (by show c.kq.toNat=4;omega)] at hdo
 have hit:c.i.toNat=i:=by omega
 simp only [hit] at hdo;refine zbq hS hck (g:=undo5 (undo4 h c) i c.v) ?_ ?_ ?_
 ·rw [hdo]
  refine zbB (by show (4:Int)<=5/\(5:Int)<=7;omega) h4 ?_
  show chkL (insL h.il i c.v).length 5 c.i 0=0
  rw [zd4 _ _ _ hle];unfold chkL;rw [if_neg (by decide),if_pos (by decide),if_pos (by omega)]
 ·rw [hdo]
  refine .inr (.inr (.inr (.inr (.inr (.inl ⟨rfl,i,c.v,hi,?_,rfl⟩)))))
  exact zcM _ _ _ hle
 ·exact zcV q.symm rfl (eK (by omega) (by omega)).symm hi.symm (eJ (by omega)).symm (eN (by omega) (by omega)).symm rfl (eS (by omega)).symm
theorem zmK {h:GV} {c:GC} {i:Nat} {x:GV} (hS:c.Sound) (hck:chkH h c=0) (hf:Fit h c) (q:c.kq=5) (hi:c.i=i) (hx:h.il[i]? = some x):Backs h c (undo5 c i x):=by
 obtain ⟨eK,eS,eJ,eI,eN,eV⟩:=zaU hf;obtain ⟨h4,_,j,_,hj,hr⟩:=zfg (by omega) hck hS.2.1
 have hlt:i<h.il.length:=(List.getElem?_eq_some_iff.1 hx).1;have hdo:=zjI (h:=h) (c:=c) (by omega)
 rw [ziV (by show c.kq.toNat=5;omega)] at hdo
 have hit:c.i.toNat=i:=by omega
 simp only [hit] at hdo;refine zbq hS hck (g:=undo4 (doH h c) (undo5 c i x)) ?_ ?_ ?_
 ·rw [hdo]
  refine zbB (by show (4:Int)<=4/\(4:Int)<=7;omega) h4 ?_
  show chkL (remL h.il i).length 4 i 0=0
  rw [zca _ _ hlt];unfold chkL;rw [if_pos (by decide),if_pos (by omega)]
 ·exact .inr (.inr (.inr (.inr (.inl ⟨rfl,rfl⟩))))
 ·exact zcV q.symm rfl (eK (by omega) (by omega)).symm hi.symm (eJ (by omega)).symm (eN (by omega) (by omega)).symm (eV (by omega) (by omega) (by omega)).symm (eS (by omega)).symm
theorem zmO {h:GV} {c:GC} {i:Nat} {x:GV} (hS:c.Sound) (hck:chkH h c=0) (hf:Fit h c) (q:c.kq=6) (hi:c.i=i) (hx:h.il[i]? = some x):Backs h c (undo6 c i x):=by
 obtain ⟨eK,eS,eJ,eI,eN,eV⟩:=zaU hf;obtain ⟨h4,_,j,_,hj,hr⟩:=zfg (by omega) hck hS.2.1
 have hlt:i<h.il.length:=(List.getElem?_eq_some_iff.1 hx).1;have hdo:=zjI (h:=h) (c:=c) (by omega)
 have hit:c.i.toNat=i:=by omega
 rw [do_set' (by show c.kq.toNat=6;omega) (by show c.i.toNat<_;omega)] at hdo
 simp only [hit] at hdo;refine zbq hS hck (g:=undo6 (undo6 c i x) i c.v) ?_ ?_ ?_
 ·rw [hdo]
  refine zbB (by show 4<=c.kq/\c.kq<=7;omega) h4 ?_
  show chkL (h.il.set i c.v).length c.kq i 0=0
  rw [List.length_set,q];unfold chkL;rw [if_neg (by decide),if_pos (by decide),if_pos (by omega)]
 ·rw [hdo]
  refine .inr (.inr (.inr (.inr (.inr (.inr (.inl ⟨q,i,c.v,rfl,?_,rfl⟩))))))
  show (h.il.set i c.v)[i]? = _
  rw [List.getElem?_set_self hlt]
 ·exact zcV rfl rfl (eK (by omega) (by omega)).symm hi.symm (eJ (by omega)).symm (eN (by omega) (by omega)).symm rfl (eS (by omega)).symm
theorem zmZ {h:GV} {c:GC} (hS:c.Sound) (hck:chkH h c=0) (hf:Fit h c) (q:c.kq=7):Backs h c (undo7 h c):=by
 obtain ⟨eK,eS,eJ,eI,eN,eV⟩:=zaU hf;obtain ⟨h4,i,j,hi,hj,hr⟩:=zfg (by omega) hck hS.2.1
 have hlt:i<h.il.length/\j<h.il.length:=by omega
 have hdo:=zjI (h:=h) (c:=c) (by omega)
 have hlen:=zm8 (l:=h.il) (c:=(⟨c.kq.toNat,c.i.toNat,c.j.toNat,c.v⟩:Cm GV)) (.inr (.inr ⟨by show c.kq.toNat=7;omega,by show c.i.toNat<_;omega,by show c.j.toNat<_;omega⟩))
 rw [if_neg (by show ¬ c.kq.toNat=4;omega),if_neg (by show ¬ c.kq.toNat=5;omega)] at hlen
 refine zbq hS hck (g:=undo7 (doH h c) (undo7 h c)) ?_ ?_ ?_
 ·rw [hdo]
  refine zbB (by show 4<=c.kq/\c.kq<=7;omega) h4 ?_
  show chkL (doL h.il ⟨c.kq.toNat,c.i.toNat,c.j.toNat,c.v⟩).length c.kq c.j c.i=0
  rw [hlen,q];unfold chkL;rw [if_neg (by decide),if_neg (by decide),if_pos rfl,if_pos (by omega)]
 ·exact .inr (.inr (.inr (.inr (.inr (.inr (.inr (.inl ⟨q,rfl⟩)))))))
 ·exact zcV rfl rfl (eK (by omega) (by omega)).symm rfl rfl (eN (by omega) (by omega)).symm (eV (by omega) (by omega) (by omega)).symm (eS (by omega)).symm
theorem zmF {h:GV} {c:GC} (ha:AscB h.str) (hcs:AscB c.s) (hS:c.Sound) (hck:chkH h c=0) (hf:Fit h c) (q:c.kq=8):Backs h c (undo8 h c):=by
 obtain ⟨eK,eS,eJ,eI,eN,eV⟩:=zaU hf;obtain ⟨h3,hq⟩:=zgK (.inl q) hck;have hn:=za7 ha;have hm:=za7 hcs;have hne:1<=c.s.size:=by
  rcases Nat.eq_zero_or_pos c.s.size with e | e
  ·have h8:=(hS.2.2.2.2.1.2.2.1 q).1
   have:c.s.data.toList=[]:=List.eq_nil_of_length_eq_zero (by simpa using e)
   rw [ByteArray.toList_eq] at h8;exact absurd this h8
  ·exact e
 obtain ⟨a,hi,hle,_⟩:=zer hq;rw [hn] at hle;have hit:c.i.toNat=a:=by omega
 have hdo:=zng (h:=h) (c:=c) q;rw [hit] at hdo;have hsz:=zfL (t:=c.s) ha hle;have hasc:=zhC ha hcs a;refine zbq hS hck (g:=undo9 (doH h c) (undo8 h c)) ?_ ?_ ?_
 ·rw [hdo]
  refine zdG (.inr rfl) h3 ?_
  show chkT (nChars (insS h.str a c.s)) 9 c.i (nChars c.s)=0
  rw [za7 hasc,hsz,hm];unfold chkT;rw [if_neg (by decide),if_pos rfl,if_pos (by omega)]
 ·refine .inr (.inr (.inr (.inr (.inr (.inr (.inr (.inr (.inr ⟨rfl,?_,⟨?_,?_,?_⟩,rfl⟩))))))))
  ·rw [hdo];exact h3
  ·show 0<=c.i;omega
  ·show (1:Int)<=nChars c.s;rw [hm];omega
  ·rw [hdo]
   show c.i.toNat+((nChars c.s:Nat):Int).toNat<=nChars (insS h.str a c.s)
   rw [za7 hasc,hsz,hm];omega
 ·refine zcV q.symm rfl (eK (by omega) (by omega)).symm rfl (eJ (by omega)).symm (eN (by omega) (by omega)).symm (eV (by omega) (by omega) (by omega)).symm ?_
  show partS (doH h c).str c.i.toNat ((nChars c.s:Nat):Int).toNat=c.s
  rw [hdo,hit,hm];exact zld ha hcs hle
theorem zm0 {h:GV} {c:GC} (ha:AscB h.str) (hS:c.Sound) (hck:chkH h c=0) (hf:Fit h c) (q:c.kq=9):Backs h c (undo9 h c):=by
 obtain ⟨eK,eS,eJ,eI,eN,eV⟩:=zaU hf;obtain ⟨h3,hq⟩:=zgK (.inr q) hck;have hn:=za7 ha;obtain ⟨a,hi,hle,h8 | ⟨_,b,hb,hb1,hab⟩⟩:=zer hq
 ·exact absurd h8 (by omega)
 rw [hn] at hle hab;have hit:c.i.toNat=a:=by omega
 have hnt:c.n.toNat=b:=by omega
 have hdo:=znh (h:=h) (c:=c) q;rw [hit,hnt] at hdo;have hsz:=zjx ha hab;have hasc:=zkQ ha a b;have hps:partS h.str a b=h.str.extract a (a+b):=zfZ ha hab;have hpa:AscB (partS h.str a b):=by rw [hps];exact zbv ha _ _
 have hpn:(partS h.str a b).size=b:=by rw [hps];simp only [ByteArray.size_extract];omega
 refine zbq hS hck (g:=undo8 (doH h c) (undo9 h c)) ?_ ?_ ?_
 ·rw [hdo]
  refine zdG (.inl rfl) h3 ?_
  show chkT (nChars (delS h.str a b)) 8 c.i 0=0
  rw [za7 hasc,hsz];unfold chkT;rw [if_pos rfl,if_pos (by omega)]
 ·exact .inr (.inr (.inr (.inr (.inr (.inr (.inr (.inr (.inl ⟨rfl,rfl⟩))))))))
 ·refine zcV q.symm rfl (eK (by omega) (by omega)).symm rfl (eJ (by omega)).symm ?_ (eV (by omega) (by omega) (by omega)).symm (eS (by omega)).symm
  show ((nChars (partS h.str c.i.toNat c.n.toNat):Nat):Int)=c.n
  rw [hit,hnt,za7 hpa,hpn,hb]
theorem zi8 {h:GV} {c d:GC} (hh:h.Sound) (hl:h.keys.length=h.vz.length) (ha:AscB h.str) (hcs:AscB c.s) (hf:Fit h c) (hS:c.Sound) (hck:chkH h c=0) (hu:Undo h c d):Backs h c d:=by
 rcases hu with ⟨q,rfl⟩ | ⟨q,ht,rfl⟩ | ⟨q,ht,x,hx,rfl⟩ | ⟨q,ht,x,hx,rfl⟩ | ⟨q,rfl⟩ | ⟨q,i,x,hi,hx,rfl⟩ | ⟨q,i,x,hi,hx,rfl⟩ | ⟨q,rfl⟩ | ⟨q,rfl⟩ | ⟨q,_,_,rfl⟩
 ·exact zmN hS hck hf q
 ·exact zl4 hh hl hS hck hf q ht
 ·exact zmn hh hS hck hf q ht hx
 ·exact zlO hh hl hS hck hf q ht hx
 ·exact zmG hS hck hf q
 ·exact zmK hS hck hf q hi hx
 ·exact zmO hS hck hf q hi hx
 ·exact zmZ hS hck hf q
 ·exact zmF ha hcs hS hck hf q
 ·exact zm0 ha hS hck hf q
end Go.Proofs.YtmmgdkpkcoopgaaGreatDoor
namespace Go.Proofs.YtmmgdkpkcoopgaaGreatDoor
open Go Go.RowKit
open Go.Sort (putRowK HoldsK flatK setMany)
set_option linter.unusedVariables false
set_option linter.unusedSimpArgs false
def encE (e:EC):List Value:=[.int .u8 e.c.kq,.slice e.A e.c.path.length e.cp,.string e.c.key,.int .i64 e.c.i,.int .i64 e.c.j,.int .i64 e.c.n,.int .u8 e.c.v.kq,.int .i64 e.c.v.num,.string e.c.v.str,.slice e.AL e.c.v.il.length e.cL,.slice e.AO e.c.v.vz.length e.cO,.string e.c.s]
theorem zbp (e:EC):(encE e).length=12:=rfl
theorem zh5 (e:EC):∀ u∈encE e,u.oneCell'=true:=by
 intro u hu;simp only [encE,List.mem_cons,List.mem_nil_iff,or_false] at hu;rcases hu with rfl | rfl | rfl | rfl | rfl | rfl | rfl | rfl | rfl | rfl | rfl | rfl<;>rfl
instance:Inhabited EC:=⟨⟨noC,none,0,none,0,none,0⟩⟩
theorem zf4:∀ fs:List EC,(fs.flatMap encE).length=fs.length * 12
 | []=>rfl
 | e :: r=>by rw [List.flatMap_cons,List.length_append,zf4 r,zbp,List.length_cons];omega
theorem zf9:∀ (fs:List EC) (t:Nat),t<fs.length * 12->(fs.flatMap encE)[t]? = some ((encE fs.toArray[t / 12]!)[t % 12]!)
 | [],t,h=>by simp at h
 | e :: r,t,h=>by
  rw [List.flatMap_cons,List.getElem?_append,zbp];by_cases h12:t<12
  ·rw [if_pos h12]
   have h0:t / 12=0:=by omega
   have h1:t % 12=t:=by omega
   rw [h0,h1];have:t<(encE e).length:=by rw [zbp];exact h12
   rw [List.getElem?_eq_getElem this];simp [this]
  ·rw [if_neg h12,zf9 r (t - 12) (by rw [List.length_cons] at h;omega)]
   have h0:t / 12=(t - 12) / 12+1:=by omega
   have h1:(t - 12) % 12=t % 12:=by omega
   rw [h0,h1];simp
structure Gath (W:World) (b n:Nat) (fs:List EC):Prop where
 row:∃ cs:Array Value,Whole W b 45 cs/\cs.size=n * 12/\∀ (t:Nat) (u:Value),(fs.flatMap encE)[t]? = some u->cs[t]? = some u
 le:fs.length<=n
theorem Gath.lt {W b n} {fs:List EC} (h:Gath W b n fs):b<W.heap.size:=by obtain ⟨cs,hw,_⟩:=h.row;exact hw.lt
theorem Gath.below {N:Nat} {W W':World} {b n} {fs:List EC} (h:Gath W b n fs) (hb:Below N W W') (hN:b<N):Gath W' b n fs:=by
 obtain ⟨cs,hw,h2⟩:=h.row;exact ⟨⟨cs,hw.below hb hN,h2⟩,h.le⟩
theorem Gath.far {W b n} {fs:List EC} (h:Gath W b n fs) {p:Addr} (hp:b≠p.block) (u:Value):Gath (W.setCell p u) b n fs:=by
 obtain ⟨cs,hw,h2⟩:=h.row;exact ⟨⟨cs,hw.far hp u,h2⟩,h.le⟩
theorem za5 {b k:Nat} (hk:k≠b):∀ (vs:List Value) (o:Nat) (W:World),(W.setCells b o vs).heap[k]? = W.heap[k]?
 | [],_,_=>rfl
 | v :: r,o,W=>by rw [World.setCells,za5 hk r (o+1) _,Below.heap_setCell _ _ _ _ hk]
theorem zcx {N b:Nat} (hN:N<=b):∀ (vs:List Value) (o:Nat) (w W:World),Below N w W->Below N w (W.setCells b o vs)
 | [],_,_,_,h=>h
 | v :: r,o,w,W,h=>zcx hN r (o+1) w _ (h.setCell (p:=⟨b,o,none⟩) hN v)
theorem zcS (b:Nat):∀ (vs:List Value) (o:Nat) (W:World),(W.setCells b o vs).heap.size=W.heap.size
 | [],_,_=>rfl
 | v :: r,o,W=>by rw [World.setCells,zcS b r (o+1) _,zaW]
theorem zcy {b:Nat} {t:TypeId}:∀ (vs:List Value) (o:Nat) (W:World) (cs:Array Value),Whole W b t cs->Whole (W.setCells b o vs) b t (setMany cs o vs)
 | [],_,_,_,h=>h
 | v :: r,o,W,cs,h=>zcy r (o+1) _ _ (h.put o v)
theorem zea:∀ (vs:List Value) (o:Nat) (cs:Array Value) (t:Nat),o+vs.length<=cs.size->(setMany cs o vs)[t]? = if o<=t/\t<o+vs.length then vs[t - o]? else cs[t]?
 | [],o,cs,t,_=>by simp [setMany];omega
 | v :: r,o,cs,t,h=>by
  simp only [List.length_cons] at h ⊢;rw [setMany,zea r (o+1) _ t (by simp;omega)]
  by_cases h1:o+1<=t/\t<o+1+r.length
  ·rw [if_pos h1,if_pos (by omega),show t - o=(t - (o+1))+1 by omega,List.getElem?_cons_succ]
  ·rw [if_neg h1,Array.getElem?_setIfInBounds]
   by_cases h2:o=t
   ·subst h2
    rw [if_pos rfl,if_pos (by omega),if_pos (by omega),Nat.sub_self,List.getElem?_cons_zero]
   ·rw [if_neg h2,if_neg (by omega)]
theorem zlc {W b n} {fs:List EC} (h:Gath W b n fs) (hn:fs.length<n) (e:EC):Gath (W.setCells b (fs.length * 12) (encE e)) b n (fs++[e]):=by
 obtain ⟨cs,hw,hs,hg⟩:=h.row;refine ⟨⟨_,zcy _ _ _ _ hw,by rw [Go.Sort.size_setMany];exact hs,fun t u ht=>?_⟩,by rw [List.length_append];simp;omega⟩
 rw [zea _ _ _ _ (by rw [zbp,hs];omega),zbp]
 rw [List.flatMap_append,List.getElem?_append,zf4,List.flatMap_cons,List.flatMap_nil,List.append_nil] at ht;by_cases h1:t<fs.length * 12
 ·rw [if_neg (by omega)]
  rw [if_pos h1] at ht;exact hg t u ht
 ·rw [if_neg h1] at ht
  have:t - fs.length * 12<(encE e).length:=(List.getElem?_eq_some_iff.1 ht).1;rw [zbp] at this;rw [if_pos (by omega)]
  exact ht
theorem infoCompG:(Tryz.prog.info? 45).map (fun i=>(i.zero,i.size,i.bytes))=some (some (.agg #[.int .u8 0,.slice none 0 0,.string ⟨#[]⟩,.int .i64 0,.int .i64 0,.int .i64 0,.int .u8 0,.int .i64 0,.string ⟨#[]⟩,.slice none 0 0,.slice none 0 0,.string ⟨#[]⟩]),12,168):=by kernel_rfl
theorem zgZ {W} {b n S:Nat} {fs:List EC} (h:Gath W b n fs) (hn:fs.length<n) (e:EC) (hS:Whole W S 45 (encE e).toArray) (ty:TypeId):
  (Builtin.append_ #[31,31] ty #[.slice (some ⟨b,0,none⟩) fs.length n,.slice (some ⟨S,0,none⟩) 1 1]).run Tryz.prog W=.ok (.slice (some ⟨b,0,none⟩) (fs.length+1) n) (W.setCells b (fs.length * 12) (encE e)):=by
 obtain ⟨i0,hi,hz0,hz1,hz2⟩:=info_parts infoCompG;obtain ⟨cs,hw,hs,hg⟩:=h.row;have hr:=run_append_room_cells (P:=Tryz.prog) (w:=W) 31 ty 45 i0 Tryz.underlying31 hi b 0 fs.length n ⟨S,0,none⟩ 1 1 (encE e) (by rw [hz1,zbp]) (fun j u hj=>by
   have e1:(⟨S,0,none⟩:Addr).add j =⟨S,j,none⟩:=by unfold Addr.add;split<;>simp_all
   rw [e1,hS.cell]
   simpa using hj) (zh5 e) (by omega) (fun j hj=>by
   rw [zbp] at hj;rw [hz1,hw.cell,Array.getElem?_eq_getElem (by rw [hs];omega)]
   rfl) (fun j hj=>hw.frozen _)
 rw [hz1,Nat.zero_add] at hr;exact hr
theorem zi1 (n:Nat) (hn:n<=200) (w:World):(Instr.makeSlice 31 (.int .i64 0) (.int .i64 (n:Int))).run Tryz.prog w=.ok (.slice (some ⟨w.heap.size,0,none⟩) 0 n) (w.alloc (.cells (madeCells (Value.cells (.agg #[.int .u8 0,.slice none 0 0,.string ⟨#[]⟩,.int .i64 0,.int .i64 0,.int .i64 0,.int .u8 0,.int .i64 0,.string ⟨#[]⟩,.slice none 0 0,.slice none 0 0,.string ⟨#[]⟩])) (n * 12)) 45)):=by
 obtain ⟨i0,hi,hz0,hz1,hz2⟩:=info_parts infoCompG;have:=run_make (P:=Tryz.prog) (w:=w) 31 45 i0 _ Tryz.underlying31 hi hz0 .i64 .i64 0 n (by omega) (by omega) (by rw [hz2];omega) (by omega)
 simpa [hz1] using this
theorem zlb (n:Nat) (w:World) (z:Array Value):Gath (w.alloc (.cells (madeCells z (n * 12)) 45)) w.heap.size n []:=
 ⟨⟨_,Whole.new w _ _,size_madeCells _ _,fun t u ht=>by simp at ht⟩,Nat.zero_le _⟩
theorem Gath.holds {W b} {fs:List EC} (h:Gath W b fs.length fs):HoldsK encE 12 W b 0 fs.toArray:=by
 obtain ⟨cs,hw,hs,hg⟩:=h.row;intro t ht;rw [Go.Sort.size_flatK,List.size_toArray] at ht;rw [Nat.zero_add,hw.cell,Go.Sort.get_flatK _ _ _ _ (by simpa using ht)]
 exact ⟨hg t _ (zf9 fs t ht),hw.frozen _⟩
theorem zde {α:Type} [Inhabited α] (enc:α->List Value) (k:Nat) (w:World) (b o:Nat) (d:Array α) {q:Nat} (hq:q≠b):(putRowK enc k w b o d).heap[q]? = w.heap[q]?:=by
 unfold putRowK Go.Sort.putRow Go.Sort.mapBlock;simp only [Array.getElem?_modify];rw [if_neg (fun e=>hq e.symm)]
theorem zfH {α:Type} [Inhabited α] (enc:α->List Value) (k:Nat) (w:World) (m b o:Nat) (d:Array α) {N:Nat} (hN:N<=b):Below N w (putRowK enc k (Go.Sort.ahead w m) b o d):=
 ⟨rfl,rfl,rfl,by unfold putRowK;rw [Go.Sort.size_putRow];exact Nat.le_refl _,fun q hq=>zde enc k _ b o d (by omega)⟩
theorem ziO {α:Type} [Inhabited α] (enc:α->List Value) (k:Nat) (w:World) (m b o:Nat) (d:Array α):Kp (b+1) w (putRowK enc k (Go.Sort.ahead w m) b o d):=
 ⟨by unfold putRowK;rw [Go.Sort.size_putRow];exact Nat.le_refl _,fun q hq _=>zde enc k _ b o d (by omega)⟩
def EC.New (n:Nat) (W:World) (e:EC):Prop:=CcNew n W e.c e.A e.AL e.AO e.cp e.cL e.cO/\Small e.c
theorem EC.New.kp {n m:Nat} {W W':World} {e:EC} (h:e.New n W) (hm:m<=n) (hk:Kp n W W'):e.New m W':=⟨h.1.kp hm hk,h.2⟩
theorem EC.New.ok {n:Nat} {W:World} {e:EC} (h:e.New n W):e.Ok W:=⟨h.1.cc,h.2⟩
theorem zhr {W} {m b:Nat} {fs:List EC} (h:Gath W b fs.length fs) (hn:fs.length<=200) (hp:∀ e∈fs,e.New (b+1) W):
  Ops (putRowK encE 12 (Go.Sort.ahead W m) b 0 fs.toArray.reverse) (some ⟨b,0,none⟩) fs.length fs.reverse:=by
 have hH:=Go.Sort.holdsK_putRowK encE 12 (Go.Sort.ahead W m) b 0 fs.toArray fs.toArray.reverse (Go.Sort.holdsK_ahead encE 12 W m b 0 fs.toArray h.holds) (by simp)
 have hk:=ziO encE 12 W m b 0 fs.toArray.reverse;refine ⟨fun hne=>⟨b,0,rfl,Nat.lt_of_lt_of_le h.lt hk.1,fun i e he=>?_⟩,by simp,by unfold maxLen;omega⟩
 obtain ⟨hi,hie⟩:=List.getElem?_eq_some_iff.1 he;have hmem:e∈fs:=by have:=List.getElem_mem hi;rw [hie] at this;simpa using this
 have hi2:i<fs.toArray.reverse.size:=by simpa using hi
 have hg:fs.toArray.reverse[i]! = e:=by
  rw [getElem!_pos _ i hi2];have:fs.toArray.reverse=fs.reverse.toArray:=by simp
  simp only [this]
  simpa using hie
 have hc:∀ c,c<12->(putRowK encE 12 (Go.Sort.ahead W m) b 0 fs.toArray.reverse).cell? ⟨b,0+i * 12+c,none⟩=some (encE e)[c]!:=fun c hc=>by
  have:=(Go.Sort.HoldsK.cell hH hi2 hc).1;rw [hg] at this;exact this
 exact ⟨⟨hc 0 (by decide),hc 1 (by decide),hc 2 (by decide),hc 3 (by decide),hc 4 (by decide),hc 5 (by decide),hc 6 (by decide),hc 7 (by decide),hc 8 (by decide),hc 9 (by decide),hc 10 (by decide),hc 11 (by decide)⟩,((hp e hmem).kp (Nat.le_refl _) hk).ok⟩
theorem zgs {W b} {fs:List EC} (cap:Nat) (h:Gath W b fs.length fs) (hn:fs.length<=200):
  Calls Tryz.prog 18 #[.slice (some ⟨b,0,none⟩) fs.length cap] W fun e w'=>e=.returned (.tuple #[])/\∃ m,w'=putRowK encE 12 (Go.Sort.ahead W m) b 0 fs.toArray.reverse:=by
 have:=AnyQ.slices_Reverse Tryz.reverseC 12 Tryz.isAgg45 Tryz.sizeOf45 encE zbp zh5 b 0 cap fs.toArray W h.holds (by simp;omega)
 rw [List.size_toArray] at this;exact this
def Came:GV->List EC->List GC->GV->Prop
 | g,[],ds,y=>ds=[]/\y=g
 | g,e :: r,ds,y=>∃ d z dr,TurnsTo g e.c d 0/\Does1 g e.c z/\ds=d :: dr/\Came z r dr y
theorem Came.snoc {e:EC} {d:GC} {z:GV}:∀ {es:List EC} {ds:List GC} {g y:GV},Came g es ds y->TurnsTo y e.c d 0->Does1 y e.c z->Came g (es++[e]) (ds++[d]) z
 | [],ds,g,y,⟨h1,h2⟩,ht,hd=>by subst h1 h2;exact ⟨d,z,[],ht,hd,rfl,rfl,rfl⟩
 | _ :: r,_,g,y,⟨d',x,dr,h1,h2,h3,h4⟩,ht,hd=>by subst h3;exact ⟨d',x,dr++[d],h1,h2,rfl,h4.snoc ht hd⟩
theorem zjP {g y z:GV} {es:List EC} {ds:List GC} {k:Nat} {E:EC} {d} (h:Came g (es.take k) ds y) (hE:es[k]? = some E) (ht:TurnsTo y E.c d 0) (hd:Does1 y E.c z):Came g (es.take (k+1)) (ds++[d]) z:=by
 obtain ⟨hk,rfl⟩:=List.getElem?_eq_some_iff.1 hE;rw [List.take_succ_eq_append_getElem hk];exact h.snoc ht hd
theorem ze2 {g c d} (ht:TurnsTo g c d 0):ChkIs g c 0:=by
 rcases ht with ⟨h,_⟩ | ⟨_,_,h,_⟩
 ·exact absurd rfl h
 ·exact h
end Go.Proofs.YtmmgdkpkcoopgaaGreatDoor
