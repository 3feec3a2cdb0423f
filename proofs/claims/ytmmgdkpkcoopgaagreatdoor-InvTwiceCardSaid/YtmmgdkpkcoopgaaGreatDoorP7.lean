/- The document's own Sound: what it comes to for a value, whatever it is. -/
import Derived.Test.YtmmgdkpkcoopgaaGreatDoorP3
import Derived.Test.YtmmgdkpkcoopgaaGreatDoorP1
import Derived.BigQuiet
import Derived.Lib.QuietBelow
import Derived.Deep.CutRange
import Derived.Deep.DeepCutAuto
set_option maxRecDepth 100000
set_option maxHeartbeats 8000000
namespace Go.Proofs.YtmmgdkpkcoopgaaGreatDoor
open Go.Lib(hid)
open Go Go.RowKit Go.Shelf Go.Sort
theorem zap:∀ (l:List GV),GV.Sounds l↔∀ x∈l,x.Sound
 | []=>by simp [GV.Sounds]
 | x :: r=>by simp [GV.Sounds,zap r]
def SoundTo (l:List GV) (k:Nat):Prop:=∀ (i:Nat) (x:GV),i<k->l[i]? = some x->x.Sound
theorem SoundTo.succ {l:List GV} {k:Nat} (h0:SoundTo l k) {x:GV} (hx:l[k]? = some x) (hs:x.Sound):SoundTo l (k+1):=fun i a hi ha=>by
 by_cases e:i=k
 ·subst e;rw [hx] at ha;cases ha;exact hs
 ·exact h0 i a (by omega) ha
theorem zev {l:List GV}:GV.Sounds l↔SoundTo l l.length:=by
 rw [zap];constructor
 ·intro h i x _ hx;exact h x (List.mem_of_getElem? hx)
 ·intro h x hx
  obtain ⟨i,hi,rfl⟩:=List.mem_iff_getElem.1 hx;exact h i _ hi (List.getElem?_eq_getElem hi)
def HeadA (gk:Int) (gs:ByteArray) (nl no:Nat):Prop:=gk<=5/\(gk=3\/gs.toList=[])/\(gk=4\/nl=0)/\(gk=5\/no=0)
def HeadB (gk gn:Int) (gs:ByteArray):Prop:=(gk=2\/gn=0\/gk=1/\gn=1)/\valid gs=true
theorem zcB (s:ByteArray):s.toList=s.data.toList:=ByteArray.toList_eq s
theorem zbK (n:Nat):(Hid (n=0)/\decide ((0:Int)<(n:Int))=false/\decide (0<n)=false)\/0<n:=by
 rcases Nat.eq_zero_or_pos n with h | h
 ·subst h;exact .inl ⟨hid rfl,by simp,by simp⟩
 ·exact .inr h
theorem zbw (s:ByteArray):s.toList=[]\/(s.toList≠[]/\s.toList.isEmpty=false):=by
 by_cases h:s.toList=[]
 ·exact .inl h
 ·exact .inr ⟨h,by simpa using h⟩
theorem zjM (n:Int):n=0\/n=1\/((n == 0)=false/\(n != 0)=true/\(n == 1)=false/\(n != 1)=true/\Hid (n≠0/\n≠1)):=by
 by_cases h:n=0
 ·exact .inl h
 by_cases h1:n=1
 ·exact .inr (.inl h1)
 exact .inr (.inr ⟨by simpa using h,by simpa using h,by simpa using h1,by simpa using h1,hid ⟨h,h1⟩⟩)
theorem zcl:∀ (x y:List UInt8),(Op.bytesLess x y || x == y) = !Op.bytesLess y x
 | [],[]=>by simp [Op.bytesLess]
 | [],_ :: _=>by simp [Op.bytesLess]
 | _ :: _,[]=>by simp [Op.bytesLess]
 | a :: x,b :: y=>by
  have ih:=zcl x y;by_cases h:a=b
  ·subst h
   simpa [Op.bytesLess,UInt8.lt_irrefl] using ih
  ·have h':¬ b=a:=fun e=>h e.symm
   by_cases hl:a<b
   ·have:¬ b<a:=by rw [UInt8.lt_iff_toNat_lt] at *;omega
    simp [Op.bytesLess,h',hl,this]
   ·have:b<a:=by
     rw [UInt8.lt_iff_toNat_lt] at *;have:a.toNat≠b.toNat:=fun e=>h (UInt8.toNat_inj.1 e)
     omega
    simp [Op.bytesLess,h,hl,this]
theorem zig (p k:ByteArray):(less' p k=true/\Op.bytesLess k.toList p.toList=false/\(k.toList == p.toList)=false) \/
  (less' p k=false/\Op.bytesLess k.toList p.toList=true)\/(less' p k=false/\Op.bytesLess k.toList p.toList=false/\(k.toList == p.toList)=true):=by
 have h:=zcl k.toList p.toList;unfold less';cases h1:Op.bytesLess k.toList p.toList<;>cases h2:(k.toList == p.toList)<;>cases h3:Op.bytesLess p.toList k.toList<;>simp_all
theorem zmX (k:Int):k=3\/k=4\/k=5\/((k == 3)=false/\(k != 3)=true/\(k == 4)=false/\(k != 4)=true/\(k == 5)=false/\(k != 5)=true/\Hid (k≠3/\k≠4/\k≠5)):=by
 by_cases h3:k=3
 ·exact .inl h3
 by_cases h4:k=4
 ·exact .inr (.inl h4)
 by_cases h5:k=5
 ·exact .inr (.inr (.inl h5))
 exact .inr (.inr (.inr ⟨by simpa using h3,by simpa using h3,by simpa using h4,by simpa using h4,by simpa using h5,by simpa using h5,hid ⟨h3,h4,h5⟩⟩))
theorem zmR (k:Int):k=1\/k=2\/((k == 1)=false/\(k != 1)=true/\(k == 2)=false/\(k != 2)=true/\Hid (k≠1/\k≠2)):=by
 by_cases h1:k=1
 ·exact .inl h1
 by_cases h2:k=2
 ·exact .inr (.inl h2)
 exact .inr (.inr ⟨by simpa using h1,by simpa using h1,by simpa using h2,by simpa using h2,hid ⟨h1,h2⟩⟩)
theorem zeW (n:Int):n=0\/((n == 0)=false/\(n != 0)=true/\Hid (n≠0)):=by
 by_cases h:n=0
 ·exact .inl h
 exact .inr ⟨by simpa using h,by simpa using h,hid h⟩
theorem zak {s:ByteArray} (h:s.toList=[]):valid s=true:=by
 have e:s.data.toList=[]:=by rw [<- zcB];exact h
 unfold valid;rw [e];rfl
theorem zlx {gk gn:Int} {gs:ByteArray} {gl:List GV} {gy:List ByteArray} {go:List GV} (hk:0<=gk) (hl:gy.length=go.length):
  SelfP gk gn gs gl gy go↔HeadA gk gs gl.length go.length/\HeadB gk gn gs/\KeysOk gy:=by
 constructor
 ·rintro ⟨h1,h2,h3,h4,h5⟩
  refine ⟨⟨by omega,?_,?_,?_⟩,⟨h2,?_⟩,?_⟩
  ·rcases h3 with h3 | h3
   ·exact .inl h3.1
   ·exact .inr h3.2
  ·rcases h4 with h4 | h4
   ·exact .inl h4
   ·exact .inr (by simp [h4])
  ·rcases h5 with h5 | h5
   ·exact .inl h5.1
   ·exact .inr (by simp [h5.2])
  ·rcases h3 with h3 | h3
   ·exact h3.2
   ·exact zak h3.2
  ·rcases h5 with h5 | h5
   ·exact h5.2
   ·have e:gy=[]:=List.eq_nil_of_length_eq_zero (by rw [hl,h5.2];rfl)
    subst e;intro i k hi;simp at hi
 ·rintro ⟨⟨h1,h2,h3,h4⟩,⟨h5,h6⟩,h7⟩
  refine ⟨by omega,h5,?_,h3.imp id List.eq_nil_of_length_eq_zero,?_⟩
  ·by_cases e:gk=3
   ·exact .inl ⟨e,h6⟩
   ·exact .inr ⟨e,h2.resolve_left e⟩
  ·by_cases e:gk=5
   ·exact .inl ⟨e,h7⟩
   ·exact .inr ⟨e,List.eq_nil_of_length_eq_zero (h4.resolve_left e)⟩
theorem zhT {gk gn:Int} {gs:ByteArray} (h:gk=2\/gn=0\/gk=1/\gn=1):(!valid gs)=true↔¬ HeadB gk gn gs:=by
 unfold HeadB;cases hv:valid gs<;>simp [h]
def SoundRel1 (W0:World) (l:List GV) (i:Value) (wr:World):Prop:=∃ k:Nat,i=.int .i64 k/\k<=l.length/\SoundTo l k/\Below W0.heap.size W0 wr
def SoundRel2 (W0:World) (ks:List ByteArray) (ov:List GV) (i:Value) (wr:World):Prop:=∃ k:Nat,i=.int .i64 k/\k<=ov.length/\SoundTo ov k/\KeysTo ks k/\Below W0.heap.size W0 wr
def HeadRel (P:Prop) (W0:World) (v:Value) (wr:World):Prop:=∃ b:Bool,v=.bool b/\(b=true↔¬ P)/\Below W0.heap.size W0 wr
theorem zbd (F:Nat):∀ (ok:Nat->Prop) (v:Value) (g:GV) (w:World),g.size<=F->g.val ok w v->g.weight<=1000000000->g.Pos->Tabs w ->
  Calls Tryz.prog 70 #[v] w (BoolPost g.Sound w):=by
 induction F with
 | zero=>intro ok v g w hF;cases g with | mk k n s l ks ov=>simp only [GV.size] at hF;omega
 | succ F ih=>
  intro ok v g w hF hv hg hpos hT;obtain ⟨L,O,rfl,hL,hO⟩:=hv;have hkl:=hO.1;obtain ⟨A,c,rfl,hc1,hc2,hf⟩:=hL.form;obtain ⟨A',c',rfl,hc1',hc2',hf'⟩:=hO.form;have hge:=zaD g;have hde:g.weight=1+g.str.size+GV.weights g.il+ksum g.keys+GV.weights g.vz:=by cases g with | mk k n s l ks ov=>simp only [GV.weight,GV.il,GV.vz,GV.keys,GV.str,ksum]
  have hs9:=zad g;have hln1:=zaq g.il;have hln2:=zaq g.vz;obtain ⟨hk0,hpl,hpo⟩:=(zjG g).1 hpos;have hss:(g.Sound↔(HeadA g.kq g.str g.il.length g.vz.length/\HeadB g.kq g.num g.str/\KeysOk g.keys)/\SoundTo g.il g.il.length/\SoundTo g.vz g.vz.length):=by
   rw [<- zlx hk0 hkl,<- zev,<- zev];cases g with | mk k n s l ks ov=>simp only [GV.Sound,GV.kq,GV.num,GV.str,GV.il,GV.keys,GV.vz]
  have HSS:=hid hss;clear hss;rw [hde] at hg hs9;unfold maxLen at hc2 hc2';generalize g.Sound=SS at *;generalize g.il=l at *;generalize g.vz=ov at *;generalize g.keys=ks at *;generalize g.kq=gk at *;generalize g.num=gn at *;generalize g.str=gs at *;have IH:=hid ih;have HF:=hid hf;have HF':=hid hf';have HSZ:=hid (And.intro hF (And.intro hg hge));have HP:=hid (And.intro hpl hpo);have hll:l.length<=1000000000:=by omega
  have hlo:ov.length<=1000000000:=by omega
  have hgs:gs.size<=9223372036854775807:=by omega
  have HKL:=hid hkl;have HT:=hid hT;clear ih hf hf' hF hg hge hL hO hde hs9 hln1 hln2 hkl hpl hpo hpos hT;go_enter Tryz.func70,Tryz.ntmps70
  go_upto_region 1 with fail
  have hB:Below w.heap.size w (w.alloc (.cells #[Value.int IntKind.u8 gk,Value.int IntKind.i64 gn,Value.string gs,Value.slice A l.length c,Value.slice A' ov.length c'] 29)):=(Below.refl _ _).alloc (Nat.le_refl _) _;have hW:=Whole.new w 29 #[Value.int IntKind.u8 gk,Value.int IntKind.i64 gn,Value.string gs,Value.slice A l.length c,Value.slice A' ov.length c'];generalize (w.alloc (.cells #[Value.int IntKind.u8 gk,Value.int IntKind.i64 gn,Value.string gs,Value.slice A l.length c,Value.slice A' ov.length c'] 29))=W0 at hB hW ⊢;have HW:=hid hW;have HB:=hid hB;clear hW hB
  go_cut [41] (HeadRel (HeadA gk gs l.length ov.length) W0)
  case first=>
   obtain ⟨x0,x1,x2,x3,x4,_⟩:=HW.out.five;have HBW:=hid (Below.refl W0.heap.size W0);by_cases a1:5<gk
   ·go_wp2
    go_meet
    exact ⟨_,rfl,⟨fun _=>(by unfold HeadA;rintro ⟨h1,_⟩;omega),fun _=>rfl⟩,HBW.out⟩
   have a1':decide (5<gk)=false:=by simpa using a1
   rcases zmX gk with rfl | rfl | rfl | ⟨e3,e3',e4,e4',e5,e5',hk⟩
   ·rcases zbK l.length with ⟨a4,l1,l2⟩ | a4
    ·rcases zbK ov.length with ⟨a5,o1,o2⟩ | a5
     ·go_wp2
      go_meet
      exact ⟨_,rfl,⟨(fun h=>by cases h),fun h=>absurd ⟨by omega,.inl rfl,.inr a4.out,.inr a5.out⟩ h⟩,HBW.out⟩
     ·go_wp2
      go_meet
      exact ⟨_,rfl,⟨fun _=>(by unfold HeadA;rintro ⟨_,h2,h3,h4⟩;omega),fun _=>rfl⟩,HBW.out⟩
    ·go_wp2
     go_meet
     exact ⟨_,rfl,⟨fun _=>(by unfold HeadA;rintro ⟨_,h2,h3,h4⟩;omega),fun _=>rfl⟩,HBW.out⟩
   ·rcases zbw gs with a3 | ⟨a3,s1⟩
    ·rcases zbK ov.length with ⟨a5,o1,o2⟩ | a5
     ·go_wp2
      go_meet
      exact ⟨_,rfl,⟨(fun h=>by cases h),fun h=>absurd ⟨by omega,.inr a3,.inl rfl,.inr a5.out⟩ h⟩,HBW.out⟩
     ·go_wp2
      go_meet
      exact ⟨_,rfl,⟨fun _=>(by unfold HeadA;rintro ⟨_,h2,h3,h4⟩;omega),fun _=>rfl⟩,HBW.out⟩
    ·go_wp2
     go_meet
     exact ⟨_,rfl,⟨fun _=>(by unfold HeadA;rintro ⟨_,h2,h3,h4⟩;rcases h2 with h2 | h2;omega;exact a3 h2),fun _=>rfl⟩,HBW.out⟩
   ·rcases zbw gs with a3 | ⟨a3,s1⟩
    ·rcases zbK l.length with ⟨a4,l1,l2⟩ | a4
     ·go_wp2
      go_meet
      exact ⟨_,rfl,⟨(fun h=>by cases h),fun h=>absurd ⟨by omega,.inr a3,.inr a4.out,.inl rfl⟩ h⟩,HBW.out⟩
     ·go_wp2
      go_meet
      exact ⟨_,rfl,⟨fun _=>(by unfold HeadA;rintro ⟨_,h2,h3,h4⟩;omega),fun _=>rfl⟩,HBW.out⟩
    ·go_wp2
     go_meet
     exact ⟨_,rfl,⟨fun _=>(by unfold HeadA;rintro ⟨_,h2,h3,h4⟩;rcases h2 with h2 | h2;omega;exact a3 h2),fun _=>rfl⟩,HBW.out⟩
   ·rcases zbw gs with a3 | ⟨a3,s1⟩
    ·rcases zbK l.length with ⟨a4,l1,l2⟩ | a4
     ·rcases zbK ov.length with ⟨a5,o1,o2⟩ | a5
      ·go_wp2
       go_meet
       exact ⟨_,rfl,⟨(fun h=>by cases h),fun h=>absurd ⟨by omega,.inr a3,.inr a4.out,.inr a5.out⟩ h⟩,HBW.out⟩
      ·go_wp2
       go_meet
       exact ⟨_,rfl,⟨fun _=>(by unfold HeadA;rintro ⟨_,h2,h3,h4⟩;have:=hk.out;omega),fun _=>rfl⟩,HBW.out⟩
     ·go_wp2
      go_meet
      exact ⟨_,rfl,⟨fun _=>(by unfold HeadA;rintro ⟨_,h2,h3,h4⟩;have:=hk.out;omega),fun _=>rfl⟩,HBW.out⟩
    ·go_wp2
     go_meet
     exact ⟨_,rfl,⟨fun _=>(by unfold HeadA;rintro ⟨_,h2,h3,h4⟩;rcases h2 with h2 | h2;exact absurd h2 hk.out.1;exact a3 h2),fun _=>rfl⟩,HBW.out⟩
  case rest=>
   obtain ⟨b,rfl,hb,hB1⟩:=hcut;have HB1:=hid hB1;cases b with
   | true=>
    have hno:=hb.1 rfl;have HNO:=hid hno;clear hb hno;go_wp2
    go_ret
    exact ⟨false,rfl,⟨(fun h=>by cases h),fun h=>absurd (HSS.out.1 h).1.1 HNO.out⟩,HB.out.trans (HB1.out.mono HB.out.size)⟩
   | false=>
    have hA:HeadA gk gs l.length ov.length:=by
     by_cases e:HeadA gk gs l.length ov.length
     ·exact e
     ·exact absurd (hb.2 e) (by simp)
    have HA:=hid hA;clear hb hA
    go_upto_region 3 with fail
    go_cut [75] (HeadRel (HeadB gk gn gs) W0)
    case first=>
     obtain ⟨x0,x1,x2,x3,x4,_⟩:=(HW.out.below HB1.out HW.out.lt).five;have hcall:=zao gs wc hgs ((HT.out.below HB.out (Nat.le_refl _)).below HB1.out (by have:=HB.out.size;omega))
     rcases zmR gk with rfl | rfl | ⟨e1,e1',e2,e2',hk⟩
     ·rcases zjM gn with rfl | rfl | ⟨n0,n0',n1,n1',hn⟩
      ·go_wp2_with (go_at_call 54;refine hcall.mono ?_;rintro e W1 ⟨rfl,hb1⟩)
       go_meet
       exact ⟨_,rfl,zhT (.inr (.inl rfl)),HB1.out.trans (hb1.mono HB1.out.size)⟩
      ·go_wp2_with (go_at_call 54;refine hcall.mono ?_;rintro e W1 ⟨rfl,hb1⟩)
       go_meet
       exact ⟨_,rfl,zhT (.inr (.inr ⟨rfl,rfl⟩)),HB1.out.trans (hb1.mono HB1.out.size)⟩
      ·go_wp2
       go_meet
       exact ⟨_,rfl,⟨fun _=>(by unfold HeadB;rintro ⟨h1,_⟩;have:=hn.out;omega),fun _=>rfl⟩,HB1.out⟩
     ·go_wp2_with (go_at_call 54;refine hcall.mono ?_;rintro e W1 ⟨rfl,hb1⟩)
      go_meet
      exact ⟨_,rfl,zhT (.inl rfl),HB1.out.trans (hb1.mono HB1.out.size)⟩
     ·rcases zeW gn with rfl | ⟨n0,n0',hn⟩
      ·go_wp2_with (go_at_call 54;refine hcall.mono ?_;rintro e W1 ⟨rfl,hb1⟩)
       go_meet
       exact ⟨_,rfl,zhT (.inr (.inl rfl)),HB1.out.trans (hb1.mono HB1.out.size)⟩
      ·go_wp2
       go_meet
       exact ⟨_,rfl,⟨fun _=>(by unfold HeadB;rintro ⟨h1,_⟩;have h2:=hn.out;have h3:=hk.out;omega),fun _=>rfl⟩,HB1.out⟩
    case rest=>
     obtain ⟨b,rfl,hb,hB2⟩:=hcut;have HB2:=hid hB2;cases b with
     | true=>
      have hno:=hb.1 rfl;have HNO:=hid hno;clear hb hno;go_wp2
      go_ret
      exact ⟨false,rfl,⟨(fun h=>by cases h),fun h=>absurd (HSS.out.1 h).1.2.1 HNO.out⟩,HB.out.trans (HB2.out.mono HB.out.size)⟩
     | false=>
      have hA:HeadB gk gn gs:=by
       by_cases e:HeadB gk gn gs
       ·exact e
       ·exact absurd (hb.2 e) (by simp)
      have HBB:=hid hA;clear hb hA;clear HB1;go_wp2
      go_loopw [3] (SoundRel1 W0 l) (fun i _=>l.length - (intOf i).toNat)
      case atStart=>exact ⟨0,rfl,Nat.zero_le _,fun i _ h=>by omega,HB2.out⟩
      case round=>
       clear HB2;obtain ⟨k,rfl,hk,hto,hr⟩:=hrel;have hx3:wr.cell? ⟨w.heap.size,3,none⟩=some (.slice A l.length c):=((HW.out.below hr HW.out.lt).cell 3).trans rfl;have hwr:Below w.heap.size w wr:=HB.out.trans (hr.mono HB.out.size);have HR:=hid hr;have HTO:=hid hto;clear hr hto;by_cases hlt:k<l.length
       ·obtain ⟨b,o,rfl,hK,hE⟩:=HF.out (by intro e;rw [e] at hlt;simp at hlt)
        obtain ⟨A1,c1,A2,c2,hcells,hval⟩:=zcK hE hK hlt;obtain ⟨q0,q1,q2,q3,q4⟩:=hcells wr hwr;have hs:=zaL l k hlt;have hs2:=zbx l k hlt;have hs3:=HSZ.out;have hcall:=IH.out _ _ l[k] wr (by omega) (hval wr hwr) (by omega) (HP.out.1 _ (List.getElem_mem hlt)) (HT.out.below hwr (Nat.le_refl _))
        have HG:=hid (List.getElem?_eq_getElem hlt);have HC:=hid hcall;clear hcells hval hK hE hs hs2 hs3 hcall;generalize l[k]=x at *;by_cases hs:x.Sound
        ·have HS:=hid hs
         clear hs
         go_wp2_with (go_at_call 70;refine HC.out.mono ?_;rintro e W1 ⟨b2,rfl,hb2,hbel⟩;have hb3:b2=true:=hb2.2 HS.out;subst hb3;have HB3:=hid hbel;clear hb2 hbel)
         go_roundw
         case rel=>exact ⟨k+1,by go_num,by omega,HTO.out.succ HG.out HS.out,HR.out.trans (HB3.out.mono HR.out.size)⟩
         case measure=>simp [intOf];omega
        ·have HS:=hid hs
         clear hs
         go_wp2_with (go_at_call 70;refine HC.out.mono ?_;rintro e W1 ⟨b2,rfl,hb2,hbel⟩;have hb3:b2=false:=(by cases b2 with | false=>rfl | true=>exact absurd (hb2.1 rfl) HS.out);subst hb3;have HB3:=hid hbel;clear hb2 hbel)
         go_ret
         exact ⟨false,rfl,⟨(fun h=>by cases h),fun h=>absurd ((HSS.out.1 h).2.1 k x hlt HG.out) HS.out⟩,hwr.trans (HB3.out.mono hwr.size)⟩
       ·have hkl:k=l.length:=by omega
        subst hkl;go_wp2
        clear hx3 hwr
        go_loopw [5] (SoundRel2 W0 ks ov) (fun i _=>ov.length - (intOf i).toNat)
        case atStart=>exact ⟨0,rfl,Nat.zero_le _,(fun i _ h=>by omega),(fun i _ h=>by omega),HR.out⟩
        case round=>
         clear HR;obtain ⟨k,rfl,hk,hto,hkt,hr⟩:=hrel;have hx4:wr.cell? ⟨w.heap.size,4,none⟩=some (.slice A' ov.length c'):=((HW.out.below hr HW.out.lt).cell 4).trans rfl;have hwr:Below w.heap.size w wr:=HB.out.trans (hr.mono HB.out.size);have HR:=hid hr;have HT2:=hid (And.intro hto hkt);clear hr hto hkt;by_cases hlt:k<ov.length
         ·have hlk:k<ks.length:=by have:=HKL.out;omega
          obtain ⟨b,o,rfl,hK,hks,hE⟩:=HF'.out (by intro e;rw [e] at hlt;simp at hlt)
          obtain ⟨A1,c1,A2,c2,hcells,hval⟩:=zbV hks hE hK hlt hlk;obtain ⟨q,q0,q1,q2,q3,q4⟩:=hcells wr hwr;have hs:=zaL ov k hlt;have hs2:=zbx ov k hlt;have hs3:=HSZ.out;have hs4:=zcU ks k hlk;have hs5:=zep ks (k+1);have hcall:=IH.out _ _ ov[k] wr (by omega) (hval wr hwr) (by omega) (HP.out.2 _ (List.getElem_mem hlt)) (HT.out.below hwr (Nat.le_refl _))
          have HG:=hid (And.intro (List.getElem?_eq_getElem hlt) (List.getElem?_eq_getElem hlk));have HC:=hid hcall;have hksz:ks[k].size<=9223372036854775807:=by omega
          have hprev:0<k->∃ p,ks[k - 1]? = some p/\∀ W,Below w.heap.size w W->W.cell? ⟨b,o+(k - 1) * 6,none⟩=some (.string p):=fun _=>
           ⟨ks[k - 1]'(by omega), List.getElem?_eq_getElem (by omega), fun W hW => (hW.cell (p := ⟨b, o + (k - 1) * 6, none⟩) hK.lt).trans (hks.get (List.getElem?_eq_getElem (by omega)))⟩
          have HKC:=hid (fun (W:World) (h:Below w.heap.size w W)=>(hcells W h).1)
          have HX4:=hid (fun (W:World) (h:Below W0.heap.size W0 W)=>(((HW.out.below h HW.out.lt).cell 4).trans rfl:W.cell? ⟨w.heap.size,4,none⟩=some (.slice (some ⟨b,o,none⟩) ov.length c')))
          have HPV:=hid hprev;clear hcells hval hK hE hks hs hs2 hs3 hs4 hs5 hcall hprev;generalize ov[k]=x at *;generalize ks[k]=kk at *;have hk0:(0:Int)<=(k:Int):=by omega
          have hk1:(k:Int)<(ov.length:Int):=by omega
          by_cases hs:x.Sound
          ·have HS:=hid hs
           clear hs
           go_wp2_with (go_at_call 70;refine HC.out.mono ?_;rintro e W1 ⟨b2,rfl,hb2,hbel⟩;have hb3:b2=true:=hb2.2 HS.out;subst hb3;have HB3:=hid hbel;clear hb2 hbel)
           have HR1:=hid (HR.out.trans (HB3.out.mono HR.out.size));have HW1:=hid (hwr.trans (HB3.out.mono hwr.size));clear hx4 q q0 q1 q2 q3 q4 hwr HB3;have rx:=cell_regrown (HX4.out W1 HR1.out);have rk:=cell_regrown (HKC.out W1 HW1.out);have hcall0:=fun (d:Nat) (os:Array Obj)=>zao kk (grow (redrawn W1 d) os) hksz (HT.out.below (HW1.out.trans ((below_regrown W1 d os).mono HW1.out.size)) (Nat.le_refl _))
           generalize hv:valid kk=vb at hcall0;have HVB:=hid hv;have hcall2:=fun (d:Nat) (os:Array Obj)=>Calls.regrown_of (hcall0 d os)
           clear hv hcall0;cases vb with
           | false=>
            refine wp_region_quiet_below (by kernel_rfl) (by kernel_rfl) ?_
            repeat (any_goals (go_big_quiet_step (exact hcall2 _ _)))
            refine wpQuiet_nil ?_
            intro _ hw';obtain ⟨⟨dq,osq⟩,hw''⟩:=hw';subst hw'';clear hcall2;go_wp2
            go_ret
            exact ⟨false,rfl,⟨(fun h=>by cases h),fun h=>absurd ((HSS.out.1 h).1.2.2 k kk hlk HG.out.2).1 (by rw [HVB.out];simp)⟩,HW1.out.trans ((below_regrown W1 dq osq).mono HW1.out.size)⟩
           | true=>
            by_cases hk0:k=0
            ·have hkd:decide ((0:Int)<(k:Int))=false:=by simp;omega
             have hkd2:decide (0<k)=false:=by simp;omega
             have HK0:=hid hk0;clear hk0;refine wp_region_quiet_below (by kernel_rfl) (by kernel_rfl) ?_
             repeat (any_goals (go_big_quiet_step (exact hcall2 _ _)))
             refine wpQuiet_nil ?_
             intro _ hw';obtain ⟨⟨dq,osq⟩,hw''⟩:=hw';subst hw'';clear hcall2;go_wp2
             go_roundw
             case rel=>exact ⟨k+1,by go_num,by omega,HT2.out.1.succ HG.out.1 HS.out,HT2.out.2.succ HG.out.2 HVB.out (fun j p e _=>by have:=HK0.out;omega),HR1.out.trans ((below_regrown W1 dq osq).mono HR1.out.size)⟩
             case measure=>simp [intOf];omega
            ·have hkp:0<k:=by omega
             clear hk0;obtain ⟨p,hp,hpc⟩:=HPV.out hkp;have rp:=cell_regrown (hpc W1 HW1.out);have HPp:=hid hp;have ew1:IntKind.i64.wrap ((k:Int) - 1)=(k:Int) - 1:=IntWalk.i64_in _ (by omega)
             have ew2:(0:Int)<=(k:Int) - 1:=by omega
             have ew3:(k:Int) - 1<(ov.length:Int):=by omega
             have ew4:((k:Int) - 1).toNat=k - 1:=by omega
             clear hp hpc;rcases zig p kk with ⟨hl,hl1,hl2⟩ | ⟨hl,hl1⟩ | ⟨hl,hl1,hl2⟩
             ·have HLs:=hid hl
              clear hl;refine wp_region_quiet_below (by kernel_rfl) (by kernel_rfl) ?_
              repeat (any_goals (go_big_quiet_step (exact hcall2 _ _)))
              refine wpQuiet_nil ?_
              intro _ hw';obtain ⟨⟨dq,osq⟩,hw''⟩:=hw';subst hw'';clear hcall2 ew1 ew2 ew3 ew4;go_wp2
              go_roundw
              case rel=>exact ⟨k+1,by go_num,by omega,HT2.out.1.succ HG.out.1 HS.out,HT2.out.2.succ HG.out.2 HVB.out (fun j p' e hp'=>by
               obtain rfl:j=k - 1:=by omega
               rw [HPp.out] at hp';cases hp';exact HLs.out),HR1.out.trans ((below_regrown W1 dq osq).mono HR1.out.size)⟩
              case measure=>simp [intOf];omega
             ·have HLs:=hid hl
              clear hl;refine wp_region_quiet_below (by kernel_rfl) (by kernel_rfl) ?_
              repeat (any_goals (go_big_quiet_step (exact hcall2 _ _)))
              refine wpQuiet_nil ?_
              intro _ hw';obtain ⟨⟨dq,osq⟩,hw''⟩:=hw';subst hw'';clear hcall2 ew1 ew2 ew3 ew4;go_wp2
              go_ret
              exact ⟨false,rfl,⟨(fun h=>by cases h),fun h=>absurd (((HSS.out.1 h).1.2.2 k kk hlk HG.out.2).2 (k - 1) p (by omega) HPp.out) (by rw [HLs.out];simp)⟩,HW1.out.trans ((below_regrown W1 dq osq).mono HW1.out.size)⟩
             ·have HLs:=hid hl
              clear hl;refine wp_region_quiet_below (by kernel_rfl) (by kernel_rfl) ?_
              repeat (any_goals (go_big_quiet_step (exact hcall2 _ _)))
              refine wpQuiet_nil ?_
              intro _ hw';obtain ⟨⟨dq,osq⟩,hw''⟩:=hw';subst hw'';clear hcall2 ew1 ew2 ew3 ew4;go_wp2
              go_ret
              exact ⟨false,rfl,⟨(fun h=>by cases h),fun h=>absurd (((HSS.out.1 h).1.2.2 k kk hlk HG.out.2).2 (k - 1) p (by omega) HPp.out) (by rw [HLs.out];simp)⟩,HW1.out.trans ((below_regrown W1 dq osq).mono HW1.out.size)⟩
          ·have HS:=hid hs
           clear hs
           go_wp2_with (go_at_call 70;refine HC.out.mono ?_;rintro e W1 ⟨b2,rfl,hb2,hbel⟩;have hb3:b2=false:=(by cases b2 with | false=>rfl | true=>exact absurd (hb2.1 rfl) HS.out);subst hb3;have HB3:=hid hbel;clear hb2 hbel)
           have HW1:=hid (hwr.trans (HB3.out.mono hwr.size));refine wp_region_quiet_below (by kernel_rfl) (by kernel_rfl) ?_
           repeat (any_goals (go_big_quiet_step (fail)))
           refine wpQuiet_nil ?_
           intro _ hw';obtain ⟨⟨dq,osq⟩,hw''⟩:=hw';subst hw'';go_wp2
           go_ret
           exact ⟨false,rfl,⟨(fun h=>by cases h),fun h=>absurd ((HSS.out.1 h).2.2 k x hlt HG.out.1) HS.out⟩,HW1.out.trans ((below_regrown W1 dq osq).mono HW1.out.size)⟩
         ·have hkl:k=ov.length:=by omega
          subst hkl;go_wp2
          go_ret
          refine ⟨true,rfl,⟨fun _=>HSS.out.2 ⟨⟨HA.out,HBB.out,?_⟩,HTO.out,HT2.out.1⟩,fun _=>rfl⟩,hwr⟩
          have h1:=HT2.out.2;unfold KeysOk;rw [HKL.out];exact h1
end Go.Proofs.YtmmgdkpkcoopgaaGreatDoor
