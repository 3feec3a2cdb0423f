/- Texts in one: PSound, PBegins, SeqM, BaseK, CompM. -/
import Derived.Test.YtmmgdkpkcoopgaaGreatDoorP5
import Derived.Test.YtmmgdkpkcoopgaaGreatDoorP7
import Derived.Test.YtmmgdkpkcoopgaaGreatDoorLaysV
import Derived.Laws.StructEq
import Derived.BigQuiet
import Derived.Deep.QuietTactic
import Derived.WalkKit
import Derived.Lib.RuneCount
import Derived.Lib.RuneCountTail
import Derived.Lib.TrimU
import Derived.Lib.TrimUEq
import Derived.Lib.ValidLaws
import Derived.Test.YtmmgdkpkcoopgaaGreatDoorP3
set_option maxHeartbeats 4000000
namespace Go.Proofs.YtmmgdkpkcoopgaaGreatDoor
open Go.Lib(hid)
open Go Go.RowKit
def oddB (s:GStep):Bool:=if s.list then (decide (s.i<0) || !s.key.toList.isEmpty) else (!(s.i == 0) || !valid s.key)
def soundP (ps:List GStep):Bool:=decide (ps.length<=16) && !ps.any oddB
theorem zmE (s:GStep) (hs:s.key.size<=9223372036854775807) (w:World) (hT:Tabs w):
  Calls Tryz.prog 83 #[.agg #[.bool s.list,.int .i64 s.i,.string s.key]] w fun e w'=>e=.returned (.bool (oddB s))/\Below w.heap.size w w':=by
 obtain ⟨sl,si,sk⟩:=s;simp only at hs ⊢;have hcall:=fun (W:World) (hb:Below w.heap.size w W)=>zao sk W hs (hT.below hb (Nat.le_refl _))
 have HC:=hid hcall;clear hcall hT;cases sl with
 | true=>
  have ho:oddB ⟨true,si,sk⟩=(decide (si<0) || !sk.toList.isEmpty):=rfl
  rw [ho];clear ho;by_cases hn:si<0
  ·go_enter Tryz.func83,Tryz.ntmps83
   go_wp2
   go_ret
   exact ⟨by simp [hn],(Below.refl _ _).alloc (Nat.le_refl _) _⟩
  ·rcases zbw sk with he | ⟨h1,h2⟩
   ·have he2:sk.toList.isEmpty=true:=by simpa using he
    go_enter Tryz.func83,Tryz.ntmps83
    go_wp2
    go_ret
    exact ⟨by simp [hn],(Below.refl _ _).alloc (Nat.le_refl _) _⟩
   ·have H1:=hid h1
    clear h1;go_enter Tryz.func83,Tryz.ntmps83
    go_wp2
    go_ret
    exact ⟨by simp,(Below.refl _ _).alloc (Nat.le_refl _) _⟩
 | false=>
  have ho:oddB ⟨false,si,sk⟩=(!(si == 0) || !valid sk):=rfl
  rw [ho];clear ho;by_cases hn:si=0
  ·subst hn
   go_enter Tryz.func83,Tryz.ntmps83
   go_wp2_with (go_at_call 54;refine (HC.out _ ((Below.refl _ _).alloc (Nat.le_refl _) _)).mono ?_;rintro e w1 ⟨rfl,hb1⟩;have HB1:=hid hb1;clear hb1)
   go_ret
   exact ⟨by simp,((Below.refl _ _).alloc (Nat.le_refl _) _).trans (HB1.out.mono (by simp))⟩
  ·have h1:(si == 0)=false:=by simpa using hn
   have h2:(si != 0)=true:=by simpa using hn
   clear hn;go_enter Tryz.func83,Tryz.ntmps83
   go_wp2
   go_ret
   exact ⟨by simp [h1],(Below.refl _ _).alloc (Nat.le_refl _) _⟩
structure SStep where
 s:GStep
 h:s.key.size<=9223372036854775807
instance:Inhabited SStep:=⟨⟨⟨false,0,⟨#[]⟩⟩,by decide⟩⟩
def encS (x:SStep):List Value:=[.bool x.s.list,.int .i64 x.s.i,.string x.s.key]
def sized (ps:List GStep) (h:∀ s∈ps,s.key.size<=9223372036854775807):List SStep:=ps.pmap (fun s hs=>⟨s,hs⟩) h
theorem zdd (ps:List GStep) (h:∀ s∈ps,s.key.size<=9223372036854775807):(sized ps h).length=ps.length:=by simp [sized]
theorem zju (ps:List GStep) (h:∀ s∈ps,s.key.size<=9223372036854775807) (j:Nat) (hj:j<ps.length):((sized ps h)[j]!).s=ps[j]:=by
 have hl:j<(sized ps h).length:=by rw [zdd];exact hj
 rw [getElem!_pos (sized ps h) j hl];simp [sized]
theorem zgx (p:GStep->Bool):∀ (ps:List GStep) (h:∀ s∈ps,s.key.size<=9223372036854775807),(sized ps h).any (fun x=>p x.s)=ps.any p
 | [],_=>rfl
 | x :: r,h=>by
  have:=zgx p r (fun s hs=>h s (by simp [hs]))
  simp only [sized] at this;simp [sized,this]
theorem zht {ps:List GStep} (h:∀ s∈ps,s.key.size<=9223372036854775807) {W:World} {b o:Nat} (hP:StepsAt W ⟨b,o,none⟩ ps):∀ j,j<(sized ps h).length->∀ i v,(encS (sized ps h)[j]!)[i]? = some v->W.cell? ⟨b,o+j * 3+i,none⟩=some v:=fun j hj i v hv=>by
 rw [zdd] at hj;obtain ⟨h0,h1,h2⟩:=hP j ps[j] (List.getElem?_eq_getElem hj);unfold encS at hv;rw [zju ps h j hj] at hv
 match i with
 | 0=>simp at hv;subst hv;exact h0
 | 1=>simp at hv;subst hv;exact h1
 | 2=>simp at hv;subst hv;exact h2
 | i+3=>simp at hv
theorem zif (A:Option Addr) (c:Nat) (fv:Value) (w:World):Calls Tryz.prog 107 #[.slice A 0 c,fv] w fun e w'=>e=.returned (.int .i64 (-1))/\w'=w:=by
 go_enter Tryz.func107,Tryz.ntmps107
 go_wp2
 go_loopw [5,8] (fun _ i wr=>i=.int .i64 0/\wr=w) (fun _ _ _=>0)
 case atStart=>exact ⟨rfl,rfl⟩
 case round=>
  obtain ⟨rfl,rfl⟩:=hrel;go_wp2
  go_ret
  exact ⟨rfl,rfl⟩
theorem zft (A:Option Addr) (c:Nat) (fv:Value) (w:World):Calls Tryz.prog 82 #[.slice A 0 c,fv] w fun e w'=>e=.returned (.bool false)/\w'=w:=by
 go_enter Tryz.func82,Tryz.ntmps82
 go_wp2_with (go_at_call 107;refine (zif A c fv w).mono ?_;rintro e w' ⟨rfl,rfl⟩)
 go_ret
 exact ⟨rfl,rfl⟩
theorem zgJ (hi:Nat) (A:Option Addr) (cap:Nat) (ps:List GStep) (w:World) (hP:Steps hi w A ps) (hhi:hi<=w.heap.size) (hm:ps.length<=maxLen) (hk:∀ s∈ps,s.key.size<=9223372036854775807) (hT:Tabs w):
  Calls Tryz.prog 82 #[.slice A ps.length cap,.func (.func 83) #[] #[]] w fun e w'=>e=.returned (.bool (ps.any oddB))/\Below w.heap.size w w':=by
 by_cases hn:ps=[]
 ·subst hn
  exact (zft A cap _ w).mono fun e w' ⟨he,hw⟩=>⟨he,by rw [hw];exact Below.refl _ _⟩
 ·obtain ⟨⟨b,o,sp⟩,rfl,hs,hl,hc⟩:=hP hn
  simp only at hs hl;subst hs;unfold maxLen at hm;have h:=AnyQ.slices_ContainsFunc Tryz.contS 3 Tryz.isAgg85 Tryz.sizeOf85 encS (fun _=>rfl) (fun x=>oddB x.s) 83 #[] (enters_of Tryz.func83 (by kernel_rfl) rfl) b o ps.length cap (sized ps hk) w
   (fun W x hb=>(zmE x.s x.h W (hT.below hb (Nat.le_refl _))).mono fun e w' ⟨he,hb'⟩=>⟨he,hb.trans (hb'.mono hb.size)⟩) (by rw [zdd];exact Nat.le_refl _) (by omega) (by omega) (zht hk hc)
  refine Calls.mono h fun e w' ⟨he,hb⟩=>⟨?_,hb⟩
  rw [he,List.take_of_length_le (by rw [zdd];exact Nat.le_refl _),zgx]
theorem zii (hi:Nat) (A:Option Addr) (cap:Nat) (ps:List GStep) (w:World) (hP:Steps hi w A ps) (hhi:hi<=w.heap.size) (hm:ps.length<=maxLen) (hk:∀ s∈ps,s.key.size<=9223372036854775807) (hT:Tabs w):
  Calls Tryz.prog 55 #[.slice A ps.length cap] w fun e w'=>e=.returned (.bool (soundP ps))/\Below w.heap.size w w':=by
 have hcall:=zgJ hi A cap ps w hP hhi hm hk hT;have HC:=hid hcall;clear hcall hP hk hT;unfold maxLen at hm;unfold soundP;generalize ps.any oddB=r at *;generalize ps.length=n at *;by_cases h16:n<=16
 ·go_enter Tryz.func55,Tryz.ntmps55
  go_wp2_with (go_at_call 82;refine HC.out.mono ?_;rintro e w1 ⟨rfl,hb1⟩;have HB1:=hid hb1;clear hb1)
  go_ret
  exact ⟨by simp [h16],HB1.out⟩
 ·go_enter Tryz.func55,Tryz.ntmps55
  go_wp2
  go_ret
  exact ⟨by simp,Below.refl _ _⟩
def badB (s:GStep):Bool:=(s.list && (!s.key.toList.isEmpty || decide (s.i<0))) || (!s.list && !(s.i == 0)) || !valid s.key
theorem zl9 (s:GStep):badB s=oddB s:=by
 unfold badB oddB;cases hl:s.list with
 | true=>
  simp only [Bool.true_and,Bool.not_true,Bool.false_and,Bool.or_false,if_true];rcases zbw s.key with he | ⟨h1,h2⟩
  ·rw [zak he];simp [he]
  ·simp [h2]
 | false=>simp
def SoundRelP (W0:World) (ps:List GStep) (i:Value) (wr:World):Prop:=∃ k:Nat,i=.int .i64 k/\k<=ps.length/\(ps.take k).any oddB=false/\Below W0.heap.size W0 wr
theorem zfG {ps:List GStep} {k:Nat} (hk:k<ps.length) (h:oddB ps[k]=true):ps.any oddB=true:=List.any_eq_true.2 ⟨ps[k],List.getElem_mem hk,h⟩
theorem zfv {ps:List GStep} {k:Nat} (hk:k<ps.length) (h0:(ps.take k).any oddB=false) (h:oddB ps[k]=false):(ps.take (k+1)).any oddB=false:=by
 rw [List.take_succ_eq_append_getElem hk,List.any_append,h0];simp [h]
theorem za2 (hi:Nat) (A:Option Addr) (cap:Nat) (ps:List GStep) (w:World) (hP:Steps hi w A ps) (hhi:hi<=w.heap.size) (hm:ps.length<=maxLen) (hk:∀ s∈ps,s.key.size<=9223372036854775807) (hT:Tabs w):
  Calls Tryz.prog 68 #[.slice A ps.length cap] w fun e w'=>e=.returned (.bool (soundP ps))/\Below w.heap.size w w':=by
 have HP:=hid hP;have HT:=hid hT;have HK:=hid hk;clear hP hT hk;unfold maxLen at hm;go_enter Tryz.func68,Tryz.ntmps68
 go_wp2
 go_loopw [3] (SoundRelP w ps) (fun i _=>ps.length - (intOf i).toNat)
 case atStart=>exact ⟨0,rfl,Nat.zero_le _,by simp,Below.refl _ _⟩
 case round=>
  obtain ⟨k,rfl,hk,hno,hB⟩:=hrel;by_cases hlt:k<ps.length
  ·obtain ⟨pb,po,rfl,hpb,p0,p1,p2⟩:=(HP.out.keep (hB.mono hhi) (Nat.le_refl _)).one hlt
   have hbo:=zl9 ps[k];have hsz:=HK.out ps[k] (List.getElem_mem hlt);have hcall:=zao ps[k].key wr hsz (HT.out.below hB (Nat.le_refl _));have HC:=hid hcall;have HNO:=hid hno;have HB:=hid hB;have hyes:oddB ps[k]=true->soundP ps=false:=fun h=>by unfold soundP;rw [zfG hlt h];simp
   have hgo:oddB ps[k]=false->(ps.take (k+1)).any oddB=false:=zfv hlt hno;have HY:=hid hyes;have HG:=hid hgo;have HBO:=hid hbo;clear hcall hno hB hyes hgo hbo hsz;generalize ps[k]=s at *;obtain ⟨sl,si,sk⟩:=s;simp only at p0 p1 p2 HC HY HG HBO;unfold badB at HBO;simp only at HBO;cases sl with
   | true=>
    rcases zbw sk with he | ⟨h1,h2⟩
    ·have he2:sk.toList.isEmpty=true:=by simpa using he
     by_cases hn:si<0
     ·go_wp2
      go_ret
      exact ⟨by rw [HY.out (by simp [oddB,hn])]<;>rfl,HB.out⟩
     ·have HE:=hid (And.intro he hn)
      cases hv:valid sk with
      | true=>
       rw [hv] at HC;have HV:=hid hv;clear hv
       go_wp2_with (go_at_call 54;refine HC.out.mono ?_;rintro e w1 ⟨rfl,hb1⟩;have HB1:=hid hb1;clear hb1)
       go_roundw
       case rel=>exact ⟨k+1,by go_num,by omega,HG.out (by simp [oddB,HE.out.1,HE.out.2]),HB.out.trans (HB1.out.mono HB.out.size)⟩
       case measure=>simp [intOf];omega
      | false=>
       rw [hv] at HC;have HV:=hid hv;clear hv
       go_wp2_with (go_at_call 54;refine HC.out.mono ?_;rintro e w1 ⟨rfl,hb1⟩;have HB1:=hid hb1;clear hb1)
       go_ret
       exact ⟨by rw [HY.out (by rw [<- HBO.out,HV.out];simp)]<;>rfl,HB.out.trans (HB1.out.mono HB.out.size)⟩
    ·have H1:=hid h1
     clear h1;go_wp2
     go_ret
     exact ⟨by rw [HY.out (by simp [oddB,H1.out])]<;>rfl,HB.out⟩
   | false=>
    rcases zeW si with rfl | ⟨h1,h2,h3⟩
    ·cases hv:valid sk with
     | true=>
      rw [hv] at HC;have HV:=hid hv;clear hv
      go_wp2_with (go_at_call 54;refine HC.out.mono ?_;rintro e w1 ⟨rfl,hb1⟩;have HB1:=hid hb1;clear hb1)
      go_roundw
      case rel=>exact ⟨k+1,by go_num,by omega,HG.out (by simp [oddB,HV.out]),HB.out.trans (HB1.out.mono HB.out.size)⟩
      case measure=>simp [intOf];omega
     | false=>
      rw [hv] at HC;have HV:=hid hv;clear hv
      go_wp2_with (go_at_call 54;refine HC.out.mono ?_;rintro e w1 ⟨rfl,hb1⟩;have HB1:=hid hb1;clear hb1)
      go_ret
      exact ⟨by rw [HY.out (by rw [<- HBO.out,HV.out];simp)]<;>rfl,HB.out.trans (HB1.out.mono HB.out.size)⟩
    ·go_wp2
     go_ret
     exact ⟨by rw [HY.out (by simp [oddB,h3.out])]<;>rfl,HB.out⟩
  ·have hk':k=ps.length:=by omega
   rw [List.take_of_length_le (by omega)] at hno
   have HNO:=hid hno;have HB:=hid hB;clear hno hB;go_wp2
   go_ret
   have e:soundP ps=decide ((ps.length:Int)<=16):=by
    unfold soundP;rw [HNO.out];simp only [Bool.not_false,Bool.and_true];exact decide_eq_decide.2 (by omega)
   exact ⟨by rw [e]<;>rfl,HB.out⟩
end Go.Proofs.YtmmgdkpkcoopgaaGreatDoor
namespace Go.Proofs.YtmmgdkpkcoopgaaGreatDoor
open Go.Lib(hid)
open Go Go.RowKit
instance:Inhabited GStep:=⟨⟨false,0,⟨#[]⟩⟩⟩
def encG (x:GStep):List Value:=[.bool x.list,.int .i64 x.i,.string x.key]
def sameStep (x y:GStep):Bool:=x.list == y.list && (x.i == y.i && x.key.toList == y.key.toList)
theorem zlz:NeqAt Tryz.prog 85 (fun x:GStep=>.agg (encG x).toArray) sameStep:=by
 refine ⟨fun x y w=>?_,GuardAt.agg _ (by kernel_rfl)⟩
 have u3:=Tryz.underlying3;have a3:=Tryz.isAgg3;have z3:=Tryz.sizeOf3;have u4:=Tryz.underlying4;have a4:=Tryz.isAgg4;have z4:=Tryz.sizeOf4;have u9:=Tryz.underlying9;have a9:=Tryz.isAgg9;have z9:=Tryz.sizeOf9;have hS:Tryz.prog.underlying 85=some (.struct (Tryz.prog.fieldsOf 85)):=by kernel_rfl
 have hp:Tryz.prog.stoodInHeld 85=false:=by kernel_rfl
 simp only [encG,sameStep];rw [run_neq_struct,show (10000:Nat)=9999+1 from rfl,run_equalIn_agg w 9999 85 _ _ hS hp];simp only [Program.fieldsOf,Tryz.underlying85]
 go_simp
 by_cases h1:x.list=y.list<;>by_cases h2:x.i=y.i<;>by_cases h3:x.key.toList=y.key.toList<;>simp [h1,h2,h3]
theorem cellsG {ps:List GStep} {W:World} {b o:Nat} (hP:StepsAt W ⟨b,o,none⟩ ps):∀ j,j<ps.length->∀ i v,(encG ps[j]!)[i]? = some v->W.cell? ⟨b,o+j * 3+i,none⟩=some v:=fun j hj i v hv=>by
 obtain ⟨h0,h1,h2⟩:=hP j ps[j] (List.getElem?_eq_getElem hj);rw [getElem!_pos ps j hj] at hv;unfold encG at hv
 match i with
 | 0=>simp at hv;subst hv;exact h0
 | 1=>simp at hv;subst hv;exact h1
 | 2=>simp at hv;subst hv;exact h2
 | i+3=>simp at hv
theorem ziy (A B:Option Addr) (c d:Nat) (w:World):Calls Tryz.prog 108 #[.slice A 0 c,.slice B 0 d] w fun e w'=>e=.returned (.bool true)/\w'=w:=by
 go_enter Tryz.func108,Tryz.ntmps108
 go_wp2
 go_loopw [13] (fun i wr=>i=.int .i64 0/\wr=w) (fun _ _=>0)
 case atStart=>exact ⟨rfl,rfl⟩
 case round=>
  obtain ⟨rfl,rfl⟩:=hrel;go_wp2
  go_ret
  exact ⟨rfl,rfl⟩
end Go.Proofs.YtmmgdkpkcoopgaaGreatDoor
namespace Go.Proofs.YtmmgdkpkcoopgaaGreatDoor
open Go.Lib(hid)
set_option linter.unusedVariables false
set_option linter.unusedSimpArgs false
structure Cm (α:Type) where
 k:Nat
 i:Nat
 j:Nat
 v:α
def listK (k:Nat):Bool:=decide (k=4\/k=5\/k=6\/k=7)
variable {α:Type}
def insL (l:List α) (i:Nat) (v:α):List α:=l.take i++v :: l.drop i
def remL (l:List α) (i:Nat):List α:=l.take i++l.drop (i+1)
def doL (l:List α) (c:Cm α):List α:=
 if c.k=4 then insL l c.i c.v else if c.k=5 then remL l c.i else if c.k=6 then insL (remL l c.i) c.i c.v
 else match l[c.i]? with
  | some x=>insL (remL l c.i) c.j x
  | none=>l
def okC (n:Nat) (c:Cm α):Prop:=(c.k=4/\c.i<=n)\/((c.k=5\/c.k=6)/\c.i<n)\/(c.k=7/\c.i<n/\c.j<n)
theorem zff (l:List α) (i:Nat) (v:α) (h:i<=l.length) (k:Nat):(insL l i v)[k]? = if k<i then l[k]? else if k=i then some v else l[k - 1]?:=by
 unfold insL;have ht:(l.take i).length=i:=by simp;omega
 by_cases h1:k<i
 ·rw [if_pos h1,List.getElem?_append_left (by omega),List.getElem?_take,if_pos h1]
 ·rw [if_neg h1,List.getElem?_append_right (by omega),ht]
  by_cases h2:k=i
  ·subst h2;simp
  ·rw [if_neg h2,show k - i=(k - i - 1)+1 by omega,List.getElem?_cons_succ,List.getElem?_drop]
   congr 1;omega
theorem zex (l:List α) (i:Nat) (h:i<l.length) (k:Nat):(remL l i)[k]? = if k<i then l[k]? else l[k+1]?:=by
 unfold remL;have ht:(l.take i).length=i:=by simp;omega
 by_cases h1:k<i
 ·rw [if_pos h1,List.getElem?_append_left (by omega),List.getElem?_take,if_pos h1]
 ·rw [if_neg h1,List.getElem?_append_right (by omega),ht,List.getElem?_drop]
  congr 1;omega
theorem zd4 (l:List α) (i:Nat) (v:α) (h:i<=l.length):(insL l i v).length=l.length+1:=by unfold insL;simp;omega
theorem zca (l:List α) (i:Nat) (h:i<l.length):(remL l i).length=l.length - 1:=by unfold remL;simp;omega
theorem zjH {l:List α} {c:Cm α} (h:c.k=4):doL l c=insL l c.i c.v:=by unfold doL;simp [h]
theorem ziV {l:List α} {c:Cm α} (h:c.k=5):doL l c=remL l c.i:=by unfold doL;simp [h]
theorem zhW {l:List α} {c:Cm α} (h:c.k=6):doL l c=insL (remL l c.i) c.i c.v:=by unfold doL;simp [h]
theorem zhq {l:List α} {c:Cm α} (h:c.k=7) (hi:c.i<l.length):doL l c=insL (remL l c.i) c.j l[c.i]:=by unfold doL;simp [h,hi]
theorem znj {l:List α} {c:Cm α} (h:okC l.length c) (k:Nat):(doL l c)[k]? =
  if c.k=4 then (if k<c.i then l[k]? else if k=c.i then some c.v else l[k - 1]?)
  else if c.k=5 then (if k<c.i then l[k]? else l[k+1]?)
  else if c.k=6 then (if k=c.i then some c.v else l[k]?)
  else (if k=c.j then l[c.i]? else if k<c.j then (if k<c.i then l[k]? else l[k+1]?) else (if k - 1<c.i then l[k - 1]? else l[k]?)):=by
 obtain ⟨ck,ci,cj,cv⟩:=c;rcases h with ⟨h,hi⟩ | ⟨h | h,hi⟩ | ⟨h,hi,hj⟩<;>simp only at h hi<;>subst h
 ·rw [zjH rfl,zff _ _ _ hi];simp
 ·rw [ziV rfl,zex _ _ hi];simp
 ·have hl:=zca l ci hi
  rw [zhW rfl,zff _ _ _ (by simp only;omega),zex _ _ hi,zex _ _ hi]
  simp only;by_cases h1:k<ci
  ·simp [h1,show k≠ci by omega]
  ·by_cases h2:k=ci
   ·simp [h2]
   ·simp [h1,h2,show ¬ k - 1<ci by omega,show k - 1+1=k by omega]
 ·have hl:=zca l ci hi
  rw [zhq rfl hi,zff _ _ _ (by simp only at hj ⊢;omega),zex _ _ hi,zex _ _ hi]
  simp only;by_cases h1:k<cj
  ·simp [h1,show k≠cj by omega]
  ·by_cases h2:k=cj
   ·simp [h2,List.getElem?_eq_getElem hi]
   ·simp [h1,h2,show k - 1+1=k by omega]
theorem zm8 {l:List α} {c:Cm α} (h:okC l.length c):(doL l c).length=if c.k=4 then l.length+1 else if c.k=5 then l.length - 1 else l.length:=by
 obtain ⟨ck,ci,cj,cv⟩:=c;rcases h with ⟨h,hi⟩ | ⟨h | h,hi⟩ | ⟨h,hi,hj⟩<;>simp only at h hi<;>subst h
 ·rw [zjH rfl,zd4 _ _ _ hi];simp
 ·rw [ziV rfl,zca _ _ hi];simp
 ·have hl:=zca l ci hi
  rw [zhW rfl,zd4 _ _ _ (by simp only;omega),hl];simp;omega
 ·have hl:=zca l ci hi
  rw [zhq rfl hi,zd4 _ _ _ (by simp only at hj ⊢;omega),hl];simp;omega
theorem do_set' {l:List α} {c:Cm α} (h:c.k=6) (hi:c.i<l.length):doL l c=l.set c.i c.v:=by
 rw [zhW h];unfold insL remL;have ht:(l.take c.i).length=c.i:=by simp;omega
 rw [List.take_left' ht,List.drop_left' ht,List.set_eq_take_append_cons_drop,if_pos hi]
theorem zcM (l:List α) (j:Nat) (a:α) (hj:j<=l.length):(insL l j a)[j]? = some a:=by
 rw [zff _ _ _ hj];simp
end Go.Proofs.YtmmgdkpkcoopgaaGreatDoor
namespace Go.Proofs.YtmmgdkpkcoopgaaGreatDoor
open Go.Lib(hid)
set_option linter.unusedVariables false
set_option linter.unusedSimpArgs false
def cutAt (wd:Nat->Nat) (n:Nat):Nat->Nat
 | 0=>0
 | k+1=>if cutAt wd n k<n then cutAt wd n k+wd (cutAt wd n k) else n
def Wide (wd:Nat->Nat) (n:Nat):Prop:=∀ p,p<n->1<=wd p/\p+wd p<=n
structure Chars (wd:Nat->Nat) (n c:Nat):Prop where
 lt:∀ k,k<c->cutAt wd n k<n
 eq:cutAt wd n c=n
theorem zh9 {wd:Nat->Nat} {n:Nat} (h:Wide wd n):∀ k,cutAt wd n k<=n
 | 0=>Nat.zero_le _
 | k+1=>by
  unfold cutAt;split
  ·exact (h _ ‹_›).2
  ·exact Nat.le_refl _
theorem zfh {wd:Nat->Nat} {n k:Nat} (h:cutAt wd n k<n):cutAt wd n (k+1)=cutAt wd n k+wd (cutAt wd n k):=by
 rw [cutAt,if_pos h]
theorem zjV {wd:Nat->Nat} {n k:Nat} (h:cutAt wd n k=n):∀ j,cutAt wd n (k+j)=n
 | 0=>h
 | j+1=>by rw [<- Nat.add_assoc,cutAt,if_neg (by rw [zjV h j];omega)]
theorem zh3 {wd:Nat->Nat} {n:Nat} (h:Wide wd n) (k:Nat):∀ j,cutAt wd n k<=cutAt wd n (k+j)
 | 0=>Nat.le_refl _
 | j+1=>by
  refine Nat.le_trans (zh3 h k j) ?_
  rw [<- Nat.add_assoc,cutAt];split
  ·omega
  ·exact zh9 h _
theorem zgO {wd:Nat->Nat} {n:Nat} (h:Wide wd n):∀ k,k<=n->k<=cutAt wd n k
 | 0,_=>Nat.zero_le _
 | k+1,hk=>by
  have h1:=zgO h k (by omega)
  rw [cutAt];split
  ·have:=(h _ ‹_›).1;omega
  ·exact hk
theorem ziz {wd:Nat->Nat} {n:Nat} (h:Wide wd n):∃ c,c<=n/\Chars wd n c:=by
 have key:∀ d k,k+d=n->(∀ j,j<k->cutAt wd n j<n)->∃ c,c<=n/\Chars wd n c:=fun d=>by
  induction d with
  | zero=>exact fun k hk hj=>⟨n,Nat.le_refl _,fun j hjn=>hj j (by omega),Nat.le_antisymm (zh9 h _) (zgO h n (Nat.le_refl _))⟩
  | succ d ih=>
   intro k hk hj;by_cases hc:cutAt wd n k<n
   ·exact ih (k+1) (by omega) (fun j hjk=>if e:j=k then e ▸ hc else hj j (by omega))
   ·exact ⟨k,by omega,hj,Nat.le_antisymm (zh9 h _) (by omega)⟩
 exact key n 0 (by omega) (fun j hj=>absurd hj (by omega))
theorem Chars.past {wd:Nat->Nat} {n c k:Nat} (hc:Chars wd n c) (hk:c<=k):cutAt wd n k=n:=by
 obtain ⟨j,rfl⟩:=Nat.exists_eq_add_of_le hk;exact zjV hc.eq j
theorem Chars.iff {wd:Nat->Nat} {n c k:Nat} (hc:Chars wd n c):cutAt wd n k<n↔k<c:=by
 refine ⟨fun h=>?_,hc.lt k⟩
 by_cases hk:k<c
 ·exact hk
 ·exact absurd h (by rw [hc.past (by omega)];omega)
def cutsL (wd:Nat->Nat) (n k:Nat):List Nat:=(List.range k).map (cutAt wd n)
theorem zkv (wd:Nat->Nat) (n k:Nat) {j:Nat} (h:j<k):(cutsL wd n k)[j]? = some (cutAt wd n j):=by simp [cutsL,h]
theorem zgt (wd:Nat->Nat) (n k:Nat):cutsL wd n (k+1)=cutsL wd n k++[cutAt wd n k]:=by simp [cutsL,List.range_succ]
open Go Go.Lib
def wdS (s:ByteArray) (p:Nat):Nat:=(Utf8.decode s p).2
theorem zcz (n b0 b1 b2 b3:Nat) (hn:1<=n):(decodeN n b0 b1 b2 b3).2<=n:=by
 unfold decodeN
 (repeat' split)<;>simp only<;>omega
theorem zdZ (s:ByteArray):Wide (wdS s) s.size:=fun p hp=>by
 refine ⟨width_pos s p,?_⟩
 unfold wdS;rw [decode_at];have:=zcz (s.size - p) (s.get! p).toNat (s.get! (p+1)).toNat (s.get! (p+2)).toNat (s.get! (p+3)).toNat (by omega)
 omega
theorem zmq (s:ByteArray) (n:Nat):wdS (s.extract n s.size)=fun p=>wdS s (n+p):=funext fun p=>by
 unfold wdS;rw [tail_decode]
def cutS (s:ByteArray) (k:Nat):Nat:=cutAt (wdS s) s.size k
def CharsS (s:ByteArray) (c:Nat):Prop:=Chars (wdS s) s.size c
theorem zgX (s:ByteArray):∃ c,c<=s.size/\CharsS s c:=ziz (zdZ s)
theorem zcH (s:ByteArray) (k:Nat):cutS s k<=s.size:=zh9 (zdZ s) k
theorem zee (s:ByteArray) (n:Nat) (h:n<=s.size):(s.extract n s.size).size=s.size - n:=by simp [ByteArray.size_extract]
def insS (s:ByteArray) (i:Nat) (t:ByteArray):ByteArray:=s.extract 0 (cutS s i)++t++s.extract (cutS s i) s.size
def delS (s:ByteArray) (i n:Nat):ByteArray:=s.extract 0 (cutS s i)++s.extract (cutS s (i+n)) s.size
def chkT (c:Int) (k:Nat) (i n:Int):Int:=
 if k=8 then (if 0<=i/\i<=c then 0 else 32) else if k=9 then (if (0<=i/\i<=c)/\(1<=n/\n<=c - i) then 0 else 32) else 31
theorem zer {c k:Nat} {i n:Int} (h:chkT c k i n=0):∃ i':Nat,i=i'/\i'<=c/\(k=8\/(k=9/\∃ n':Nat,n=n'/\1<=n'/\i'+n'<=c)):=by
 unfold chkT at h;by_cases h8:k=8
 ·rw [if_pos h8] at h
  split at h
  ·exact ⟨i.toNat,by omega,by omega,.inl h8⟩
  ·omega
 ·rw [if_neg h8] at h
  by_cases h9:k=9
  ·rw [if_pos h9] at h
   split at h
   ·exact ⟨i.toNat,by omega,by omega,.inr ⟨h9,n.toNat,by omega,by omega,by omega⟩⟩
   ·omega
  ·rw [if_neg h9] at h
   omega
variable {α:Type}
inductive TC (α:Type) where
 | ins (i:Nat) (t:List α)
 | del (i n:Nat)
def doT (l:List α):TC α->List α
 | .ins i t=>l.take i++(t++l.drop i)
 | .del i n=>l.take i++l.drop (i+n)
theorem zcZ (n n' b0 b1 b2 b3 c1 c2 c3:Nat) (h:decodeN n b0 b1 b2 b3≠(65533,1)) (hn:(decodeN n b0 b1 b2 b3).2<=n') (h1:2<=(decodeN n b0 b1 b2 b3).2->c1=b1) (h2:3<=(decodeN n b0 b1 b2 b3).2->c2=b2) (h3:4<=(decodeN n b0 b1 b2 b3).2->c3=b3):
  decodeN n' b0 c1 c2 c3=decodeN n b0 b1 b2 b3:=by
 generalize hd:decodeN n b0 b1 b2 b3=d at *;unfold decodeN at hd;split at hd
 ·subst hd
  unfold decodeN;rw [if_pos ‹_›]
 ·rename_i a0
  split at hd
  ·rename_i a1
   split at hd
   ·rename_i a2
    subst hd;obtain rfl:=h1 (Nat.le_refl 2);unfold decodeN;rw [if_neg a0,if_pos ⟨a1.1,by simp only at hn;omega,a1.2.2⟩,if_pos a2]
   ·exact absurd hd.symm h
  ·rename_i a1
   split at hd
   ·rename_i a2
    split at hd
    ·rename_i a3
     subst hd;obtain rfl:=h1 (by show 2<=_;omega)
     obtain rfl:=h2 (Nat.le_refl 3);simp only at hn;unfold decodeN;rw [if_neg a0,if_neg (by omega),if_pos ⟨a2.1,⟨by omega,a2.2.1.2⟩,by omega,a2.2.2.2⟩,if_pos a3]
    ·exact absurd hd.symm h
   ·rename_i a2
    split at hd
    ·rename_i a3
     split at hd
     ·rename_i a4
      subst hd;obtain rfl:=h1 (by show 2<=_;omega)
      obtain rfl:=h2 (by show 3<=_;omega)
      obtain rfl:=h3 (Nat.le_refl 4);simp only at hn;unfold decodeN;rw [if_neg a0,if_neg (by omega),if_neg (by omega),if_pos ⟨a3.1,⟨by omega,a3.2.1.2⟩,⟨by omega,a3.2.2.1.2⟩,by omega,a3.2.2.2.2⟩,if_pos a4]
     ·exact absurd hd.symm h
    ·exact absurd hd.symm h
def IsChar (u:List UInt8):Prop:=decodeL u≠(65533,1)/\(decodeL u).2=u.length
theorem IsChar.pos {u:List UInt8} (h:IsChar u):1<=u.length:=by rw [<- h.2];exact width_pos _ _
theorem zdI {u:List UInt8} (r:List UInt8) (h:IsChar u):decodeL (u++r)=decodeL u:=by
 have h0:=h.pos;obtain ⟨h1,h2⟩:=h;rw [decodeL_N] at h1 h2;rw [decodeL_N,decodeL_N u];have hg:∀ j,j<u.length->(u++r).getD j 0=u.getD j 0:=fun j hj=>by
  simp only [List.getD];rw [List.getElem?_append_left hj]
 rw [hg 0 (by omega)]
 exact zcZ _ _ _ _ _ _ _ _ _ h1 (by rw [h2];simp) (fun h=>by rw [hg 1 (by omega)]) (fun h=>by rw [hg 2 (by omega)]) (fun h=>by rw [hg 3 (by omega)])
def Reads (s:ByteArray) (cs:List (List UInt8)):Prop:=s.data.toList=cs.flatten/\∀ u∈cs,IsChar u
theorem Reads.size {s:ByteArray} {cs:List (List UInt8)} (h:Reads s cs):s.size=cs.flatten.length:=by
 rw [<- h.1];exact Array.length_toList.symm
theorem zjF {α:Type} (cs:List (List α)) (k:Nat) (h:k<cs.length):(cs.take (k+1)).flatten.length=(cs.take k).flatten.length+cs[k].length:=by
 rw [List.take_succ_eq_append_getElem h,List.flatten_append,List.length_append]
 congr 1
 rw [List.flatten_cons,List.flatten_nil,List.append_nil]
theorem zef {α:Type} (cs:List (List α)) (k:Nat):cs.flatten.drop (cs.take k).flatten.length=(cs.drop k).flatten:=by
 have h:cs.flatten=(cs.take k).flatten++(cs.drop k).flatten:=by rw [<- List.flatten_append,List.take_append_drop]
 rw [h];exact List.drop_left
theorem Reads.cut {s:ByteArray} {cs:List (List UInt8)} (h:Reads s cs):∀ k,cutS s k=(cs.take k).flatten.length
 | 0=>by simp [cutS,cutAt]
 | k+1=>by
  have ih:=Reads.cut h k;have hs:=h.size;unfold cutS at *;rw [cutAt,ih];by_cases hk:k<cs.length
  ·have h1:=zjF cs k hk
   have h2:=(h.2 _ (List.getElem_mem hk)).pos;have h3:(cs.take (k+1)).flatten.length<=cs.flatten.length:=by
    have e:cs.flatten=(cs.take (k+1)).flatten++(cs.drop (k+1)).flatten:=by rw [<- List.flatten_append,List.take_append_drop]
    rw [e,List.length_append];omega
   rw [if_pos (by omega),h1]
   congr 1
   unfold wdS;rw [<- decodeL_drop,h.1,zef,List.drop_eq_getElem_cons hk,List.flatten_cons,zdI _ (h.2 _ (List.getElem_mem hk))];exact (h.2 _ (List.getElem_mem hk)).2
  ·rw [List.take_of_length_le (by omega),<- hs,if_neg (by omega),List.take_of_length_le (by omega),hs]
theorem zbC (s:ByteArray) (a b:Nat):(s.extract a b).data.toList=(s.data.toList.take b).drop a:=by
 rw [ByteArray.data_extract,Array.toList_extract,List.extract_eq_take_drop];rw [List.drop_take]
theorem Reads.ins {s t:ByteArray} {cs ts:List (List UInt8)} (h:Reads s cs) (ht:Reads t ts) (i:Nat):Reads (insS s i t) (doT cs (.ins i ts)):=by
 refine ⟨?_,fun u hu=>?_⟩
 ·unfold insS doT
  rw [ByteArray.data_append,ByteArray.data_append,Array.toList_append,Array.toList_append,zbC,zbC,h.cut,List.drop_zero,h.1,ht.1,h.size,List.take_length,zef];simp only [List.flatten_append,List.append_assoc]
  congr 1
  have e:cs.flatten=(cs.take i).flatten++(cs.drop i).flatten:=by rw [<- List.flatten_append,List.take_append_drop]
  rw [e];exact List.take_left
 ·unfold doT at hu
  rcases List.mem_append.1 hu with hu | hu
  ·exact h.2 u (List.mem_of_mem_take hu)
  ·rcases List.mem_append.1 hu with hu | hu
   ·exact ht.2 u hu
   ·exact h.2 u (List.mem_of_mem_drop hu)
theorem Reads.del {s:ByteArray} {cs:List (List UInt8)} (h:Reads s cs) (i n:Nat):Reads (delS s i n) (doT cs (.del i n)):=by
 refine ⟨?_,fun u hu=>?_⟩
 ·unfold delS doT
  rw [ByteArray.data_append,Array.toList_append,zbC,zbC,h.cut,h.cut,List.drop_zero,h.1,h.size,List.take_length,zef];simp only [List.flatten_append]
  congr 1
  have e:cs.flatten=(cs.take i).flatten++(cs.drop i).flatten:=by rw [<- List.flatten_append,List.take_append_drop]
  rw [e];exact List.take_left
 ·unfold doT at hu
  rcases List.mem_append.1 hu with hu | hu
  ·exact h.2 u (List.mem_of_mem_take hu)
  ·exact h.2 u (List.mem_of_mem_drop hu)
theorem zf6 (l:List UInt8) (h:l≠[]):(decodeL l).2<=l.length:=by
 have hl:1<=l.length:=by
  cases l with
  | nil=>exact absurd rfl h
  | cons _ _=>simp
 rw [decodeL_N];exact zcz _ _ _ _ _ hl
theorem zms (l:List UInt8) (h:l≠[]) (hv:decodeL l≠(65533,1)):IsChar (l.take (decodeL l).2):=by
 have hw:=zf6 l h;have h1:1<=(decodeL l).2:=width_pos _ _;have hlen:(l.take (decodeL l).2).length=(decodeL l).2:=by rw [List.length_take];omega
 have hg:∀ j,j<(decodeL l).2->(l.take (decodeL l).2).getD j 0=l.getD j 0:=fun j hj=>by
  simp only [List.getD];rw [List.getElem?_take,if_pos hj]
 have he:decodeL (l.take (decodeL l).2)=decodeL l:=by
  generalize hd:(decodeL l).2=d at *;rw [decodeL_N,decodeL_N l,hlen,hg 0 (by omega)]
  rw [decodeL_N] at hd hv;exact zcZ _ _ _ _ _ _ _ _ _ hv (by omega) (fun h=>by rw [hg 1 (by omega)]) (fun h=>by rw [hg 2 (by omega)]) (fun h=>by rw [hg 3 (by omega)])
 exact ⟨by rw [he];exact hv,by rw [he,hlen]⟩
theorem zh7:∀ (n:Nat) (l:List UInt8),l.length<=n->validD l=true->∃ cs:List (List UInt8),l=cs.flatten/\∀ u∈cs,IsChar u
 | 0,l,hn,_=>⟨[],by simpa using hn,by simp⟩
 | n+1,l,hn,hv=>by
  by_cases hl:l=[]
  ·exact ⟨[],by simpa using hl,by simp⟩
  ·rw [validD_step l hl] at hv
   split at hv
   ·exact absurd hv (by simp)
   ·rename_i hd
    have h1:1<=(decodeL l).2:=width_pos _ _;obtain ⟨cs,hc,hi⟩:=zh7 n (l.drop (decodeL l).2) (by rw [List.length_drop];omega) hv
    refine ⟨l.take (decodeL l).2 :: cs,?_,?_⟩
    ·rw [List.flatten_cons,<- hc,List.take_append_drop]
    ·intro u hu
     rcases List.mem_cons.1 hu with rfl | hu
     ·exact zms l hl (fun e=>hd ⟨by rw [e],by rw [e]⟩)
     ·exact hi u hu
theorem zfs {s:ByteArray} (h:validD s.data.toList=true):∃ cs,Reads s cs:=by
 obtain ⟨cs,h1,h2⟩:=zh7 _ _ (Nat.le_refl _) h;exact ⟨cs,h1,h2⟩
end Go.Proofs.YtmmgdkpkcoopgaaGreatDoor
namespace Go.Proofs.YtmmgdkpkcoopgaaGreatDoor
open Go.Lib(hid)
open Go Go.RowKit
set_option linter.unusedVariables false
set_option linter.unusedSimpArgs false
structure GC where
 kq:Int
 path:List GStep
 key:ByteArray
 i:Int
 j:Int
 n:Int
 v:GV
 s:ByteArray
abbrev oC (c:GC) (A:Option Addr) (p:Nat) (B:Option Addr) (q:Nat) (C:Option Addr) (r:Nat):Obj:=.cells #[.int .u8 c.kq,.slice A c.path.length p,.string c.key,.int .i64 c.i,.int .i64 c.j,.int .i64 c.n,.int .u8 c.v.kq,.int .i64 c.v.num,.string c.v.str,.slice B c.v.il.length q,.slice C c.v.vz.length r,.string c.s] 45
abbrev vC (c:GC) (A:Option Addr) (p:Nat) (B:Option Addr) (q:Nat) (C:Option Addr) (r:Nat):Value:=.agg #[.int .u8 c.kq,.slice A c.path.length p,.string c.key,.int .i64 c.i,.int .i64 c.j,.int .i64 c.n,.int .u8 c.v.kq,.int .i64 c.v.num,.string c.v.str,.slice B c.v.il.length q,.slice C c.v.vz.length r,.string c.s]
def noG:GV:=.mk 0 0 ⟨#[]⟩ [] [] []
def noC:GC:=⟨0,[],⟨#[]⟩,0,0,0,noG,⟨#[]⟩⟩
def samePB (p q:List GStep):Bool:=decide (p.length=q.length) && Lib.allEq sameStep p q
def GC.Same (a b:GC):Prop:=
 a.kq=b.kq/\a.key.toList=b.key.toList/\a.i=b.i/\a.j=b.j/\a.n=b.n/\a.s.toList=b.s.toList/\samePB a.path b.path=true/\a.v.Same b.v
def GC.Silent (c:GC):Prop:=
 (c.kq=1\/c.kq=9\/c.n=0)/\(c.kq=2\/c.kq=3\/c.key.toList=[])/\(c.kq=2\/c.kq=4\/c.kq=6\/c.v.Same noG)/\(4<=c.kq\/c.i=0)/\(c.kq=7\/c.j=0)/\(c.kq=8\/c.s.toList=[])
def GC.KindOk (c:GC):Prop:=(1<=c.kq/\c.kq<=9)/\c.Silent/\(c.kq=8->c.s.toList≠[]/\valid c.s=true)/\(c.kq=9->1<=c.n)
def GC.ValueOk (c:GC):Prop:=c.v.Sound/\c.path.length+1+c.v.deep<=16/\c.v.weight<=20000
def GC.Sound (c:GC):Prop:=0<=c.i/\0<=c.j/\valid c.key=true/\soundP c.path=true/\c.KindOk/\c.ValueOk
def nChars (s:ByteArray):Nat:=(List.range s.size).countP fun k=>decide (cutS s k<s.size)
theorem zeo (c:Nat):∀ n,(List.range n).countP (fun k=>decide (k<c))=min n c
 | 0=>by simp
 | n+1=>by
  rw [List.range_succ,List.countP_append,zeo c n];by_cases h:n<c<;>simp [h]<;>omega
theorem zgI {s:ByteArray} {c:Nat} (h:CharsS s c) (hc:c<=s.size):nChars s=c:=by
 unfold nChars;have e:(fun k=>decide (cutS s k<s.size))=fun k=>decide (k<c):=funext fun k=>by
  have:=Chars.iff (k:=k) h;unfold cutS;simp only [this]
 rw [e,zeo];omega
theorem zaR (s:ByteArray):CharsS s (nChars s)/\nChars s<=s.size:=by
 obtain ⟨c,hc,h⟩:=zgX s;rw [zgI h hc];exact ⟨h,hc⟩
def worksOn (k:Int):Int:=if k=1 then 2 else if k=2\/k=3 then 5 else if k=8\/k=9 then 3 else 4
def chkL (n:Int) (k:Int) (i j:Int):Int:=
 if k=4 then (if 0<=i/\i<=n then 0 else 32) else if k=5\/k=6 then (if 0<=i/\i<n then 0 else 32) else if k=7 then (if (0<=i/\i<n)/\0<=j/\j<n then 0 else 32) else 31
def chkH (h:GV) (c:GC):Int:=
 if h.kq≠worksOn c.kq then 31
 else if h.kq=4 then chkL h.il.length c.kq c.i c.j
 else if h.kq=3 then chkT (nChars h.str) c.kq.toNat c.i c.n
 else if c.kq=3/\there c.key h.keys=false then 33 else 0
def doH (h:GV) (c:GC):GV:=
 if c.kq=1 then .mk h.kq (IntKind.i64.wrap (h.num+c.n)) h.str h.il h.keys h.vz
 else if c.kq=2 then (if there c.key h.keys=true then .mk h.kq h.num h.str h.il h.keys (h.vz.set (place c.key h.keys) c.v) else .mk h.kq h.num h.str h.il (insL h.keys (place c.key h.keys) c.key) (insL h.vz (place c.key h.keys) c.v))
 else if c.kq=3 then .mk h.kq h.num h.str h.il (remL h.keys (place c.key h.keys)) (remL h.vz (place c.key h.keys))
 else if c.kq=8 then .mk h.kq h.num (insS h.str c.i.toNat c.s) h.il h.keys h.vz
 else if c.kq=9 then .mk h.kq h.num (delS h.str c.i.toNat c.n.toNat) h.il h.keys h.vz
 else .mk h.kq h.num h.str (doL h.il ⟨c.kq.toNat,c.i.toNat,c.j.toNat,c.v⟩) h.keys h.vz
end Go.Proofs.YtmmgdkpkcoopgaaGreatDoor
