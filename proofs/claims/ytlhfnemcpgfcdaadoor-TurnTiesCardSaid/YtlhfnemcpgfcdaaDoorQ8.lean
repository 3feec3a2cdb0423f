/- Texts in one: PSound, PBegins, SeqM. -/
import Derived.Test.YtlhfnemcpgfcdaaDoorQ6
import Derived.Test.YtlhfnemcpgfcdaaDoorQ7
import Derived.Test.YtlhfnemcpgfcdaaDoorLaysP
import Derived.Laws.StructEq
import Derived.BigQuiet
import Derived.Deep.QuietTactic
import Derived.WalkKit
set_option maxHeartbeats 4000000
namespace Go.Proofs.YtlhfnemcpgfcdaaDoor
open Go Go.RowKit
def oddB (s:GStep):Bool:=if s.list then (decide (s.i<0) || !s.key.toList.isEmpty) else (!(s.i == 0) || !valid s.key)
def soundP (ps:List GStep):Bool:=decide (ps.length≤16) && !ps.any oddB
def badB (s:GStep):Bool:=(s.list && (!s.key.toList.isEmpty || decide (s.i<0))) || (!s.list && !(s.i == 0)) || !valid s.key
theorem bad_odd (s:GStep):badB s=oddB s:=by
 unfold badB oddB
 cases hl:s.list with
 | true=>
  simp only [Bool.true_and,Bool.not_true,Bool.false_and,Bool.or_false,if_true]
  rcases str_cases s.key with he | ⟨h1,h2⟩
  ·rw [valid_empty he];simp [he]
  ·simp [h2]
 | false=>simp
def SoundRelP (W0:World) (ps:List GStep) (i:Value) (wr:World):Prop:=∃ k:Nat,i=.int .i64 k∧k≤ps.length∧(ps.take k).any oddB=false∧Below W0.heap.size W0 wr
theorem any_take_true {ps:List GStep} {k:Nat} (hk:k<ps.length) (h:oddB ps[k]=true):ps.any oddB=true:=List.any_eq_true.2 ⟨ps[k],List.getElem_mem hk,h⟩
theorem any_take_succ {ps:List GStep} {k:Nat} (hk:k<ps.length) (h0:(ps.take k).any oddB=false) (h:oddB ps[k]=false):(ps.take (k+1)).any oddB=false:=by
 rw [List.take_succ_eq_append_getElem hk,List.any_append,h0]
 simp [h]
theorem ref_SoundP (hi:Nat) (A:Option Addr) (cap:Nat) (ps:List GStep) (w:World) (hP:Steps hi w A ps) (hhi:hi≤w.heap.size) (hm:ps.length≤maxLen) (hk:∀ s∈ps,s.key.size≤9223372036854775807) (hT:Tabs w):
  Calls Tryd.prog 57 #[.slice A ps.length cap] w fun e w'=>e=.returned (.bool (soundP ps))∧Below w.heap.size w w':=by
 have HP:=Lib.hid hP
 have HT:=Lib.hid hT
 have HK:=Lib.hid hk
 clear hP hT hk
 unfold maxLen at hm
 go_enter Tryd.func57,Tryd.ntmps57
 go_wp2
 go_loopw [3] (SoundRelP w ps) (fun i _=>ps.length - (intOf i).toNat)
 case atStart=>exact ⟨0,rfl,Nat.zero_le _,by simp,Below.refl _ _⟩
 case round=>
  obtain ⟨k,rfl,hk,hno,hB⟩:=hrel
  by_cases hlt:k<ps.length
  ·obtain ⟨pb,po,rfl,hpb,p0,p1,p2⟩:=(HP.out.keep (hB.mono hhi) (Nat.le_refl _)).one hlt
   have hbo:=bad_odd ps[k]
   have hsz:=HK.out ps[k] (List.getElem_mem hlt)
   have hcall:=call_valid ps[k].key wr hsz (HT.out.below hB (Nat.le_refl _))
   have HC:=Lib.hid hcall
   have HNO:=Lib.hid hno
   have HB:=Lib.hid hB
   have hyes:oddB ps[k]=true→soundP ps=false:=fun h=>by unfold soundP;rw [any_take_true hlt h];simp
   have hgo:oddB ps[k]=false→(ps.take (k+1)).any oddB=false:=any_take_succ hlt hno
   have HY:=Lib.hid hyes
   have HG:=Lib.hid hgo
   have HBO:=Lib.hid hbo
   clear hcall hno hB hyes hgo hbo hsz
   generalize ps[k]=s at *
   obtain ⟨sl,si,sk⟩:=s
   simp only at p0 p1 p2 HC HY HG HBO
   unfold badB at HBO
   simp only at HBO
   cases sl with
   | true=>
    rcases str_cases sk with he | ⟨h1,h2⟩
    ·have he2:sk.toList.isEmpty=true:=by simpa using he
     by_cases hn:si<0
     ·go_wp2
      go_ret
      exact ⟨by rw [HY.out (by simp [oddB,hn])]<;>rfl,HB.out⟩
     ·have HE:=Lib.hid (And.intro he hn)
      cases hv:valid sk with
      | true=>
       rw [hv] at HC
       have HV:=Lib.hid hv
       clear hv
       go_wp2_with (go_at_call 59;refine HC.out.mono ?_;rintro e w1 ⟨rfl,hb1⟩;have HB1:=Lib.hid hb1;clear hb1)
       go_roundw
       case rel=>exact ⟨k+1,by go_num,by omega,HG.out (by simp [oddB,HE.out.1,HE.out.2]),HB.out.trans (HB1.out.mono HB.out.size)⟩
       case measure=>simp [intOf];omega
      | false=>
       rw [hv] at HC
       have HV:=Lib.hid hv
       clear hv
       go_wp2_with (go_at_call 59;refine HC.out.mono ?_;rintro e w1 ⟨rfl,hb1⟩;have HB1:=Lib.hid hb1;clear hb1)
       go_ret
       exact ⟨by rw [HY.out (by rw [← HBO.out,HV.out];simp)]<;>rfl,HB.out.trans (HB1.out.mono HB.out.size)⟩
    ·have H1:=Lib.hid h1
     clear h1
     go_wp2
     go_ret
     exact ⟨by rw [HY.out (by simp [oddB,H1.out])]<;>rfl,HB.out⟩
   | false=>
    rcases zero_cases si with rfl | ⟨h1,h2,h3⟩
    ·cases hv:valid sk with
     | true=>
      rw [hv] at HC
      have HV:=Lib.hid hv
      clear hv
      go_wp2_with (go_at_call 59;refine HC.out.mono ?_;rintro e w1 ⟨rfl,hb1⟩;have HB1:=Lib.hid hb1;clear hb1)
      go_roundw
      case rel=>exact ⟨k+1,by go_num,by omega,HG.out (by simp [oddB,HV.out]),HB.out.trans (HB1.out.mono HB.out.size)⟩
      case measure=>simp [intOf];omega
     | false=>
      rw [hv] at HC
      have HV:=Lib.hid hv
      clear hv
      go_wp2_with (go_at_call 59;refine HC.out.mono ?_;rintro e w1 ⟨rfl,hb1⟩;have HB1:=Lib.hid hb1;clear hb1)
      go_ret
      exact ⟨by rw [HY.out (by rw [← HBO.out,HV.out];simp)]<;>rfl,HB.out.trans (HB1.out.mono HB.out.size)⟩
    ·go_wp2
     go_ret
     exact ⟨by rw [HY.out (by simp [oddB,h3.out])]<;>rfl,HB.out⟩
  ·have hk':k=ps.length:=by omega
   rw [List.take_of_length_le (by omega)] at hno
   have HNO:=Lib.hid hno
   have HB:=Lib.hid hB
   clear hno hB
   go_wp2
   go_ret
   have e:soundP ps=decide ((ps.length:Int)≤16):=by
    unfold soundP
    rw [HNO.out]
    simp only [Bool.not_false,Bool.and_true]
    exact decide_eq_decide.2 (by omega)
   exact ⟨by rw [e]<;>rfl,HB.out⟩
end Go.Proofs.YtlhfnemcpgfcdaaDoor
namespace Go.Proofs.YtlhfnemcpgfcdaaDoor
open Go Go.RowKit
instance:Inhabited GStep:=⟨⟨false,0,⟨#[]⟩⟩⟩
def encG (x:GStep):List Value:=[.bool x.list,.int .i64 x.i,.string x.key]
def sameStep (x y:GStep):Bool:=x.list == y.list && (x.i == y.i && x.key.toList == y.key.toList)
def begins (p q:List GStep):Bool:=decide (q.length≤p.length) && Lib.allEq sameStep (p.take q.length) q
theorem neq_step:NeqAt Tryd.prog 50 (fun x:GStep=>.agg (encG x).toArray) sameStep:=by
 refine ⟨fun x y w=>?_,GuardAt.agg _ (by kernel_rfl)⟩
 have u3:=Tryd.underlying3
 have a3:=Tryd.isAgg3
 have z3:=Tryd.sizeOf3
 have u4:=Tryd.underlying4
 have a4:=Tryd.isAgg4
 have z4:=Tryd.sizeOf4
 have u9:=Tryd.underlying9
 have a9:=Tryd.isAgg9
 have z9:=Tryd.sizeOf9
 have hS:Tryd.prog.underlying 50=some (.struct (Tryd.prog.fieldsOf 50)):=by kernel_rfl
 have hp:Tryd.prog.stoodInHeld 50=false:=by kernel_rfl
 simp only [encG,sameStep]
 rw [run_neq_struct,show (10000:Nat)=9999+1 from rfl,run_equalIn_agg w 9999 50 _ _ hS hp]
 simp only [Program.fieldsOf,Tryd.underlying50]
 go_simp
 by_cases h1:x.list=y.list<;>by_cases h2:x.i=y.i<;>by_cases h3:x.key.toList=y.key.toList<;>simp [h1,h2,h3]
theorem cellsG {ps:List GStep} {W:World} {b o:Nat} (hP:StepsAt W ⟨b,o,none⟩ ps):∀ j,j<ps.length→∀ i v,(encG ps[j]!)[i]? = some v→W.cell? ⟨b,o+j * 3+i,none⟩=some v:=fun j hj i v hv=>by
 obtain ⟨h0,h1,h2⟩:=hP j ps[j] (List.getElem?_eq_getElem hj)
 rw [getElem!_pos ps j hj] at hv
 unfold encG at hv
 match i with
 | 0=>simp at hv;subst hv;exact h0
 | 1=>simp at hv;subst hv;exact h1
 | 2=>simp at hv;subst hv;exact h2
 | i+3=>simp at hv
theorem equal_none (A B:Option Addr) (c d:Nat) (w:World):Calls Tryd.prog 26 #[.slice A 0 c,.slice B 0 d] w fun e w'=>e=.returned (.bool true)∧w'=w:=by
 go_enter Tryd.func26,Tryd.ntmps26
 go_wp2
 go_loopw [13] (fun i wr=>i=.int .i64 0∧wr=w) (fun _ _=>0)
 case atStart=>exact ⟨rfl,rfl⟩
 case round=>
  obtain ⟨rfl,rfl⟩:=hrel
  go_wp2
  go_ret
  exact ⟨rfl,rfl⟩
theorem path_Begins (hi:Nat) (A B:Option Addr) (c d:Nat) (ps qs:List GStep) (w:World) (hP:Steps hi w A ps) (hQ:Steps hi w B qs) (hc:ps.length≤c) (_hm:c≤maxLen) (hm2:qs.length≤maxLen):
  Calls Tryd.prog 15 #[.slice A ps.length c,.slice B qs.length d] w fun e w'=>e=.returned (.bool (begins ps qs))∧Below w.heap.size w w':=by
 unfold maxLen at _hm hm2
 by_cases hle:qs.length≤ps.length
 ·have hcall:Calls Tryd.prog 26 #[.slice A qs.length c,.slice B qs.length d] w fun e w'=>e=.returned (.bool (begins ps qs))∧Below w.heap.size w w':=by
   by_cases hq:qs=[]
   ·subst hq
    refine (equal_none A B c d w).mono fun e w' ⟨he,hw⟩=>⟨?_,by rw [hw];exact Below.refl _ _⟩
    rw [he];simp [begins,Lib.allEq]
   ·have hp:ps≠[]:=by intro e;rw [e] at hle;apply hq;exact List.length_eq_zero_iff.1 (by simpa using hle)
    obtain ⟨⟨pb,po,sp⟩,rfl,hs,_,hpc⟩:=hP hp
    obtain ⟨⟨qb,qo,sp'⟩,rfl,hs',_,hqc⟩:=hQ hq
    simp only at hs hs'
    subst hs hs'
    have h:=AnyQ.slices_Equal Tryd.equalS 3 Tryd.isAgg50 Tryd.sizeOf50 encG (fun _=>rfl) sameStep neq_step pb po qs.length c qb qo qs.length d ps qs w hle (Nat.le_refl _) (by omega) (by omega) (cellsG hpc) (cellsG hqc)
    refine Calls.mono h fun e w' ⟨he,q,hw⟩=>⟨?_,?_⟩
    ·rw [he];simp [begins,hle]
    ·rw [hw];exact ⟨rfl,rfl,rfl,Nat.le_refl _,fun _ _=>rfl⟩
  have HC:=Lib.hid hcall
  clear hcall hP hQ
  generalize begins ps qs=r at *
  generalize ps.length=n at *
  generalize qs.length=m at *
  go_enter Tryd.func15,Tryd.ntmps15
  go_wp2_with (go_at_call 26;refine HC.out.mono ?_;rintro e w1 ⟨rfl,hb1⟩;have HB1:=Lib.hid hb1;clear hb1)
  go_ret
  exact ⟨by simp,HB1.out⟩
 ·have hb:begins ps qs=false:=by simp [begins,hle]
  rw [hb]
  clear hb hP hQ
  generalize ps.length=n at *
  generalize qs.length=m at *
  go_enter Tryd.func15,Tryd.ntmps15
  go_wp2
  go_ret
  exact ⟨by simp,Below.refl _ _⟩
end Go.Proofs.YtlhfnemcpgfcdaaDoor
namespace Go.Proofs.YtlhfnemcpgfcdaaDoor
set_option linter.unusedVariables false
set_option linter.unusedSimpArgs false
structure Cm (α:Type) where
 k:Nat
 i:Nat
 j:Nat
 v:α
def lessN (k i:Nat):Nat:=if i<k then k - 1 else k
def moreN (k i:Nat) (left:Bool):Nat:=if i<k∨(i=k∧left=false) then k+1 else k
def gapN (k kind i j:Nat) (left:Bool):Nat:=
 if kind=4 then moreN k i left else if kind=5 then lessN k i else if kind=7 then moreN (lessN k i) j left else k
def listK (k:Nat):Bool:=decide (k=4∨k=5∨k=6∨k=7)
variable {α:Type}
def insL (l:List α) (i:Nat) (v:α):List α:=l.take i++v :: l.drop i
def remL (l:List α) (i:Nat):List α:=l.take i++l.drop (i+1)
def doL (l:List α) (c:Cm α):List α:=
 if c.k=4 then insL l c.i c.v else if c.k=5 then remL l c.i else if c.k=6 then insL (remL l c.i) c.i c.v
 else match l[c.i]? with
  | some x=>insL (remL l c.i) c.j x
  | none=>l
def okC (n:Nat) (c:Cm α):Prop:=(c.k=4∧c.i≤n)∨((c.k=5∨c.k=6)∧c.i<n)∨(c.k=7∧c.i<n∧c.j<n)
theorem ins_len (l:List α) (i:Nat) (v:α) (h:i≤l.length):(insL l i v).length=l.length+1:=by unfold insL;simp;omega
theorem rem_len (l:List α) (i:Nat) (h:i<l.length):(remL l i).length=l.length - 1:=by unfold remL;simp;omega
theorem do_set {l:List α} {c:Cm α} (h:c.k=6):doL l c=insL (remL l c.i) c.i c.v:=by unfold doL;simp [h]
theorem do_move {l:List α} {c:Cm α} (h:c.k=7) (hi:c.i<l.length):doL l c=insL (remL l c.i) c.j l[c.i]:=by unfold doL;simp [h,hi]
end Go.Proofs.YtlhfnemcpgfcdaaDoor
