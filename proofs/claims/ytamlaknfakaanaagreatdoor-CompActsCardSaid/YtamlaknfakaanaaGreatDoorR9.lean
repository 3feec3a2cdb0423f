/- Texts in one: PSound, PBegins, SeqM. -/
import Derived.Test.YtamlaknfakaanaaGreatDoorR6
import Derived.Test.YtamlaknfakaanaaGreatDoorR8
import Derived.Test.YtamlaknfakaanaaGreatDoorLaysP
import Derived.Laws.StructEq
import Derived.BigQuiet
import Derived.Deep.QuietTactic
import Derived.WalkKit
set_option maxHeartbeats 4000000
namespace Go.Proofs.YtamlaknfakaanaaGreatDoor
open Go Go.RowKit
def oddB (s:GStep):Bool:=if s.list then (decide (s.i<0) || !s.key.toList.isEmpty) else (!(s.i == 0) || !valid s.key)
def soundP (ps:List GStep):Bool:=decide (ps.length≤16) && !ps.any oddB
theorem odd_at (s:GStep) (hs:s.key.size≤9223372036854775807) (w:World) (hT:Tabs w):
  Calls Tryz.prog 67 #[.agg #[.bool s.list,.int .i64 s.i,.string s.key]] w fun e w'=>e=.returned (.bool (oddB s))∧Below w.heap.size w w':=by
 obtain ⟨sl,si,sk⟩:=s
 simp only at hs ⊢
 have hcall:=fun (W:World) (hb:Below w.heap.size w W)=>call_valid sk W hs (hT.below hb (Nat.le_refl _))
 have HC:=Lib.hid hcall
 clear hcall hT
 cases sl with
 | true=>
  have ho:oddB ⟨true,si,sk⟩=(decide (si<0) || !sk.toList.isEmpty):=rfl
  rw [ho]
  clear ho
  by_cases hn:si<0
  ·go_enter Tryz.func67,Tryz.ntmps67
   go_wp2
   go_ret
   exact ⟨by simp [hn],(Below.refl _ _).alloc (Nat.le_refl _) _⟩
  ·rcases str_cases sk with he | ⟨h1,h2⟩
   ·have he2:sk.toList.isEmpty=true:=by simpa using he
    go_enter Tryz.func67,Tryz.ntmps67
    go_wp2
    go_ret
    exact ⟨by simp [hn],(Below.refl _ _).alloc (Nat.le_refl _) _⟩
   ·have H1:=Lib.hid h1
    clear h1
    go_enter Tryz.func67,Tryz.ntmps67
    go_wp2
    go_ret
    exact ⟨by simp,(Below.refl _ _).alloc (Nat.le_refl _) _⟩
 | false=>
  have ho:oddB ⟨false,si,sk⟩=(!(si == 0) || !valid sk):=rfl
  rw [ho]
  clear ho
  by_cases hn:si=0
  ·subst hn
   go_enter Tryz.func67,Tryz.ntmps67
   go_wp2_with (go_at_call 35;refine (HC.out _ ((Below.refl _ _).alloc (Nat.le_refl _) _)).mono ?_;rintro e w1 ⟨rfl,hb1⟩;have HB1:=Lib.hid hb1;clear hb1)
   go_ret
   exact ⟨by simp,((Below.refl _ _).alloc (Nat.le_refl _) _).trans (HB1.out.mono (by simp))⟩
  ·have h1:(si == 0)=false:=by simpa using hn
   have h2:(si != 0)=true:=by simpa using hn
   clear hn
   go_enter Tryz.func67,Tryz.ntmps67
   go_wp2
   go_ret
   exact ⟨by simp [h1],(Below.refl _ _).alloc (Nat.le_refl _) _⟩
structure SStep where
 s:GStep
 h:s.key.size≤9223372036854775807
instance:Inhabited SStep:=⟨⟨⟨false,0,⟨#[]⟩⟩,by decide⟩⟩
def encS (x:SStep):List Value:=[.bool x.s.list,.int .i64 x.s.i,.string x.s.key]
def sized (ps:List GStep) (h:∀ s∈ps,s.key.size≤9223372036854775807):List SStep:=ps.pmap (fun s hs=>⟨s,hs⟩) h
theorem sized_len (ps:List GStep) (h:∀ s∈ps,s.key.size≤9223372036854775807):(sized ps h).length=ps.length:=by simp [sized]
theorem sized_get (ps:List GStep) (h:∀ s∈ps,s.key.size≤9223372036854775807) (j:Nat) (hj:j<ps.length):((sized ps h)[j]!).s=ps[j]:=by
 have hl:j<(sized ps h).length:=by rw [sized_len];exact hj
 rw [getElem!_pos (sized ps h) j hl]
 simp [sized]
theorem sized_any (p:GStep→Bool):∀ (ps:List GStep) (h:∀ s∈ps,s.key.size≤9223372036854775807),(sized ps h).any (fun x=>p x.s)=ps.any p
 | [],_=>rfl
 | x :: r,h=>by
  have:=sized_any p r (fun s hs=>h s (by simp [hs]))
  simp only [sized] at this
  simp [sized,this]
theorem sized_cells {ps:List GStep} (h:∀ s∈ps,s.key.size≤9223372036854775807) {W:World} {b o:Nat} (hP:StepsAt W ⟨b,o,none⟩ ps):∀ j,j<(sized ps h).length→∀ i v,(encS (sized ps h)[j]!)[i]? = some v→W.cell? ⟨b,o+j * 3+i,none⟩=some v:=fun j hj i v hv=>by
 rw [sized_len] at hj
 obtain ⟨h0,h1,h2⟩:=hP j ps[j] (List.getElem?_eq_getElem hj)
 unfold encS at hv
 rw [sized_get ps h j hj] at hv
 match i with
 | 0=>simp at hv;subst hv;exact h0
 | 1=>simp at hv;subst hv;exact h1
 | 2=>simp at hv;subst hv;exact h2
 | i+3=>simp at hv
theorem index_none (A:Option Addr) (c:Nat) (fv:Value) (w:World):Calls Tryz.prog 94 #[.slice A 0 c,fv] w fun e w'=>e=.returned (.int .i64 (-1))∧w'=w:=by
 go_enter Tryz.func94,Tryz.ntmps94
 go_wp2
 go_loopw [5,8] (fun _ i wr=>i=.int .i64 0∧wr=w) (fun _ _ _=>0)
 case atStart=>exact ⟨rfl,rfl⟩
 case round=>
  obtain ⟨rfl,rfl⟩:=hrel
  go_wp2
  go_ret
  exact ⟨rfl,rfl⟩
theorem contains_none (A:Option Addr) (c:Nat) (fv:Value) (w:World):Calls Tryz.prog 66 #[.slice A 0 c,fv] w fun e w'=>e=.returned (.bool false)∧w'=w:=by
 go_enter Tryz.func66,Tryz.ntmps66
 go_wp2_with (go_at_call 94;refine (index_none A c fv w).mono ?_;rintro e w' ⟨rfl,rfl⟩)
 go_ret
 exact ⟨rfl,rfl⟩
theorem contains_odd (hi:Nat) (A:Option Addr) (cap:Nat) (ps:List GStep) (w:World) (hP:Steps hi w A ps) (hhi:hi≤w.heap.size) (hm:ps.length≤maxLen) (hk:∀ s∈ps,s.key.size≤9223372036854775807) (hT:Tabs w):
  Calls Tryz.prog 66 #[.slice A ps.length cap,.func (.func 67) #[] #[]] w fun e w'=>e=.returned (.bool (ps.any oddB))∧Below w.heap.size w w':=by
 by_cases hn:ps=[]
 ·subst hn
  exact (contains_none A cap _ w).mono fun e w' ⟨he,hw⟩=>⟨he,by rw [hw];exact Below.refl _ _⟩
 ·obtain ⟨⟨b,o,sp⟩,rfl,hs,hl,hc⟩:=hP hn
  simp only at hs hl
  subst hs
  unfold maxLen at hm
  have h:=AnyQ.slices_ContainsFunc Tryz.contS 3 Tryz.isAgg61 Tryz.sizeOf61 encS (fun _=>rfl) (fun x=>oddB x.s) 67 #[] (enters_of Tryz.func67 (by kernel_rfl) rfl) b o ps.length cap (sized ps hk) w
   (fun W x hb=>(odd_at x.s x.h W (hT.below hb (Nat.le_refl _))).mono fun e w' ⟨he,hb'⟩=>⟨he,hb.trans (hb'.mono hb.size)⟩) (by rw [sized_len];exact Nat.le_refl _) (by omega) (by omega) (sized_cells hk hc)
  refine Calls.mono h fun e w' ⟨he,hb⟩=>⟨?_,hb⟩
  rw [he,List.take_of_length_le (by rw [sized_len];exact Nat.le_refl _),sized_any]
theorem path_Sound (hi:Nat) (A:Option Addr) (cap:Nat) (ps:List GStep) (w:World) (hP:Steps hi w A ps) (hhi:hi≤w.heap.size) (hm:ps.length≤maxLen) (hk:∀ s∈ps,s.key.size≤9223372036854775807) (hT:Tabs w):
  Calls Tryz.prog 36 #[.slice A ps.length cap] w fun e w'=>e=.returned (.bool (soundP ps))∧Below w.heap.size w w':=by
 have hcall:=contains_odd hi A cap ps w hP hhi hm hk hT
 have HC:=Lib.hid hcall
 clear hcall hP hk hT
 unfold maxLen at hm
 unfold soundP
 generalize ps.any oddB=r at *
 generalize ps.length=n at *
 by_cases h16:n≤16
 ·go_enter Tryz.func36,Tryz.ntmps36
  go_wp2_with (go_at_call 66;refine HC.out.mono ?_;rintro e w1 ⟨rfl,hb1⟩;have HB1:=Lib.hid hb1;clear hb1)
  go_ret
  exact ⟨by simp [h16],HB1.out⟩
 ·go_enter Tryz.func36,Tryz.ntmps36
  go_wp2
  go_ret
  exact ⟨by simp,Below.refl _ _⟩
def badB (s:GStep):Bool:=(s.list && (!s.key.toList.isEmpty || decide (s.i<0))) || (!s.list && !(s.i == 0)) || !valid s.key
theorem bad_odd (s:GStep):badB s=oddB s:=by
 unfold badB oddB
 cases hl:s.list with
 | true=>
  simp only [Bool.true_and,Bool.not_true,Bool.false_and,Bool.or_false,if_true]
  rcases str_cases s.key with he | ⟨h1,h2⟩
  ·rw [valid_empty he];simp [he]
  ·simp [h2]
 | false=>simp
def SoundRelP (W0:World) (ps:List GStep) (i:Value) (wr:World):Prop:=∃ k:Nat,i=.int .i64 k∧k≤ps.length∧(ps.take k).any oddB=false∧Below W0.heap.size W0 wr
theorem any_take_true {ps:List GStep} {k:Nat} (hk:k<ps.length) (h:oddB ps[k]=true):ps.any oddB=true:=List.any_eq_true.2 ⟨ps[k],List.getElem_mem hk,h⟩
theorem any_take_succ {ps:List GStep} {k:Nat} (hk:k<ps.length) (h0:(ps.take k).any oddB=false) (h:oddB ps[k]=false):(ps.take (k+1)).any oddB=false:=by
 rw [List.take_succ_eq_append_getElem hk,List.any_append,h0]
 simp [h]
theorem ref_SoundP (hi:Nat) (A:Option Addr) (cap:Nat) (ps:List GStep) (w:World) (hP:Steps hi w A ps) (hhi:hi≤w.heap.size) (hm:ps.length≤maxLen) (hk:∀ s∈ps,s.key.size≤9223372036854775807) (hT:Tabs w):
  Calls Tryz.prog 59 #[.slice A ps.length cap] w fun e w'=>e=.returned (.bool (soundP ps))∧Below w.heap.size w w':=by
 have HP:=Lib.hid hP
 have HT:=Lib.hid hT
 have HK:=Lib.hid hk
 clear hP hT hk
 unfold maxLen at hm
 go_enter Tryz.func59,Tryz.ntmps59
 go_wp2
 go_loopw [3] (SoundRelP w ps) (fun i _=>ps.length - (intOf i).toNat)
 case atStart=>exact ⟨0,rfl,Nat.zero_le _,by simp,Below.refl _ _⟩
 case round=>
  obtain ⟨k,rfl,hk,hno,hB⟩:=hrel
  by_cases hlt:k<ps.length
  ·obtain ⟨pb,po,rfl,hpb,p0,p1,p2⟩:=(HP.out.keep (hB.mono hhi) (Nat.le_refl _)).one hlt
   have hbo:=bad_odd ps[k]
   have hsz:=HK.out ps[k] (List.getElem_mem hlt)
   have hcall:=call_valid ps[k].key wr hsz (HT.out.below hB (Nat.le_refl _))
   have HC:=Lib.hid hcall
   have HNO:=Lib.hid hno
   have HB:=Lib.hid hB
   have hyes:oddB ps[k]=true→soundP ps=false:=fun h=>by unfold soundP;rw [any_take_true hlt h];simp
   have hgo:oddB ps[k]=false→(ps.take (k+1)).any oddB=false:=any_take_succ hlt hno
   have HY:=Lib.hid hyes
   have HG:=Lib.hid hgo
   have HBO:=Lib.hid hbo
   clear hcall hno hB hyes hgo hbo hsz
   generalize ps[k]=s at *
   obtain ⟨sl,si,sk⟩:=s
   simp only at p0 p1 p2 HC HY HG HBO
   unfold badB at HBO
   simp only at HBO
   cases sl with
   | true=>
    rcases str_cases sk with he | ⟨h1,h2⟩
    ·have he2:sk.toList.isEmpty=true:=by simpa using he
     by_cases hn:si<0
     ·go_wp2
      go_ret
      exact ⟨by rw [HY.out (by simp [oddB,hn])]<;>rfl,HB.out⟩
     ·have HE:=Lib.hid (And.intro he hn)
      cases hv:valid sk with
      | true=>
       rw [hv] at HC
       have HV:=Lib.hid hv
       clear hv
       go_wp2_with (go_at_call 35;refine HC.out.mono ?_;rintro e w1 ⟨rfl,hb1⟩;have HB1:=Lib.hid hb1;clear hb1)
       go_roundw
       case rel=>exact ⟨k+1,by go_num,by omega,HG.out (by simp [oddB,HE.out.1,HE.out.2]),HB.out.trans (HB1.out.mono HB.out.size)⟩
       case measure=>simp [intOf];omega
      | false=>
       rw [hv] at HC
       have HV:=Lib.hid hv
       clear hv
       go_wp2_with (go_at_call 35;refine HC.out.mono ?_;rintro e w1 ⟨rfl,hb1⟩;have HB1:=Lib.hid hb1;clear hb1)
       go_ret
       exact ⟨by rw [HY.out (by rw [← HBO.out,HV.out];simp)]<;>rfl,HB.out.trans (HB1.out.mono HB.out.size)⟩
    ·have H1:=Lib.hid h1
     clear h1
     go_wp2
     go_ret
     exact ⟨by rw [HY.out (by simp [oddB,H1.out])]<;>rfl,HB.out⟩
   | false=>
    rcases zero_cases si with rfl | ⟨h1,h2,h3⟩
    ·cases hv:valid sk with
     | true=>
      rw [hv] at HC
      have HV:=Lib.hid hv
      clear hv
      go_wp2_with (go_at_call 35;refine HC.out.mono ?_;rintro e w1 ⟨rfl,hb1⟩;have HB1:=Lib.hid hb1;clear hb1)
      go_roundw
      case rel=>exact ⟨k+1,by go_num,by omega,HG.out (by simp [oddB,HV.out]),HB.out.trans (HB1.out.mono HB.out.size)⟩
      case measure=>simp [intOf];omega
     | false=>
      rw [hv] at HC
      have HV:=Lib.hid hv
      clear hv
      go_wp2_with (go_at_call 35;refine HC.out.mono ?_;rintro e w1 ⟨rfl,hb1⟩;have HB1:=Lib.hid hb1;clear hb1)
      go_ret
      exact ⟨by rw [HY.out (by rw [← HBO.out,HV.out];simp)]<;>rfl,HB.out.trans (HB1.out.mono HB.out.size)⟩
    ·go_wp2
     go_ret
     exact ⟨by rw [HY.out (by simp [oddB,h3.out])]<;>rfl,HB.out⟩
  ·have hk':k=ps.length:=by omega
   rw [List.take_of_length_le (by omega)] at hno
   have HNO:=Lib.hid hno
   have HB:=Lib.hid hB
   clear hno hB
   go_wp2
   go_ret
   have e:soundP ps=decide ((ps.length:Int)≤16):=by
    unfold soundP
    rw [HNO.out]
    simp only [Bool.not_false,Bool.and_true]
    exact decide_eq_decide.2 (by omega)
   exact ⟨by rw [e]<;>rfl,HB.out⟩
end Go.Proofs.YtamlaknfakaanaaGreatDoor
namespace Go.Proofs.YtamlaknfakaanaaGreatDoor
instance:Inhabited GStep:=⟨⟨false,0,⟨#[]⟩⟩⟩
def encG (x:GStep):List Value:=[.bool x.list,.int .i64 x.i,.string x.key]
def sameStep (x y:GStep):Bool:=x.list == y.list && (x.i == y.i && x.key.toList == y.key.toList)
theorem neq_step:NeqAt Tryz.prog 61 (fun x:GStep=>.agg (encG x).toArray) sameStep:=by
 refine ⟨fun x y w=>?_,GuardAt.agg _ (by kernel_rfl)⟩
 have u3:=Tryz.underlying3
 have a3:=Tryz.isAgg3
 have z3:=Tryz.sizeOf3
 have u4:=Tryz.underlying4
 have a4:=Tryz.isAgg4
 have z4:=Tryz.sizeOf4
 have u9:=Tryz.underlying9
 have a9:=Tryz.isAgg9
 have z9:=Tryz.sizeOf9
 have hS:Tryz.prog.underlying 61=some (.struct (Tryz.prog.fieldsOf 61)):=by kernel_rfl
 have hp:Tryz.prog.stoodInHeld 61=false:=by kernel_rfl
 simp only [encG,sameStep]
 rw [run_neq_struct,show (10000:Nat)=9999+1 from rfl,run_equalIn_agg w 9999 61 _ _ hS hp]
 simp only [Program.fieldsOf,Tryz.underlying61]
 go_simp
 by_cases h1:x.list=y.list<;>by_cases h2:x.i=y.i<;>by_cases h3:x.key.toList=y.key.toList<;>simp [h1,h2,h3]
theorem cellsG {ps:List GStep} {W:World} {b o:Nat} (hP:StepsAt W ⟨b,o,none⟩ ps):∀ j,j<ps.length→∀ i v,(encG ps[j]!)[i]? = some v→W.cell? ⟨b,o+j * 3+i,none⟩=some v:=fun j hj i v hv=>by
 obtain ⟨h0,h1,h2⟩:=hP j ps[j] (List.getElem?_eq_getElem hj)
 rw [getElem!_pos ps j hj] at hv
 unfold encG at hv
 match i with
 | 0=>simp at hv;subst hv;exact h0
 | 1=>simp at hv;subst hv;exact h1
 | 2=>simp at hv;subst hv;exact h2
 | i+3=>simp at hv
theorem equal_none (A B:Option Addr) (c d:Nat) (w:World):Calls Tryz.prog 95 #[.slice A 0 c,.slice B 0 d] w fun e w'=>e=.returned (.bool true)∧w'=w:=by
 go_enter Tryz.func95,Tryz.ntmps95
 go_wp2
 go_loopw [13] (fun i wr=>i=.int .i64 0∧wr=w) (fun _ _=>0)
 case atStart=>exact ⟨rfl,rfl⟩
 case round=>
  obtain ⟨rfl,rfl⟩:=hrel
  go_wp2
  go_ret
  exact ⟨rfl,rfl⟩
end Go.Proofs.YtamlaknfakaanaaGreatDoor
namespace Go.Proofs.YtamlaknfakaanaaGreatDoor
set_option linter.unusedVariables false
set_option linter.unusedSimpArgs false
structure Cm (α:Type) where
 k:Nat
 i:Nat
 j:Nat
 v:α
def listK (k:Nat):Bool:=decide (k=4∨k=5∨k=6∨k=7)
variable {α:Type}
def insL (l:List α) (i:Nat) (v:α):List α:=l.take i++v :: l.drop i
def remL (l:List α) (i:Nat):List α:=l.take i++l.drop (i+1)
def doL (l:List α) (c:Cm α):List α:=
 if c.k=4 then insL l c.i c.v else if c.k=5 then remL l c.i else if c.k=6 then insL (remL l c.i) c.i c.v
 else match l[c.i]? with
  | some x=>insL (remL l c.i) c.j x
  | none=>l
def okC (n:Nat) (c:Cm α):Prop:=(c.k=4∧c.i≤n)∨((c.k=5∨c.k=6)∧c.i<n)∨(c.k=7∧c.i<n∧c.j<n)
theorem ins_len (l:List α) (i:Nat) (v:α) (h:i≤l.length):(insL l i v).length=l.length+1:=by unfold insL;simp;omega
theorem rem_len (l:List α) (i:Nat) (h:i<l.length):(remL l i).length=l.length - 1:=by unfold remL;simp;omega
theorem do_ins {l:List α} {c:Cm α} (h:c.k=4):doL l c=insL l c.i c.v:=by unfold doL;simp [h]
theorem do_rem {l:List α} {c:Cm α} (h:c.k=5):doL l c=remL l c.i:=by unfold doL;simp [h]
theorem do_set {l:List α} {c:Cm α} (h:c.k=6):doL l c=insL (remL l c.i) c.i c.v:=by unfold doL;simp [h]
theorem do_move {l:List α} {c:Cm α} (h:c.k=7) (hi:c.i<l.length):doL l c=insL (remL l c.i) c.j l[c.i]:=by unfold doL;simp [h,hi]
end Go.Proofs.YtamlaknfakaanaaGreatDoor
