/- Texts in one: RefS, RefC, SameRefl, Vl. -/
import Derived.Test.YtmmgdkpkcoopgaaGreatDoorP3
import Derived.BigQuiet
import Derived.Lib.QuietBelow
import Derived.Test.YtmmgdkpkcoopgaaGreatDoorP1
import Derived.Deep.RegionHeld3
set_option maxRecDepth 100000
set_option maxHeartbeats 8000000
namespace Go.Proofs.YtmmgdkpkcoopgaaGreatDoor
open Go.Lib(hid)
open Go Go.RowKit Go.Sort
def SameTo (l h:List GV) (k:Nat):Prop:=∀ (i:Nat) (x y:GV),i<k->l[i]? = some x->h[i]? = some y->x.Same y
def KeyTo (ks kt:List ByteArray) (k:Nat):Prop:=∀ (i:Nat) (x y:ByteArray),i<k->ks[i]? = some x->kt[i]? = some y->x.toList=y.toList
theorem zem:∀ (l h:List GV),GV.Sames l h↔SameTo l h l.length
 | [],_=>by simp [GV.Sames,SameTo]
 | x :: r,[]=>by simp [GV.Sames,SameTo]
 | x :: r,y :: q=>by
  simp only [GV.Sames,zem r q];constructor
  ·rintro ⟨h1,h2⟩ i a b hi ha hb
   cases i with
   | zero=>simp at ha hb;subst ha;subst hb;exact h1
   | succ i=>exact h2 i a b (by simpa using hi) (by simpa using ha) (by simpa using hb)
  ·intro h
   exact ⟨h 0 x y (by simp) rfl rfl,fun i a b hi ha hb=>h (i+1) a b (by simpa using hi) (by simpa using ha) (by simpa using hb)⟩
theorem zcE:∀ (ks kt:List ByteArray),ks.length=kt.length->(letters ks=letters kt↔KeyTo ks kt ks.length)
 | [],[],_=>by simp [letters,KeyTo]
 | x :: r,y :: q,h=>by
  have ih:=zcE r q (by simpa using h)
  have e:letters (x :: r)=letters (y :: q)↔x.toList=y.toList/\letters r=letters q:=by simp [letters]
  rw [e,ih];constructor
  ·rintro ⟨h1,h2⟩ i a b hi ha hb
   cases i with
   | zero=>simp at ha hb;subst ha;subst hb;exact h1
   | succ i=>exact h2 i a b (by simpa using hi) (by simpa using ha) (by simpa using hb)
  ·intro h
   exact ⟨h 0 x y (by simp) rfl rfl,fun i a b hi ha hb=>h (i+1) a b (by simpa using hi) (by simpa using ha) (by simpa using hb)⟩
theorem SameTo.succ {l h:List GV} {k:Nat} (h0:SameTo l h k) {x y:GV} (hx:l[k]? = some x) (hy:h[k]? = some y) (hs:x.Same y):SameTo l h (k+1):=fun i a b hi ha hb=>by
 by_cases e:i=k
 ·subst e;rw [hx] at ha;rw [hy] at hb;cases ha;cases hb;exact hs
 ·exact h0 i a b (by omega) ha hb
theorem KeyTo.succ {l h:List ByteArray} {k:Nat} (h0:KeyTo l h k) {x y:ByteArray} (hx:l[k]? = some x) (hy:h[k]? = some y) (hs:x.toList=y.toList):KeyTo l h (k+1):=fun i a b hi ha hb=>by
 by_cases e:i=k
 ·subst e;rw [hx] at ha;rw [hy] at hb;cases ha;cases hb;exact hs
 ·exact h0 i a b (by omega) ha hb
def SameRel (W0:World) (l h:List GV) (i:Value) (wr:World):Prop:=∃ k:Nat,i=.int .i64 k/\k<=l.length/\SameTo l h k/\Below W0.heap.size W0 wr
def SameRel2 (W0:World) (ks kt:List ByteArray) (l h:List GV) (i:Value) (wr:World):Prop:=∃ k:Nat,i=.int .i64 k/\k<=l.length/\SameTo l h k/\KeyTo ks kt k/\Below W0.heap.size W0 wr
theorem zbg (F:Nat):∀ (ok:Nat->Prop) (v v':Value) (g h:GV) (w:World),g.size<=F->g.val ok w v->h.val ok w v'->g.size<=1000000000->h.size<=1000000000 ->
  Calls Tryz.prog 11 #[v,v'] w (EqPost (g.Same h) w):=by
 induction F with
 | zero=>intro ok v v' g h w hF;cases g with | mk k n s l ks ov=>simp only [GV.size] at hF;omega
 | succ F ih=>
  intro ok v v' g h w hF hv hv' hg hh;obtain ⟨L,O,rfl,hL,hO⟩:=hv;obtain ⟨L',O',rfl,hL',hO'⟩:=hv';have hkl:=hO.1;have hkl':=hO'.1;obtain ⟨A,c,rfl,hc1,hc2,hf⟩:=hL.form;obtain ⟨B,d,rfl,hd1,hd2,he⟩:=hO.form;obtain ⟨A',c',rfl,hc1',hc2',hf'⟩:=hL'.form;obtain ⟨B',d',rfl,hd1',hd2',he'⟩:=hO'.form;have hge:=zaD g;have hhe:=zaD h;have hl1:=zaq g.il;have hl2:=zaq g.vz;have hl3:=zaq h.il;have hl4:=zaq h.vz;have hsz:∀ x∈g.il,x.size<=F:=fun x hx=>by
   obtain ⟨i,hi,rfl⟩:=List.mem_iff_getElem.1 hx;have:=zaL g.il i hi;omega
  have hszv:∀ x∈g.vz,x.size<=F:=fun x hx=>by
   obtain ⟨i,hi,rfl⟩:=List.mem_iff_getElem.1 hx;have:=zaL g.vz i hi;omega
  have hsx:∀ x,(x∈g.il\/x∈g.vz\/x∈h.il\/x∈h.vz)->x.size<=1000000000:=fun x hx=>by
   rcases hx with hx | hx | hx | hx
   all_goals
    obtain ⟨i,hi,rfl⟩:=List.mem_iff_getElem.1 hx;have:=zaL _ i hi;omega
  have HSS:Hid (g.Same h↔(g.kq=h.kq/\g.num=h.num/\g.str.toList=h.str.toList/\g.il.length=h.il.length/\letters g.keys=letters h.keys)/\SameTo g.il h.il g.il.length/\SameTo g.vz h.vz g.vz.length):=by
   rw [<- zem,<- zem];exact zjw g h
  generalize g.Same h=SS at *;generalize g.il=l at *;generalize g.vz=ov at *;generalize g.keys=ks at *;generalize g.kq=gk at *;generalize g.num=gn at *;generalize g.str=gs at *;generalize h.il=l' at *;generalize h.vz=ov' at *;generalize h.keys=ks' at *;generalize h.kq=hk at *;generalize h.num=hn at *;generalize h.str=hs at *;have IH:=hid ih;have HF:=hid (And.intro hf hf');have HG:=hid (And.intro he he');have HX:=hid (And.intro hsz (And.intro hszv hsx));have HKL:=hid (And.intro hkl hkl');have m1:l.length<=1000000000:=by omega
  have m2:ov.length<=1000000000:=by omega
  have m3:l'.length<=1000000000:=by omega
  have m4:ov'.length<=1000000000:=by omega
  unfold maxLen at hc2 hd2 hc2' hd2';clear ih hf hf' he he' hsz hszv hsx hkl hkl' hF hg hh hge hhe hl1 hl2 hl3 hl4 hL hO hL' hO';by_cases q0:gk=hk
  case neg=>
   have z0:(gk == hk)=false:=by simpa using q0
   have Q0:=hid q0;clear q0;go_enter Tryz.func11,Tryz.ntmps11
   go_wp2
   go_ret
   exact ⟨false,rfl,⟨(fun h=>by cases h),fun h=>absurd (HSS.out.1 h).1.1 Q0.out⟩,((Below.refl _ _).alloc (Nat.le_refl _) _).alloc (by simp) _⟩
  subst q0;by_cases q1:gn=hn
  case neg=>
   have z1:(gn == hn)=false:=by simpa using q1
   have Q0:=hid q1;clear q1;go_enter Tryz.func11,Tryz.ntmps11
   go_wp2
   go_ret
   exact ⟨false,rfl,⟨(fun h=>by cases h),fun h=>absurd (HSS.out.1 h).1.2.1 Q0.out⟩,((Below.refl _ _).alloc (Nat.le_refl _) _).alloc (by simp) _⟩
  subst q1;by_cases q2:gs.toList=hs.toList
  case neg=>
   have z2:(gs.toList == hs.toList)=false:=by simpa using q2
   have Q0:=hid q2;clear q2;go_enter Tryz.func11,Tryz.ntmps11
   go_wp2
   go_ret
   exact ⟨false,rfl,⟨(fun h=>by cases h),fun h=>absurd (HSS.out.1 h).1.2.2.1 Q0.out⟩,((Below.refl _ _).alloc (Nat.le_refl _) _).alloc (by simp) _⟩
  have z2:(gs.toList == hs.toList)=true:=by simp [q2]
  have Q2:=hid q2;clear q2;by_cases q3:l.length=l'.length
  case neg=>
   have z3:((l.length:Int) == (l'.length:Int))=false:=by simp;omega
   have z3':(l.length == l'.length)=false:=by simpa using q3
   have Q0:=hid q3;clear q3;go_enter Tryz.func11,Tryz.ntmps11
   go_wp2
   go_ret
   exact ⟨false,rfl,⟨(fun h=>by cases h),fun h=>absurd (HSS.out.1 h).1.2.2.2.1 Q0.out⟩,((Below.refl _ _).alloc (Nat.le_refl _) _).alloc (by simp) _⟩
  by_cases q4:ov.length=ov'.length
  case neg=>
   rw [<- q3];have z4:((ov.length:Int) == (ov'.length:Int))=false:=by simp;omega
   have z4':(ov.length == ov'.length)=false:=by simpa using q4
   have Q0:=hid q4;clear q4 q3;go_enter Tryz.func11,Tryz.ntmps11
   go_wp2
   go_ret
   exact ⟨false,rfl,⟨(fun h=>by cases h),fun h=>absurd (by have h1:=congrArg List.length (HSS.out.1 h).1.2.2.2.2;have h2:=HKL.out;simp [letters] at h1;omega) Q0.out⟩,((Below.refl _ _).alloc (Nat.le_refl _) _).alloc (by simp) _⟩
  rw [<- q3,<- q4];have Q3:=hid q3;have Q4:=hid q4;clear q3 q4;go_enter Tryz.func11,Tryz.ntmps11
  go_wp2
  have hB:Below w.heap.size w ((w.alloc (.cells #[Value.int IntKind.u8 gk,Value.int IntKind.i64 gn,Value.string gs,Value.slice A l.length c,Value.slice B ov.length d] 29)).alloc (.cells #[Value.int IntKind.u8 gk,Value.int IntKind.i64 gn,Value.string hs,Value.slice A' l.length c',Value.slice B' ov.length d'] 29)):=((Below.refl _ _).alloc (Nat.le_refl _) _).alloc (by simp) _
  have hW:=(Whole.new w 29 #[Value.int IntKind.u8 gk,Value.int IntKind.i64 gn,Value.string gs,Value.slice A l.length c,Value.slice B ov.length d]).alloc (.cells #[Value.int IntKind.u8 gk,Value.int IntKind.i64 gn,Value.string hs,Value.slice A' l.length c',Value.slice B' ov.length d'] 29);have hV:=Whole.new (w.alloc (.cells #[Value.int IntKind.u8 gk,Value.int IntKind.i64 gn,Value.string gs,Value.slice A l.length c,Value.slice B ov.length d] 29)) 29 #[Value.int IntKind.u8 gk,Value.int IntKind.i64 gn,Value.string hs,Value.slice A' l.length c',Value.slice B' ov.length d'];rw [World.size_alloc] at hV;generalize ((w.alloc (.cells #[Value.int IntKind.u8 gk,Value.int IntKind.i64 gn,Value.string gs,Value.slice A l.length c,Value.slice B ov.length d] 29)).alloc (.cells #[Value.int IntKind.u8 gk,Value.int IntKind.i64 gn,Value.string hs,Value.slice A' l.length c',Value.slice B' ov.length d'] 29))=W0 at hB hW hV ⊢;have HW:=hid hW;have HV:=hid hV;have HB:=hid hB;clear hW hB hV
  go_loopw [5] (SameRel W0 l l') (fun i _=>l.length - (intOf i).toNat)
  case atStart=>exact ⟨0,rfl,Nat.zero_le _,fun i _ _ h=>by omega,Below.refl _ _⟩
  case round=>
   obtain ⟨k,rfl,hk,hto,hr⟩:=hrel;have hx3:wr.cell? ⟨w.heap.size,3,none⟩=some (.slice A l.length c):=((HW.out.below hr HW.out.lt).cell 3).trans rfl;have hy3:wr.cell? ⟨w.heap.size+1,3,none⟩=some (.slice A' l.length c'):=((HV.out.below hr HV.out.lt).cell 3).trans rfl;have hwr:Below w.heap.size w wr:=HB.out.trans (hr.mono HB.out.size);have HR:=hid hr;have HTO:=hid hto;clear hr hto;by_cases hlt:k<l.length
   ·have hlt':k<l'.length:=by have:=Q3.out;omega
    obtain ⟨b,o,rfl,hK,hE⟩:=HF.out.1 (by intro e;rw [e] at hlt;simp at hlt)
    obtain ⟨b',o',rfl,hK',hE'⟩:=HF.out.2 (by intro e;rw [e] at hlt';simp at hlt')
    obtain ⟨A1,c1,A2,c2,hcells,hval⟩:=zcK hE hK hlt;obtain ⟨A1',c1',A2',c2',hcells',hval'⟩:=zcK hE' hK' hlt';obtain ⟨q0,q1,q2,q3,q4⟩:=hcells wr hwr;obtain ⟨p0,p1,p2,p3,p4⟩:=hcells' wr hwr;have r0:=cell_regrown q0;have r1:=cell_regrown q1;have r2:=cell_regrown q2;have r3:=cell_regrown q3;have r4:=cell_regrown q4;have s0:=cell_regrown p0;have s1:=cell_regrown p1;have s2:=cell_regrown p2;have s3:=cell_regrown p3;have s4:=cell_regrown p4;have rx:=cell_regrown hx3;have ry:=cell_regrown hy3;have hw3:=fun (d:Nat) (os:Array Obj)=>hwr.trans ((below_regrown wr d os).mono hwr.size)
    have HC:=hid (fun (d:Nat) (os:Array Obj)=>IH.out _ _ _ l[k] l'[k] (grow (redrawn wr d) os) (HX.out.1 _ (List.getElem_mem hlt)) (hval _ (hw3 d os)) (hval' _ (hw3 d os)) (HX.out.2.2 _ (.inl (List.getElem_mem hlt))) (HX.out.2.2 _ (.inr (.inr (.inl (List.getElem_mem hlt'))))))
    have HG1:=hid (And.intro (List.getElem?_eq_getElem hlt) (List.getElem?_eq_getElem hlt'));clear hcells hcells' hval hval' hK hK' hE hE' hw3 p0 p1 p2 p3 p4 q0 q1 q2 q3 q4;generalize l[k]=x at *;generalize l'[k]=y at *;by_cases hs:x.Same y
    ·have HS:=hid hs
     clear hs;have hcall2:∀ (d:Nat) (os:Array Obj),Calls Tryz.prog 11 _ (grow (redrawn wr d) os) fun e w''=>e=.returned (.bool true)/\∃ p:Regrown,w''=grow (redrawn wr p.d) p.os:=fun d os=>
        Calls.regrown_of ((HC.out d os).mono fun e w'' h=>by
         obtain ⟨b2,rfl,hb2,hbel⟩:=h;have:b2=true:=by rw [Bool.eq_iff_iff,hb2];simp [HS.out]
         subst this;exact ⟨rfl,hbel⟩)
     go_wp2
     refine wp_region_quiet_below (by kernel_rfl) (by kernel_rfl) ?_
     repeat (quiet_step (exact hcall2 _ _))
     refine wpQuiet_nil ?_
     intro _ hw';obtain ⟨⟨dq,osq⟩,hw''⟩:=hw';subst hw'';clear hcall2;go_wp2
     go_roundw
     case rel=>exact ⟨k+1,by go_simp,by omega,HTO.out.succ HG1.out.1 HG1.out.2 HS.out,HR.out.trans ((below_regrown wr dq osq).mono HR.out.size)⟩
     case measure=>simp [intOf];omega
    ·have HS:=hid hs
     clear hs;have hcall2:∀ (d:Nat) (os:Array Obj),Calls Tryz.prog 11 _ (grow (redrawn wr d) os) fun e w''=>e=.returned (.bool false)/\∃ p:Regrown,w''=grow (redrawn wr p.d) p.os:=fun d os=>
        Calls.regrown_of ((HC.out d os).mono fun e w'' h=>by
         obtain ⟨b2,rfl,hb2,hbel⟩:=h;have:b2=false:=by rw [Bool.eq_iff_iff,hb2];simp [HS.out]
         subst this;exact ⟨rfl,hbel⟩)
     go_wp2
     refine wp_region_quiet_below (by kernel_rfl) (by kernel_rfl) ?_
     repeat (quiet_step (exact hcall2 _ _))
     refine wpQuiet_nil ?_
     intro _ hw';obtain ⟨⟨dq,osq⟩,hw''⟩:=hw';subst hw'';clear hcall2;go_wp2
     go_ret
     exact ⟨false,rfl,⟨(fun h=>by cases h),fun h=>absurd ((HSS.out.1 h).2.1 k x y hlt HG1.out.1 HG1.out.2) HS.out⟩,hwr.trans ((below_regrown wr dq osq).mono hwr.size)⟩
   ·have hkl:k=l.length:=by omega
    subst hkl;go_wp2
    clear hx3 hy3 hwr
    go_loopw [7] (SameRel2 W0 ks ks' ov ov') (fun i _=>ov.length - (intOf i).toNat)
    case atStart=>exact ⟨0,rfl,Nat.zero_le _,(fun i _ _ h=>by omega),(fun i _ _ h=>by omega),HR.out⟩
    case round=>
     clear HR;obtain ⟨k,rfl,hk,hto,hkt,hr⟩:=hrel;have hx4:wr.cell? ⟨w.heap.size,4,none⟩=some (.slice B ov.length d):=((HW.out.below hr HW.out.lt).cell 4).trans rfl;have hy4:wr.cell? ⟨w.heap.size+1,4,none⟩=some (.slice B' ov.length d'):=((HV.out.below hr HV.out.lt).cell 4).trans rfl;have hwr:Below w.heap.size w wr:=HB.out.trans (hr.mono HB.out.size);have HR:=hid hr;have HT2:=hid (And.intro hto hkt);clear hr hto hkt;by_cases hlt:k<ov.length
     ·have hlt':k<ov'.length:=by have:=Q4.out;omega
      have hlk:k<ks.length:=by have:=HKL.out;omega
      have hlk':k<ks'.length:=by have:=HKL.out;omega
      obtain ⟨b,o,rfl,hK,hks,hE⟩:=HG.out.1 (by intro e;rw [e] at hlt;simp at hlt)
      obtain ⟨b',o',rfl,hK',hks',hE'⟩:=HG.out.2 (by intro e;rw [e] at hlt';simp at hlt')
      obtain ⟨A1,c1,A2,c2,hcells,hval⟩:=zbV hks hE hK hlt hlk;obtain ⟨A1',c1',A2',c2',hcells',hval'⟩:=zbV hks' hE' hK' hlt' hlk';obtain ⟨q,q0,q1,q2,q3,q4⟩:=hcells wr hwr;obtain ⟨p,p0,p1,p2,p3,p4⟩:=hcells' wr hwr;have r:=cell_regrown q;have r0:=cell_regrown q0;have r1:=cell_regrown q1;have r2:=cell_regrown q2;have r3:=cell_regrown q3;have r4:=cell_regrown q4;have s:=cell_regrown p;have s0:=cell_regrown p0;have s1:=cell_regrown p1;have s2:=cell_regrown p2;have s3:=cell_regrown p3;have s4:=cell_regrown p4;have rx:=cell_regrown hx4;have ry:=cell_regrown hy4;have hw3:=fun (d:Nat) (os:Array Obj)=>hwr.trans ((below_regrown wr d os).mono hwr.size)
      have HC:=hid (fun (d:Nat) (os:Array Obj)=>IH.out _ _ _ ov[k] ov'[k] (grow (redrawn wr d) os) (HX.out.2.1 _ (List.getElem_mem hlt)) (hval _ (hw3 d os)) (hval' _ (hw3 d os)) (HX.out.2.2 _ (.inr (.inl (List.getElem_mem hlt)))) (HX.out.2.2 _ (.inr (.inr (.inr (List.getElem_mem hlt'))))))
      have HG1:=hid (And.intro (And.intro (List.getElem?_eq_getElem hlt) (List.getElem?_eq_getElem hlt')) (And.intro (List.getElem?_eq_getElem hlk) (List.getElem?_eq_getElem hlk')));clear hcells hcells' hval hval' hK hK' hE hE' hw3 p p0 p1 p2 p3 p4 q q0 q1 q2 q3 q4 hks hks';generalize ov[k]=x at *;generalize ov'[k]=y at *;generalize ks[k]=kk at *;generalize ks'[k]=kt at *;by_cases hs:x.Same y
      ·have HS:=hid hs
       clear hs;have hcall2:∀ (d:Nat) (os:Array Obj),Calls Tryz.prog 11 _ (grow (redrawn wr d) os) fun e w''=>e=.returned (.bool true)/\∃ p:Regrown,w''=grow (redrawn wr p.d) p.os:=fun d os=>
        Calls.regrown_of ((HC.out d os).mono fun e w'' h=>by
         obtain ⟨b2,rfl,hb2,hbel⟩:=h;have:b2=true:=by rw [Bool.eq_iff_iff,hb2];simp [HS.out]
         subst this;exact ⟨rfl,hbel⟩)
       by_cases hkk:kk.toList=kt.toList
       ·have zk:(kk.toList == kt.toList)=true:=by simp [hkk]
        have HKK:=hid hkk;clear hkk;go_wp2
        refine wp_region_quiet_below (by kernel_rfl) (by kernel_rfl) ?_
        repeat (quiet_step (exact hcall2 _ _))
        refine wpQuiet_nil ?_
        intro _ hw';obtain ⟨⟨dq,osq⟩,hw''⟩:=hw';subst hw'';clear hcall2;go_wp2
        go_quiet (fail)
        go_wp2
        go_roundw
        case rel=>exact ⟨k+1,by go_simp,by omega,HT2.out.1.succ HG1.out.1.1 HG1.out.1.2 HS.out,HT2.out.2.succ HG1.out.2.1 HG1.out.2.2 HKK.out,zbY (HR.out.trans ((below_regrown wr dq osq).mono HR.out.size)) _⟩
        case measure=>simp [intOf];omega
       ·have zk:(kk.toList == kt.toList)=false:=by simpa using hkk
        have HKK:=hid hkk;clear hkk;go_wp2
        refine wp_region_quiet_below (by kernel_rfl) (by kernel_rfl) ?_
        repeat (quiet_step (exact hcall2 _ _))
        refine wpQuiet_nil ?_
        intro _ hw';obtain ⟨⟨dq,osq⟩,hw''⟩:=hw';subst hw'';clear hcall2;go_wp2
        go_quiet (fail)
        go_wp2
        go_ret
        exact ⟨false,rfl,⟨(fun h=>by cases h),fun h=>absurd ((zcE ks ks' (by have h1:=HKL.out;have h2:=Q4.out;omega)).1 (HSS.out.1 h).1.2.2.2.2 k kk kt (by have h1:=HKL.out;omega) HG1.out.2.1 HG1.out.2.2) HKK.out⟩,zbY (hwr.trans ((below_regrown wr dq osq).mono hwr.size)) _⟩
      ·have HS:=hid hs
       clear hs;have hcall2:∀ (d:Nat) (os:Array Obj),Calls Tryz.prog 11 _ (grow (redrawn wr d) os) fun e w''=>e=.returned (.bool false)/\∃ p:Regrown,w''=grow (redrawn wr p.d) p.os:=fun d os=>
        Calls.regrown_of ((HC.out d os).mono fun e w'' h=>by
         obtain ⟨b2,rfl,hb2,hbel⟩:=h;have:b2=false:=by rw [Bool.eq_iff_iff,hb2];simp [HS.out]
         subst this;exact ⟨rfl,hbel⟩)
       go_wp2
       refine wp_region_quiet_below (by kernel_rfl) (by kernel_rfl) ?_
       repeat (quiet_step (exact hcall2 _ _))
       refine wpQuiet_nil ?_
       intro _ hw';obtain ⟨⟨dq,osq⟩,hw''⟩:=hw';subst hw'';clear hcall2;go_wp2
       go_quiet (fail)
       go_wp2
       go_ret
       exact ⟨false,rfl,⟨(fun h=>by cases h),fun h=>absurd ((HSS.out.1 h).2.2 k x y hlt HG1.out.1.1 HG1.out.1.2) HS.out⟩,zbY (hwr.trans ((below_regrown wr dq osq).mono hwr.size)) _⟩
     ·have hkl:k=ov.length:=by omega
      subst hkl;go_wp2
      go_ret
      refine ⟨true,rfl,⟨fun _=>HSS.out.2 ⟨⟨trivial,trivial,Q2.out,Q3.out,(zcE ks ks' (by have h1:=HKL.out;have h2:=Q4.out;omega)).2 ?_⟩,HTO.out,HT2.out.1⟩,fun _=>rfl⟩,hwr⟩
      have h1:=HKL.out.1;rw [h1];exact HT2.out.2
def CopyRel1 (W0:World) (l:List GV) (ks:List ByteArray) (ov:List GV) (v i:Value) (wr:World):Prop:=∃ (k:Nat) (xs:List Value),i=.int .i64 k/\k<=l.length/\Rows W0.heap.size W0 l ks ov k 0 v (.slice none 0 0) xs [] wr
def CopyRel2 (W0:World) (l:List GV) (ks:List ByteArray) (ov:List GV) (vL v i:Value) (wr:World):Prop:=∃ (k:Nat) (xs ys:List Value),i=.int .i64 k/\k<=ov.length/\Rows W0.heap.size W0 l ks ov l.length k vL v xs ys wr
theorem zcX (F:Nat):∀ (ok:Nat->Prop) (v:Value) (g:GV) (w:World),g.size<=F->g.val ok w v->g.size<=1000000000 ->
  Calls Tryz.prog 20 #[v] w fun e w'=>∃ v',e=.returned v'/\g.val (fun k=>w.heap.size<=k) w' v'/\Below w.heap.size w w':=by
 induction F with
 | zero=>intro ok v g w hF;cases g with | mk k n s l ks ov=>simp only [GV.size] at hF;omega
 | succ F ih=>
  intro ok v g w hF hv hsz;obtain ⟨L,O,rfl,hL,hO⟩:=hv;have hkl:=hO.1;obtain ⟨A,c,rfl,hc1,hc2,hf⟩:=hL.form;obtain ⟨A',c',rfl,hc1',hc2',hf'⟩:=hO.form;have hge:=zaD g;have hln1:=zaq g.il;have hln2:=zaq g.vz;have hfin:∀ (W:World) (L O:Value),LstV (fun k=>w.heap.size<=k) W L g.il->ObjV (fun k=>w.heap.size<=k) W O g.keys g.vz->g.val (fun k=>w.heap.size<=k) W (.agg #[.int .u8 g.kq,.int .i64 g.num,.string g.str,L,O]):=fun W L O h1 h2=>⟨L,O,rfl,h1,h2⟩
  unfold maxLen at hc2 hc2';have FIN:=hid hfin;clear hfin;generalize g.il=l at *;generalize g.vz=ov at *;generalize g.keys=ks at *;generalize g.kq=gk at *;generalize g.num=gn at *;generalize g.str=gs at *;have IH:=hid ih;have HF:=hid hf;have HF':=hid hf';have HSZ:=hid (And.intro hF (And.intro hsz hge));have hll:l.length<=1000000000:=by omega
  have hlo:ov.length<=1000000000:=by omega
  have HKL:=hid hkl;clear ih hf hf' hF hsz hge hL hO hln1 hln2 hkl;obtain ⟨i0,hi0,hz0,hz1,hz2⟩:=info_parts infoVal;obtain ⟨i1,hi1,hy0,hy1,hy2⟩:=info_parts infoField;have HI0:=hid (And.intro hi0 (And.intro hz0 (And.intro hz1 hz2)));have HI1:=hid (And.intro hi1 (And.intro hy0 (And.intro hy1 hy2)));clear hi0 hz0 hz1 hz2 hi1 hy0 hy1 hy2;go_enter Tryz.func20,Tryz.ntmps20
  go_wp2
  have hB:Below w.heap.size w ((w.alloc (.cells #[Value.int IntKind.u8 gk,Value.int IntKind.i64 gn,Value.string gs,Value.slice A l.length c,Value.slice A' ov.length c'] 29)).alloc (.cells #[.int .u8 0,.int .i64 0,.string ⟨#[]⟩,.slice none 0 0,.slice none 0 0] 29)):=((Below.refl _ _).alloc (Nat.le_refl _) _).alloc (by simp) _
  have hW:=(Whole.new w 29 #[Value.int IntKind.u8 gk,Value.int IntKind.i64 gn,Value.string gs,Value.slice A l.length c,Value.slice A' ov.length c']).alloc (.cells #[.int .u8 0,.int .i64 0,.string ⟨#[]⟩,.slice none 0 0,.slice none 0 0] 29);have hV:=Whole.new (w.alloc (.cells #[Value.int IntKind.u8 gk,Value.int IntKind.i64 gn,Value.string gs,Value.slice A l.length c,Value.slice A' ov.length c'] 29)) 29 #[.int .u8 0,.int .i64 0,.string ⟨#[]⟩,.slice none 0 0,.slice none 0 0];rw [World.size_alloc] at hV;have hs0:((w.alloc (.cells #[Value.int IntKind.u8 gk,Value.int IntKind.i64 gn,Value.string gs,Value.slice A l.length c,Value.slice A' ov.length c'] 29)).alloc (.cells #[.int .u8 0,.int .i64 0,.string ⟨#[]⟩,.slice none 0 0,.slice none 0 0] 29)).heap.size=w.heap.size+2:=by simp
  generalize ((w.alloc (.cells #[Value.int IntKind.u8 gk,Value.int IntKind.i64 gn,Value.string gs,Value.slice A l.length c,Value.slice A' ov.length c'] 29)).alloc (.cells #[.int .u8 0,.int .i64 0,.string ⟨#[]⟩,.slice none 0 0,.slice none 0 0] 29))=W0 at hB hW hV hs0 ⊢;have HW:=hid hW;have HV:=hid hV;have HB:=hid hB;have HS0:=hid hs0;clear hW hV hB hs0
  go_loopw [3,4] (CopyRel1 W0 l ks ov) (fun _ i _=>l.length - (intOf i).toNat)
  case atStart=>exact ⟨0,[],rfl,Nat.zero_le _,Rows.start _ _ _ _⟩
  case round=>
   obtain ⟨k,xs,rfl,hk,hr⟩:=hrel;obtain ⟨AL,cL,rfl⟩:=zaf hr.ownL;have hx3:wr.cell? ⟨w.heap.size,3,none⟩=some (.slice A l.length c):=((HW.out.below hr.below HW.out.lt).cell 3).trans rfl;have hwr:Below w.heap.size w wr:=HB.out.trans (hr.below.mono HB.out.size);by_cases hlt:k<l.length
   ·obtain ⟨b,o,rfl,hK,hE⟩:=HF.out (by intro e;rw [e] at hlt;simp at hlt)
    obtain ⟨A1,c1,A2,c2,hcells,hval⟩:=zcK hE hK hlt;obtain ⟨q0,q1,q2,q3,q4⟩:=hcells wr hwr;have hs:=zaL l k hlt;have hcall:=IH.out _ _ l[k] wr (by have:=HSZ.out;omega) (hval wr hwr) (by have:=HSZ.out;omega)
    have HG:=hid (List.getElem?_eq_getElem hlt);have HC:=hid hcall;have HR:=hid hr;have hmax:k+1<=maxLen:=by unfold maxLen;omega
    have hby:(k+1) * 80<=140737488355328:=by omega
    have HM:=hid (And.intro hmax hby);clear hcells hval hs hcall hE hK hr hwr hmax hby;generalize l[k]=x at *
    go_wp2_with (first | (go_at_call 20;refine HC.out.mono ?_;rintro e W1 ⟨v',rfl,⟨L1,O1,rfl,hL1,hO1⟩,hb1⟩;obtain ⟨BL,dL,rfl⟩:=zah hL1;obtain ⟨BO,dO,rfl⟩:=zag hO1;have H1:=hid (And.intro hL1 (And.intro hO1 hb1));clear hL1 hO1 hb1) | (at_builtin;refine wpList_append_own_at _ rfl (.tmp 14) (.tmp 21) 26 rfl W0.heap.size 29 i0 _ 5 80 Tryz.underlying26 HI0.out.1 HI0.out.2.1 HI0.out.2.2.1 HI0.out.2.2.2 rfl (by decide) (.slice AL k cL) k xs rfl (((HR.out.step H1.out.2.2).step ((Below.refl _ W1).alloc (Nat.le_refl _) _)).ownL) ⟨W1.heap.size,0,none⟩ 1 1 (chunk x (.slice BL x.il.length dL) (.slice BO x.vz.length dO)) rfl rfl (row_cells' _ _ rfl _ _) (by simp [chunk,Value.oneCell']) HM.out.1 HM.out.2 (((HR.out.step H1.out.2.2).step ((Below.refl _ W1).alloc (Nat.le_refl _) _)).size) ?_;intro v3 W3 hown3 hgrow3 _ hat3;obtain ⟨A3,c3,rfl⟩:=zaf hown3;have H3:=hid (And.intro hown3 (And.intro hgrow3 hat3));clear hown3 hgrow3 hat3))
    go_roundw
    case rel=>exact ⟨k+1,_,by go_num,by omega,HR.out.addL HG.out H1.out.2.2 H1.out.1 H1.out.2.1 H3.out.1 H3.out.2.1 H3.out.2.2⟩
    case measure=>simp [intOf];omega
   ·have hkl:k=l.length:=by omega
    subst hkl;have HR:=hid hr;clear hr hwr;go_wp2
    clear hx3
    go_loopw [5,6] (CopyRel2 W0 l ks ov (.slice AL l.length cL)) (fun _ i _=>ov.length - (intOf i).toNat)
    case atStart=>exact ⟨0,_,_,rfl,Nat.zero_le _,HR.out⟩
    case round=>
     clear HR;obtain ⟨k,xs,ys,rfl,hk,hr⟩:=hrel;obtain ⟨AO,cO,rfl⟩:=zaf hr.ownO;by_cases hlt:k<ov.length
     ·have hwr:Below w.heap.size w wr:=HB.out.trans (hr.below.mono HB.out.size)
      obtain ⟨b,o,rfl,hK,hks,hE⟩:=HF'.out (by intro e;rw [e] at hlt;simp at hlt)
      have hx4:wr.cell? ⟨w.heap.size,4,none⟩=some (.slice (some ⟨b,o,none⟩) ov.length c'):=((HW.out.below hr.below HW.out.lt).cell 4).trans rfl;have hlk:k<ks.length:=by have:=HKL.out;omega
      obtain ⟨A1,c1,A2,c2,hcells,hval⟩:=zbV hks hE hK hlt hlk;have hs:=zaL ov k hlt;have hsz:=HSZ.out;have HC:=hid (fun (W:World) (h:Below W0.heap.size W0 W)=>IH.out _ _ ov[k] W (by omega) (hval W (HB.out.trans (h.mono HB.out.size))) (by omega))
      have HS:=hid (fun (W:World) (h:Below W0.heap.size W0 W)=>And.intro (((HW.out.below h HW.out.lt).cell 4).trans rfl:W.cell? ⟨w.heap.size,4,none⟩=some (.slice (some ⟨b,o,none⟩) ov.length c')) (hcells W (HB.out.trans (h.mono HB.out.size))))
      have HG:=hid (And.intro (List.getElem?_eq_getElem hlt) (List.getElem?_eq_getElem hlk));have HR:=hid hr;have hmax:k+1<=maxLen:=by unfold maxLen;omega
      have hby:(k+1) * 96<=140737488355328:=by omega
      have HM:=hid (And.intro hmax hby);have hk0:(0:Int)<=(k:Int):=by omega
      have hk1:(k:Int)<(ov.length:Int):=by omega
      clear hcells hval hs hsz hE hK hks hr hwr hmax hby;generalize ov[k]=x at *;generalize ks[k]=kk at *
      go_wp2_with fail
      go_region_held3 (fun W=>W.cell? ⟨w.heap.size,4,none⟩=some (.slice (some ⟨b,o,none⟩) ov.length c')/\W.cell? ⟨b,o+k * 6,none⟩=some (.string kk)/\W.cell? ⟨b,o+k * 6+1,none⟩=some (.int .u8 x.kq)/\W.cell? ⟨b,o+k * 6+1+1,none⟩=some (.int .i64 x.num)/\W.cell? ⟨b,o+k * 6+1+2,none⟩=some (.string x.str)/\W.cell? ⟨b,o+k * 6+1+3,none⟩=some (.slice A1 x.il.length c1)/\W.cell? ⟨b,o+k * 6+1+4,none⟩=some (.slice A2 x.vz.length c2))
       (first | exact HS.out _ H3.out.2.2.2 | exact HS.out _ ((HR.out.step H1.out.2.2).step ((Below.refl _ W1).alloc (Nat.le_refl _) _)).below | exact HS.out _ (HR.out.step H1.out.2.2).below | exact HS.out _ HR.out.below.drew)
       (first | (go_at_call 20;refine (HC.out _ HR.out.below.drew).mono ?_;rintro e W1 ⟨v',rfl,⟨L1,O1,rfl,hL1,hO1⟩,hb1⟩;obtain ⟨BL,dL,rfl⟩:=zah hL1;obtain ⟨BO,dO,rfl⟩:=zag hO1;have hb2:Below wr.heap.size wr W1:=(Below.refl _ _).drew.trans hb1;have H1:=hid (And.intro hL1 (And.intro hO1 hb2));clear hL1 hO1 hb1 hb2) | (refine zaJ rfl (.tmp 30) (.tmp 45) 27 rfl W0.heap.size 56 i1 _ 6 96 Tryz.underlying27 HI1.out.1 HI1.out.2.1 HI1.out.2.2.1 HI1.out.2.2.2 rfl (by decide) (.slice AO k cO) k ys rfl ((HR.out.step H1.out.2.2).step ((Below.refl _ W1).alloc (Nat.le_refl _) _)).ownO ⟨W1.heap.size,0,none⟩ 1 1 (.string kk :: chunk x (.slice BL x.il.length dL) (.slice BO x.vz.length dO)) rfl rfl (row_cells' _ _ rfl _ _) (by simp [chunk,Value.oneCell']) HM.out.1 HM.out.2 ((HR.out.step H1.out.2.2).step ((Below.refl _ W1).alloc (Nat.le_refl _) _)).size ?_;intro v3 W3 hown3 hgrow3 hat3;obtain ⟨A3,c3,rfl⟩:=zaf hown3;have H3:=hid (And.intro hown3 (And.intro hgrow3 (And.intro hat3 (HR.out.addO HG.out.1 HG.out.2 H1.out.2.2 H1.out.1 H1.out.2.1 hown3 hgrow3 hat3).below)));clear hown3 hgrow3 hat3))
      go_wp2
      go_roundw
      case rel=>exact ⟨k+1,_,_,by go_num,by omega,HR.out.addO HG.out.1 HG.out.2 H1.out.2.2 H1.out.1 H1.out.2.1 H3.out.1 H3.out.2.1 H3.out.2.2.1⟩
      case measure=>simp [intOf];omega
     ·have hkl:k=ov.length:=by omega
      subst hkl;have hx4:wr.cell? ⟨w.heap.size,4,none⟩=some (.slice A' ov.length c'):=((HW.out.below hr.below HW.out.lt).cell 4).trans rfl;have hx:=(HW.out.below hr.below HW.out.lt).five;have hy:=(HV.out.below hr.below HV.out.lt).five;obtain ⟨a0,a1,a2,a3,a4,f0,f1,f2,f3,f4⟩:=hx;obtain ⟨b0,b1,b2,b3,b4,e0,e1,e2,e3,e4⟩:=hy;have HR:=hid hr;clear hr;go_wp2
      refine bodyPost_ret (v:=.agg #[.int .u8 gk,.int .i64 gn,.string gs,.slice AL l.length cL,.slice AO ov.length cO]) (by simp [results,Tryz.results20,go_sem,b0,b1,b2,b3,b4]) rfl ?_
      refine ⟨_,rfl,?_,zae (((HB.out.trans (HR.out.below.mono HB.out.size)).setCell (Nat.le_refl _) _).setCell (Nat.le_refl _) _) (by omega) _ _ _ _ _⟩
      have hd:=HR.out.done HKL.out (W:=put5 ((wr.setCell ⟨w.heap.size,3,none⟩ (.slice AL l.length cL)).setCell ⟨w.heap.size,4,none⟩ (.slice AO ov.length cO)) (w.heap.size+1) (.int .u8 gk) (.int .i64 gn) (.string gs) (.slice AL l.length cL) (.slice AO ov.length cO)) (fun j hj hlt=>by
       rw [zac _ _ _ _ _ _ _ _ (by have:=HS0.out;omega),Below.heap_setCell _ _ _ _ (by have:=HS0.out;simp only;omega),Below.heap_setCell _ _ _ _ (by have:=HS0.out;simp only;omega)]) (lo:=w.heap.size) (by have:=HS0.out;omega)
      exact FIN.out _ _ _ hd.1 hd.2
open Go Go.RowKit
mutual
theorem zcb:∀ (g:GV),g.Same g
 | .mk k n s l ks ov=>by
  simp only [GV.Same,GV.il,GV.vz];exact ⟨⟨rfl,rfl,rfl,rfl,rfl⟩,zds l,zds ov⟩
theorem zds:∀ (l:List GV),GV.Sames l l
 | []=>by simp [GV.Sames]
 | x :: r=>by simp only [GV.Sames];exact ⟨zcb x,zds r⟩
end
open Go Go.RowKit
structure Vl (W:World) (g:GV) (AL AO:Option Addr) (cL cO:Nat):Prop where
 lst:LstV (fun _=>True) W (.slice AL g.il.length cL) g.il
 obj:ObjV (fun _=>True) W (.slice AO g.vz.length cO) g.keys g.vz
theorem Vl.later {W W':World} {g AL AO cL cO} (h:Vl W g AL AO cL cO) (hb:Below W.heap.size W W'):Vl W' g AL AO cL cO:=
 ⟨h.lst.keep (From.of_below hb) (fun _ h _=>h),h.obj.keep (From.of_below hb) (fun _ h _=>h)⟩
theorem Vl.val {W g AL AO cL cO} (h:Vl W g AL AO cL cO):g.val (fun _=>True) W (.agg #[.int .u8 g.kq,.int .i64 g.num,.string g.str,.slice AL g.il.length cL,.slice AO g.vz.length cO]):=⟨_,_,rfl,h.lst,h.obj⟩
theorem zm6 {ok:Nat->Prop} {W:World} {v:Value} {g:GV} (h:g.val ok W v):∃ AL AO cL cO,v=.agg #[.int .u8 g.kq,.int .i64 g.num,.string g.str,.slice AL g.il.length cL,.slice AO g.vz.length cO]/\Vl W g AL AO cL cO:=by
 obtain ⟨L,O,rfl,hL,hO⟩:=h;obtain ⟨AL,cL,rfl⟩:=zah hL;obtain ⟨AO,cO,rfl⟩:=zag hO;exact ⟨AL,AO,cL,cO,rfl,hL.keep (From.refl _ _) (fun _ _ _=>trivial),hO.keep (From.refl _ _) (fun _ _ _=>trivial)⟩
structure Bx (W:World) (b:Nat) (g:GV) (AL AO:Option Addr) (cL cO:Nat):Prop where
 whole:Whole W b 29 #[.int .u8 g.kq,.int .i64 g.num,.string g.str,.slice AL g.il.length cL,.slice AO g.vz.length cO]
 vl:Vl W g AL AO cL cO
theorem Bx.later {W W':World} {b g AL AO cL cO} (h:Bx W b g AL AO cL cO) (hb:Below W.heap.size W W'):Bx W' b g AL AO cL cO:=⟨h.whole.below hb h.whole.lt,h.vl.later hb⟩
theorem zaa (W:World) (o:Obj):Below W.heap.size W (W.alloc o):=(Below.refl _ W).alloc (Nat.le_refl _) o
theorem Bx.new {W g AL AO cL cO} (h:Vl W g AL AO cL cO):Bx (W.alloc (.cells #[.int .u8 g.kq,.int .i64 g.num,.string g.str,.slice AL g.il.length cL,.slice AO g.vz.length cO] 29)) W.heap.size g AL AO cL cO:=
 ⟨Whole.new W _ _,h.later (zaa W _)⟩
theorem Bx.cells {W b g AL AO cL cO} (h:Bx W b g AL AO cL cO):W.cell? ⟨b,0,none⟩=some (.int .u8 g.kq)/\W.cell? ⟨b,1,none⟩=some (.int .i64 g.num)/\W.cell? ⟨b,2,none⟩=some (.string g.str) /\
  W.cell? ⟨b,3,none⟩=some (.slice AL g.il.length cL)/\W.cell? ⟨b,4,none⟩=some (.slice AO g.vz.length cO):=by
 obtain ⟨c0,c1,c2,c3,c4,_⟩:=h.whole.five;exact ⟨c0,c1,c2,c3,c4⟩
theorem zmp {W g AL AO CL CO cL cO eL eO} (hv:Vl W g AL AO cL cO) (hx:Vl W g CL CO eL eO) (hw:g.weight<=1000000000):
  Calls Tryz.prog 11 #[.agg #[.int .u8 g.kq,.int .i64 g.num,.string g.str,.slice AL g.il.length cL,.slice AO g.vz.length cO],.agg #[.int .u8 g.kq,.int .i64 g.num,.string g.str,.slice CL g.il.length eL,.slice CO g.vz.length eO]] W fun e w'=>e=.returned (.bool true)/\Below W.heap.size W w':=
 (zbg g.size _ _ _ g g W (Nat.le_refl _) hv.val hx.val (Nat.le_trans (zad g) hw) (Nat.le_trans (zad g) hw)).mono fun e w' ⟨b,he,hb,hw'⟩=>⟨by rw [he,hb.2 (zcb g)],hw'⟩
end Go.Proofs.YtmmgdkpkcoopgaaGreatDoor
