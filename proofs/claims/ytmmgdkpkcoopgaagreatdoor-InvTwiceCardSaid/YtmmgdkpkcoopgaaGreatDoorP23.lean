/- Texts in one: RGet, OneM, CompDy, RcA, TextZ, CompSd, RcB. -/
import Derived.Test.YtmmgdkpkcoopgaaGreatDoorP9
import Derived.Test.YtmmgdkpkcoopgaaGreatDoorP12
import Derived.Deep.RegionWith
import Derived.Deep.DeepCutAuto
import Derived.Deep.CutRange
import Derived.Test.YtmmgdkpkcoopgaaGreatDoorP21
import Derived.Test.YtmmgdkpkcoopgaaGreatDoorP22
import Derived.Test.YtmmgdkpkcoopgaaGreatDoorP20
import Derived.Test.YtmmgdkpkcoopgaaGreatDoorP1
import Derived.Test.YtmmgdkpkcoopgaaGreatDoorP10
import Derived.Lib.Builder
import Derived.Lib.OthersKept
import Derived.Lib.MakeNoZero
import Derived.Lib.BufferKept
import Derived.Lib.AppendStr
import Derived.Lib.UnsafeStr
import Derived.Lib.Strings
import Derived.Lib.Walk
import Derived.Laws.Externs
import Derived.Laws.BitsLemmas
import Derived.WalkKit
import Derived.Shelf.RegionOpenPlain
import Derived.RegionTactic
import Derived.BigQuiet
import Derived.Deep.QuietTactic
import Derived.Lib.Hide
import Derived.Test.YtmmgdkpkcoopgaaGreatDoorLaysT
import Derived.Test.YtmmgdkpkcoopgaaGreatDoorP13
import Derived.Lib.QuietBelow
import Derived.Test.YtmmgdkpkcoopgaaGreatDoorP14
import Derived.Test.YtmmgdkpkcoopgaaGreatDoorP16
import Derived.Test.YtmmgdkpkcoopgaaGreatDoorP8
import Derived.Test.YtmmgdkpkcoopgaaGreatDoorP3
import Derived.Test.YtmmgdkpkcoopgaaGreatDoorP7
import Derived.Test.YtmmgdkpkcoopgaaGreatDoorP11
import Derived.OwnWalk
set_option maxHeartbeats 40000000
set_option maxRecDepth 100000
namespace Go.Proofs.YtmmgdkpkcoopgaaGreatDoor
open Go.Lib(hid)
open Go Go.RowKit
structure RG (w:World) (h:GV) (BL BO:Option Addr) (dL dO:Nat) (W:World):Prop where
 below:Below w.heap.size w W
 box:Whole W w.heap.size 29 #[.int .u8 h.kq,.int .i64 h.num,.string h.str,.slice BL h.il.length dL,.slice BO h.vz.length dO]
 res:Whole W (w.heap.size+1) 29 ZC
 lst:LstV (fun k=>k<w.heap.size) W (.slice BL h.il.length dL) h.il
 obj:ObjV (fun k=>k<w.heap.size) W (.slice BO h.vz.length dO) h.keys h.vz
theorem RG.later {w W W':World} {h:GV} {BL BO:Option Addr} {dL dO:Nat} (q:RG w h BL BO dL dO W) (hb:Below W.heap.size W W'):RG w h BL BO dL dO W':=
 ⟨q.below.trans (hb.mono q.below.size),q.box.below hb q.box.lt,q.res.below hb q.res.lt,q.lst.keep (From.of_below hb) (fun _ h _=>h),q.obj.keep (From.of_below hb) (fun _ h _=>h)⟩
def RGRel (w:World) (g:GV) (ps:List GStep) (i:Value) (wr:World):Prop:=
 ∃ (k:Nat) (h:GV) (BL BO:Option Addr) (dL dO:Nat),i=.int .i64 k/\k<=ps.length/\g.get ps=h.get (ps.drop k)/\RG w h BL BO dL dO wr/\h.size<=g.size
def RGet (g:GV) (ps:List GStep) (w:World) (e:Ending) (w':World):Prop:=
 Below w.heap.size w w'/\((g.get ps=none/\e=.returned (.tuple #[zeroV,.int .i64 30]))\/∃ h v',g.get ps=some h/\e=.returned (.tuple #[v',.int .i64 0])/\h.val (fun k=>w.heap.size<=k) w' v')
def CutS (w wr:World) (h':GV) (t7 t8 t9:Value) (W:World):Prop:=
 Below wr.heap.size wr W/\t9=.int .i64 0/\∃ (X:Nat) (BL BO:Option Addr) (dL dO:Nat) (k:Nat),t7=.pointer (some ⟨X,0,none⟩)/\t8=.int .i64 k/\Whole W X 29 #[.int .u8 h'.kq,.int .i64 h'.num,.string h'.str,.slice BL h'.il.length dL,.slice BO h'.vz.length dO] /\
  LstV (fun k=>k<w.heap.size) wr (.slice BL h'.il.length dL) h'.il/\ObjV (fun k=>k<w.heap.size) wr (.slice BO h'.vz.length dO) h'.keys h'.vz
def CutN (wr:World) (t7 t8 t9:Value) (W:World):Prop:=Below wr.heap.size wr W/\t9=.int .i64 30/\∃ (X:Nat) (k:Int),t7=.pointer (some ⟨X,0,none⟩)/\t8=.int .i64 k
theorem zkX {ok:Nat->Prop} {w:World} {g:GV} {AL AO:Option Addr} {cL cO:Nat} (hL:LstV ok w (.slice AL g.il.length cL) g.il) (hO:ObjV ok w (.slice AO g.vz.length cO) g.keys g.vz):
  RG w g AL AO cL cO ((w.alloc (.cells #[.int .u8 g.kq,.int .i64 g.num,.string g.str,.slice AL g.il.length cL,.slice AO g.vz.length cO] 29)).alloc (.cells ZC 29)):=by
 have hb:Below w.heap.size w ((w.alloc (.cells #[.int .u8 g.kq,.int .i64 g.num,.string g.str,.slice AL g.il.length cL,.slice AO g.vz.length cO] 29)).alloc (.cells ZC 29)):=
  ((Below.refl _ w).alloc (Nat.le_refl _) _).alloc (by simp) _
 have h2:=Whole.new (w.alloc (.cells #[.int .u8 g.kq,.int .i64 g.num,.string g.str,.slice AL g.il.length cL,.slice AO g.vz.length cO] 29)) 29 ZC;rw [World.size_alloc] at h2;exact ⟨hb,(Whole.new w 29 _).alloc _,h2,hL.keep (From.of_below hb) (fun _ _ h=>h),hO.keep (From.of_below hb) (fun _ _ h=>h)⟩
theorem zfe:∀ (l:List GV) (k:Nat) (h:GV),l[k]? = some h->h.size<=GV.sizes l
 | [],k,h,e=>by simp at e
 | x :: r,0,h,e=>by simp at e;subst e;simp [GV.sizes]
 | x :: r,k+1,h,e=>by
  have:=zfe r k h (by simpa using e)
  simp only [GV.sizes];omega
theorem zel {g h:GV} {s:GStep} (hi:g.inside s=some h):h.size<=g.size:=by
 cases g with
 | mk k n z l ks ov=>
  rcases zaE hi with ⟨_,_,k',_,hg⟩ | ⟨_,_,_,hg⟩
  ·have:=zfe l k' h hg
   simp only [GV.size];omega
  ·have:=zfe ov _ h hg
   simp only [GV.size];omega
theorem zbW {wr w1:World} (hb:Below ((wr.alloc (.cells #[.int .u8 0,.int .i64 0,.string ⟨#[]⟩,.slice none 0 0,.slice none 0 0] 29)).drew).heap.size ((wr.alloc (.cells #[.int .u8 0,.int .i64 0,.string ⟨#[]⟩,.slice none 0 0,.slice none 0 0] 29)).drew) w1):
  Hid (Whole w1 wr.heap.size 29 #[.int .u8 0,.int .i64 0,.string ⟨#[]⟩,.slice none 0 0,.slice none 0 0]/\Below wr.heap.size wr w1):=
 hid ⟨Whole.below (W:=(wr.alloc (.cells #[.int .u8 0,.int .i64 0,.string ⟨#[]⟩,.slice none 0 0,.slice none 0 0] 29)).drew) (Whole.new wr _ _) hb (by simp),(((Below.refl _ wr).alloc (Nat.le_refl _) _).drew).trans (hb.mono (by simp))⟩
theorem RG.put {w W W':World} {h h':GV} {BL BO BL' BO':Option Addr} {dL dO dL' dO':Nat} (q:RG w h BL BO dL dO W) (hb:Below W.heap.size W W') (hL:LstV (fun k=>k<w.heap.size) W (.slice BL' h'.il.length dL') h'.il) (hO:ObjV (fun k=>k<w.heap.size) W (.slice BO' h'.vz.length dO') h'.keys h'.vz):
  RG w h' BL' BO' dL' dO' (put5 W' w.heap.size (.int .u8 h'.kq) (.int .i64 h'.num) (.string h'.str) (.slice BL' h'.il.length dL') (.slice BO' h'.vz.length dO')):=by
 have q':=q.later hb;have hF:From (fun k=>k<w.heap.size) W' (put5 W' w.heap.size (.int .u8 h'.kq) (.int .i64 h'.num) (.string h'.str) (.slice BL' h'.il.length dL') (.slice BO' h'.vz.length dO')):=fun k hk _=>zac _ _ _ _ _ _ _ _ (by omega)
 exact ⟨zae q'.below (Nat.le_refl _) _ _ _ _ _,zai q'.box _ _ _ _ _,q'.res.of_eq (zac _ _ _ _ _ _ _ _ (by omega)),(hL.keep (From.of_below hb) (fun _ h _=>h)).keep hF (fun _ h _=>h),(hO.keep (From.of_below hb) (fun _ h _=>h)).keep hF (fun _ h _=>h)⟩
theorem zgU (ok:Nat->Prop) (v:Value) (g:GV) (hi:Nat) (A:Option Addr) (cap:Nat) (ps:List GStep) (w:World) (hv:g.val ok w v) (hp:Steps hi w A ps) (hhi:hi<=w.heap.size) (hcap:ps.length<=cap) (hm:cap<=maxLen) (hsz:g.size<=1000000000):
  Calls Tryz.prog 22 #[v,.slice A ps.length cap] w (RGet g ps w):=by
 obtain ⟨L,O,rfl,hL,hO⟩:=hv;obtain ⟨AL,cL,rfl⟩:=zah hL;obtain ⟨AO,cO,rfl⟩:=zag hO;have HST:=hid (zkX hL hO);have HP:=hid hp;clear hL hO hp;unfold maxLen at hm;unfold ZC at HST;go_enter Tryz.func22,Tryz.ntmps22
 go_wp2
 go_loopw [6] (RGRel w g ps) (fun i _=>ps.length - (intOf i).toNat)
 case atStart=>exact ⟨0,g,AL,AO,cL,cO,rfl,Nat.zero_le _,rfl,HST.out,Nat.le_refl _⟩
 case round=>
  obtain ⟨k,h,BL,BO,dL,dO,rfl,hk,hget,hR,hgs⟩:=hrel;have HR:=hid hR;clear hR;by_cases hlt:k<ps.length
  ·obtain ⟨pb,po,rfl,hpb,p0,p1,p2⟩:=(HP.out.keep (HR.out.below.mono hhi) (Nat.le_refl _)).one hlt
   have hdr:ps.drop k=ps[k] :: ps.drop (k+1):=List.drop_eq_getElem_cons hlt;rw [hdr] at hget;simp only [GV.get] at hget;have hstep:∀ W,Below wr.heap.size wr W->Calls Tryz.prog 39 #[.agg #[.int .u8 h.kq,.int .i64 h.num,.string h.str,.slice BL h.il.length dL,.slice BO h.vz.length dO],.agg #[.bool ps[k].list,.int .i64 ps[k].i,.string ps[k].key]] W (StepPost (fun k=>k<w.heap.size) h ps[k] W):=fun W hb=>
    zhQ _ _ h ps[k] W ⟨_,_,rfl,HR.out.lst.keep (From.of_below hb) (fun _ h _=>h),HR.out.obj.keep (From.of_below hb) (fun _ h _=>h)⟩
   have HGET:=hid hget;clear hget hdr;obtain ⟨v0,v1,v2,v3,v4,_⟩:=HR.out.box.five;have hws:w.heap.size<=wr.heap.size:=HR.out.below.size;generalize hs:ps[k]=s at *;have q0:=fun o=>zab o p0
   have q1:=fun o=>zab o p1
   have q2:=fun o=>zab o p2
   have g0:=fun o=>zab o v0
   have g1:=fun o=>zab o v1
   have g2:=fun o=>zab o v2
   have g3:=fun o=>zab o v3
   have g4:=fun o=>zab o v4
   cases hio:h.inside s with
   | none=>
    have hs2:=fun W hb=>(hstep W hb).mono (R':=fun e w'=>e=.returned (.tuple #[.agg #[.int .u8 0,.int .i64 0,.string ⟨#[]⟩,.slice none 0 0,.slice none 0 0],.int .i64 0,.int .i64 30])/\Below W.heap.size W w') fun e w' hq=>by
     rcases hq.2 with ⟨_,he⟩ | ⟨h',_,_,_,_,_,hx,_⟩
     ·exact ⟨he,hq.1⟩
     ·rw [hio] at hx;cases hx
    have HC:=hid hs2;clear hs2 hstep
    go_wp2_with fail
    go_cut [7,8,9] from 10 to 30 (CutN wr)
    case first=>
     go_region_with (first | (go_at_call 39;refine (HC.out wr.drew (Below.refl _ wr).drew).mono ?_;rintro e w1 ⟨rfl,hb1⟩;have HB1:Hid (Below wr.heap.size wr w1):=hid ((Below.refl _ wr).drew.trans hb1);clear hb1) | (go_at_call 39;refine (HC.out _ ((Below.refl _ wr).alloc (Nat.le_refl _) _).drew).mono ?_;rintro e w1 ⟨rfl,hb1⟩;have HX:=zbW hb1;obtain ⟨x0,x1,x2,x3,x4,y0,y1,y2,y3,y4⟩:=HX.out.1.five;have HB1:Hid (Below wr.heap.size wr w1):=hid HX.out.2;clear hb1))
     all_goals go_wp2_with fail
     all_goals go_meet
     all_goals first | exact ⟨HB1.out.alloc HB1.out.size _,rfl,_,_,rfl,rfl⟩ | exact ⟨zae HB1.out (Nat.le_refl _) _ _ _ _ _,rfl,_,_,rfl,rfl⟩
    case rest=>
     obtain ⟨hbw,rfl,X,kx,rfl,rfl⟩:=hcut;have HR2:=hid (HR.out.later hbw);obtain ⟨x0,x1,x2,x3,x4,y0,y1,y2,y3,y4⟩:=HR2.out.res.five;obtain ⟨d0,d1,d2,d3,d4,_⟩:=(zai HR2.out.res (.int .u8 0) (.int .i64 0) (.string ⟨#[]⟩) (.slice none 0 0) (.slice none 0 0)).five;unfold put5 at d0 d1 d2 d3 d4;clear hbw q0 q1 q2 g0 g1 g2 g3 g4;go_wp2
     refine bodyPost_ret (v:=.tuple #[zeroV,.int .i64 30]) (by simp [results,Tryz.results22,go_sem,zeroV,d0,d1,d2,d3,d4]) rfl ?_
     exact ⟨zae HR2.out.below (by omega) _ _ _ _ _,.inl ⟨by rw [HGET.out,hio];rfl,rfl⟩⟩
   | some h'=>
    have hs2:=fun W (hb:Below wr.heap.size wr W)=>(hstep W hb).mono (R':=fun e w'=>∃ BL' BO' dL' dO' kk,e=.returned (.tuple #[.agg #[.int .u8 h'.kq,.int .i64 h'.num,.string h'.str,.slice BL' h'.il.length dL',.slice BO' h'.vz.length dO'],.int .i64 (kk:Nat),.int .i64 0]) /\
      LstV (fun k=>k<w.heap.size) wr (.slice BL' h'.il.length dL') h'.il/\ObjV (fun k=>k<w.heap.size) wr (.slice BO' h'.vz.length dO') h'.keys h'.vz/\Below W.heap.size W w') fun e w' hq=>by
     rcases hq.2 with ⟨hx,_⟩ | ⟨h2,BL',BO',dL',dO',kk,hx,he,hL,hO,_⟩
     ·rw [hio] at hx;cases hx
     ·rw [hio] at hx;cases hx
      exact ⟨BL',BO',dL',dO',kk,he,hL.keep (fun k hk _=>(hb.block k (by omega)).symm) (fun _ h _=>h),hO.keep (fun k hk _=>(hb.block k (by omega)).symm) (fun _ h _=>h),hq.1⟩
    have HC:=hid hs2;clear hs2 hstep
    go_wp2_with fail
    go_cut [7,8,9] from 10 to 30 (CutS w wr h')
    case first=>
     go_region_with (first | (go_at_call 39;refine (HC.out wr.drew (Below.refl _ wr).drew).mono ?_;rintro e w1 ⟨BL',BO',dL',dO',kk,rfl,hL1,hO1,hb1⟩;have HLO:=hid (And.intro hL1 hO1);clear hL1 hO1;have HB1:Hid (Below wr.heap.size wr w1):=hid ((Below.refl _ wr).drew.trans hb1);clear hb1) | (go_at_call 39;refine (HC.out _ ((Below.refl _ wr).alloc (Nat.le_refl _) _).drew).mono ?_;rintro e w1 ⟨BL',BO',dL',dO',kk,rfl,hL1,hO1,hb1⟩;have HLO:=hid (And.intro hL1 hO1);clear hL1 hO1;have HX:=zbW hb1;obtain ⟨x0,x1,x2,x3,x4,y0,y1,y2,y3,y4⟩:=HX.out.1.five;have HB1:Hid (Below wr.heap.size wr w1):=hid HX.out.2;clear hb1))
     all_goals go_wp2_with fail
     all_goals go_meet
     all_goals first
      | (have hx:=HX.out.1;exact ⟨zae HB1.out (Nat.le_refl _) _ _ _ _ _,rfl,_,BL',BO',dL',dO',kk,rfl,rfl,zai hx _ _ _ _ _,HLO.out.1,HLO.out.2⟩)
      | exact ⟨HB1.out.alloc HB1.out.size _,rfl,_,BL',BO',dL',dO',kk,rfl,rfl,Whole.new w1 _ _,HLO.out.1,HLO.out.2⟩
    case rest=>
     obtain ⟨hbw,rfl,X,BL',BO',dL',dO',kx,rfl,rfl,hX,hL',hO'⟩:=hcut;have HR2:=hid (HR.out.later hbw);have HR3:=hid (HR.out.put hbw hL' hO');obtain ⟨x0,x1,x2,x3,x4,_⟩:=hX.five;obtain ⟨v0,v1,v2,v3,v4,y0,y1,y2,y3,y4⟩:=HR2.out.box.five;clear hbw q0 q1 q2 g0 g1 g2 g3 g4 hX hL' hO';go_wp2
     go_roundw
     case rel=>exact ⟨k+1,h',BL',BO',dL',dO',by go_num,by omega,by rw [HGET.out,hio];rfl,HR3.out,Nat.le_trans (zel hio) hgs⟩
     case measure=>simp [intOf];omega
  ·have hk':k=ps.length:=by omega
   have hd:ps.drop k=[]:=by rw [hk'];simp
   rw [hd] at hget;have hcopy:=fun (W:World) (hb:Below wr.heap.size wr W)=>(zcX h.size (fun k=>k<w.heap.size) (.agg #[.int .u8 h.kq,.int .i64 h.num,.string h.str,.slice BL h.il.length dL,.slice BO h.vz.length dO]) h W (Nat.le_refl _) ⟨_,_,rfl,HR.out.lst.keep (From.of_below hb) (fun _ h _=>h),HR.out.obj.keep (From.of_below hb) (fun _ h _=>h)⟩ (Nat.le_trans hgs hsz)).mono
    (R':=fun e w'=>∃ BL dL BO dO,e=.returned (.agg #[.int .u8 h.kq,.int .i64 h.num,.string h.str,.slice BL h.il.length dL,.slice BO h.vz.length dO])/\LstV (fun k=>wr.heap.size<=k) w' (.slice BL h.il.length dL) h.il/\ObjV (fun k=>wr.heap.size<=k) w' (.slice BO h.vz.length dO) h.keys h.vz/\Below wr.heap.size wr w') fun e w' ⟨v',he,⟨L,O,hv,hL,hO⟩,hb'⟩=>by
     subst hv;obtain ⟨BL,dL,rfl⟩:=zah hL;obtain ⟨BO,dO,rfl⟩:=zag hO;exact ⟨BL,dL,BO,dO,he,hL.keep (From.refl _ _) (fun k hk _=>Nat.le_trans hb.size hk),hO.keep (From.refl _ _) (fun k hk _=>Nat.le_trans hb.size hk),hb.trans (hb'.mono hb.size)⟩
   have HC:=hid hcopy;have HGET:=hid hget;clear hcopy hget hd;obtain ⟨v0,v1,v2,v3,v4,_⟩:=HR.out.box.five
   go_wp2_with (go_at_call 20;refine (HC.out _ (Below.refl _ _)).mono ?_;rintro e w1 ⟨CL,eL,CO,eO,rfl,hL,hO,hb1⟩;obtain ⟨x0,x1,x2,x3,x4,y0,y1,y2,y3,y4⟩:=(HR.out.later hb1).res.five;have HB1:=hid hb1;have HV:=hid (And.intro hL hO);clear hb1 hL hO)
   have hlt2:=HR.out.res.lt;obtain ⟨d0,d1,d2,d3,d4,_⟩:=(zai (HR.out.later HB1.out).res (.int .u8 h.kq) (.int .i64 h.num) (.string h.str) (.slice CL h.il.length eL) (.slice CO h.vz.length eO)).five;unfold put5 at d0 d1 d2 d3 d4;refine bodyPost_ret (v:=.tuple #[.agg #[.int .u8 h.kq,.int .i64 h.num,.string h.str,.slice CL h.il.length eL,.slice CO h.vz.length eO],.int .i64 0]) (by simp [results,Tryz.results22,go_sem,d0,d1,d2,d3,d4]) rfl ?_
   refine ⟨zae (HR.out.later HB1.out).below (by omega) _ _ _ _ _,.inr ⟨h,_,HGET.out,rfl,_,_,rfl,?_,?_⟩⟩
   ·exact HV.out.1.keep (fun k hk _=>zac _ _ _ _ _ _ _ _ (by omega)) (fun k hk _=>by omega)
   ·exact HV.out.2.keep (fun k hk _=>zac _ _ _ _ _ _ _ _ (by omega)) (fun k hk _=>by omega)
end Go.Proofs.YtmmgdkpkcoopgaaGreatDoor
namespace Go.Proofs.YtmmgdkpkcoopgaaGreatDoor
open Go.Lib(hid)
open Go Go.RowKit
set_option linter.unusedVariables false
set_option linter.unusedSimpArgs false
theorem zeq (q:List GStep):∀ (p:List GStep) (g h:GV),g.get (p++q)=some h->∃ m,g.get p=some m
 | [],g,_,_=>⟨g,rfl⟩
 | s :: r,g,h,e=>by
  simp only [List.cons_append,GV.get] at e ⊢;cases hi:g.inside s with
  | none=>rw [hi] at e;cases e
  | some y=>
   rw [hi] at e;simp only [Option.bind_some] at e ⊢;exact zeq q r y h e
theorem zdF {g h:GV} {s:GStep} (hg:g.Sound) (hi:g.inside s=some h):h.Sound:=by
 rcases zaE hi with ⟨_,_,k',_,hgx⟩ | ⟨_,_,_,hgx⟩
 ·exact (zaN hg).2.1 h (List.mem_of_getElem? hgx)
 ·exact (zaN hg).2.2 h (List.mem_of_getElem? hgx)
theorem zbe:∀ (p:List GStep) (g h:GV),g.Sound->g.get p=some h->h.Sound
 | [],g,h,hg,e=>by simp [GV.get] at e;subst e;exact hg
 | s :: r,g,h,hg,e=>by
  simp only [GV.get] at e;cases hi:g.inside s with
  | none=>rw [hi] at e;cases e
  | some y=>rw [hi] at e;exact zbe r y h (zdF hg hi) e
theorem ziu {g h:GV} {s:GStep} (hg:g.Asc) (hi:g.inside s=some h):h.Asc:=by
 cases g with
 | mk k n z l ks ov=>
  simp only [GV.Asc] at hg;rcases zaE hi with ⟨_,_,k',_,hgx⟩ | ⟨_,_,_,hgx⟩
  ·exact (zcQ l).1 hg.2.1 h (List.mem_of_getElem? hgx)
  ·exact (zcQ ov).1 hg.2.2 h (List.mem_of_getElem? hgx)
theorem zg4:∀ (p:List GStep) (g h:GV),g.Asc->g.get p=some h->h.Asc
 | [],g,h,hg,e=>by simp [GV.get] at e;subst e;exact hg
 | s :: r,g,h,hg,e=>by
  simp only [GV.get] at e;cases hi:g.inside s with
  | none=>rw [hi] at e;cases e
  | some y=>rw [hi] at e;exact zg4 r y h (ziu hg hi) e
theorem zih (g:GV):1<=g.weight:=by cases g with | mk k n s l ks ov=>simp only [GV.weight];omega
theorem zcJ:∀ (l:List GV),l.length<=GV.weights l
 | []=>by simp
 | x :: r=>by have:=zcJ r;have:=zih x;simp only [GV.weights,List.length_cons];omega
theorem zdC (g:GV):g.str.size<=g.weight/\g.il.length<=g.weight/\g.vz.length<=g.weight:=by
 cases g with
 | mk k n s l ks ov=>
  have h1:=zcJ l;have h2:=zcJ ov;simp only [GV.weight,GV.str,GV.il,GV.vz];refine ⟨?_,?_,?_⟩<;>omega
theorem zb7 {g:GV} (hg:g.Sound) (hk:g.kq=5):KeysOk g.keys:=by
 rcases (zaN hg).1.2.2.2.2 with h | h
 ·exact h.2
 ·exact absurd hk h.1
theorem zfd {g:GV} (hg:g.Sound) (hk:g.kq=5) (hw:g.weight<=200000):∀ k∈g.keys,valid k=true/\k.size<=200001:=fun k hm=>by
 obtain ⟨i,hi⟩:=List.getElem?_of_mem hm;have hl:=(List.getElem?_eq_some_iff.1 hi).1;have:=zhI hi;exact ⟨(zb7 hg hk i k hl hi).1,by omega⟩
theorem ziG {g:GV} (hg:g.Sound):g.kq=0\/g.kq=1\/g.kq=2\/g.kq=3\/g.kq=4\/g.kq=5:=(zaN hg).1.1
theorem Wy.front {W:World} {A:Option Addr} {c:Nat} {p q:List GStep} (h:Wy W A c (p++q)):Wy W A c p:=
 ⟨fun hn=>by
  obtain ⟨a,e,hs,hl,hc⟩:=h.steps (by simp [hn])
  exact ⟨a,e,hs,hl,fun i s hi=>hc i s (by rw [List.getElem?_append_left (List.getElem?_eq_some_iff.1 hi).1];exact hi)⟩,by have:=h.le;simp at this;omega,h.cap⟩
theorem rget1 {W} {g h:GV} {AL AO cL cO A} {c n:Nat} {ps} (hv:Vl W g AL AO cL cO) (hp:Wy W A c ps) (hn:ps.length=n) (hw:g.weight<=1000000000) (e:g.get ps=some h):
  Calls Tryz.prog 22 #[.agg #[.int .u8 g.kq,.int .i64 g.num,.string g.str,.slice AL g.il.length cL,.slice AO g.vz.length cO],.slice A n c] W fun e' w'=>∃ BL BO dL dO,e'=.returned (.tuple #[.agg #[.int .u8 h.kq,.int .i64 h.num,.string h.str,.slice BL h.il.length dL,.slice BO h.vz.length dO],.int .i64 0]) /\
   (LstV (fun k=>W.heap.size<=k) w' (.slice BL h.il.length dL) h.il/\ObjV (fun k=>W.heap.size<=k) w' (.slice BO h.vz.length dO) h.keys h.vz)/\Below W.heap.size W w':=by
 subst hn;refine (zgU _ _ g W.heap.size A c ps W hv.val hp.steps (Nat.le_refl _) hp.le hp.cap (Nat.le_trans (zad g) hw)).mono fun e' w' ⟨hb,hq⟩=>?_
 rcases hq with ⟨h1,_⟩ | ⟨h',v',h1,he,hv'⟩
 ·rw [e] at h1;cases h1
 ·rw [e] at h1;cases h1
  obtain ⟨L,O,rfl,hL,hO⟩:=hv';obtain ⟨BL,dL,rfl⟩:=zah hL;obtain ⟨BO,dO,rfl⟩:=zag hO;exact ⟨BL,BO,dL,dO,he,⟨hL,hO⟩,hb⟩
def K2 (r s:Nat) (w1 W:World):Prop:=w1.heap.size<=W.heap.size/\∀ k,k≠r->k≠s->k<w1.heap.size->W.heap[k]? = w1.heap[k]?
theorem K2.refl (r s:Nat) (w:World):K2 r s w w:=⟨Nat.le_refl _,fun _ _ _ _=>rfl⟩
theorem K2.set {r s:Nat} {w1 W:World} (h:K2 r s w1 W) {p:Addr} (hp:p.block=r\/p.block=s) (u:Value):K2 r s w1 (W.setCell p u):=⟨by rw [zaW];exact h.1,fun k hk hk' hl=>by rw [Below.heap_setCell W p u k (by rcases hp with h | h<;>omega)];exact h.2 k hk hk' hl⟩
theorem k212 {r s:Nat} {w W:World} {b:Nat} (h:K2 r s w W) (hb:b=r\/b=s) (a0 a1 a2 a3 a4 a5 a6 a7 a8 a9 a10 a11:Value):K2 r s w ((((((((((((W.setCell ⟨b,0,none⟩ a0).setCell ⟨b,1,none⟩ a1).setCell ⟨b,2,none⟩ a2).setCell ⟨b,3,none⟩ a3).setCell ⟨b,4,none⟩ a4).setCell ⟨b,5,none⟩ a5).setCell ⟨b,6,none⟩ a6).setCell ⟨b,7,none⟩ a7).setCell ⟨b,8,none⟩ a8).setCell ⟨b,9,none⟩ a9).setCell ⟨b,10,none⟩ a10).setCell ⟨b,11,none⟩ a11):=
 ((((((((((((h.set (p:=⟨b,0,none⟩) hb a0).set (p:=⟨b,1,none⟩) hb a1).set (p:=⟨b,2,none⟩) hb a2).set (p:=⟨b,3,none⟩) hb a3).set (p:=⟨b,4,none⟩) hb a4).set (p:=⟨b,5,none⟩) hb a5).set (p:=⟨b,6,none⟩) hb a6).set (p:=⟨b,7,none⟩) hb a7).set (p:=⟨b,8,none⟩) hb a8).set (p:=⟨b,9,none⟩) hb a9).set (p:=⟨b,10,none⟩) hb a10).set (p:=⟨b,11,none⟩) hb a11)
theorem Wy.two {wr w5 X:World} {P} {c r s:Nat} {qs} {t:TypeId} {cs:Array Value} (h:Wy wr P c qs) (hW:Whole wr r t cs) (hno:∀ (i:Nat) (l:Bool),cs[i]?≠some (Value.bool l)) (hs:wr.heap.size<=s\/s=r) (hb:Below wr.heap.size wr w5) (hK:K2 r s w5 X):Wy X P c qs:=
 ⟨fun hne=>by
  obtain ⟨a,e,hsp,hl,hc⟩:=h.steps hne;have hr:a.block≠r:=fun er=>by
   obtain ⟨x,xs,rfl⟩:∃ x xs,qs=x :: xs:=by cases qs with | nil=>exact absurd rfl hne | cons x xs=>exact ⟨x,xs,rfl⟩
   have:=(hc 0 x rfl).1;rw [er,hW.cell] at this;exact hno _ _ this
  have hblk:X.heap[a.block]? = wr.heap[a.block]?:=(hK.2 a.block hr (by omega) (Nat.lt_of_lt_of_le hl hb.size)).trans (hb.block a.block hl)
  exact ⟨a,e,hsp,Nat.lt_of_lt_of_le hl (Nat.le_trans hb.size hK.1),fun i s hi=>by
   obtain ⟨h0,h1,h2⟩:=hc i s hi;exact ⟨(World.cell?_of_block (a:=⟨a.block,_,none⟩) hblk).trans h0,(World.cell?_of_block (a:=⟨a.block,_,none⟩) hblk).trans h1,(World.cell?_of_block (a:=⟨a.block,_,none⟩) hblk).trans h2⟩⟩,h.le,h.cap⟩
theorem zlo {k n:Int} {s:ByteArray} {A B:Option Addr} {a b c d:Nat}:∀ (i:Nat) (l:Bool),(#[Value.int .u8 k,.int .i64 n,.string s,.slice A a b,.slice B c d]:Array Value)[i]?≠some (.bool l)
 | 0,_,h | 1,_,h | 2,_,h | 3,_,h | 4,_,h=>by simp at h
 | i+5,_,h=>by simp at h
theorem zba:∀ (i:Nat) (l:Bool),(#[Value.int .u8 0,.slice none 0 0,.string ⟨#[]⟩,.int .i64 0,.int .i64 0,.int .i64 0,.int .u8 0,.int .i64 0,.string ⟨#[]⟩,.slice none 0 0,.slice none 0 0,.string ⟨#[]⟩]:Array Value)[i]?≠some (.bool l)
 | 0,_,h | 1,_,h | 2,_,h | 3,_,h | 4,_,h | 5,_,h | 6,_,h | 7,_,h | 8,_,h | 9,_,h | 10,_,h | 11,_,h=>by simp at h
 | i+12,_,h=>by simp at h
theorem Wy.put5 {wr w1:World} {P c b qs} {t:TypeId} {k n s A B a a' d d'} (h:Wy wr P c qs) (hW:Whole wr b t #[.int .u8 k,.int .i64 n,.string s,.slice A a a',.slice B d d']) (hb:Below wr.heap.size wr w1) (u0 u1 u2 u3 u4:Value):Wy (put5 w1 b u0 u1 u2 u3 u4) P c qs:=
 h.two hW zlo (.inr rfl) hb (((((K2.refl b b w1).set (.inl rfl) u0).set (.inl rfl) u1).set (.inl rfl) u2).set (.inl rfl) u3 |>.set (.inl rfl) u4)
def Fit (h:GV) (c:GC):Prop:=
 (c.kq=1/\h.kq=2/\c.key =⟨#[]⟩/\c.i=0/\c.j=0/\c.s =⟨#[]⟩/\c.v=noG) \/
 (h.kq=3/\c.key =⟨#[]⟩/\c.j=0/\c.v=noG/\((c.kq=8/\(∃ a:Nat,c.i=a/\a<=h.str.size)/\c.n=0/\∃ s,c.s=strX++plainB s)\/(c.kq=9/\c.s =⟨#[]⟩/\∃ a b:Nat,c.i=a/\c.n=b/\1<=b/\a+b<=h.str.size))) \/
 (h.kq=4/\c.key =⟨#[]⟩/\c.n=0/\c.s =⟨#[]⟩/\∃ k i j:Nat,c.kq=k/\c.i=i/\c.j=j/\4<=k/\k<=7/\chkL h.il.length k i j=0/\(k=7\/j=0)/\(k=4\/k=6\/c.v=noG)) \/
 (h.kq=5/\c.i=0/\c.j=0/\c.n=0/\c.s =⟨#[]⟩/\valid c.key=true/\(c.kq=2\/(c.kq=3/\there c.key h.keys=true/\c.v=noG)))
structure OneG (g:GV) (c:GC) (m:Int):Prop where
 len:c.path.length<=5
 clean:∀ s∈c.path,Clean s
 v:VOk c.v
 key:c.key.size<=200001
 s:c.s.size<=41
 fits:m=0\/(m=1/\∃ h,g.get c.path=some h/\Fit h c)
 own:c.key.size<=40\/∃ h,g.get c.path=some h/\c.key∈h.keys
def OneIs (g:GV) (w:World) (e:Ending) (w':World):Prop:=Below w.heap.size w w'/\∃ (c:GC) (A AL AO:Option Addr) (cp cL cO:Nat) (m:Int),e=.returned (.tuple #[.agg #[.int .u8 c.kq,.slice A c.path.length cp,.string c.key,.int .i64 c.i,.int .i64 c.j,.int .i64 c.n,.int .u8 c.v.kq,.int .i64 c.v.num,.string c.v.str,.slice AL c.v.il.length cL,.slice AO c.v.vz.length cO,.string c.s],.int .i64 m])/\Cc w' c A AL AO cp cL cO/\OneG g c m
def OneNw (g:GV) (w:World) (e:Ending) (w':World):Prop:=Below w.heap.size w w'/\∃ (c:GC) (A AL AO:Option Addr) (cp cL cO:Nat) (m:Int),e=.returned (.tuple #[.agg #[.int .u8 c.kq,.slice A c.path.length cp,.string c.key,.int .i64 c.i,.int .i64 c.j,.int .i64 c.n,.int .u8 c.v.kq,.int .i64 c.v.num,.string c.v.str,.slice AL c.v.il.length cL,.slice AO c.v.vz.length cO,.string c.s],.int .i64 m])/\(Wy w' A cp c.path/\(∀ p,A=some p->w.heap.size<=p.block)/\LstV (fun k=>w.heap.size<=k) w' (.slice AL c.v.il.length cL) c.v.il/\ObjV (fun k=>w.heap.size<=k) w' (.slice AO c.v.vz.length cO) c.v.keys c.v.vz)/\OneG g c m
theorem OneNw.is {g:GV} {w w':World} {e:Ending} (h:OneNw g w e w'):OneIs g w e w':=by
 obtain ⟨hb,c,A,AL,AO,cp,cL,cO,m,he,⟨h1,_,h2,h3⟩,ho⟩:=h;exact ⟨hb,c,A,AL,AO,cp,cL,cO,m,he,⟨h1,h2.keep (From.refl _ _) (fun _ _ _=>trivial),h3.keep (From.refl _ _) (fun _ _ _=>trivial)⟩,ho⟩
structure OB (w:World) (cv ca:Array Value) (b:Nat) (h:GV) (BL BO:Option Addr) (eL eO:Nat) (W:World):Prop where
 v:Whole W w.heap.size 29 cv
 a:Whole W (w.heap.size+1) 42 ca
 r:Whole W (w.heap.size+1+1) 45 #[.int .u8 0,.slice none 0 0,.string ⟨#[]⟩,.int .i64 0,.int .i64 0,.int .i64 0,.int .u8 0,.int .i64 0,.string ⟨#[]⟩,.slice none 0 0,.slice none 0 0,.string ⟨#[]⟩]
 x:Whole W b 29 #[.int .u8 h.kq,.int .i64 h.num,.string h.str,.slice BL h.il.length eL,.slice BO h.vz.length eO]
 far:w.heap.size+1+1+1<=b
 lst:LstV (fun k=>w.heap.size+1+1+1<=k/\k≠b) W (.slice BL h.il.length eL) h.il
 obj:ObjV (fun k=>w.heap.size+1+1+1<=k/\k≠b) W (.slice BO h.vz.length eO) h.keys h.vz
 below:Below w.heap.size w W
theorem OB.step {w W W':World} {cv ca:Array Value} {b:Nat} {h:GV} {BL BO:Option Addr} {eL eO:Nat} (q:OB w cv ca b h BL BO eL eO W) (hb:Below W.heap.size W W'):OB w cv ca b h BL BO eL eO W':=
 ⟨q.v.below hb q.v.lt,q.a.below hb q.a.lt,q.r.below hb q.r.lt,q.x.below hb q.x.lt,q.far,q.lst.keep (From.of_below hb) (fun _ h _=>h),q.obj.keep (From.of_below hb) (fun _ h _=>h),q.below.trans (hb.mono q.below.size)⟩
theorem OB.vl {w W:World} {cv ca:Array Value} {b:Nat} {h:GV} {BL BO:Option Addr} {eL eO:Nat} (q:OB w cv ca b h BL BO eL eO W):Vl W h BL BO eL eO:=
 ⟨q.lst.keep (From.refl _ _) (fun _ _ _=>trivial),q.obj.keep (From.refl _ _) (fun _ _ _=>trivial)⟩
theorem OB.put {w W W':World} {cv ca:Array Value} {b:Nat} {h h':GV} {BL BO EL EO:Option Addr} {eL eO fL fO:Nat} (q:OB w cv ca b h BL BO eL eO W) (hb:Below W.heap.size W W') (hL:LstV (fun k=>W.heap.size<=k) W' (.slice EL h'.il.length fL) h'.il) (hO:ObjV (fun k=>W.heap.size<=k) W' (.slice EO h'.vz.length fO) h'.keys h'.vz):
  OB w cv ca b h' EL EO fL fO (put5 W' b (.int .u8 h'.kq) (.int .i64 h'.num) (.string h'.str) (.slice EL h'.il.length fL) (.slice EO h'.vz.length fO)):=by
 have q':=q.step hb;have hlt:=q.x.lt;have hfar:=q.far;have hsz:=q.v.lt;have hF:From (fun k=>W.heap.size<=k) W' (put5 W' b (.int .u8 h'.kq) (.int .i64 h'.num) (.string h'.str) (.slice EL h'.il.length fL) (.slice EO h'.vz.length fO)):=fun k hk _=>zac _ _ _ _ _ _ _ _ (by omega)
 exact ⟨q'.v.of_eq (zac _ _ _ _ _ _ _ _ (by omega)),q'.a.of_eq (zac _ _ _ _ _ _ _ _ (by omega)),q'.r.of_eq (zac _ _ _ _ _ _ _ _ (by omega)),zai q'.x _ _ _ _ _,hfar,hL.keep hF (fun k hk _=>⟨by omega,by omega⟩),hO.keep hF (fun k hk _=>⟨by omega,by omega⟩),zae q'.below (by omega) _ _ _ _ _⟩
end Go.Proofs.YtmmgdkpkcoopgaaGreatDoor
namespace Go.Proofs.YtmmgdkpkcoopgaaGreatDoor
open Go.Lib(hid)
open Go Go.RowKit
set_option linter.unusedVariables false
set_option linter.unusedSimpArgs false
theorem zbE (l:List GV) (i:Nat) (v:GV):GV.weights (insL l i v)<=GV.weights l+v.weight:=by
 unfold insL;have:=zbX l i i (Nat.le_refl _);rw [zeh];simp only [GV.weights];omega
theorem zbD (l:List GV) (i:Nat):GV.weights (remL l i)<=GV.weights l:=by
 unfold remL;have:=zbX l i (i+1) (by omega)
 rw [zeh];omega
theorem zdB (l:List GV) (k:Nat) (x:GV) (h:l[k]? = some x):x.weight<=GV.weights l+1:=by
 have h1:=zaO l k x noG h;have h2:noG.weight=1:=by unfold noG;simp only [GV.weight,GV.weights,List.map_nil,List.sum_nil];decide
 omega
theorem zhm (l:List GV) (k:Nat) (y:GV):GV.weights (l.set k y)<=GV.weights l+y.weight:=by
 by_cases h:k<l.length
 ·have:=zaO l k l[k] y (List.getElem?_eq_getElem h)
  omega
 ·rw [List.set_eq_of_length_le (by omega)]
  omega
theorem zg6 (l:List GV) (c:Cm GV):GV.weights (doL l c)<=2 * GV.weights l+c.v.weight+1:=by
 unfold doL;split
 ·have:=zbE l c.i c.v;omega
 ·split
  ·have:=zbD l c.i;omega
  ·split
   ·have:=zbE (remL l c.i) c.i c.v
    have:=zbD l c.i;omega
   ·split
    ·rename_i x hx
     have:=zbE (remL l c.i) c.j x;have:=zbD l c.i;have:=zdB l c.i x hx;omega
    ·omega
theorem zk5 (l:List ByteArray) (i:Nat) (v:ByteArray):((insL l i v).map (·.size)).sum<=(l.map (·.size)).sum+v.size:=by
 have:=zcO l i i (Nat.le_refl _);unfold ksum at this;unfold insL;rw [List.map_append,List.sum_append,List.map_cons,List.sum_cons];omega
theorem zlk (l:List ByteArray) (i:Nat):((remL l i).map (·.size)).sum<=(l.map (·.size)).sum:=by
 have:=zcO l i (i+1) (by omega)
 unfold ksum at this;unfold remL;rw [List.map_append,List.sum_append];omega
theorem zkm (s:ByteArray) (i:Nat) (t:ByteArray):(insS s i t).size<=s.size+t.size:=by
 unfold insS;have:=zcH s i;rw [ByteArray.size_append,ByteArray.size_append,ByteArray.size_extract,ByteArray.size_extract];omega
theorem zje (s:ByteArray) (i n:Nat):(delS s i n).size<=2 * s.size:=by
 unfold delS;rw [ByteArray.size_append,ByteArray.size_extract,ByteArray.size_extract];omega
theorem zaP (h:GV):h.weight=1+h.str.size+GV.weights h.il+(h.keys.map (·.size)).sum+GV.weights h.vz:=by
 cases h with | mk k n s l ks ov=>simp only [GV.weight,GV.str,GV.il,GV.keys,GV.vz]
theorem za8 (h:GV) (c:GC):(doH h c).weight<=2 * h.weight+c.v.weight+c.key.size+c.s.size+10:=by
 have a0:=zaP h;have a1:=zbE h.vz (place c.key h.keys) c.v;have a2:=zbD h.vz (place c.key h.keys);have a3:=zhm h.vz (place c.key h.keys) c.v;have a4:=zk5 h.keys (place c.key h.keys) c.key;have a5:=zlk h.keys (place c.key h.keys);have a6:=zkm h.str c.i.toNat c.s;have a7:=zje h.str c.i.toNat c.n.toNat;have a8:=zg6 h.il ⟨c.kq.toNat,c.i.toNat,c.j.toNat,c.v⟩;simp only at a8;unfold doH;by_cases k1:c.kq=1
 ·rw [if_pos k1];simp only [GV.weight];omega
 rw [if_neg k1];by_cases k2:c.kq=2
 ·rw [if_pos k2]
  by_cases ht:there c.key h.keys=true
  ·rw [if_pos ht];simp only [GV.weight];omega
  ·rw [if_neg ht];simp only [GV.weight];omega
 rw [if_neg k2];by_cases k3:c.kq=3
 ·rw [if_pos k3];simp only [GV.weight];omega
 rw [if_neg k3];by_cases k8:c.kq=8
 ·rw [if_pos k8];simp only [GV.weight];omega
 rw [if_neg k8];by_cases k9:c.kq=9
 ·rw [if_pos k9];simp only [GV.weight];omega
 rw [if_neg k9];simp only [GV.weight];omega
structure Small (c:GC):Prop where
 v:c.v.weight<=2200000
 k:c.key.size<=2200000
 s:c.s.size<=2200000
 pk:∀ s∈c.path,s.key.size<=9223372036854775807
theorem works3 {k:Int} (h:worksOn k=3):k=8\/k=9:=by
 unfold worksOn at h;split at h
 ·omega
 ·split at h
  ·omega
  ·split at h
   ·assumption
   ·omega
end Go.Proofs.YtmmgdkpkcoopgaaGreatDoor
namespace Go.Proofs.YtmmgdkpkcoopgaaGreatDoor
open Go.Lib(hid)
open Go Go.RowKit Go.Shelf
set_option linter.unusedVariables false
set_option linter.unusedSimpArgs false
structure KBx (w W:World) (cx cc:Array Value):Prop where
 x:Whole W w.heap.size 29 cx
 c:Whole W (w.heap.size+1) 45 cc
 below:Below w.heap.size w W
theorem KBx.new (w:World) (cx cc:Array Value):KBx w ((w.alloc (.cells cx 29)).alloc (.cells cc 45)) cx cc:=by
 have h1:=Whole.new (w.alloc (.cells cx 29)) 45 cc;rw [World.size_alloc] at h1;exact ⟨(Whole.new w _ _).alloc _,h1,((Below.refl _ w).alloc (Nat.le_refl _) _).alloc (by simp) _⟩
theorem KBx.step {w W W':World} {cx cc:Array Value} (h:KBx w W cx cc) (hb:Below W.heap.size W W'):KBx w W' cx cc:=
 ⟨h.x.below hb h.x.lt,h.c.below hb h.c.lt,h.below.trans (hb.mono h.below.size)⟩
theorem za3 {h:GV} {c:GC} (e:h.kq≠worksOn c.kq):chkH h c=31:=by simp [chkH,e]
theorem zjc (h HL HO dL dO) (c:GC) (A AL AO:Option Addr) (cp cL cO:Nat) (w) (hv:Vl w h HL HO dL dO) (hk:1<=c.kq/\c.kq<=9) (hs:h.str.size<=1000000000) (hT:Tabs w):
  Calls Tryz.prog 43 #[.agg #[.int .u8 h.kq,.int .i64 h.num,.string h.str,.slice HL h.il.length dL,.slice HO h.vz.length dO],.agg #[.int .u8 c.kq,.slice A c.path.length cp,.string c.key,.int .i64 c.i,.int .i64 c.j,.int .i64 c.n,.int .u8 c.v.kq,.int .i64 c.v.num,.string c.v.str,.slice AL c.v.il.length cL,.slice AO c.v.vz.length cO,.string c.s]] w fun e w'=>e=.returned (.int .i64 (chkH h c))/\Below w.heap.size w w':=by
 have H0:=hid (KBx.new w #[.int .u8 h.kq,.int .i64 h.num,.string h.str,.slice HL h.il.length dL,.slice HO h.vz.length dO] #[.int .u8 c.kq,.slice A c.path.length cp,.string c.key,.int .i64 c.i,.int .i64 c.j,.int .i64 c.n,.int .u8 c.v.kq,.int .i64 c.v.num,.string c.v.str,.slice AL c.v.il.length cL,.slice AO c.v.vz.length cO,.string c.s]);have HF:=hid (fun W (hb:Below w.heap.size w W)=>zaT (fun _=>True) _ h c.key W (hv.later hb).val)
 unfold FieldPost at HF;obtain ⟨b0,b1,b2,b3,b4,_⟩:=H0.out.x.five;obtain ⟨c0,c1,c2,c3,c4,c5,c6,c7,c8,c9,c10,c11,_⟩:=H0.out.c.tw;rcases (show c.kq=1\/c.kq=2\/c.kq=3\/c.kq=4\/c.kq=5\/c.kq=6\/c.kq=7\/c.kq=8\/c.kq=9 by omega) with hk | hk | hk | hk | hk | hk | hk | hk | hk
 ·have k1:(c.kq == 1)=true:=by rw [hk];rfl
  have k2:(c.kq == 2)=false:=by rw [hk];rfl
  have k3:(c.kq == 3)=false:=by rw [hk];rfl
  have k8:(c.kq == 8)=false:=by rw [hk];rfl
  have k9:(c.kq == 9)=false:=by rw [hk];rfl
  by_cases hx:h.kq=2
  ·have x1:(h.kq != 2)=false:=by rw [hx];rfl
   rw [show chkH h c=0 by simp [chkH,hk,hx,worksOn]]
   clear hk hx hv hT HF;go_enter Tryz.func43,Tryz.ntmps43
   go_wp2
   go_ret
   exact ⟨rfl,H0.out.below⟩
  ·have x1:(h.kq != 2)=true:=by simpa using hx
   rw [za3 (c:=c) (h:=h) (by rw [hk];exact hx)]
   clear hk hx hv hT;go_enter Tryz.func43,Tryz.ntmps43
   go_wp2
   go_ret
   exact ⟨rfl,H0.out.below⟩
 ·have k1:(c.kq == 1)=false:=by rw [hk];rfl
  have k2:(c.kq == 2)=true:=by rw [hk];rfl
  have k3:(c.kq == 3)=false:=by rw [hk];rfl
  have k8:(c.kq == 8)=false:=by rw [hk];rfl
  have k9:(c.kq == 9)=false:=by rw [hk];rfl
  by_cases hx:h.kq=5
  ·have x1:(h.kq != 5)=false:=by rw [hx];rfl
   rw [show chkH h c=0 by simp [chkH,hk,hx,worksOn]]
   clear hk hx hv hT;generalize there c.key h.keys=t at *;go_enter Tryz.func43,Tryz.ntmps43
   go_wp2_with (go_at_call 41;refine (HF.out _ H0.out.below).mono ?_;rintro e w1 ⟨rfl,hb⟩;have H1:=hid (H0.out.step hb);clear hb b0 b1 b2 b3 b4 c0 c1 c2 c3 c4 c5 c6 c7 c8 c9 c10 c11;obtain ⟨b0,b1,b2,b3,b4,_⟩:=H1.out.x.five;obtain ⟨c0,c1,c2,c3,c4,c5,c6,c7,c8,c9,c10,c11,_⟩:=H1.out.c.tw)
   go_ret
   exact ⟨rfl,H1.out.below⟩
  ·have x1:(h.kq != 5)=true:=by simpa using hx
   rw [za3 (c:=c) (h:=h) (by rw [hk];exact hx)]
   clear hk hx hv hT;go_enter Tryz.func43,Tryz.ntmps43
   go_wp2_with (go_at_call 41;refine (HF.out _ H0.out.below).mono ?_;rintro e w1 ⟨rfl,hb⟩;have H1:=hid (H0.out.step hb);clear hb b0 b1 b2 b3 b4 c0 c1 c2 c3 c4 c5 c6 c7 c8 c9 c10 c11;obtain ⟨b0,b1,b2,b3,b4,_⟩:=H1.out.x.five;obtain ⟨c0,c1,c2,c3,c4,c5,c6,c7,c8,c9,c10,c11,_⟩:=H1.out.c.tw)
   go_ret
   exact ⟨rfl,H1.out.below⟩
 ·have k1:(c.kq == 1)=false:=by rw [hk];rfl
  have k2:(c.kq == 2)=false:=by rw [hk];rfl
  have k3:(c.kq == 3)=true:=by rw [hk];rfl
  have k8:(c.kq == 8)=false:=by rw [hk];rfl
  have k9:(c.kq == 9)=false:=by rw [hk];rfl
  by_cases hx:h.kq=5
  ·have x1:(h.kq != 5)=false:=by rw [hx];rfl
   rw [show chkH h c=if there c.key h.keys=false then 33 else 0 by simp [chkH,hk,hx,worksOn]]
   clear hk hx hv hT;generalize there c.key h.keys=t at *;cases t
   ·go_enter Tryz.func43,Tryz.ntmps43
    go_wp2_with (go_at_call 41;refine (HF.out _ H0.out.below).mono ?_;rintro e w1 ⟨rfl,hb⟩;have H1:=hid (H0.out.step hb);clear hb b0 b1 b2 b3 b4 c0 c1 c2 c3 c4 c5 c6 c7 c8 c9 c10 c11;obtain ⟨b0,b1,b2,b3,b4,_⟩:=H1.out.x.five;obtain ⟨c0,c1,c2,c3,c4,c5,c6,c7,c8,c9,c10,c11,_⟩:=H1.out.c.tw)
    go_ret
    exact ⟨rfl,H1.out.below⟩
   ·go_enter Tryz.func43,Tryz.ntmps43
    go_wp2_with (go_at_call 41;refine (HF.out _ H0.out.below).mono ?_;rintro e w1 ⟨rfl,hb⟩;have H1:=hid (H0.out.step hb);clear hb b0 b1 b2 b3 b4 c0 c1 c2 c3 c4 c5 c6 c7 c8 c9 c10 c11;obtain ⟨b0,b1,b2,b3,b4,_⟩:=H1.out.x.five;obtain ⟨c0,c1,c2,c3,c4,c5,c6,c7,c8,c9,c10,c11,_⟩:=H1.out.c.tw)
    go_ret
    exact ⟨rfl,H1.out.below⟩
  ·have x1:(h.kq != 5)=true:=by simpa using hx
   rw [za3 (c:=c) (h:=h) (by rw [hk];exact hx)]
   clear hk hx hv hT;go_enter Tryz.func43,Tryz.ntmps43
   go_wp2_with (go_at_call 41;refine (HF.out _ H0.out.below).mono ?_;rintro e w1 ⟨rfl,hb⟩;have H1:=hid (H0.out.step hb);clear hb b0 b1 b2 b3 b4 c0 c1 c2 c3 c4 c5 c6 c7 c8 c9 c10 c11;obtain ⟨b0,b1,b2,b3,b4,_⟩:=H1.out.x.five;obtain ⟨c0,c1,c2,c3,c4,c5,c6,c7,c8,c9,c10,c11,_⟩:=H1.out.c.tw)
   go_ret
   exact ⟨rfl,H1.out.below⟩
 ·have k1:(c.kq == 1)=false:=by rw [hk];rfl
  have k2:(c.kq == 2)=false:=by rw [hk];rfl
  have k3:(c.kq == 3)=false:=by rw [hk];rfl
  have k8:(c.kq == 8)=false:=by rw [hk];rfl
  have k9:(c.kq == 9)=false:=by rw [hk];rfl
  by_cases hx:h.kq=4
  ·have x1:(h.kq != 4)=false:=by rw [hx];rfl
   rw [show chkH h c=chk h.il.length 4 c.i c.j by rw [zdf];simp [chkH,hk,hx,worksOn]]
   have HK:=hid (fun W=>za9 h.il.length 4 c.i c.j c.v A AL AO c.path.length cp cL cO c.key c.s c.n W)
   rw [show ((4:Nat):Int)=c.kq from hk.symm] at HK;clear hk hx hv hT HF;generalize chk h.il.length 4 c.i c.j=r at *;go_enter Tryz.func43,Tryz.ntmps43
   go_wp2_with (go_at_call 46;refine (HK.out _).mono ?_;rintro e w1 ⟨rfl,hb⟩;have H1:=hid (H0.out.step hb);clear hb)
   go_ret
   exact ⟨rfl,H1.out.below⟩
  ·have x1:(h.kq != 4)=true:=by simpa using hx
   rw [za3 (c:=c) (h:=h) (by rw [hk];exact hx)]
   clear hk hx hv hT;go_enter Tryz.func43,Tryz.ntmps43
   go_wp2
   go_ret
   exact ⟨rfl,H0.out.below⟩
 ·have k1:(c.kq == 1)=false:=by rw [hk];rfl
  have k2:(c.kq == 2)=false:=by rw [hk];rfl
  have k3:(c.kq == 3)=false:=by rw [hk];rfl
  have k8:(c.kq == 8)=false:=by rw [hk];rfl
  have k9:(c.kq == 9)=false:=by rw [hk];rfl
  by_cases hx:h.kq=4
  ·have x1:(h.kq != 4)=false:=by rw [hx];rfl
   rw [show chkH h c=chk h.il.length 5 c.i c.j by rw [zdf];simp [chkH,hk,hx,worksOn]]
   have HK:=hid (fun W=>za9 h.il.length 5 c.i c.j c.v A AL AO c.path.length cp cL cO c.key c.s c.n W)
   rw [show ((5:Nat):Int)=c.kq from hk.symm] at HK;clear hk hx hv hT HF;generalize chk h.il.length 5 c.i c.j=r at *;go_enter Tryz.func43,Tryz.ntmps43
   go_wp2_with (go_at_call 46;refine (HK.out _).mono ?_;rintro e w1 ⟨rfl,hb⟩;have H1:=hid (H0.out.step hb);clear hb)
   go_ret
   exact ⟨rfl,H1.out.below⟩
  ·have x1:(h.kq != 4)=true:=by simpa using hx
   rw [za3 (c:=c) (h:=h) (by rw [hk];exact hx)]
   clear hk hx hv hT;go_enter Tryz.func43,Tryz.ntmps43
   go_wp2
   go_ret
   exact ⟨rfl,H0.out.below⟩
 ·have k1:(c.kq == 1)=false:=by rw [hk];rfl
  have k2:(c.kq == 2)=false:=by rw [hk];rfl
  have k3:(c.kq == 3)=false:=by rw [hk];rfl
  have k8:(c.kq == 8)=false:=by rw [hk];rfl
  have k9:(c.kq == 9)=false:=by rw [hk];rfl
  by_cases hx:h.kq=4
  ·have x1:(h.kq != 4)=false:=by rw [hx];rfl
   rw [show chkH h c=chk h.il.length 6 c.i c.j by rw [zdf];simp [chkH,hk,hx,worksOn]]
   have HK:=hid (fun W=>za9 h.il.length 6 c.i c.j c.v A AL AO c.path.length cp cL cO c.key c.s c.n W)
   rw [show ((6:Nat):Int)=c.kq from hk.symm] at HK;clear hk hx hv hT HF;generalize chk h.il.length 6 c.i c.j=r at *;go_enter Tryz.func43,Tryz.ntmps43
   go_wp2_with (go_at_call 46;refine (HK.out _).mono ?_;rintro e w1 ⟨rfl,hb⟩;have H1:=hid (H0.out.step hb);clear hb)
   go_ret
   exact ⟨rfl,H1.out.below⟩
  ·have x1:(h.kq != 4)=true:=by simpa using hx
   rw [za3 (c:=c) (h:=h) (by rw [hk];exact hx)]
   clear hk hx hv hT;go_enter Tryz.func43,Tryz.ntmps43
   go_wp2
   go_ret
   exact ⟨rfl,H0.out.below⟩
 ·have k1:(c.kq == 1)=false:=by rw [hk];rfl
  have k2:(c.kq == 2)=false:=by rw [hk];rfl
  have k3:(c.kq == 3)=false:=by rw [hk];rfl
  have k8:(c.kq == 8)=false:=by rw [hk];rfl
  have k9:(c.kq == 9)=false:=by rw [hk];rfl
  by_cases hx:h.kq=4
  ·have x1:(h.kq != 4)=false:=by rw [hx];rfl
   rw [show chkH h c=chk h.il.length 7 c.i c.j by rw [zdf];simp [chkH,hk,hx,worksOn]]
   have HK:=hid (fun W=>za9 h.il.length 7 c.i c.j c.v A AL AO c.path.length cp cL cO c.key c.s c.n W)
   rw [show ((7:Nat):Int)=c.kq from hk.symm] at HK;clear hk hx hv hT HF;generalize chk h.il.length 7 c.i c.j=r at *;go_enter Tryz.func43,Tryz.ntmps43
   go_wp2_with (go_at_call 46;refine (HK.out _).mono ?_;rintro e w1 ⟨rfl,hb⟩;have H1:=hid (H0.out.step hb);clear hb)
   go_ret
   exact ⟨rfl,H1.out.below⟩
  ·have x1:(h.kq != 4)=true:=by simpa using hx
   rw [za3 (c:=c) (h:=h) (by rw [hk];exact hx)]
   clear hk hx hv hT;go_enter Tryz.func43,Tryz.ntmps43
   go_wp2
   go_ret
   exact ⟨rfl,H0.out.below⟩
 ·have k1:(c.kq == 1)=false:=by rw [hk];rfl
  have k2:(c.kq == 2)=false:=by rw [hk];rfl
  have k3:(c.kq == 3)=false:=by rw [hk];rfl
  have k8:(c.kq == 8)=true:=by rw [hk];rfl
  have k9:(c.kq == 9)=false:=by rw [hk];rfl
  by_cases hx:h.kq=3
  ·have x1:(h.kq != 3)=false:=by rw [hx];rfl
   rw [show chkH h c=chkT (nChars h.str) c.kq.toNat c.i c.n by simp [chkH,hk,hx,worksOn]]
   have HK:=hid (fun W (hb:Below w.heap.size w W)=>zct h.str c A AL AO cp cL cO W hs (hT.below hb (Nat.le_refl _)) (by omega))
   clear hk hx hv hT HF;generalize chkT (nChars h.str) c.kq.toNat c.i c.n=r at *;go_enter Tryz.func43,Tryz.ntmps43
   go_wp2_with (go_at_call 44;refine (HK.out _ H0.out.below).mono ?_;rintro e w1 ⟨rfl,hb⟩;have H1:=hid (H0.out.step hb);clear hb)
   go_ret
   exact ⟨rfl,H1.out.below⟩
  ·have x1:(h.kq != 3)=true:=by simpa using hx
   rw [za3 (c:=c) (h:=h) (by rw [hk];exact hx)]
   clear hk hx hv hT;go_enter Tryz.func43,Tryz.ntmps43
   go_wp2
   go_ret
   exact ⟨rfl,H0.out.below⟩
 ·have k1:(c.kq == 1)=false:=by rw [hk];rfl
  have k2:(c.kq == 2)=false:=by rw [hk];rfl
  have k3:(c.kq == 3)=false:=by rw [hk];rfl
  have k8:(c.kq == 8)=false:=by rw [hk];rfl
  have k9:(c.kq == 9)=true:=by rw [hk];rfl
  by_cases hx:h.kq=3
  ·have x1:(h.kq != 3)=false:=by rw [hx];rfl
   rw [show chkH h c=chkT (nChars h.str) c.kq.toNat c.i c.n by simp [chkH,hk,hx,worksOn]]
   have HK:=hid (fun W (hb:Below w.heap.size w W)=>zct h.str c A AL AO cp cL cO W hs (hT.below hb (Nat.le_refl _)) (by omega))
   clear hk hx hv hT HF;generalize chkT (nChars h.str) c.kq.toNat c.i c.n=r at *;go_enter Tryz.func43,Tryz.ntmps43
   go_wp2_with (go_at_call 44;refine (HK.out _ H0.out.below).mono ?_;rintro e w1 ⟨rfl,hb⟩;have H1:=hid (H0.out.step hb);clear hb)
   go_ret
   exact ⟨rfl,H1.out.below⟩
  ·have x1:(h.kq != 3)=true:=by simpa using hx
   rw [za3 (c:=c) (h:=h) (by rw [hk];exact hx)]
   clear hk hx hv hT;go_enter Tryz.func43,Tryz.ntmps43
   go_wp2
   go_ret
   exact ⟨rfl,H0.out.below⟩
theorem zfc (g GL GO eL eO c A AL AO cp cL cO w) (hg:Vl w g GL GO eL eO) (hc:Cc w c A AL AO cp cL cO) (hgw:g.weight<=100000000) (hs:Small c) (hpos:c.v.Pos) (hT:Tabs w):
  Calls Tryz.prog 26 #[.agg #[.int .u8 g.kq,.int .i64 g.num,.string g.str,.slice GL g.il.length eL,.slice GO g.vz.length eO],.agg #[.int .u8 c.kq,.slice A c.path.length cp,.string c.key,.int .i64 c.i,.int .i64 c.j,.int .i64 c.n,.int .u8 c.v.kq,.int .i64 c.v.num,.string c.v.str,.slice AL c.v.il.length cL,.slice AO c.v.vz.length cO,.string c.s]] w fun e w'=>∃ n:Int,e=.returned (.int .i64 n)/\ChkIs g c n/\Below w.heap.size w w':=by
 have H0:=hid (KBx.new w #[.int .u8 g.kq,.int .i64 g.num,.string g.str,.slice GL g.il.length eL,.slice GO g.vz.length eO] #[.int .u8 c.kq,.slice A c.path.length cp,.string c.key,.int .i64 c.i,.int .i64 c.j,.int .i64 c.n,.int .u8 c.v.kq,.int .i64 c.v.num,.string c.v.str,.slice AL c.v.il.length cL,.slice AO c.v.vz.length cO,.string c.s]);have hv:=hs.v;have hk:=hs.k;have hss:=hs.s;have HSO:=hid (fun W (hb:Below w.heap.size w W)=>ziT c A AL AO cp cL cO W (hc.later hb) (by omega) hpos (by omega) (by omega) hs.pk (hT.below hb (Nat.le_refl _)))
 unfold BoolPost at HSO;have HGE:=hid (fun W (hb:Below w.heap.size w W)=>(zgU (fun _=>True) _ g W.heap.size A cp c.path W (hg.later hb).val (hc.path.later hb).steps (Nat.le_refl _) hc.path.le hc.path.cap (Nat.le_trans (zad _) (by omega))))
 unfold RGet at HGE;have HKI:=hid (fun (h:GV) (HL HO:Option Addr) (dL dO:Nat) (hgh:g.get c.path=some h) (hS:c.Sound) W (hb:Below w.heap.size w W) (hvv:Vl W h HL HO dL dO)=>zjc h HL HO dL dO c A AL AO cp cL cO W hvv hS.2.2.2.2.1.1 (by have h1:=zas c.path g h hgh;have h2:=zaP h;omega) (hT.below hb (Nat.le_refl _)))
 clear hg hc hgw hs hpos hT hv hk hss;obtain ⟨b0,b1,b2,b3,b4,_⟩:=H0.out.x.five;obtain ⟨c0,c1,c2,c3,c4,c5,c6,c7,c8,c9,c10,c11,_⟩:=H0.out.c.tw;by_cases hS:c.Sound
 ·have HS:=hid hS
  clear hS;cases hgp:g.get c.path with
  | none=>
   have HG:=hid hgp;clear hgp;go_enter Tryz.func26,Tryz.ntmps26
   go_wp2_with (first
    | (go_at_call 42;refine (HSO.out _ H0.out.below).mono ?_;rintro e w1 ⟨bb,rfl,hbb,hb⟩;obtain rfl:=hbb.2 HS.out;have H1:=hid (H0.out.step hb);clear hb hbb b0 b1 b2 b3 b4 c0 c1 c2 c3 c4 c5 c6 c7 c8 c9 c10 c11;obtain ⟨b0,b1,b2,b3,b4,_⟩:=H1.out.x.five;obtain ⟨c0,c1,c2,c3,c4,c5,c6,c7,c8,c9,c10,c11,_⟩:=H1.out.c.tw)
    | (go_at_call 22;refine (((HGE.out _ H1.out.below).mono (R':=fun e w'=>e=.returned (.tuple #[.agg #[.int .u8 0,.int .i64 0,.string ⟨#[]⟩,.slice none 0 0,.slice none 0 0],.int .i64 30])/\Below w1.heap.size w1 w') fun e w' ⟨hb,hq⟩=>by
      rcases hq with ⟨_,he⟩ | ⟨h',v',h1,_⟩
      ·exact ⟨he,hb⟩
      ·rw [HG.out] at h1;cases h1)).mono ?_;rintro e w2 ⟨rfl,hb⟩;have H2:=hid (H1.out.step hb);clear hb))
   go_ret
   exact ⟨30,rfl,.inr ⟨HS.out,.inl ⟨HG.out,rfl⟩⟩,H2.out.below.alloc H2.out.below.size _⟩
  | some h=>
   have HG:=hid hgp;clear hgp;go_enter Tryz.func26,Tryz.ntmps26
   go_wp2_with (first
    | (go_at_call 42;refine (HSO.out _ H0.out.below).mono ?_;rintro e w1 ⟨bb,rfl,hbb,hb⟩;obtain rfl:=hbb.2 HS.out;have H1:=hid (H0.out.step hb);clear hb hbb b0 b1 b2 b3 b4 c0 c1 c2 c3 c4 c5 c6 c7 c8 c9 c10 c11;obtain ⟨b0,b1,b2,b3,b4,_⟩:=H1.out.x.five;obtain ⟨c0,c1,c2,c3,c4,c5,c6,c7,c8,c9,c10,c11,_⟩:=H1.out.c.tw)
    | (go_at_call 22;refine (((HGE.out _ H1.out.below).mono (R':=fun e w'=>∃ HL HO dL dO,e=.returned (.tuple #[.agg #[.int .u8 h.kq,.int .i64 h.num,.string h.str,.slice HL h.il.length dL,.slice HO h.vz.length dO],.int .i64 0])/\Vl w' h HL HO dL dO/\Below w1.heap.size w1 w') fun e w' ⟨hb,hq⟩=>by
      rcases hq with ⟨h1,_⟩ | ⟨h',v',h1,he,hv⟩
      ·rw [HG.out] at h1;cases h1
      ·rw [HG.out] at h1;cases h1
       obtain ⟨HL,HO,dL,dO,rfl,hvl⟩:=zm6 hv;exact ⟨HL,HO,dL,dO,he,hvl,hb⟩)).mono ?_;rintro e w2 ⟨HL,HO,dL,dO,rfl,hvl,hb⟩;have H2:=hid ((H1.out.step hb).step (zaa w2 (.cells #[.int .u8 h.kq,.int .i64 h.num,.string h.str,.slice HL h.il.length dL,.slice HO h.vz.length dO] 29)));have HX:=hid (Bx.new hvl);clear hb hvl b0 b1 b2 b3 b4 c0 c1 c2 c3 c4 c5 c6 c7 c8 c9 c10 c11;obtain ⟨b0,b1,b2,b3,b4⟩:=HX.out.cells;obtain ⟨c0,c1,c2,c3,c4,c5,c6,c7,c8,c9,c10,c11,_⟩:=H2.out.c.tw)
    | (go_at_call 43;refine (HKI.out h HL HO dL dO HG.out HS.out _ H2.out.below HX.out.vl).mono ?_;rintro e w3 ⟨rfl,hb⟩;have H3:=hid (H2.out.step hb);clear hb))
   go_ret
   exact ⟨_,rfl,.inr ⟨HS.out,.inr ⟨h,HG.out,rfl⟩⟩,H3.out.below⟩
 ·have HS:=hid hS
  clear hS;go_enter Tryz.func26,Tryz.ntmps26
  go_wp2_with (go_at_call 42;refine (HSO.out _ H0.out.below).mono ?_;rintro e w1 ⟨bb,rfl,hbb,hb⟩;have hbf:bb=false:=(by cases bb;rfl;exact absurd (hbb.1 rfl) HS.out);subst hbf;have H1:=hid (H0.out.step hb);clear hb hbb)
  go_ret
  exact ⟨60,rfl,.inl ⟨HS.out,rfl⟩,H1.out.below⟩
end Go.Proofs.YtmmgdkpkcoopgaaGreatDoor
namespace Go.Proofs.YtmmgdkpkcoopgaaGreatDoor
open Go.Lib(hid)
open Go Go.RowKit Go.Lib
set_option linter.unusedVariables false
set_option linter.unusedSimpArgs false
theorem zei:∀ cs:List (List UInt8),(∀ u∈cs,IsChar u)->validD cs.flatten=true
 | [],_=>rfl
 | u :: r,h=>by
  have hu:=h u (List.mem_cons_self ..);have hp:=hu.pos;have hne:u++r.flatten≠[]:=by
   intro e;have:=congrArg List.length e;simp only [List.length_append,List.length_nil] at this;omega
  rw [List.flatten_cons,validD_step _ hne,zdI _ hu,if_neg (fun e=>hu.1 (Prod.ext e.1 e.2)),hu.2,List.drop_left]
  exact zei r (fun v hv=>h v (List.mem_cons_of_mem _ hv))
theorem Reads.valid {s:ByteArray} {cs:List (List UInt8)} (h:Reads s cs):Go.Proofs.YtmmgdkpkcoopgaaGreatDoor.valid s=true:=by
 unfold Go.Proofs.YtmmgdkpkcoopgaaGreatDoor.valid;rw [h.1];exact zei cs h.2
theorem zjj {s t:ByteArray} (i:Nat) (hs:valid s=true) (ht:valid t=true):valid (insS s i t)=true:=by
 obtain ⟨cs,h1⟩:=zfs hs;obtain ⟨ts,h2⟩:=zfs ht;exact (h1.ins h2 i).valid
theorem zi0 {s:ByteArray} (i n:Nat) (hs:valid s=true):valid (delS s i n)=true:=by
 obtain ⟨cs,h1⟩:=zfs hs;exact (h1.del i n).valid
end Go.Proofs.YtmmgdkpkcoopgaaGreatDoor
namespace Go.Proofs.YtmmgdkpkcoopgaaGreatDoor
open Go.Lib(hid)
open Go Go.RowKit
set_option linter.unusedVariables false
set_option linter.unusedSimpArgs false
theorem zeu:∀ (a b c:List UInt8),Op.bytesLess a b=true->Op.bytesLess b c=true->Op.bytesLess a c=true
 | _,[],_,h,_=>by simp [Op.bytesLess] at h
 | _,_ :: _,[],_,h=>by simp [Op.bytesLess] at h
 | [],_ :: _,_ :: _,_,_=>by simp [Op.bytesLess]
 | x :: a,y :: b,z :: c,h1,h2=>by
  simp only [Op.bytesLess,Bool.or_eq_true,Bool.and_eq_true,decide_eq_true_eq,beq_iff_eq] at h1 h2 ⊢;rcases h1 with h1 | ⟨rfl,h1⟩
  ·rcases h2 with h2 | ⟨rfl,h2⟩
   ·exact .inl (UInt8.lt_trans h1 h2)
   ·exact .inl h1
  ·rcases h2 with h2 | ⟨rfl,h2⟩
   ·exact .inl h2
   ·exact .inr ⟨rfl,zeu a b c h1 h2⟩
theorem ziD {a b c:ByteArray} (h1:less' a b=true) (h2:less' b c=true):less' a c=true:=zeu _ _ _ h1 h2
theorem zlQ {ks:List ByteArray} {i:Nat} (h:KeysOk ks) (hi:i<ks.length):KeysOk (remL ks i):=by
 intro a k ha hk;have hl:=zhP hi;rw [zdi hi] at hk;by_cases h1:a<i
 ·rw [if_pos h1] at hk
  refine ⟨(h a k (by omega) hk).1,fun j p e hj=>?_⟩
  rw [zdi hi,if_pos (by omega)] at hj
  exact (h a k (by omega) hk).2 j p e hj
 ·rw [if_neg h1] at hk
  have hk2:=(List.getElem?_eq_some_iff.1 hk).1;refine ⟨(h (a+1) k hk2 hk).1,fun j p e hj=>?_⟩
  rw [zdi hi] at hj;by_cases h2:j<i
  ·rw [if_pos h2] at hj
   have hm : ks[a]? = some (ks[a]'(by omega)) := List.getElem?_eq_getElem _
   exact ziD ((h a _ (by omega) hm).2 j p e hj) ((h (a+1) k hk2 hk).2 a _ rfl hm)
  ·rw [if_neg h2] at hj
   exact (h (a+1) k hk2 hk).2 (j+1) p (by omega) hj
theorem zlR {key:ByteArray} {ks:List ByteArray} (h:there key ks=false):insK key ks=insL ks (place key ks) key:=by
 unfold insK insL insN;rw [h]
 rfl
theorem zdS {α:Type} {l:List α} {i:Nat} {v x:α} (h:x∈insL l i v):x=v\/x∈l:=by
 unfold insL at h;rcases List.mem_append.1 h with h | h
 ·exact .inr (List.mem_of_mem_take h)
 ·rcases List.mem_cons.1 h with h | h
  ·exact .inl h
  ·exact .inr (List.mem_of_mem_drop h)
theorem zdY {α:Type} {l:List α} {i:Nat} {x:α} (h:x∈remL l i):x∈l:=by
 unfold remL at h;rcases List.mem_append.1 h with h | h
 ·exact List.mem_of_mem_take h
 ·exact List.mem_of_mem_drop h
theorem zmx {l:List GV} {c:Cm GV} {x:GV} (h:x∈doL l c):x=c.v\/x∈l:=by
 unfold doL at h;split at h
 ·exact zdS h
 ·split at h
  ·exact .inr (zdY h)
  ·split at h
   ·rcases zdS h with h | h
    ·exact .inl h
    ·exact .inr (zdY h)
   ·split at h
    ·rename_i y hy
     rcases zdS h with h | h
     ·subst h;exact .inr (List.mem_of_getElem? hy)
     ·exact .inr (zdY h)
    ·exact .inr h
theorem zaS {h:GV} {c:GC} (e:chkH h c=0):h.kq=worksOn c.kq:=by
 unfold chkH at e;by_cases hk:h.kq=worksOn c.kq
 ·exact hk
 ·rw [if_pos hk] at e
  cases e
theorem zda {h:GV} {c:GC} (e:chkH h c=0) (h3:c.kq=3):there c.key h.keys=true:=by
 have hw:worksOn c.kq=5:=by rw [h3];decide
 have hk:h.kq=5:=(zaS e).trans hw;unfold chkH at e;rw [if_neg (fun hn=>hn (hk.trans hw.symm)),if_neg (by omega),if_neg (by omega)] at e
 by_cases ht:there c.key h.keys=true
 ·exact ht
 ·rw [if_pos ⟨h3,by simpa using ht⟩] at e
  cases e
theorem zhl {h:GV} {c:GC} (h2:c.kq=2) (ht:there c.key h.keys=true):doH h c=.mk h.kq h.num h.str h.il h.keys (h.vz.set (place c.key h.keys) c.v):=by
 unfold doH;rw [if_neg (by omega),if_pos h2,if_pos ht]
theorem ziZ {h:GV} {c:GC} (h2:c.kq=2) (ht:¬ there c.key h.keys=true):doH h c=.mk h.kq h.num h.str h.il (insL h.keys (place c.key h.keys) c.key) (insL h.vz (place c.key h.keys) c.v):=by
 unfold doH;rw [if_neg (by omega),if_pos h2,if_neg ht]
theorem zec {h:GV} {c:GC} (hh:h.Sound) (hc:c.Sound) (e:chkH h c=0):(doH h c).Sound:=by
 have hk:=zaS e;have hdel:=zda e;obtain ⟨_,_,hkey,_,⟨⟨hk1,hk9⟩,_,hs8,_⟩,hv⟩:=hc;have hvs:=hv.1;cases h with
 | mk k n z l ks ov=>
  simp only [GV.Sound] at hh;obtain ⟨⟨p1,p2,p3,p4,p5⟩,hl,ho⟩:=hh;rw [zap] at hl ho;simp only [GV.kq,GV.keys] at hk hdel;unfold worksOn at hk;by_cases h2:c.kq=2
  ·rw [if_neg (by omega),if_pos (.inl h2)] at hk
   have hko:KeysOk ks:=by
    rcases p5 with p | p
    ·exact p.2
    ·exact absurd hk p.1
   by_cases ht:there c.key ks=true
   ·rw [zhl (h:=.mk k n z l ks ov) h2 ht]
    simp only [GV.kq,GV.num,GV.str,GV.il,GV.keys,GV.vz,GV.Sound];rw [zap,zap];refine ⟨⟨p1,p2,p3,p4,.inl ⟨hk,hko⟩⟩,hl,fun x hx=>?_⟩
    rcases List.mem_or_eq_of_mem_set hx with hx | hx
    ·exact ho x hx
    ·subst hx;exact hvs
   ·rw [ziZ (h:=.mk k n z l ks ov) h2 ht]
    simp only [GV.kq,GV.num,GV.str,GV.il,GV.keys,GV.vz,GV.Sound];rw [zap,zap];refine ⟨⟨p1,p2,p3,p4,.inl ⟨hk,by rw [<- zlR (by simpa using ht)];exact zjf hko hkey⟩⟩,hl,fun x hx=>?_⟩
    rcases zdS hx with hx | hx
    ·subst hx;exact hvs
    ·exact ho x hx
  unfold doH;rw [if_neg h2];by_cases h1:c.kq=1
  ·rw [if_pos h1] at hk ⊢
   simp only [GV.kq,GV.num,GV.str,GV.il,GV.keys,GV.vz,GV.Sound];rw [zap,zap];exact ⟨⟨p1,.inl hk,p3,p4,p5⟩,hl,ho⟩
  rw [if_neg h1] at hk ⊢;simp only [GV.kq,GV.num,GV.str,GV.il,GV.keys,GV.vz];by_cases h3:c.kq=3
  ·rw [if_pos (.inr h3)] at hk
   have hko:KeysOk ks:=by
    rcases p5 with p | p
    ·exact p.2
    ·exact absurd hk p.1
   rw [if_pos h3];simp only [GV.Sound];rw [zap,zap];exact ⟨⟨p1,p2,p3,p4,.inl ⟨hk,zlQ hko (zbP (hdel h3))⟩⟩,hl,fun x hx=>ho x (zdY hx)⟩
  rw [if_neg h3];rw [if_neg (by omega)] at hk
  by_cases h8:c.kq=8
  ·rw [if_pos (.inl h8)] at hk
   rw [if_pos h8];simp only [GV.Sound];rw [zap,zap];refine ⟨⟨p1,p2,.inl ⟨hk,zjj _ ?_ (hs8 h8).2⟩,p4,p5⟩,hl,ho⟩
   rcases p3 with p | p
   ·exact p.2
   ·exact absurd hk p.1
  rw [if_neg h8];by_cases h9:c.kq=9
  ·rw [if_pos (.inr h9)] at hk
   rw [if_pos h9];simp only [GV.Sound];rw [zap,zap];refine ⟨⟨p1,p2,.inl ⟨hk,zi0 _ _ ?_⟩,p4,p5⟩,hl,ho⟩
   rcases p3 with p | p
   ·exact p.2
   ·exact absurd hk p.1
  rw [if_neg h9];rw [if_neg (by omega)] at hk
  simp only [GV.Sound];rw [zap,zap];refine ⟨⟨p1,p2,p3,.inl hk,p5⟩,fun x hx=>?_,ho⟩
  rcases zmx hx with hx | hx
  ·subst hx;exact hvs
  ·exact hl x hx
end Go.Proofs.YtmmgdkpkcoopgaaGreatDoor
namespace Go.Proofs.YtmmgdkpkcoopgaaGreatDoor
open Go.Lib(hid)
open Go Go.RowKit Go.Shelf
set_option linter.unusedVariables false
set_option linter.unusedSimpArgs false
def partK {α:Type} (p q:Nat) (x l:List α) (i:Nat):List α:=if i<=p then l.take i else (l.take p++x)++(l.take i).drop q
section
variable {α:Type} {p q:Nat} {x l:List α} {i:Nat}
theorem zgu:partK p q x l 0=[]:=by simp [partK]
theorem zhL (hi:i<p) (hl:i<l.length):partK p q x l (i+1)=partK p q x l i++[l[i]]:=by
 unfold partK;rw [if_pos (by omega),if_pos (by omega),List.take_succ_eq_append_getElem hl]
theorem zfT (hi:p<i) (hq:q<=p+1) (hl:i<l.length):partK p q x l (i+1)=partK p q x l i++[l[i]]:=by
 unfold partK;rw [if_neg (by omega),if_neg (by omega),List.take_succ_eq_append_getElem hl,List.drop_append_of_le_length (by simp;omega)]
 simp
theorem zcW (hl:p<l.length):partK p (p+1) x l (p+1)=partK p (p+1) x l p++x:=by
 unfold partK;rw [if_neg (by omega),if_pos (by omega)]
 rw [List.drop_of_length_le (by simp;omega)]
 simp
theorem zfY (hl:p<l.length):partK p p x l (p+1)=(partK p p x l p++x)++[l[p]]:=by
 unfold partK;rw [if_neg (by omega),if_pos (by omega),List.take_succ_eq_append_getElem hl,List.drop_append_of_le_length (by simp;omega)]
 simp
theorem zhx (hp:p<l.length):partK p q x l l.length=(l.take p++x)++l.drop q:=by
 unfold partK;rw [if_neg (by omega),List.take_length]
theorem zh0 (hp:l.length<=p):partK p q x l l.length=l:=by
 unfold partK;rw [if_pos hp,List.take_length]
end
structure So (Q:Nat->Prop) (w W:World) (v:Value) (n:Nat) (ks:List ByteArray) (ov:List GV) (xs:List Value):Prop where
 below:Below w.heap.size w W
 own:W.ownsRow w.heap.size 56 6 v n xs
 row:RowO (fun k=>k<w.heap.size/\Q k) W ks ov xs
theorem So.start (Q:Nat->Prop) (w:World):So Q w w (.slice none 0 0) 0 [] [] []:=⟨Below.refl _ _,World.ownsRow_nil _ _ _ _,by simp [RowO]⟩
theorem So.step {Q:Nat->Prop} {w W W':World} {v:Value} {n:Nat} {ks:List ByteArray} {ov:List GV} {xs:List Value} (h:So Q w W v n ks ov xs) (hb:Below W.heap.size W W'):So Q w W' v n ks ov xs:=
 ⟨h.below.trans (hb.mono h.below.size),zaz h.own hb,h.row.keep (.of_below hb) (fun _ h _=>h)⟩
theorem So.app {Q:Nat->Prop} {w W W':World} {v:Value} {n:Nat} {ks:List ByteArray} {ov:List GV} {xs:List Value} (h:So Q w W v n ks ov xs) {v':Value} {kk:ByteArray} {g:GV} {L O:Value} (hL:LstV (fun k=>k<w.heap.size/\Q k) w L g.il) (hO:ObjV (fun k=>k<w.heap.size/\Q k) w O g.keys g.vz)
  (hown:W'.ownsRow w.heap.size 56 6 v' (n+1) (xs++(.string kk :: chunk g L O))) (hgrow:W.grownBy W' v.ownBlock):So Q w W' v' (n+1) (ks++[kk]) (ov++[g]) (xs++(.string kk :: chunk g L O)):=by
 have hF:From (fun k=>k<w.heap.size/\Q k) W W':=fun k hk hlt=>hgrow.block k hlt (fun e=>by have:=(h.own.lt k e.symm).1;omega)
 have hr:RowO (fun k=>k<w.heap.size/\Q k) W [kk] [g] (.string kk :: chunk g L O):=⟨L,O,[],by simp,hL.keep (fun k hk _=>h.below.block k hk.1) (fun _ h _=>h),hO.keep (fun k hk _=>h.below.block k hk.1) (fun _ h _=>h),rfl⟩
 exact ⟨h.below.grown hgrow h.below.size (fun k hk=>by have:=(h.own.lt k hk).1;omega),hown,(h.row.app hr).keep hF (fun _ h _=>h)⟩
theorem So.done {Q:Nat->Prop} {w W:World} {v:Value} {ks:List ByteArray} {ov:List GV} {xs:List Value} (hQ:∀ k,w.heap.size<=k->Q k) (h:So Q w W v ov.length ks ov xs):ObjV Q W v ks ov:=
 ObjV.of_own h.own (h.row.keep (From.refl _ _) fun k hk _=>hk.2) fun k hk=>hQ k (h.own.lt k hk).1
def FldRel (Q:Nat->Prop) (w:World) (d0:Bool) (p q:Nat) (xk:List ByteArray) (xv:List GV) (ks:List ByteArray) (ov:List GV) (v d i:Value) (wr:World):Prop:=
 ∃ (k:Nat) (xs:List Value),i=.int .i64 k/\k<=ov.length/\d=.bool (d0 || decide (p<k))/\So Q w wr v (partK p q xv ov k).length (partK p q xk ks k) (partK p q xv ov k) xs
end Go.Proofs.YtmmgdkpkcoopgaaGreatDoor
