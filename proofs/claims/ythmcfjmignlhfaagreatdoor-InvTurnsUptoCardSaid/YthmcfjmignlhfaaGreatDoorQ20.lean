/- Texts in one: RGet, OneM, CompDy, OpA, InvA, RtA, RtB, RtC, InvB, RqA. -/
import Derived.Test.YthmcfjmignlhfaaGreatDoorQ9
import Derived.Test.YthmcfjmignlhfaaGreatDoorQ12
import Derived.Deep.RegionWith
import Derived.Deep.DeepCutAuto
import Derived.Deep.CutRange
import Derived.Test.YthmcfjmignlhfaaGreatDoorQ18
import Derived.Test.YthmcfjmignlhfaaGreatDoorQ19
import Derived.Test.YthmcfjmignlhfaaGreatDoorQ17
import Derived.Test.YthmcfjmignlhfaaGreatDoorQ1
import Derived.Test.YthmcfjmignlhfaaGreatDoorQ10
import Derived.Lib.Builder
import Derived.Lib.OthersKept
import Derived.Lib.MakeNoZero
import Derived.Lib.BufferKept
import Derived.Lib.AppendStr
import Derived.Lib.UnsafeStr
import Derived.Lib.Strings
import Derived.Lib.Walk
import Derived.Laws.Externs
import Derived.Laws.BitsLemmas
import Derived.WalkKit
import Derived.Shelf.RegionOpenPlain
import Derived.RegionTactic
import Derived.BigQuiet
import Derived.Deep.QuietTactic
import Derived.Lib.Hide
import Derived.Test.YthmcfjmignlhfaaGreatDoorLaysA
import Derived.Lib.QuietBelow
import Derived.Test.YthmcfjmignlhfaaGreatDoorQ4
import Derived.OwnWalk
import Derived.Test.YthmcfjmignlhfaaGreatDoorQ13
import Derived.IntWalk
set_option maxHeartbeats 8000000
set_option maxRecDepth 100000
namespace Go.Proofs.YthmcfjmignlhfaaGreatDoor
open Go.Lib(hid)
open Go Go.RowKit
structure RG (w:World) (h:GV) (BL BO:Option Addr) (dL dO:Nat) (W:World):Prop where
 below:Below w.heap.size w W
 box:Whole W w.heap.size 29 #[.int .u8 h.kq,.int .i64 h.num,.string h.str,.slice BL h.il.length dL,.slice BO h.vz.length dO]
 res:Whole W (w.heap.size+1) 29 ZC
 lst:LstV (fun k=>k<w.heap.size) W (.slice BL h.il.length dL) h.il
 obj:ObjV (fun k=>k<w.heap.size) W (.slice BO h.vz.length dO) h.keys h.vz
theorem RG.later {w W W':World} {h:GV} {BL BO:Option Addr} {dL dO:Nat} (q:RG w h BL BO dL dO W) (hb:Below W.heap.size W W'):RG w h BL BO dL dO W':=
 ⟨q.below.trans (hb.mono q.below.size),q.box.below hb q.box.lt,q.res.below hb q.res.lt,q.lst.keep (From.of_below hb) (fun _ h _=>h),q.obj.keep (From.of_below hb) (fun _ h _=>h)⟩
def RGRel (w:World) (g:GV) (ps:List GStep) (i:Value) (wr:World):Prop:=
 ∃ (k:Nat) (h:GV) (BL BO:Option Addr) (dL dO:Nat),i=.int .i64 k/\k<=ps.length/\g.get ps=h.get (ps.drop k)/\RG w h BL BO dL dO wr/\h.size<=g.size
def RGet (g:GV) (ps:List GStep) (w:World) (e:Ending) (w':World):Prop:=
 Below w.heap.size w w'/\((g.get ps=none/\e=.returned (.tuple #[zeroV,.int .i64 30]))\/∃ h v',g.get ps=some h/\e=.returned (.tuple #[v',.int .i64 0])/\h.val (fun k=>w.heap.size<=k) w' v')
def CutS (w wr:World) (h':GV) (t7 t8 t9:Value) (W:World):Prop:=
 Below wr.heap.size wr W/\t9=.int .i64 0/\∃ (X:Nat) (BL BO:Option Addr) (dL dO:Nat) (k:Nat),t7=.pointer (some ⟨X,0,none⟩)/\t8=.int .i64 k/\Whole W X 29 #[.int .u8 h'.kq,.int .i64 h'.num,.string h'.str,.slice BL h'.il.length dL,.slice BO h'.vz.length dO] /\
  LstV (fun k=>k<w.heap.size) wr (.slice BL h'.il.length dL) h'.il/\ObjV (fun k=>k<w.heap.size) wr (.slice BO h'.vz.length dO) h'.keys h'.vz
def CutN (wr:World) (t7 t8 t9:Value) (W:World):Prop:=Below wr.heap.size wr W/\t9=.int .i64 30/\∃ (X:Nat) (k:Int),t7=.pointer (some ⟨X,0,none⟩)/\t8=.int .i64 k
theorem zka {ok:Nat->Prop} {w:World} {g:GV} {AL AO:Option Addr} {cL cO:Nat} (hL:LstV ok w (.slice AL g.il.length cL) g.il) (hO:ObjV ok w (.slice AO g.vz.length cO) g.keys g.vz):
  RG w g AL AO cL cO ((w.alloc (.cells #[.int .u8 g.kq,.int .i64 g.num,.string g.str,.slice AL g.il.length cL,.slice AO g.vz.length cO] 29)).alloc (.cells ZC 29)):=by
 have hb:Below w.heap.size w ((w.alloc (.cells #[.int .u8 g.kq,.int .i64 g.num,.string g.str,.slice AL g.il.length cL,.slice AO g.vz.length cO] 29)).alloc (.cells ZC 29)):=
  ((Below.refl _ w).alloc (Nat.le_refl _) _).alloc (by simp) _
 have h2:=Whole.new (w.alloc (.cells #[.int .u8 g.kq,.int .i64 g.num,.string g.str,.slice AL g.il.length cL,.slice AO g.vz.length cO] 29)) 29 ZC;rw [World.size_alloc] at h2;exact ⟨hb,(Whole.new w 29 _).alloc _,h2,hL.keep (From.of_below hb) (fun _ _ h=>h),hO.keep (From.of_below hb) (fun _ _ h=>h)⟩
theorem ze0:∀ (l:List GV) (k:Nat) (h:GV),l[k]? = some h->h.size<=GV.sizes l
 | [],k,h,e=>by simp at e
 | x :: r,0,h,e=>by simp at e;subst e;simp [GV.sizes]
 | x :: r,k+1,h,e=>by
  have:=ze0 r k h (by simpa using e)
  simp only [GV.sizes];omega
theorem zgP {g h:GV} {s:GStep} (hi:g.inside s=some h):h.size<=g.size:=by
 cases g with
 | mk k n z l ks ov=>
  rcases zaW hi with ⟨_,_,k',_,hg⟩ | ⟨_,_,_,hg⟩
  ·have:=ze0 l k' h hg
   simp only [GV.size];omega
  ·have:=ze0 ov _ h hg
   simp only [GV.size];omega
theorem zdQ {wr w1:World} (hb:Below ((wr.alloc (.cells #[.int .u8 0,.int .i64 0,.string ⟨#[]⟩,.slice none 0 0,.slice none 0 0] 29)).drew).heap.size ((wr.alloc (.cells #[.int .u8 0,.int .i64 0,.string ⟨#[]⟩,.slice none 0 0,.slice none 0 0] 29)).drew) w1):
  Hid (Whole w1 wr.heap.size 29 #[.int .u8 0,.int .i64 0,.string ⟨#[]⟩,.slice none 0 0,.slice none 0 0]/\Below wr.heap.size wr w1):=
 hid ⟨Whole.below (W:=(wr.alloc (.cells #[.int .u8 0,.int .i64 0,.string ⟨#[]⟩,.slice none 0 0,.slice none 0 0] 29)).drew) (Whole.new wr _ _) hb (by simp),(((Below.refl _ wr).alloc (Nat.le_refl _) _).drew).trans (hb.mono (by simp))⟩
theorem RG.put {w W W':World} {h h':GV} {BL BO BL' BO':Option Addr} {dL dO dL' dO':Nat} (q:RG w h BL BO dL dO W) (hb:Below W.heap.size W W') (hL:LstV (fun k=>k<w.heap.size) W (.slice BL' h'.il.length dL') h'.il) (hO:ObjV (fun k=>k<w.heap.size) W (.slice BO' h'.vz.length dO') h'.keys h'.vz):
  RG w h' BL' BO' dL' dO' (put5 W' w.heap.size (.int .u8 h'.kq) (.int .i64 h'.num) (.string h'.str) (.slice BL' h'.il.length dL') (.slice BO' h'.vz.length dO')):=by
 have q':=q.later hb;have hF:From (fun k=>k<w.heap.size) W' (put5 W' w.heap.size (.int .u8 h'.kq) (.int .i64 h'.num) (.string h'.str) (.slice BL' h'.il.length dL') (.slice BO' h'.vz.length dO')):=fun k hk _=>zad _ _ _ _ _ _ _ _ (by omega)
 exact ⟨zah q'.below (Nat.le_refl _) _ _ _ _ _,zaq q'.box _ _ _ _ _,q'.res.of_eq (zad _ _ _ _ _ _ _ _ (by omega)),(hL.keep (From.of_below hb) (fun _ h _=>h)).keep hF (fun _ h _=>h),(hO.keep (From.of_below hb) (fun _ h _=>h)).keep hF (fun _ h _=>h)⟩
theorem zgH (ok:Nat->Prop) (v:Value) (g:GV) (hi:Nat) (A:Option Addr) (cap:Nat) (ps:List GStep) (w:World) (hv:g.val ok w v) (hp:Steps hi w A ps) (hhi:hi<=w.heap.size) (hcap:ps.length<=cap) (hm:cap<=maxLen) (hsz:g.size<=1000000000):
  Calls Tryz.prog 39 #[v,.slice A ps.length cap] w (RGet g ps w):=by
 obtain ⟨L,O,rfl,hL,hO⟩:=hv;obtain ⟨AL,cL,rfl⟩:=zaf hL;obtain ⟨AO,cO,rfl⟩:=zae hO;have HST:=hid (zka hL hO);have HP:=hid hp;clear hL hO hp;unfold maxLen at hm;unfold ZC at HST;go_enter Tryz.func39,Tryz.ntmps39
 go_wp2
 go_loopw [6] (RGRel w g ps) (fun i _=>ps.length - (intOf i).toNat)
 case atStart=>exact ⟨0,g,AL,AO,cL,cO,rfl,Nat.zero_le _,rfl,HST.out,Nat.le_refl _⟩
 case round=>
  obtain ⟨k,h,BL,BO,dL,dO,rfl,hk,hget,hR,hgs⟩:=hrel;have HR:=hid hR;clear hR;by_cases hlt:k<ps.length
  ·obtain ⟨pb,po,rfl,hpb,p0,p1,p2⟩:=(HP.out.keep (HR.out.below.mono hhi) (Nat.le_refl _)).one hlt
   have hdr:ps.drop k=ps[k] :: ps.drop (k+1):=List.drop_eq_getElem_cons hlt;rw [hdr] at hget;simp only [GV.get] at hget;have hstep:∀ W,Below wr.heap.size wr W->Calls Tryz.prog 69 #[.agg #[.int .u8 h.kq,.int .i64 h.num,.string h.str,.slice BL h.il.length dL,.slice BO h.vz.length dO],.agg #[.bool ps[k].list,.int .i64 ps[k].i,.string ps[k].key]] W (StepPost (fun k=>k<w.heap.size) h ps[k] W):=fun W hb=>
    zjX _ _ h ps[k] W ⟨_,_,rfl,HR.out.lst.keep (From.of_below hb) (fun _ h _=>h),HR.out.obj.keep (From.of_below hb) (fun _ h _=>h)⟩
   have HGET:=hid hget;clear hget hdr;obtain ⟨v0,v1,v2,v3,v4,_⟩:=HR.out.box.five;have hws:w.heap.size<=wr.heap.size:=HR.out.below.size;generalize hs:ps[k]=s at *;have q0:=fun o=>zaa o p0
   have q1:=fun o=>zaa o p1
   have q2:=fun o=>zaa o p2
   have g0:=fun o=>zaa o v0
   have g1:=fun o=>zaa o v1
   have g2:=fun o=>zaa o v2
   have g3:=fun o=>zaa o v3
   have g4:=fun o=>zaa o v4
   cases hio:h.inside s with
   | none=>
    have hs2:=fun W hb=>(hstep W hb).mono (R':=fun e w'=>e=.returned (.tuple #[.agg #[.int .u8 0,.int .i64 0,.string ⟨#[]⟩,.slice none 0 0,.slice none 0 0],.int .i64 0,.int .i64 30])/\Below W.heap.size W w') fun e w' hq=>by
     rcases hq.2 with ⟨_,he⟩ | ⟨h',_,_,_,_,_,hx,_⟩
     ·exact ⟨he,hq.1⟩
     ·rw [hio] at hx;cases hx
    have HC:=hid hs2;clear hs2 hstep
    go_wp2_with fail
    go_cut [7,8,9] from 10 to 30 (CutN wr)
    case first=>
     go_region_with (first | (go_at_call 69;refine (HC.out wr.drew (Below.refl _ wr).drew).mono ?_;rintro e w1 ⟨rfl,hb1⟩;have HB1:Hid (Below wr.heap.size wr w1):=hid ((Below.refl _ wr).drew.trans hb1);clear hb1) | (go_at_call 69;refine (HC.out _ ((Below.refl _ wr).alloc (Nat.le_refl _) _).drew).mono ?_;rintro e w1 ⟨rfl,hb1⟩;have HX:=zdQ hb1;obtain ⟨x0,x1,x2,x3,x4,y0,y1,y2,y3,y4⟩:=HX.out.1.five;have HB1:Hid (Below wr.heap.size wr w1):=hid HX.out.2;clear hb1))
     all_goals go_wp2_with fail
     all_goals go_meet
     all_goals first | exact ⟨HB1.out.alloc HB1.out.size _,rfl,_,_,rfl,rfl⟩ | exact ⟨zah HB1.out (Nat.le_refl _) _ _ _ _ _,rfl,_,_,rfl,rfl⟩
    case rest=>
     obtain ⟨hbw,rfl,X,kx,rfl,rfl⟩:=hcut;have HR2:=hid (HR.out.later hbw);obtain ⟨x0,x1,x2,x3,x4,y0,y1,y2,y3,y4⟩:=HR2.out.res.five;obtain ⟨d0,d1,d2,d3,d4,_⟩:=(zaq HR2.out.res (.int .u8 0) (.int .i64 0) (.string ⟨#[]⟩) (.slice none 0 0) (.slice none 0 0)).five;unfold put5 at d0 d1 d2 d3 d4;clear hbw q0 q1 q2 g0 g1 g2 g3 g4;go_wp2
     refine bodyPost_ret (v:=.tuple #[zeroV,.int .i64 30]) (by simp [results,Tryz.results39,go_sem,zeroV,d0,d1,d2,d3,d4]) rfl ?_
     exact ⟨zah HR2.out.below (by omega) _ _ _ _ _,.inl ⟨by rw [HGET.out,hio];rfl,rfl⟩⟩
   | some h'=>
    have hs2:=fun W (hb:Below wr.heap.size wr W)=>(hstep W hb).mono (R':=fun e w'=>∃ BL' BO' dL' dO' kk,e=.returned (.tuple #[.agg #[.int .u8 h'.kq,.int .i64 h'.num,.string h'.str,.slice BL' h'.il.length dL',.slice BO' h'.vz.length dO'],.int .i64 (kk:Nat),.int .i64 0]) /\
      LstV (fun k=>k<w.heap.size) wr (.slice BL' h'.il.length dL') h'.il/\ObjV (fun k=>k<w.heap.size) wr (.slice BO' h'.vz.length dO') h'.keys h'.vz/\Below W.heap.size W w') fun e w' hq=>by
     rcases hq.2 with ⟨hx,_⟩ | ⟨h2,BL',BO',dL',dO',kk,hx,he,hL,hO,_⟩
     ·rw [hio] at hx;cases hx
     ·rw [hio] at hx;cases hx
      exact ⟨BL',BO',dL',dO',kk,he,hL.keep (fun k hk _=>(hb.block k (by omega)).symm) (fun _ h _=>h),hO.keep (fun k hk _=>(hb.block k (by omega)).symm) (fun _ h _=>h),hq.1⟩
    have HC:=hid hs2;clear hs2 hstep
    go_wp2_with fail
    go_cut [7,8,9] from 10 to 30 (CutS w wr h')
    case first=>
     go_region_with (first | (go_at_call 69;refine (HC.out wr.drew (Below.refl _ wr).drew).mono ?_;rintro e w1 ⟨BL',BO',dL',dO',kk,rfl,hL1,hO1,hb1⟩;have HLO:=hid (And.intro hL1 hO1);clear hL1 hO1;have HB1:Hid (Below wr.heap.size wr w1):=hid ((Below.refl _ wr).drew.trans hb1);clear hb1) | (go_at_call 69;refine (HC.out _ ((Below.refl _ wr).alloc (Nat.le_refl _) _).drew).mono ?_;rintro e w1 ⟨BL',BO',dL',dO',kk,rfl,hL1,hO1,hb1⟩;have HLO:=hid (And.intro hL1 hO1);clear hL1 hO1;have HX:=zdQ hb1;obtain ⟨x0,x1,x2,x3,x4,y0,y1,y2,y3,y4⟩:=HX.out.1.five;have HB1:Hid (Below wr.heap.size wr w1):=hid HX.out.2;clear hb1))
     all_goals go_wp2_with fail
     all_goals go_meet
     all_goals first
      | (have hx:=HX.out.1;exact ⟨zah HB1.out (Nat.le_refl _) _ _ _ _ _,rfl,_,BL',BO',dL',dO',kk,rfl,rfl,zaq hx _ _ _ _ _,HLO.out.1,HLO.out.2⟩)
      | exact ⟨HB1.out.alloc HB1.out.size _,rfl,_,BL',BO',dL',dO',kk,rfl,rfl,Whole.new w1 _ _,HLO.out.1,HLO.out.2⟩
    case rest=>
     obtain ⟨hbw,rfl,X,BL',BO',dL',dO',kx,rfl,rfl,hX,hL',hO'⟩:=hcut;have HR2:=hid (HR.out.later hbw);have HR3:=hid (HR.out.put hbw hL' hO');obtain ⟨x0,x1,x2,x3,x4,_⟩:=hX.five;obtain ⟨v0,v1,v2,v3,v4,y0,y1,y2,y3,y4⟩:=HR2.out.box.five;clear hbw q0 q1 q2 g0 g1 g2 g3 g4 hX hL' hO';go_wp2
     go_roundw
     case rel=>exact ⟨k+1,h',BL',BO',dL',dO',by go_num,by omega,by rw [HGET.out,hio];rfl,HR3.out,Nat.le_trans (zgP hio) hgs⟩
     case measure=>simp [intOf];omega
  ·have hk':k=ps.length:=by omega
   have hd:ps.drop k=[]:=by rw [hk'];simp
   rw [hd] at hget;have hcopy:=fun (W:World) (hb:Below wr.heap.size wr W)=>(zhq h.size (fun k=>k<w.heap.size) (.agg #[.int .u8 h.kq,.int .i64 h.num,.string h.str,.slice BL h.il.length dL,.slice BO h.vz.length dO]) h W (Nat.le_refl _) ⟨_,_,rfl,HR.out.lst.keep (From.of_below hb) (fun _ h _=>h),HR.out.obj.keep (From.of_below hb) (fun _ h _=>h)⟩ (Nat.le_trans hgs hsz)).mono
    (R':=fun e w'=>∃ BL dL BO dO,e=.returned (.agg #[.int .u8 h.kq,.int .i64 h.num,.string h.str,.slice BL h.il.length dL,.slice BO h.vz.length dO])/\LstV (fun k=>wr.heap.size<=k) w' (.slice BL h.il.length dL) h.il/\ObjV (fun k=>wr.heap.size<=k) w' (.slice BO h.vz.length dO) h.keys h.vz/\Below wr.heap.size wr w') fun e w' ⟨v',he,⟨L,O,hv,hL,hO⟩,hb'⟩=>by
     subst hv;obtain ⟨BL,dL,rfl⟩:=zaf hL;obtain ⟨BO,dO,rfl⟩:=zae hO;exact ⟨BL,dL,BO,dO,he,hL.keep (From.refl _ _) (fun k hk _=>Nat.le_trans hb.size hk),hO.keep (From.refl _ _) (fun k hk _=>Nat.le_trans hb.size hk),hb.trans (hb'.mono hb.size)⟩
   have HC:=hid hcopy;have HGET:=hid hget;clear hcopy hget hd;obtain ⟨v0,v1,v2,v3,v4,_⟩:=HR.out.box.five
   go_wp2_with (go_at_call 22;refine (HC.out _ (Below.refl _ _)).mono ?_;rintro e w1 ⟨CL,eL,CO,eO,rfl,hL,hO,hb1⟩;obtain ⟨x0,x1,x2,x3,x4,y0,y1,y2,y3,y4⟩:=(HR.out.later hb1).res.five;have HB1:=hid hb1;have HV:=hid (And.intro hL hO);clear hb1 hL hO)
   have hlt2:=HR.out.res.lt;obtain ⟨d0,d1,d2,d3,d4,_⟩:=(zaq (HR.out.later HB1.out).res (.int .u8 h.kq) (.int .i64 h.num) (.string h.str) (.slice CL h.il.length eL) (.slice CO h.vz.length eO)).five;unfold put5 at d0 d1 d2 d3 d4;refine bodyPost_ret (v:=.tuple #[.agg #[.int .u8 h.kq,.int .i64 h.num,.string h.str,.slice CL h.il.length eL,.slice CO h.vz.length eO],.int .i64 0]) (by simp [results,Tryz.results39,go_sem,d0,d1,d2,d3,d4]) rfl ?_
   refine ⟨zah (HR.out.later HB1.out).below (by omega) _ _ _ _ _,.inr ⟨h,_,HGET.out,rfl,_,_,rfl,?_,?_⟩⟩
   ·exact HV.out.1.keep (fun k hk _=>zad _ _ _ _ _ _ _ _ (by omega)) (fun k hk _=>by omega)
   ·exact HV.out.2.keep (fun k hk _=>zad _ _ _ _ _ _ _ _ (by omega)) (fun k hk _=>by omega)
end Go.Proofs.YthmcfjmignlhfaaGreatDoor
namespace Go.Proofs.YthmcfjmignlhfaaGreatDoor
open Go.Lib(hid)
open Go Go.RowKit
set_option linter.unusedVariables false
set_option linter.unusedSimpArgs false
theorem zdE (q:List GStep):∀ (p:List GStep) (g h:GV),g.get (p++q)=some h->∃ m,g.get p=some m
 | [],g,_,_=>⟨g,rfl⟩
 | s :: r,g,h,e=>by
  simp only [List.cons_append,GV.get] at e ⊢;cases hi:g.inside s with
  | none=>rw [hi] at e;cases e
  | some y=>
   rw [hi] at e;simp only [Option.bind_some] at e ⊢;exact zdE q r y h e
theorem zfu {g h:GV} {s:GStep} (hg:g.Sound) (hi:g.inside s=some h):h.Sound:=by
 rcases zaW hi with ⟨_,_,k',_,hgx⟩ | ⟨_,_,_,hgx⟩
 ·exact (zaM hg).2.1 h (List.mem_of_getElem? hgx)
 ·exact (zaM hg).2.2 h (List.mem_of_getElem? hgx)
theorem zb0:∀ (p:List GStep) (g h:GV),g.Sound->g.get p=some h->h.Sound
 | [],g,h,hg,e=>by simp [GV.get] at e;subst e;exact hg
 | s :: r,g,h,hg,e=>by
  simp only [GV.get] at e;cases hi:g.inside s with
  | none=>rw [hi] at e;cases e
  | some y=>rw [hi] at e;exact zb0 r y h (zfu hg hi) e
theorem zh9 (g:GV):1<=g.weight:=by cases g with | mk k n s l ks ov=>simp only [GV.weight];omega
theorem za6:∀ (l:List GV),l.length<=GV.weights l
 | []=>by simp
 | x :: r=>by have:=za6 r;have:=zh9 x;simp only [GV.weights,List.length_cons];omega
theorem zdm (g:GV):g.str.size<=g.weight/\g.il.length<=g.weight/\g.vz.length<=g.weight:=by
 cases g with
 | mk k n s l ks ov=>
  have h1:=za6 l;have h2:=za6 ov;simp only [GV.weight,GV.str,GV.il,GV.vz];refine ⟨?_,?_,?_⟩<;>omega
theorem zfL {g:GV} (hg:g.Sound) (hk:g.kq=5):KeysOk g.keys:=by
 rcases (zaM hg).1.2.2.2.2 with h | h
 ·exact h.2
 ·exact absurd hk h.1
theorem zex {g:GV} (hg:g.Sound) (hk:g.kq=5) (hw:g.weight<=6000):∀ k∈g.keys,valid k=true/\k.size<=6001:=fun k hm=>by
 obtain ⟨i,hi⟩:=List.getElem?_of_mem hm;have hl:=(List.getElem?_eq_some_iff.1 hi).1;have:=zg5 hi;exact ⟨(zfL hg hk i k hl hi).1,by omega⟩
theorem zhF {g:GV} (hg:g.Sound):g.kq=0\/g.kq=1\/g.kq=2\/g.kq=3\/g.kq=4\/g.kq=5:=(zaM hg).1.1
theorem Wy.front {W:World} {A:Option Addr} {c:Nat} {p q:List GStep} (h:Wy W A c (p++q)):Wy W A c p:=
 ⟨fun hn=>by
  obtain ⟨a,e,hs,hl,hc⟩:=h.steps (by simp [hn])
  exact ⟨a,e,hs,hl,fun i s hi=>hc i s (by rw [List.getElem?_append_left (List.getElem?_eq_some_iff.1 hi).1];exact hi)⟩,by have:=h.le;simp at this;omega,h.cap⟩
theorem rget1 {W} {g h:GV} {AL AO cL cO A} {c n:Nat} {ps} (hv:Vl W g AL AO cL cO) (hp:Wy W A c ps) (hn:ps.length=n) (hw:g.weight<=1000000000) (e:g.get ps=some h):
  Calls Tryz.prog 39 #[.agg #[.int .u8 g.kq,.int .i64 g.num,.string g.str,.slice AL g.il.length cL,.slice AO g.vz.length cO],.slice A n c] W fun e' w'=>∃ BL BO dL dO,e'=.returned (.tuple #[.agg #[.int .u8 h.kq,.int .i64 h.num,.string h.str,.slice BL h.il.length dL,.slice BO h.vz.length dO],.int .i64 0]) /\
   (LstV (fun k=>W.heap.size<=k) w' (.slice BL h.il.length dL) h.il/\ObjV (fun k=>W.heap.size<=k) w' (.slice BO h.vz.length dO) h.keys h.vz)/\Below W.heap.size W w':=by
 subst hn;refine (zgH _ _ g W.heap.size A c ps W hv.val hp.steps (Nat.le_refl _) hp.le hp.cap (Nat.le_trans (zac g) hw)).mono fun e' w' ⟨hb,hq⟩=>?_
 rcases hq with ⟨h1,_⟩ | ⟨h',v',h1,he,hv'⟩
 ·rw [e] at h1;cases h1
 ·rw [e] at h1;cases h1
  obtain ⟨L,O,rfl,hL,hO⟩:=hv';obtain ⟨BL,dL,rfl⟩:=zaf hL;obtain ⟨BO,dO,rfl⟩:=zae hO;exact ⟨BL,BO,dL,dO,he,⟨hL,hO⟩,hb⟩
def K2 (r s:Nat) (w1 W:World):Prop:=w1.heap.size<=W.heap.size/\∀ k,k≠r->k≠s->k<w1.heap.size->W.heap[k]? = w1.heap[k]?
theorem K2.refl (r s:Nat) (w:World):K2 r s w w:=⟨Nat.le_refl _,fun _ _ _ _=>rfl⟩
theorem K2.set {r s:Nat} {w1 W:World} (h:K2 r s w1 W) {p:Addr} (hp:p.block=r\/p.block=s) (u:Value):K2 r s w1 (W.setCell p u):=⟨by rw [zaQ];exact h.1,fun k hk hk' hl=>by rw [Below.heap_setCell W p u k (by rcases hp with h | h<;>omega)];exact h.2 k hk hk' hl⟩
theorem k212 {r s:Nat} {w W:World} {b:Nat} (h:K2 r s w W) (hb:b=r\/b=s) (a0 a1 a2 a3 a4 a5 a6 a7 a8 a9 a10 a11:Value):K2 r s w ((((((((((((W.setCell ⟨b,0,none⟩ a0).setCell ⟨b,1,none⟩ a1).setCell ⟨b,2,none⟩ a2).setCell ⟨b,3,none⟩ a3).setCell ⟨b,4,none⟩ a4).setCell ⟨b,5,none⟩ a5).setCell ⟨b,6,none⟩ a6).setCell ⟨b,7,none⟩ a7).setCell ⟨b,8,none⟩ a8).setCell ⟨b,9,none⟩ a9).setCell ⟨b,10,none⟩ a10).setCell ⟨b,11,none⟩ a11):=
 ((((((((((((h.set (p:=⟨b,0,none⟩) hb a0).set (p:=⟨b,1,none⟩) hb a1).set (p:=⟨b,2,none⟩) hb a2).set (p:=⟨b,3,none⟩) hb a3).set (p:=⟨b,4,none⟩) hb a4).set (p:=⟨b,5,none⟩) hb a5).set (p:=⟨b,6,none⟩) hb a6).set (p:=⟨b,7,none⟩) hb a7).set (p:=⟨b,8,none⟩) hb a8).set (p:=⟨b,9,none⟩) hb a9).set (p:=⟨b,10,none⟩) hb a10).set (p:=⟨b,11,none⟩) hb a11)
theorem Wy.two {wr w5 X:World} {P} {c r s:Nat} {qs} {t:TypeId} {cs:Array Value} (h:Wy wr P c qs) (hW:Whole wr r t cs) (hno:∀ (i:Nat) (l:Bool),cs[i]?≠some (Value.bool l)) (hs:wr.heap.size<=s\/s=r) (hb:Below wr.heap.size wr w5) (hK:K2 r s w5 X):Wy X P c qs:=
 ⟨fun hne=>by
  obtain ⟨a,e,hsp,hl,hc⟩:=h.steps hne;have hr:a.block≠r:=fun er=>by
   obtain ⟨x,xs,rfl⟩:∃ x xs,qs=x :: xs:=by cases qs with | nil=>exact absurd rfl hne | cons x xs=>exact ⟨x,xs,rfl⟩
   have:=(hc 0 x rfl).1;rw [er,hW.cell] at this;exact hno _ _ this
  have hblk:X.heap[a.block]? = wr.heap[a.block]?:=(hK.2 a.block hr (by omega) (Nat.lt_of_lt_of_le hl hb.size)).trans (hb.block a.block hl)
  exact ⟨a,e,hsp,Nat.lt_of_lt_of_le hl (Nat.le_trans hb.size hK.1),fun i s hi=>by
   obtain ⟨h0,h1,h2⟩:=hc i s hi;exact ⟨(World.cell?_of_block (a:=⟨a.block,_,none⟩) hblk).trans h0,(World.cell?_of_block (a:=⟨a.block,_,none⟩) hblk).trans h1,(World.cell?_of_block (a:=⟨a.block,_,none⟩) hblk).trans h2⟩⟩,h.le,h.cap⟩
theorem zkG {k n:Int} {s:ByteArray} {A B:Option Addr} {a b c d:Nat}:∀ (i:Nat) (l:Bool),(#[Value.int .u8 k,.int .i64 n,.string s,.slice A a b,.slice B c d]:Array Value)[i]?≠some (.bool l)
 | 0,_,h | 1,_,h | 2,_,h | 3,_,h | 4,_,h=>by simp at h
 | i+5,_,h=>by simp at h
theorem za9:∀ (i:Nat) (l:Bool),(#[Value.int .u8 0,.slice none 0 0,.string ⟨#[]⟩,.int .i64 0,.int .i64 0,.int .i64 0,.int .u8 0,.int .i64 0,.string ⟨#[]⟩,.slice none 0 0,.slice none 0 0,.string ⟨#[]⟩]:Array Value)[i]?≠some (.bool l)
 | 0,_,h | 1,_,h | 2,_,h | 3,_,h | 4,_,h | 5,_,h | 6,_,h | 7,_,h | 8,_,h | 9,_,h | 10,_,h | 11,_,h=>by simp at h
 | i+12,_,h=>by simp at h
theorem Wy.put5 {wr w1:World} {P c b qs} {t:TypeId} {k n s A B a a' d d'} (h:Wy wr P c qs) (hW:Whole wr b t #[.int .u8 k,.int .i64 n,.string s,.slice A a a',.slice B d d']) (hb:Below wr.heap.size wr w1) (u0 u1 u2 u3 u4:Value):Wy (put5 w1 b u0 u1 u2 u3 u4) P c qs:=
 h.two hW zkG (.inr rfl) hb (((((K2.refl b b w1).set (.inl rfl) u0).set (.inl rfl) u1).set (.inl rfl) u2).set (.inl rfl) u3 |>.set (.inl rfl) u4)
def Fit (h:GV) (c:GC):Prop:=
 (c.kq=1/\h.kq=2/\c.key =⟨#[]⟩/\c.i=0/\c.j=0/\c.s =⟨#[]⟩/\c.v=noG) \/
 (h.kq=3/\c.key =⟨#[]⟩/\c.j=0/\c.v=noG/\((c.kq=8/\(∃ a:Nat,c.i=a/\a<=h.str.size)/\c.n=0/\∃ s,c.s=strX++plainB s)\/(c.kq=9/\c.s =⟨#[]⟩/\∃ a b:Nat,c.i=a/\c.n=b/\1<=b/\a+b<=h.str.size))) \/
 (h.kq=4/\c.key =⟨#[]⟩/\c.n=0/\c.s =⟨#[]⟩/\∃ k i j:Nat,c.kq=k/\c.i=i/\c.j=j/\4<=k/\k<=7/\chkL h.il.length k i j=0/\(k=7\/j=0)/\(k=4\/k=6\/c.v=noG)) \/
 (h.kq=5/\c.i=0/\c.j=0/\c.n=0/\c.s =⟨#[]⟩/\valid c.key=true/\(c.kq=2\/(c.kq=3/\there c.key h.keys=true/\c.v=noG)))
structure OneG (g:GV) (c:GC) (m:Int):Prop where
 len:c.path.length<=5
 clean:∀ s∈c.path,Clean s
 v:VOk c.v
 key:c.key.size<=6001
 s:c.s.size<=41
 fits:m=0\/(m=1/\∃ h,g.get c.path=some h/\Fit h c)
def OneIs (g:GV) (w:World) (e:Ending) (w':World):Prop:=Below w.heap.size w w'/\∃ (c:GC) (A AL AO:Option Addr) (cp cL cO:Nat) (m:Int),e=.returned (.tuple #[.agg #[.int .u8 c.kq,.slice A c.path.length cp,.string c.key,.int .i64 c.i,.int .i64 c.j,.int .i64 c.n,.int .u8 c.v.kq,.int .i64 c.v.num,.string c.v.str,.slice AL c.v.il.length cL,.slice AO c.v.vz.length cO,.string c.s],.int .i64 m])/\Cc w' c A AL AO cp cL cO/\OneG g c m
structure OB (w:World) (cv ca:Array Value) (b:Nat) (h:GV) (BL BO:Option Addr) (eL eO:Nat) (W:World):Prop where
 v:Whole W w.heap.size 29 cv
 a:Whole W (w.heap.size+1) 46 ca
 r:Whole W (w.heap.size+1+1) 48 #[.int .u8 0,.slice none 0 0,.string ⟨#[]⟩,.int .i64 0,.int .i64 0,.int .i64 0,.int .u8 0,.int .i64 0,.string ⟨#[]⟩,.slice none 0 0,.slice none 0 0,.string ⟨#[]⟩]
 x:Whole W b 29 #[.int .u8 h.kq,.int .i64 h.num,.string h.str,.slice BL h.il.length eL,.slice BO h.vz.length eO]
 far:w.heap.size+1+1+1<=b
 lst:LstV (fun k=>w.heap.size+1+1+1<=k/\k≠b) W (.slice BL h.il.length eL) h.il
 obj:ObjV (fun k=>w.heap.size+1+1+1<=k/\k≠b) W (.slice BO h.vz.length eO) h.keys h.vz
 below:Below w.heap.size w W
theorem OB.step {w W W':World} {cv ca:Array Value} {b:Nat} {h:GV} {BL BO:Option Addr} {eL eO:Nat} (q:OB w cv ca b h BL BO eL eO W) (hb:Below W.heap.size W W'):OB w cv ca b h BL BO eL eO W':=
 ⟨q.v.below hb q.v.lt,q.a.below hb q.a.lt,q.r.below hb q.r.lt,q.x.below hb q.x.lt,q.far,q.lst.keep (From.of_below hb) (fun _ h _=>h),q.obj.keep (From.of_below hb) (fun _ h _=>h),q.below.trans (hb.mono q.below.size)⟩
theorem OB.vl {w W:World} {cv ca:Array Value} {b:Nat} {h:GV} {BL BO:Option Addr} {eL eO:Nat} (q:OB w cv ca b h BL BO eL eO W):Vl W h BL BO eL eO:=
 ⟨q.lst.keep (From.refl _ _) (fun _ _ _=>trivial),q.obj.keep (From.refl _ _) (fun _ _ _=>trivial)⟩
theorem OB.put {w W W':World} {cv ca:Array Value} {b:Nat} {h h':GV} {BL BO EL EO:Option Addr} {eL eO fL fO:Nat} (q:OB w cv ca b h BL BO eL eO W) (hb:Below W.heap.size W W') (hL:LstV (fun k=>W.heap.size<=k) W' (.slice EL h'.il.length fL) h'.il) (hO:ObjV (fun k=>W.heap.size<=k) W' (.slice EO h'.vz.length fO) h'.keys h'.vz):
  OB w cv ca b h' EL EO fL fO (put5 W' b (.int .u8 h'.kq) (.int .i64 h'.num) (.string h'.str) (.slice EL h'.il.length fL) (.slice EO h'.vz.length fO)):=by
 have q':=q.step hb;have hlt:=q.x.lt;have hfar:=q.far;have hsz:=q.v.lt;have hF:From (fun k=>W.heap.size<=k) W' (put5 W' b (.int .u8 h'.kq) (.int .i64 h'.num) (.string h'.str) (.slice EL h'.il.length fL) (.slice EO h'.vz.length fO)):=fun k hk _=>zad _ _ _ _ _ _ _ _ (by omega)
 exact ⟨q'.v.of_eq (zad _ _ _ _ _ _ _ _ (by omega)),q'.a.of_eq (zad _ _ _ _ _ _ _ _ (by omega)),q'.r.of_eq (zad _ _ _ _ _ _ _ _ (by omega)),zaq q'.x _ _ _ _ _,hfar,hL.keep hF (fun k hk _=>⟨by omega,by omega⟩),hO.keep hF (fun k hk _=>⟨by omega,by omega⟩),zah q'.below (by omega) _ _ _ _ _⟩
end Go.Proofs.YthmcfjmignlhfaaGreatDoor
namespace Go.Proofs.YthmcfjmignlhfaaGreatDoor
open Go.Lib(hid)
open Go Go.RowKit
set_option linter.unusedVariables false
set_option linter.unusedSimpArgs false
theorem zbu (l:List GV) (i:Nat) (v:GV):GV.weights (insL l i v)<=GV.weights l+v.weight:=by
 unfold insL;have:=zbL l i i (Nat.le_refl _);rw [zdZ];simp only [GV.weights];omega
theorem zbw (l:List GV) (i:Nat):GV.weights (remL l i)<=GV.weights l:=by
 unfold remL;have:=zbL l i (i+1) (by omega)
 rw [zdZ];omega
theorem zdb (l:List GV) (k:Nat) (x:GV) (h:l[k]? = some x):x.weight<=GV.weights l+1:=by
 have h1:=zaL l k x noG h;have h2:noG.weight=1:=by unfold noG;simp only [GV.weight,GV.weights,List.map_nil,List.sum_nil];decide
 omega
theorem zgJ (l:List GV) (k:Nat) (y:GV):GV.weights (l.set k y)<=GV.weights l+y.weight:=by
 by_cases h:k<l.length
 ·have:=zaL l k l[k] y (List.getElem?_eq_getElem h)
  omega
 ·rw [List.set_eq_of_length_le (by omega)]
  omega
theorem zgt (l:List GV) (c:Cm GV):GV.weights (doL l c)<=2 * GV.weights l+c.v.weight+1:=by
 unfold doL;split
 ·have:=zbu l c.i c.v;omega
 ·split
  ·have:=zbw l c.i;omega
  ·split
   ·have:=zbu (remL l c.i) c.i c.v
    have:=zbw l c.i;omega
   ·split
    ·rename_i x hx
     have:=zbu (remL l c.i) c.j x;have:=zbw l c.i;have:=zdb l c.i x hx;omega
    ·omega
theorem zkJ (l:List ByteArray) (i:Nat) (v:ByteArray):((insL l i v).map (·.size)).sum<=(l.map (·.size)).sum+v.size:=by
 have:=zcw l i i (Nat.le_refl _);unfold ksum at this;unfold insL;rw [List.map_append,List.sum_append,List.map_cons,List.sum_cons];omega
theorem zj3 (l:List ByteArray) (i:Nat):((remL l i).map (·.size)).sum<=(l.map (·.size)).sum:=by
 have:=zcw l i (i+1) (by omega)
 unfold ksum at this;unfold remL;rw [List.map_append,List.sum_append];omega
theorem zjg (s:ByteArray) (i:Nat) (t:ByteArray):(insS s i t).size<=s.size+t.size:=by
 unfold insS;have:=zbI s i;rw [ByteArray.size_append,ByteArray.size_append,ByteArray.size_extract,ByteArray.size_extract];omega
theorem zjs (s:ByteArray) (i n:Nat):(delS s i n).size<=2 * s.size:=by
 unfold delS;rw [ByteArray.size_append,ByteArray.size_extract,ByteArray.size_extract];omega
theorem zaV (h:GV):h.weight=1+h.str.size+GV.weights h.il+(h.keys.map (·.size)).sum+GV.weights h.vz:=by
 cases h with | mk k n s l ks ov=>simp only [GV.weight,GV.str,GV.il,GV.keys,GV.vz]
theorem zh0 (h:GV) (c:GC):(doH h c).weight<=2 * h.weight+c.v.weight+c.key.size+c.s.size+10:=by
 have a0:=zaV h;have a1:=zbu h.vz (place c.key h.keys) c.v;have a2:=zbw h.vz (place c.key h.keys);have a3:=zgJ h.vz (place c.key h.keys) c.v;have a4:=zkJ h.keys (place c.key h.keys) c.key;have a5:=zj3 h.keys (place c.key h.keys);have a6:=zjg h.str c.i.toNat c.s;have a7:=zjs h.str c.i.toNat c.n.toNat;have a8:=zgt h.il ⟨c.kq.toNat,c.i.toNat,c.j.toNat,c.v⟩;simp only at a8;unfold doH;by_cases k1:c.kq=1
 ·rw [if_pos k1];simp only [GV.weight];omega
 rw [if_neg k1];by_cases k2:c.kq=2
 ·rw [if_pos k2]
  by_cases ht:there c.key h.keys=true
  ·rw [if_pos ht];simp only [GV.weight];omega
  ·rw [if_neg ht];simp only [GV.weight];omega
 rw [if_neg k2];by_cases k3:c.kq=3
 ·rw [if_pos k3];simp only [GV.weight];omega
 rw [if_neg k3];by_cases k8:c.kq=8
 ·rw [if_pos k8];simp only [GV.weight];omega
 rw [if_neg k8];by_cases k9:c.kq=9
 ·rw [if_pos k9];simp only [GV.weight];omega
 rw [if_neg k9];simp only [GV.weight];omega
structure Small (c:GC):Prop where
 v:c.v.weight<=2200000
 k:c.key.size<=2200000
 s:c.s.size<=2200000
 pk:∀ s∈c.path,s.key.size<=9223372036854775807
theorem works3 {k:Int} (h:worksOn k=3):k=8\/k=9:=by
 unfold worksOn at h;split at h
 ·omega
 ·split at h
  ·omega
  ·split at h
   ·assumption
   ·omega
end Go.Proofs.YthmcfjmignlhfaaGreatDoor
namespace Go.Proofs.YthmcfjmignlhfaaGreatDoor
open Go.Lib(hid)
open Go Go.RowKit
set_option linter.unusedVariables false
set_option linter.unusedSimpArgs false
structure EC where
 c:GC
 A:Option Addr
 cp:Nat
 AL:Option Addr
 cL:Nat
 AO:Option Addr
 cO:Nat
structure C12 (W:World) (b o:Nat) (e:EC):Prop where
 c0:W.cell? ⟨b,o,none⟩=some (.int .u8 e.c.kq)
 c1:W.cell? ⟨b,o+1,none⟩=some (.slice e.A e.c.path.length e.cp)
 c2:W.cell? ⟨b,o+2,none⟩=some (.string e.c.key)
 c3:W.cell? ⟨b,o+3,none⟩=some (.int .i64 e.c.i)
 c4:W.cell? ⟨b,o+4,none⟩=some (.int .i64 e.c.j)
 c5:W.cell? ⟨b,o+5,none⟩=some (.int .i64 e.c.n)
 c6:W.cell? ⟨b,o+6,none⟩=some (.int .u8 e.c.v.kq)
 c7:W.cell? ⟨b,o+7,none⟩=some (.int .i64 e.c.v.num)
 c8:W.cell? ⟨b,o+8,none⟩=some (.string e.c.v.str)
 c9:W.cell? ⟨b,o+9,none⟩=some (.slice e.AL e.c.v.il.length e.cL)
 c10:W.cell? ⟨b,o+10,none⟩=some (.slice e.AO e.c.v.vz.length e.cO)
 c11:W.cell? ⟨b,o+11,none⟩=some (.string e.c.s)
theorem C12.below {n:Nat} {W W':World} {b o:Nat} {e:EC} (h:C12 W b o e) (hb:Below n W W') (hn:b<n):C12 W' b o e:=
 ⟨(hb.cell hn).trans h.c0,(hb.cell hn).trans h.c1,(hb.cell hn).trans h.c2,(hb.cell hn).trans h.c3,(hb.cell hn).trans h.c4,(hb.cell hn).trans h.c5,(hb.cell hn).trans h.c6,(hb.cell hn).trans h.c7,(hb.cell hn).trans h.c8,(hb.cell hn).trans h.c9,(hb.cell hn).trans h.c10,(hb.cell hn).trans h.c11⟩
def EC.Ok (W:World) (e:EC):Prop:=Cc W e.c e.A e.AL e.AO e.cp e.cL e.cO/\Small e.c
structure Ops (W:World) (A:Option Addr) (cap:Nat) (es:List EC):Prop where
 here:es≠[]->∃ b o,A=some ⟨b,o,none⟩/\b<W.heap.size/\∀ i e,es[i]? = some e->C12 W b (o+i * 12) e/\e.Ok W
 le:es.length<=cap
 cap:cap<=maxLen
def Does1 (g:GV) (c:GC) (y:GV):Prop:=ChkIs g c 0/\∃ h,g.get c.path=some h/\chkH h c=0/\g.put (doH h c) c.path=some y
def VlIn (ok:Nat->Prop) (W:World) (y:GV) (BL BO:Option Addr) (dL dO:Nat):Prop:=LstV ok W (.slice BL y.il.length dL) y.il/\ObjV ok W (.slice BO y.vz.length dO) y.keys y.vz
theorem VlIn.vl {ok:Nat->Prop} {W:World} {y:GV} {BL BO:Option Addr} {dL dO:Nat} (h:VlIn ok W y BL BO dL dO):Vl W y BL BO dL dO:=
 ⟨h.1.keep (From.refl _ _) (fun _ _ _=>trivial),h.2.keep (From.refl _ _) (fun _ _ _=>trivial)⟩
theorem VlIn.later {ok:Nat->Prop} {W W':World} {y:GV} {BL BO:Option Addr} {dL dO:Nat} (h:VlIn ok W y BL BO dL dO) (hb:Below W.heap.size W W'):VlIn ok W' y BL BO dL dO:=
 ⟨h.1.keep (fun k _ hk=>hb.block k hk) (fun _ hk _=>hk),h.2.keep (fun k _ hk=>hb.block k hk) (fun _ hk _=>hk)⟩
theorem zkB {g c} {w w':World} {e:Ending} (hc:ChkIs g c 0) (hd:DoesOut g c w e w'):∃ (z:GV) (BL BO:Option Addr) (dL dO:Nat),e=.returned (.tuple #[.agg #[.int .u8 z.kq,.int .i64 z.num,.string z.str,.slice BL z.il.length dL,.slice BO z.vz.length dO],.int .u16 0])/\Does1 g c z/\VlNew w.heap.size w' z BL BO dL dO/\Below w.heap.size w w':=by
 obtain ⟨hb,n,hn,⟨h0,_⟩ | ⟨_,h,z,BL,BO,dL,dO,h1,hk,h2,he,_,hv⟩⟩:=hd
 ·exact absurd (zdM hn hc) h0
 ·exact ⟨z,BL,BO,dL,dO,he,⟨hc,h,h1,hk,h2⟩,hv,hb⟩
end Go.Proofs.YthmcfjmignlhfaaGreatDoor
namespace Go.Proofs.YthmcfjmignlhfaaGreatDoor
open Go.Lib(hid)
open Go Go.RowKit
set_option linter.unusedVariables false
set_option linter.unusedSimpArgs false
def partS (s:ByteArray) (i m:Nat):ByteArray:=s.extract (cutS s i) (cutS s (i+m))
theorem zeg (s:ByteArray) (i m:Nat) (w:World) (hs:s.size<=70368744177664) (h1:1<=m) (him:i+m<=nChars s):
  Calls Tryz.prog 64 #[.string s,.int .i64 i,.int .i64 m] w fun e w'=>e=.returned (.string (partS s i m))/\Below w.heap.size w w':=by
 obtain ⟨hch,hle⟩:=zaP s;have HC:=hid hch;clear hch;generalize hc:nChars s=c at *;clear hc;have hc9:c<=70368744177664:=by omega
 have hl1:=zbI s (i+m);have hl2:cutS s i<=cutS s (i+m):=zfd (zcL s) i m;have HCL:=hid (fun W=>zbp (s.extract (cutS s i) (cutS s (i+m))) W (by simp [ByteArray.size_extract];omega))
 unfold partS;obtain ⟨fa,hfa⟩:∃ x,cutS s i=x:=⟨_,rfl⟩;obtain ⟨fb,hfb⟩:∃ x,cutS s (i+m)=x:=⟨_,rfl⟩;rw [hfa,hfb] at hl2 HCL ⊢;rw [hfb] at hl1;have HA:=hid hfa;have HB:=hid hfb;clear hfa hfb;obtain ⟨F,hF⟩:∃ F:Nat->Nat,∀ k,F k=if i<k then fa else 0:=⟨_,fun _=>rfl⟩
 obtain ⟨T,hT⟩:∃ T:Nat->Nat,∀ k,T k=if i+m<k then fb else s.size:=⟨_,fun _=>rfl⟩
 have HFF:=hid hF;have HTT:=hid hT;have hF0:F 0=0:=by rw [hF];simp
 have hT0:T 0=s.size:=by rw [hT];simp
 clear hF hT;go_enter Tryz.func64,Tryz.ntmps64
 go_wp2
 go_loopw [7,8,9,10] (fun f t n _ w'=>∃ k:Nat,w'=w.iter s (cutS s k)/\k<=c/\f=.int .i64 (F k:Nat)/\t=.int .i64 (T k:Nat)/\n=.int .i64 (k:Nat)) (fun _ _ _ _ w'=>s.size - w'.iterPos w.heap.size)
 case atStart=>exact ⟨0,rfl,Nat.zero_le _,by rw [hF0];rfl,by rw [hT0],rfl⟩
 case round=>
  obtain ⟨k,rfl,hk,rfl,rfl,rfl⟩:=hrel;by_cases hp:cutS s k<s.size
  ·have hkc:k<c:=(Chars.iff HC.out).1 hp
   have hnx:∀ ty,(Instr.next (.pointer (some ⟨w.heap.size,0,none⟩)) true ty).run Tryz.prog (w.iter s (cutS s k))=_:=fun ty=>run_next_any w s (cutS s k) ty hp
   have hnext:cutS s (k+1)=cutS s k+(Utf8.decode s (cutS s k)).2:=zfb hp;have hwd:=Lib.decode_width_pos s (cutS s k) hp;have HN:=hid hnext;clear hnext;have HFK:=hid (HFF.out k);have HTK:=hid (HTT.out k);have HF1:=hid (HFF.out (k+1));have HT1:=hid (HTT.out (k+1));generalize hpos:cutS s k=pos at *;have HPOS:=hid hpos;clear hpos;generalize F k=fk at *;generalize T k=tk at *;by_cases hki:k=i
   ·have z1:((k:Int) == (i:Int))=true:=by simp;omega
    have e1:F (k+1)=pos:=by rw [HF1.out,if_pos (by omega),<- HA.out,<- hki,HPOS.out]
    have e2:T (k+1)=tk:=by rw [HT1.out,HTK.out,if_neg (by omega),if_neg (by omega)]
    have HE:=hid (And.intro e1 e2);clear e1 e2 hki him h1;go_wp2
    go_roundw
    case rel=>exact ⟨k+1,by rw [HN.out],hkc,by rw [HE.out.1],by rw [HE.out.2],by go_num⟩
    case measure=>
     simp
     omega
   ·have z1:((k:Int) == (i:Int))=false:=by simp;omega
    by_cases hkm:k=i+m
    ·have z2:((k:Int) == (i:Int)+(m:Int))=true:=by simp;omega
     have e1:F (k+1)=fk:=by rw [HF1.out,HFK.out,if_pos (by omega),if_pos (by omega)]
     have e2:T (k+1)=pos:=by rw [HT1.out,if_pos (by omega),<- HB.out,<- hkm,HPOS.out]
     have HE:=hid (And.intro e1 e2);clear e1 e2;go_wp2
     go_roundw
     case rel=>exact ⟨k+1,by rw [HN.out],hkc,by rw [HE.out.1],by rw [HE.out.2],by go_num⟩
     case measure=>
      simp
      omega
    ·have z2:((k:Int) == (i:Int)+(m:Int))=false:=by simp;omega
     have e1:F (k+1)=fk:=by
      rw [HF1.out,HFK.out];by_cases h:i<k
      ·rw [if_pos (by omega),if_pos h]
      ·rw [if_neg (by omega),if_neg h]
     have e2:T (k+1)=tk:=by
      rw [HT1.out,HTK.out];by_cases h:i+m<k
      ·rw [if_pos (by omega),if_pos h]
      ·rw [if_neg (by omega),if_neg h]
     have HE:=hid (And.intro e1 e2);clear e1 e2;go_wp2
     go_roundw
     case rel=>exact ⟨k+1,by rw [HN.out],hkc,by rw [HE.out.1],by rw [HE.out.2],by go_num⟩
     case measure=>
      simp
      omega
  ·have hkc:k=c:=by
    have h1:¬ k<c:=fun h=>hp ((Chars.iff HC.out).2 h)
    omega
   have e1:F k=fa:=by rw [HFF.out,if_pos (by omega)]
   have e2:T k=fb:=by
    rw [HTT.out];by_cases h:i+m<k
    ·rw [if_pos h]
    ·rw [if_neg h,<- HB.out,show i+m=k by omega]
     have:=zbI s k;omega
   have hnx:∀ ty,(Instr.next (.pointer (some ⟨w.heap.size,0,none⟩)) true ty).run Tryz.prog (w.iter s (cutS s k))=_:=fun ty=>run_next_end w s (cutS s k) ty hp
   rw [e1,e2];clear e1 e2 hkc hp;generalize cutS s k=pos at *;have hf0:(0:Int)<=(fa:Int):=by omega
   have hf1:(fa:Int)<=(fb:Int):=by omega
   have hf2:(fb:Int)<=(s.size:Int):=by omega
   go_wp2_with (go_at_call 96;refine (HCL.out _).mono ?_;rintro e w1 ⟨rfl,hb⟩)
   go_ret
   exact ⟨rfl,(zdj w s pos).trans (hb.mono (zdj w s pos).size)⟩
end Go.Proofs.YthmcfjmignlhfaaGreatDoor
namespace Go.Proofs.YthmcfjmignlhfaaGreatDoor
open Go.Lib(hid)
open Go Go.RowKit Go.Shelf
set_option linter.unusedVariables false
set_option linter.unusedSimpArgs false
theorem infoInt:(Tryz.prog.info? 3).map (fun i=>(i.zero,i.size,i.bytes))=some (some (.int .i64 0),1,8):=by kernel_rfl
theorem zgR (s:ByteArray) (p:Nat) (w:World) (hp:p<s.size) (hT:Tabs w):Calls Tryz.prog 107 #[.string (s.extract p s.size)] w fun e w'=>∃ r:Int,e=.returned (.tuple #[.int .i32 r,.int .i64 (wdS s p)])/\Below w.heap.size w w':=
 (Tryz.utf8_DecodeRuneInString (s.extract p s.size) w hT).mono fun e w' ⟨he,hb⟩=>by
  have hz:(s.extract p s.size).size≠0:=by rw [zgb s p (by omega)];omega
  have hd:(Lib.decodeGo (s.extract p s.size)).2=wdS s p:=by
   have:=congrFun (zk6 s p) 0;unfold wdS at this ⊢;simp only [Lib.decodeGo,hz,if_false]
   simpa using this
  rw [hd] at he;exact ⟨_,he,hb⟩
def intV (n:Nat):Value:=.int .i64 n
def CutsOut (s:ByteArray) (m:Nat) (w:World) (e:Ending) (w':World):Prop:=
 ∃ b c,e=.returned (.slice (some ⟨b,0,none⟩) (m+1) c)/\w.heap.size<=b/\b<w'.heap.size/\(∀ k,k<=m->w'.cell? ⟨b,k,none⟩=some (.int .i64 (cutS s k)))/\Below w.heap.size w w'
def CutsRel (w:World) (s:ByteArray) (m:Nat) (v i:Value) (wr:World):Prop:=∃ k:Nat,i=.int .i64 (cutS s k)/\k<=m/\wr.ownsRow w.heap.size 3 1 v k ((cutsL (wdS s) s.size k).map intV)/\Below w.heap.size w wr
theorem zkz {s:ByteArray} {m:Nat} {w w':World} {v:Value} (hown:w'.ownsRow w.heap.size 3 1 v (m+1) ((cutsL (wdS s) s.size m).map intV++[.int .i64 s.size])) (he:cutS s m=s.size) (hb:Below w.heap.size w w'):CutsOut s m w (.returned v) w':=by
 rcases hown.2 with ⟨e,hn⟩ | ⟨g,cap,cur,e,hg,_⟩
 ·simp at hn
 ·subst e
  have hlt:=(hown.lt g rfl);refine ⟨g,cap,rfl,hlt.1,hlt.2,fun k hk=>?_,hb⟩
  have:=hown.cells (g:=g) rfl k (.int .i64 (cutS s k)) (by
   rw [show (cutsL (wdS s) s.size m).map intV++[.int .i64 s.size]=(cutsL (wdS s) s.size (m+1)).map intV by rw [zgd,List.map_append,show cutAt (wdS s) s.size m=s.size from he];rfl,List.getElem?_map,zjR _ _ _ (by omega)]
   rfl)
  by_cases e:k=0<;>simpa [Addr.add,e] using this
theorem zgV (s:ByteArray) (w:World) (hs:s.size<=1000000000) (hT:Tabs w):
  Calls Tryz.prog 82 #[.string s] w (CutsOut s (nChars s) w):=by
 obtain ⟨hch,hle⟩:=zaP s;have HC:=hid hch;have HT:=hid (fun W (hb:Below w.heap.size w W)=>hT.below hb (Nat.le_refl _))
 obtain ⟨i0,hi0,hz0,hz1,hz2⟩:=info_parts infoInt;have HI0:=hid (And.intro hi0 (And.intro hz0 (And.intro hz1 hz2)));clear hi0 hz0 hz1 hz2 hch hT;generalize hm:nChars s=m at *;clear hm;go_enter Tryz.func82,Tryz.ntmps82
 go_wp2
 go_loopw [3,4] (CutsRel w s m) (fun _ i _=>s.size - (intOf i).toNat)
 case atStart=>exact ⟨0,rfl,Nat.zero_le _,World.ownsRow_nil _ _ _ _,Below.refl _ _⟩
 case round=>
  obtain ⟨k,rfl,hk,hown,hB⟩:=hrel;obtain ⟨A,cp,rfl⟩:=zag hown;have HO:=hid hown;have HB:=hid hB;have hmax:k+1<=maxLen:=by unfold maxLen;omega
  have hby:(k+1) * 8<=140737488355328:=by omega
  have HM:=hid (And.intro hmax hby);clear hmax hby hown hB;by_cases hp:cutS s k<s.size
  ·have hkc:k<m:=(Chars.iff HC.out).1 hp
   have hnext:cutS s (k+1)=cutS s k+wdS s (cutS s k):=zfb hp;have hwd:=zcL s (cutS s k) hp;have HCS:=hid (show (cutsL (wdS s) s.size (k+1)).map intV=(cutsL (wdS s) s.size k).map intV++[.int .i64 (cutS s k)] by rw [zgd,List.map_append];rfl)
   have HN:=hid hnext;have HD:=hid (fun W (hb:Below w.heap.size w W)=>zgR s (cutS s k) W hp (HT.out W hb))
   generalize cutS s k=p at *;generalize wdS s p=d at *;clear hnext
   go_wp2_with (first
    | (at_builtin;refine wpList_append_own_at _ rfl (.tmp 11) (.tmp 13) 117 rfl w.heap.size 3 i0 _ 1 8 Tryz.underlying117 HI0.out.1 HI0.out.2.1 HI0.out.2.2.1 HI0.out.2.2.2 rfl (by decide) (.slice A k cp) k _ rfl (HO.out.alloc _) ⟨wr.heap.size,0,none⟩ 1 1 [.int .i64 p] rfl rfl (row_cells' _ _ rfl _ _) (by simp [Value.oneCell']) HM.out.1 HM.out.2 (by have:=HB.out.size;simp;omega) ?_;intro v3 W3 hown3 hgrow3 _ hat3;obtain ⟨A3,c3,rfl⟩:=zag hown3;have H3:=hid (And.intro hown3 ((HB.out.alloc HB.out.size _).grown hgrow3 (by have:=HB.out.size;simp;omega) (fun j hj=>(HO.out.lt j hj).1)));clear hown3 hgrow3 hat3)
    | (go_at_call 107;refine (HD.out _ H3.out.2).mono ?_;rintro e w4 ⟨r,rfl,hb⟩;have H4:=hid (And.intro (zaE H3.out.1 hb) (H3.out.2.trans (hb.mono H3.out.2.size)));clear hb))
   go_roundw
   case rel=>exact ⟨k+1,by rw [HN.out];go_num,hkc,by rw [HCS.out];exact H4.out.1,H4.out.2⟩
   case measure=>simp [intOf];omega
  ·have hkc:k=m:=by
    have h1:¬ k<m:=fun h=>hp ((Chars.iff HC.out).2 h)
    omega
   have hend:cutS s k=s.size:=by have:=zbI s k;omega
   subst hkc;have HE:=hid hend;rw [hend];clear hp hend
   go_wp2_with (at_builtin;refine wpList_append_own_at _ rfl (.tmp 25) (.tmp 28) 117 rfl w.heap.size 3 i0 _ 1 8 Tryz.underlying117 HI0.out.1 HI0.out.2.1 HI0.out.2.2.1 HI0.out.2.2.2 rfl (by decide) (.slice A k cp) k _ rfl (HO.out.alloc _) ⟨wr.heap.size,0,none⟩ 1 1 [.int .i64 s.size] rfl rfl (row_cells' _ _ rfl _ _) (by simp [Value.oneCell']) HM.out.1 HM.out.2 (by have:=HB.out.size;simp;omega) ?_;intro v3 W3 hown3 hgrow3 _ hat3;have H3:=hid (zkz hown3 HE.out ((HB.out.alloc HB.out.size _).grown hgrow3 (by have:=HB.out.size;simp;omega) (fun j hj=>(HO.out.lt j hj).1)));obtain ⟨A3,c3,rfl⟩:=zag hown3;clear hown3 hgrow3 hat3)
   go_ret
   exact H3.out
theorem zgr (s:ByteArray) (w:World) (hs:s.size<=1000000000) (hT:Tabs w):
  Calls Tryz.prog 71 #[.string s] w fun e w'=>e=.returned (.int .i64 (nChars s))/\Below w.heap.size w w':=by
 have HL:=hid (zgV s w hs hT);have hle:=(zaP s).2;generalize nChars s=m at *;go_enter Tryz.func71,Tryz.ntmps71
 go_wp2_with (go_at_call 82;refine HL.out.mono ?_;rintro e w1 ⟨b,c,rfl,_,_,_,hb⟩;have H1:=hid hb;clear hb)
 go_ret
 exact ⟨zg6 (by omega),H1.out⟩
end Go.Proofs.YthmcfjmignlhfaaGreatDoor
namespace Go.Proofs.YthmcfjmignlhfaaGreatDoor
open Go.Lib(hid)
open Go Go.RowKit Go.Shelf
set_option linter.unusedVariables false
set_option linter.unusedSimpArgs false
theorem zcY (s:ByteArray) (c:GC) (A AL AO:Option Addr) (cp cL cO:Nat) (w:World) (hs:s.size<=1000000000) (hT:Tabs w) (hk:c.kq=8\/c.kq=9):
  Calls Tryz.prog 81 #[.string s,.agg #[.int .u8 c.kq,.slice A c.path.length cp,.string c.key,.int .i64 c.i,.int .i64 c.j,.int .i64 c.n,.int .u8 c.v.kq,.int .i64 c.v.num,.string c.v.str,.slice AL c.v.il.length cL,.slice AO c.v.vz.length cO,.string c.s]] w fun e w'=>e=.returned (.int .i64 (chkT (nChars s) c.kq.toNat c.i c.n))/\Below w.heap.size w w':=by
 have HL:=hid (fun W (hb:Below w.heap.size w W)=>zgr s W hs (hT.below hb (Nat.le_refl _)))
 have hle:nChars s<=1000000000:=Nat.le_trans (zaP s).2 hs;have H0:=hid (Whole.new w 48 #[.int .u8 c.kq,.slice A c.path.length cp,.string c.key,.int .i64 c.i,.int .i64 c.j,.int .i64 c.n,.int .u8 c.v.kq,.int .i64 c.v.num,.string c.v.str,.slice AL c.v.il.length cL,.slice AO c.v.vz.length cO,.string c.s]);have HB:=hid (zab w (.cells #[.int .u8 c.kq,.slice A c.path.length cp,.string c.key,.int .i64 c.i,.int .i64 c.j,.int .i64 c.n,.int .u8 c.v.kq,.int .i64 c.v.num,.string c.v.str,.slice AL c.v.il.length cL,.slice AO c.v.vz.length cO,.string c.s] 48));clear hT;obtain ⟨c0,c1,c2,c3,c4,c5,c6,c7,c8,c9,c10,c11,_⟩:=H0.out.tw;rcases hk with hk | hk
 ·have hk8:(c.kq != 8)=false:=by simp;omega
  have hk9:(c.kq == 9)=false:=by simp;omega
  rw [show chkT (nChars s) c.kq.toNat c.i c.n=if c.i<0 then 32 else if (nChars s:Int)<c.i then 32 else 0 by unfold chkT;rw [show c.kq.toNat=8 by omega];simp;repeat' split;all_goals omega]
  clear hk;generalize nChars s=m at *;by_cases h0:c.i<0<;>by_cases h1:(m:Int)<c.i<;>first | (exfalso;omega) | (have K0:=hid h0;have K1:=hid h1;(go_enter Tryz.func81,Tryz.ntmps81;go_wp2_with (go_at_call 71;refine (HL.out _ HB.out).mono ?_;rintro e w1 ⟨rfl,hb⟩;have H1:=hid (H0.out.below hb (by simp));have HB1:=hid (HB.out.trans (hb.mono (by simp)));clear c0 c1 c2 c3 c4 c5 c6 c7 c8 c9 c10 c11;obtain ⟨c0,c1,c2,c3,c4,c5,c6,c7,c8,c9,c10,c11,_⟩:=H1.out.tw;clear hb);go_ret;exact ⟨by simp [K0.out,K1.out],HB1.out⟩))
 ·have hk8:(c.kq != 8)=true:=by simp;omega
  have hk9n:(c.kq != 9)=false:=by simp;omega
  have hk9:(c.kq == 9)=true:=by simp;omega
  rw [show chkT (nChars s) c.kq.toNat c.i c.n=if c.i<0 then 32 else if (nChars s:Int)<c.i then 32 else if c.n<1 then 32 else if (nChars s:Int) - c.i<c.n then 32 else 0 by unfold chkT;rw [show c.kq.toNat=9 by omega];simp;repeat' split;all_goals omega]
  clear hk;generalize nChars s=m at *;by_cases h0:c.i<0<;>by_cases h1:(m:Int)<c.i<;>by_cases h2:c.n<1<;>by_cases h3:(m:Int) - c.i<c.n<;>first | (exfalso;omega) | (have K0:=hid h0;have K1:=hid h1;have K2:=hid h2;have K3:=hid h3;(go_enter Tryz.func81,Tryz.ntmps81;go_wp2_with (go_at_call 71;refine (HL.out _ HB.out).mono ?_;rintro e w1 ⟨rfl,hb⟩;have H1:=hid (H0.out.below hb (by simp));have HB1:=hid (HB.out.trans (hb.mono (by simp)));clear c0 c1 c2 c3 c4 c5 c6 c7 c8 c9 c10 c11;obtain ⟨c0,c1,c2,c3,c4,c5,c6,c7,c8,c9,c10,c11,_⟩:=H1.out.tw;clear hb);go_ret;exact ⟨by simp [K0.out,K1.out,K2.out,K3.out],HB1.out⟩))
end Go.Proofs.YthmcfjmignlhfaaGreatDoor
namespace Go.Proofs.YthmcfjmignlhfaaGreatDoor
open Go.Lib(hid)
open Go Go.RowKit Go.Shelf
set_option linter.unusedVariables false
set_option linter.unusedSimpArgs false
theorem zib (s:ByteArray) (c:GC) (i n:Nat) (A AL AO:Option Addr) (cp cL cO:Nat) (w:World) (hs:s.size<=1000000000) (hT:Tabs w) (hk:c.kq=9) (hi:c.i=i) (hn:c.n=n) (h1:1<=n) (hin:i+n<=nChars s):
  Calls Tryz.prog 49 #[.string s,.agg #[.int .u8 c.kq,.slice A c.path.length cp,.string c.key,.int .i64 c.i,.int .i64 c.j,.int .i64 c.n,.int .u8 c.v.kq,.int .i64 c.v.num,.string c.v.str,.slice AL c.v.il.length cL,.slice AO c.v.vz.length cO,.string c.s]] w fun e w'=>e=.returned (.tuple #[.string (delS s i n),.int .i64 0])/\Below w.heap.size w w':=by
 have h0:chkT (nChars s) c.kq.toNat c.i c.n=0:=by
  unfold chkT;rw [show c.kq.toNat=9 by omega,hi,hn]
  simp
  omega
 have HCK:=hid (fun W (hb:Below w.heap.size w W)=>zcY s c A AL AO cp cL cO W hs (hT.below hb (Nat.le_refl _)) (.inr hk))
 rw [h0] at HCK;have HCU:=hid (fun W (hb:Below w.heap.size w W)=>zgV s W hs (hT.below hb (Nat.le_refl _)))
 have hcl:=zbI s i;have hcl2:=zbI s (i+n);have hnl:=(zaP s).2;have hk8:(c.kq == 8)=false:=by simp;omega
 have H0:=hid (Whole.new w 48 #[.int .u8 c.kq,.slice A c.path.length cp,.string c.key,.int .i64 c.i,.int .i64 c.j,.int .i64 c.n,.int .u8 c.v.kq,.int .i64 c.v.num,.string c.v.str,.slice AL c.v.il.length cL,.slice AO c.v.vz.length cO,.string c.s]);have HB:=hid (zab w (.cells #[.int .u8 c.kq,.slice A c.path.length cp,.string c.key,.int .i64 c.i,.int .i64 c.j,.int .i64 c.n,.int .u8 c.v.kq,.int .i64 c.v.num,.string c.v.str,.slice AL c.v.il.length cL,.slice AO c.v.vz.length cO,.string c.s] 48));rw [hi,hn] at HCK H0 HB ⊢;show Calls _ _ _ w fun e w'=>e=.returned (.tuple #[.string (s.extract 0 (cutS s i)++s.extract (cutS s (i+n)) s.size),.int .i64 0])/\Below w.heap.size w w'
 have hsz1:(s.extract 0 (cutS s i)).size=cutS s i:=by simp [ByteArray.size_extract];omega
 have hsz3:(s.extract (cutS s (i+n)) s.size).size=s.size - cutS s (i+n):=zgb s _ hcl2;have hp1:¬ 9223372036854775807<(s.extract 0 (cutS s i)).size+(s.extract (cutS s (i+n)) s.size).size:=by omega
 have HI:=hid hin;clear hk hi hn h0 hT;generalize nChars s=m at *;generalize hf:cutS s i=f at *;generalize hf':cutS s (i+n)=f' at *;have HF:=hid (And.intro hf hf');have hf0:(0:Int)<=(f:Int):=by omega
 have hf1:(f:Int)<=(s.size:Int):=by omega
 have hf2:(0:Int)<=(f':Int):=by omega
 have hf3:(f':Int)<=(s.size:Int):=by omega
 have hi0:(0:Int)<=(i:Int):=by omega
 have hi1:(i:Int)<((m+1:Nat):Int):=by omega
 have hi2:(0:Int)<=(i:Int)+(n:Int):=by omega
 have hi3:(i:Int)+(n:Int)<((m+1:Nat):Int):=by omega
 have hwr:IntKind.i64.wrap ((i:Int)+(n:Int))=(i:Int)+(n:Int):=IntWalk.i64_in _ (by omega)
 have htn:((i:Int)+(n:Int)).toNat=i+n:=by omega
 clear hf hf' hsz1 hsz3 hin;go_enter Tryz.func49,Tryz.ntmps49
 go_wp2_with (first
  | (go_at_call 81;refine (HCK.out _ HB.out).mono ?_;rintro e w1 ⟨rfl,hb⟩;have H1:=hid (And.intro (H0.out.below hb (by simp)) (HB.out.trans (hb.mono (by simp))));clear hb;obtain ⟨c0,c1,c2,c3,c4,c5,c6,c7,c8,c9,c10,c11,_⟩:=H1.out.1.tw)
  | (go_at_call 82;refine (HCU.out _ H1.out.2).mono ?_;rintro e w2 ⟨b,cap,rfl,_,_,hcut,hb⟩;have H2:=hid (And.intro (H1.out.1.below hb H1.out.1.lt) (H1.out.2.trans (hb.mono H1.out.2.size)));have q0:=(hcut i (by have:=HI.out;omega));have q1:=(hcut (i+n) HI.out);rw [HF.out.1] at q0;rw [HF.out.2] at q1;clear hcut hb c0 c1 c2 c3 c4 c5 c6 c7 c8 c9 c10 c11;obtain ⟨c0,c1,c2,c3,c4,c5,c6,c7,c8,c9,c10,c11,_⟩:=H2.out.1.tw))
 go_region
 go_wp2
 go_ret2
 exact ⟨rfl,H2.out.2.drew⟩
end Go.Proofs.YthmcfjmignlhfaaGreatDoor
namespace Go.Proofs.YthmcfjmignlhfaaGreatDoor
open Go.Lib(hid)
open Go Go.RowKit Go.Shelf
set_option linter.unusedVariables false
set_option linter.unusedSimpArgs false
def tdelC (i n:Nat):GC:=⟨9,[],⟨#[]⟩,i,0,n,noG,⟨#[]⟩⟩
theorem zeq (s:ByteArray) (i n:Nat) (w:World) (hs:s.size<=1000000000) (hT:Tabs w) (h1:1<=n) (hin:i+n<=nChars s):
  Calls Tryz.prog 49 #[.string s,.agg #[.int .u8 9,.slice none 0 0,.string ⟨#[]⟩,.int .i64 i,.int .i64 0,.int .i64 n,.int .u8 0,.int .i64 0,.string ⟨#[]⟩,.slice none 0 0,.slice none 0 0,.string ⟨#[]⟩]] w fun e w'=>e=.returned (.tuple #[.string (delS s i n),.int .i64 0])/\Below w.heap.size w w':=
 zib s (tdelC i n) i n none none none 0 0 0 w hs hT rfl rfl rfl h1 hin
theorem zjS (s:ByteArray) (i m:Nat) (w:World) (hs:s.size<=1000000000) (hT:Tabs w) (h1:1<=m) (him:i+m<=nChars s):
  Calls Tryz.prog 72 #[.string s,.int .i64 i,.int .i64 m] w fun e w'=>e=.returned (.string (partS s i m))/\Below w.heap.size w w':=by
 obtain ⟨hch,hle⟩:=zaP s;have HL:=hid (zgr s w hs hT);have HD:=hid (fun (W:World) (hb:Below w.heap.size w W)=>zeq s i (nChars s - i) W hs (hT.below hb (Nat.le_refl _)) (by omega) (by omega))
 have HE:=hid (fun (W:World) (hb:Below w.heap.size w W)=>zeq s i m W hs (hT.below hb (Nat.le_refl _)) h1 him)
 have hall:cutS s (i+(nChars s - i))=s.size:=by
  rw [show i+(nChars s - i)=nChars s by omega]
  have:=zbI s (nChars s);have:¬ cutS s (nChars s)<s.size:=fun h=>by have:=(Chars.iff hch).1 h;omega
  omega
 have hl1:=zbI s (i+m);have hl0:=zbI s i;have hl2:cutS s i<=cutS s (i+m):=zfd (zcL s) i m;have hz1:(delS s i (nChars s - i)).size=cutS s i:=by
  unfold delS;rw [hall];simp [ByteArray.size_extract]
  omega
 have hz2:(delS s i m).size=s.size - (cutS s (i+m) - cutS s i):=by
  unfold delS;simp [ByteArray.size_extract]
  omega
 have HP:=hid (show s.extract (cutS s i) (cutS s (i+m))=partS s i m from rfl);generalize delS s i (nChars s - i)=x at *;generalize delS s i m=y at *;generalize partS s i m=z at *;generalize cutS s i=a at *;generalize cutS s (i+m)=b at *;generalize hc:nChars s=c at *;clear hc hch hall;have hd9:((c - i:Nat):Int)=(c:Int) - (i:Int):=by omega
 rw [hd9] at HD;have hci:(i:Int)<(c:Int):=by omega
 have hc9:(c:Int)<=1000000000:=by omega
 have hx0:(0:Int)<=(x.size:Int):=by omega
 have hx1:(x.size:Int)<=(x.size:Int)+(s.size:Int) - (y.size:Int):=by omega
 have hx2:(x.size:Int)+(s.size:Int) - (y.size:Int)<=(s.size:Int):=by omega
 have HX:=hid (show ((x.size:Int)+(s.size:Int) - (y.size:Int)).toNat=b by omega)
 have HA:=hid (show x.size=a by omega)
 clear hz1 hz2 hl0 hl1 hl2 hle h1 him hd9;go_enter Tryz.func72,Tryz.ntmps72
 go_wp2_with (first
  | (go_at_call 71;refine HL.out.mono ?_;rintro e w1 ⟨rfl,hb⟩;have H1:=hid hb;clear hb)
  | (have h1x:=H1.out;go_at_call 49;refine (HD.out _ H1.out).mono ?_;rintro e w2 ⟨rfl,hb⟩;have H2:=hid (H1.out.trans (hb.mono H1.out.size));clear hb h1x H1)
  | (go_at_call 49;refine (HE.out _ H2.out).mono ?_;rintro e w3 ⟨rfl,hb⟩;have H3:=hid (H2.out.trans (hb.mono H2.out.size));clear hb))
 go_ret
 refine ⟨?_,H3.out⟩
 rw [<- HP.out,<- HA.out,<- HX.out];simp
 congr 1
end Go.Proofs.YthmcfjmignlhfaaGreatDoor
namespace Go.Proofs.YthmcfjmignlhfaaGreatDoor
open Go.Lib(hid)
open Go Go.RowKit
set_option linter.unusedVariables false
set_option linter.unusedSimpArgs false
theorem zia (k:Nat) (i j:Int) (g:GV) (A AL AO:Option Addr) (pl cp cL cO:Nat) (ky cs:ByteArray) (n:Int) (w:World):Calls Tryz.prog 108 #[.agg #[.int .u8 k,.slice A pl cp,.string ky,.int .i64 i,.int .i64 j,.int .i64 n,.int .u8 g.kq,.int .i64 g.num,.string g.str,.slice AL g.il.length cL,.slice AO g.vz.length cO,.string cs]] w fun e w'=>e=.returned (.bool (listK k))/\Below w.heap.size w w':=by
 rcases (show k=4\/k=5\/k=6\/k=7\/(k≠4/\k≠5/\k≠6/\k≠7) by omega) with rfl | rfl | rfl | rfl | ⟨h4,h5,h6,h7⟩
 case inr.inr.inr.inr=>
  rw [show listK k=false by simp [listK,h4,h5,h6,h7]]
  have g4:((k:Int) == 4)=false:=by simp;omega
  have g5:((k:Int) == 5)=false:=by simp;omega
  have g6:((k:Int) == 6)=false:=by simp;omega
  have g7:((k:Int) == 7)=false:=by simp;omega
  clear h4 h5 h6 h7;go_enter Tryz.func108,Tryz.ntmps108
  go_wp2
  go_ret
  exact ⟨rfl,zab _ _⟩
 all_goals
  go_enter Tryz.func108,Tryz.ntmps108
  go_wp2
  go_ret
  exact ⟨rfl,zab _ _⟩
theorem zb5 (M k:Nat) (i j:Int) (g:GV) (A AL AO:Option Addr) (pl cp cL cO:Nat) (ky cs:ByteArray) (n:Int) (w:World):Calls Tryz.prog 83 #[.int .i64 M,.agg #[.int .u8 k,.slice A pl cp,.string ky,.int .i64 i,.int .i64 j,.int .i64 n,.int .u8 g.kq,.int .i64 g.num,.string g.str,.slice AL g.il.length cL,.slice AO g.vz.length cO,.string cs]] w fun e w'=>e=.returned (.int .i64 (chk M k i j))/\Below w.heap.size w w':=by
 have H0:=hid (Whole.new w 48 #[.int .u8 k,.slice A pl cp,.string ky,.int .i64 i,.int .i64 j,.int .i64 n,.int .u8 g.kq,.int .i64 g.num,.string g.str,.slice AL g.il.length cL,.slice AO g.vz.length cO,.string cs]);have HB:=hid (zab w (.cells #[.int .u8 k,.slice A pl cp,.string ky,.int .i64 i,.int .i64 j,.int .i64 n,.int .u8 g.kq,.int .i64 g.num,.string g.str,.slice AL g.il.length cL,.slice AO g.vz.length cO,.string cs] 48));have HKN:=hid (fun W=>zia k i j g A AL AO pl cp cL cO ky cs n W)
 have hr:chk M k i j=if listK k=false then 31 else if (i<0\/(M:Int)<i)\/(i=M/\k≠4) then 32 else if k=7/\(j<0\/(M:Int)<=j) then 32 else 0:=by
  unfold chk withinB listK;by_cases h4:k=4
  ·subst h4;simp;split<;>split<;>omega
  ·by_cases h5:k=5
   ·subst h5;simp;split<;>split<;>omega
   ·by_cases h6:k=6
    ·subst h6;simp;split<;>split<;>omega
    ·by_cases h7:k=7
     ·subst h7;simp;(repeat' split)<;>omega
     ·simp [h4,h5,h6,h7]
 generalize chk M k i j=r at *;have HR:=hid hr;clear hr;have g4:((k:Int) != 4) = !decide (k=4):=by by_cases h:k=4<;>simp [h];omega
 have g7:((k:Int) == 7)=decide (k=7):=by by_cases h:k=7<;>simp [h];omega
 have G4:=hid g4;have G7:=hid g7;clear g4 g7;cases hl:listK k
 ·have h:=HR.out
  rw [if_pos hl] at h;subst h;rw [hl] at HKN;clear HR hl;go_enter Tryz.func83,Tryz.ntmps83
  go_wp2_with (go_at_call 108;refine (HKN.out _).mono ?_;rintro e w1 ⟨rfl,hb⟩;have B1:=hid (HB.out.trans (hb.mono HB.out.size));clear hb)
  go_ret
  exact ⟨rfl,B1.out⟩
 ·have h:=HR.out
  rw [if_neg (by simp [hl])] at h
  rw [hl] at HKN;clear HR hl;by_cases c1:(i<0\/(M:Int)<i)\/(i=M/\k≠4)
  ·rw [if_pos c1] at h
   subst h;rcases c1 with (c1 | c1) | ⟨c1,c2⟩
   ·have e1:decide (i<0)=true:=by simpa using c1
    go_enter Tryz.func83,Tryz.ntmps83
    go_wp2_with (go_at_call 108;refine (HKN.out _).mono ?_;rintro e w1 ⟨rfl,hb⟩;have H1:=hid (H0.out.below hb H0.out.lt);have B1:=hid (HB.out.trans (hb.mono HB.out.size));have q0:=H1.out.tw.c0;have q3:=H1.out.tw.c3;have q4:=H1.out.tw.c4;clear hb)
    go_ret
    exact ⟨rfl,B1.out⟩
   ·have e1:decide (i<0)=false:=by simp;omega
    have e2:decide ((M:Int)<i)=true:=by simpa using c1
    go_enter Tryz.func83,Tryz.ntmps83
    go_wp2_with (go_at_call 108;refine (HKN.out _).mono ?_;rintro e w1 ⟨rfl,hb⟩;have H1:=hid (H0.out.below hb H0.out.lt);have B1:=hid (HB.out.trans (hb.mono HB.out.size));have q0:=H1.out.tw.c0;have q3:=H1.out.tw.c3;have q4:=H1.out.tw.c4;clear hb)
    go_ret
    exact ⟨rfl,B1.out⟩
   ·have g4:((k:Int) != 4)=true:=by rw [G4.out];simpa using c2
    have e1:decide (i<0)=false:=by simp;omega
    have e2:decide ((M:Int)<i)=false:=by simp;omega
    have e3:(i == (M:Int))=true:=by simpa using c1
    clear c1 c2;go_enter Tryz.func83,Tryz.ntmps83
    go_wp2_with (go_at_call 108;refine (HKN.out _).mono ?_;rintro e w1 ⟨rfl,hb⟩;have H1:=hid (H0.out.below hb H0.out.lt);have B1:=hid (HB.out.trans (hb.mono HB.out.size));have q0:=H1.out.tw.c0;have q3:=H1.out.tw.c3;have q4:=H1.out.tw.c4;clear hb)
    go_ret
    exact ⟨rfl,B1.out⟩
  ·rw [if_neg c1] at h
   have e1:decide (i<0)=false:=by simp;omega
   have e2:decide ((M:Int)<i)=false:=by simp;omega
   by_cases im:i=M
   ·have hk:k=4:=by omega
    have g4:((k:Int) != 4)=false:=by rw [G4.out];simpa using hk
    have g7:((k:Int) == 7)=false:=by rw [G7.out];simp;omega
    have e3:(i == (M:Int))=true:=by simpa using im
    rw [if_neg (by omega)] at h
    subst h;clear im hk c1;go_enter Tryz.func83,Tryz.ntmps83
    go_wp2_with (go_at_call 108;refine (HKN.out _).mono ?_;rintro e w1 ⟨rfl,hb⟩;have H1:=hid (H0.out.below hb H0.out.lt);have B1:=hid (HB.out.trans (hb.mono HB.out.size));have q0:=H1.out.tw.c0;have q3:=H1.out.tw.c3;have q4:=H1.out.tw.c4;clear hb)
    go_ret
    exact ⟨rfl,B1.out⟩
   ·have e3:(i == (M:Int))=false:=by simpa using im
    clear im c1;by_cases k7:k=7
    ·have g7:((k:Int) == 7)=true:=by rw [G7.out];simpa using k7
     by_cases j0:j<0
     ·have e4:decide (j<0)=true:=by simpa using j0
      rw [if_pos ⟨k7,.inl j0⟩] at h;subst h;clear k7 j0;go_enter Tryz.func83,Tryz.ntmps83
      go_wp2_with (go_at_call 108;refine (HKN.out _).mono ?_;rintro e w1 ⟨rfl,hb⟩;have H1:=hid (H0.out.below hb H0.out.lt);have B1:=hid (HB.out.trans (hb.mono HB.out.size));have q0:=H1.out.tw.c0;have q3:=H1.out.tw.c3;have q4:=H1.out.tw.c4;clear hb)
      go_ret
      exact ⟨rfl,B1.out⟩
     ·have e4:decide (j<0)=false:=by simp;omega
      by_cases j1:(M:Int)<=j
      ·have e5:decide ((M:Int)<=j)=true:=by simpa using j1
       rw [if_pos ⟨k7,.inr j1⟩] at h;subst h;clear k7 j0 j1;go_enter Tryz.func83,Tryz.ntmps83
       go_wp2_with (go_at_call 108;refine (HKN.out _).mono ?_;rintro e w1 ⟨rfl,hb⟩;have H1:=hid (H0.out.below hb H0.out.lt);have B1:=hid (HB.out.trans (hb.mono HB.out.size));have q0:=H1.out.tw.c0;have q3:=H1.out.tw.c3;have q4:=H1.out.tw.c4;clear hb)
       go_ret
       exact ⟨rfl,B1.out⟩
      ·have e5:decide ((M:Int)<=j)=false:=by simp;omega
       rw [if_neg (by omega)] at h
       subst h;clear k7 j0 j1;go_enter Tryz.func83,Tryz.ntmps83
       go_wp2_with (go_at_call 108;refine (HKN.out _).mono ?_;rintro e w1 ⟨rfl,hb⟩;have H1:=hid (H0.out.below hb H0.out.lt);have B1:=hid (HB.out.trans (hb.mono HB.out.size));have q0:=H1.out.tw.c0;have q3:=H1.out.tw.c3;have q4:=H1.out.tw.c4;clear hb)
       go_ret
       exact ⟨rfl,B1.out⟩
    ·have g7:((k:Int) == 7)=false:=by rw [G7.out];simpa using k7
     rw [if_neg (by omega)] at h
     subst h;clear k7;go_enter Tryz.func83,Tryz.ntmps83
     go_wp2_with (go_at_call 108;refine (HKN.out _).mono ?_;rintro e w1 ⟨rfl,hb⟩;have H1:=hid (H0.out.below hb H0.out.lt);have B1:=hid (HB.out.trans (hb.mono HB.out.size));have q0:=H1.out.tw.c0;have q3:=H1.out.tw.c3;have q4:=H1.out.tw.c4;clear hb)
     go_ret
     exact ⟨rfl,B1.out⟩
theorem zjb {g W AL AO cL cO} (hv:Vl W g AL AO cL cO) (hw:g.weight<=1000000000):Calls Tryz.prog 22 #[.agg #[.int .u8 g.kq,.int .i64 g.num,.string g.str,.slice AL g.il.length cL,.slice AO g.vz.length cO]] W fun e w'=>
   ∃ CL CO eL eO,e=.returned (.agg #[.int .u8 g.kq,.int .i64 g.num,.string g.str,.slice CL g.il.length eL,.slice CO g.vz.length eO])/\(LstV (fun k=>W.heap.size<=k) w' (.slice CL g.il.length eL) g.il/\ObjV (fun k=>W.heap.size<=k) w' (.slice CO g.vz.length eO) g.keys g.vz)/\Below W.heap.size W w':=
 (zhq g.size _ _ g W (Nat.le_refl _) hv.val (Nat.le_trans (zac _) hw)).mono fun e w' ⟨v',he,⟨L,O,e2,hL,hO⟩,hb⟩=>by
  obtain ⟨BL,dL,rfl⟩:=zaf hL;obtain ⟨BO,dO,rfl⟩:=zae hO;exact ⟨BL,BO,dL,dO,by rw [he,e2],⟨hL,hO⟩,hb⟩
end Go.Proofs.YthmcfjmignlhfaaGreatDoor
