/- The document's own Get. -/
import Derived.Test.YtlhfnemcpgfcdaaDoorQ11
import Derived.Test.YtlhfnemcpgfcdaaDoorQ14
import Derived.Deep.RegionWith
import Derived.Deep.DeepCutAuto
import Derived.Deep.CutRange
set_option maxHeartbeats 4000000
namespace Go.Proofs.YtlhfnemcpgfcdaaDoor
open Go Go.RowKit
structure RG (w:World) (h:GV) (BL BO:Option Addr) (dL dO:Nat) (W:World):Prop where
 below:Below w.heap.size w W
 box:Whole W w.heap.size 31 #[.int .u8 h.kind,.int .i64 h.num,.string h.str,.slice BL h.items.length dL,.slice BO h.vals.length dO]
 res:Whole W (w.heap.size+1) 31 ZC
 lst:LstV (fun k=>k<w.heap.size) W (.slice BL h.items.length dL) h.items
 obj:ObjV (fun k=>k<w.heap.size) W (.slice BO h.vals.length dO) h.keys h.vals
theorem RG.later {w W W':World} {h:GV} {BL BO:Option Addr} {dL dO:Nat} (q:RG w h BL BO dL dO W) (hb:Below W.heap.size W W'):RG w h BL BO dL dO W':=
 ⟨q.below.trans (hb.mono q.below.size),q.box.below hb q.box.lt,q.res.below hb q.res.lt,q.lst.keep (From.of_below hb) (fun _ h _=>h),q.obj.keep (From.of_below hb) (fun _ h _=>h)⟩
def RGRel (w:World) (g:GV) (ps:List GStep) (i:Value) (wr:World):Prop:=
 ∃ (k:Nat) (h:GV) (BL BO:Option Addr) (dL dO:Nat),i=.int .i64 k∧k≤ps.length∧g.get ps=h.get (ps.drop k)∧RG w h BL BO dL dO wr∧h.size≤g.size
def RGet (g:GV) (ps:List GStep) (w:World) (e:Ending) (w':World):Prop:=
 Below w.heap.size w w'∧((g.get ps=none∧e=.returned (.tuple #[zeroV,.int .i64 30]))∨∃ h v',g.get ps=some h∧e=.returned (.tuple #[v',.int .i64 0])∧h.val (fun k=>w.heap.size≤k) w' v')
def CutS (w wr:World) (h':GV) (t7 t8 t9:Value) (W:World):Prop:=
 Below wr.heap.size wr W∧t9=.int .i64 0∧∃ (X:Nat) (BL BO:Option Addr) (dL dO:Nat) (k:Nat),t7=.pointer (some ⟨X,0,none⟩)∧t8=.int .i64 k∧Whole W X 31 #[.int .u8 h'.kind,.int .i64 h'.num,.string h'.str,.slice BL h'.items.length dL,.slice BO h'.vals.length dO] ∧
  LstV (fun k=>k<w.heap.size) wr (.slice BL h'.items.length dL) h'.items∧ObjV (fun k=>k<w.heap.size) wr (.slice BO h'.vals.length dO) h'.keys h'.vals
def CutN (wr:World) (t7 t8 t9:Value) (W:World):Prop:=Below wr.heap.size wr W∧t9=.int .i64 30∧∃ (X:Nat) (k:Int),t7=.pointer (some ⟨X,0,none⟩)∧t8=.int .i64 k
theorem rg_start {ok:Nat→Prop} {w:World} {g:GV} {AL AO:Option Addr} {cL cO:Nat} (hL:LstV ok w (.slice AL g.items.length cL) g.items) (hO:ObjV ok w (.slice AO g.vals.length cO) g.keys g.vals):
  RG w g AL AO cL cO ((w.alloc (.cells #[.int .u8 g.kind,.int .i64 g.num,.string g.str,.slice AL g.items.length cL,.slice AO g.vals.length cO] 31)).alloc (.cells ZC 31)):=by
 have hb:Below w.heap.size w ((w.alloc (.cells #[.int .u8 g.kind,.int .i64 g.num,.string g.str,.slice AL g.items.length cL,.slice AO g.vals.length cO] 31)).alloc (.cells ZC 31)):=
  ((Below.refl _ w).alloc (Nat.le_refl _) _).alloc (by simp) _
 have h2:=Whole.new (w.alloc (.cells #[.int .u8 g.kind,.int .i64 g.num,.string g.str,.slice AL g.items.length cL,.slice AO g.vals.length cO] 31)) 31 ZC
 rw [World.size_alloc] at h2
 exact ⟨hb,(Whole.new w 31 _).alloc _,h2,hL.keep (From.of_below hb) (fun _ _ h=>h),hO.keep (From.of_below hb) (fun _ _ h=>h)⟩
theorem size_mem:∀ (l:List GV) (k:Nat) (h:GV),l[k]? = some h→h.size≤GV.sizes l
 | [],k,h,e=>by simp at e
 | x :: r,0,h,e=>by simp at e;subst e;simp [GV.sizes]
 | x :: r,k+1,h,e=>by
  have:=size_mem r k h (by simpa using e)
  simp only [GV.sizes]
  omega
theorem inside_size {g h:GV} {s:GStep} (hi:g.inside s=some h):h.size≤g.size:=by
 cases g with
 | mk k n z l ks ov=>
  rcases inside_cases hi with ⟨_,_,k',_,hg⟩ | ⟨_,_,_,hg⟩
  ·have:=size_mem l k' h hg
   simp only [GV.size]
   omega
  ·have:=size_mem ov _ h hg
   simp only [GV.size]
   omega
theorem whole_ahead {wr w1:World} (hb:Below ((wr.alloc (.cells #[.int .u8 0,.int .i64 0,.string ⟨#[]⟩,.slice none 0 0,.slice none 0 0] 31)).drew).heap.size ((wr.alloc (.cells #[.int .u8 0,.int .i64 0,.string ⟨#[]⟩,.slice none 0 0,.slice none 0 0] 31)).drew) w1):
  Hid (Whole w1 wr.heap.size 31 #[.int .u8 0,.int .i64 0,.string ⟨#[]⟩,.slice none 0 0,.slice none 0 0]∧Below wr.heap.size wr w1):=
 Lib.hid ⟨Whole.below (W:=(wr.alloc (.cells #[.int .u8 0,.int .i64 0,.string ⟨#[]⟩,.slice none 0 0,.slice none 0 0] 31)).drew) (Whole.new wr _ _) hb (by simp),(((Below.refl _ wr).alloc (Nat.le_refl _) _).drew).trans (hb.mono (by simp))⟩
theorem RG.put {w W W':World} {h h':GV} {BL BO BL' BO':Option Addr} {dL dO dL' dO':Nat} (q:RG w h BL BO dL dO W) (hb:Below W.heap.size W W') (hL:LstV (fun k=>k<w.heap.size) W (.slice BL' h'.items.length dL') h'.items) (hO:ObjV (fun k=>k<w.heap.size) W (.slice BO' h'.vals.length dO') h'.keys h'.vals):
  RG w h' BL' BO' dL' dO' (put5 W' w.heap.size (.int .u8 h'.kind) (.int .i64 h'.num) (.string h'.str) (.slice BL' h'.items.length dL') (.slice BO' h'.vals.length dO')):=by
 have q':=q.later hb
 have hF:From (fun k=>k<w.heap.size) W' (put5 W' w.heap.size (.int .u8 h'.kind) (.int .i64 h'.num) (.string h'.str) (.slice BL' h'.items.length dL') (.slice BO' h'.vals.length dO')):=fun k hk _=>put5_block _ _ _ _ _ _ _ _ (by omega)
 exact ⟨put5_below q'.below (Nat.le_refl _) _ _ _ _ _,whole_put5 q'.box _ _ _ _ _,q'.res.of_eq (put5_block _ _ _ _ _ _ _ _ (by omega)),(hL.keep (From.of_below hb) (fun _ h _=>h)).keep hF (fun _ h _=>h),(hO.keep (From.of_below hb) (fun _ h _=>h)).keep hF (fun _ h _=>h)⟩
theorem ref_Get (ok:Nat→Prop) (v:Value) (g:GV) (hi:Nat) (A:Option Addr) (cap:Nat) (ps:List GStep) (w:World) (hv:g.val ok w v) (hp:Steps hi w A ps) (hhi:hi≤w.heap.size) (hcap:ps.length≤cap) (hm:cap≤maxLen) (hsz:g.size≤1000000000):
  Calls Tryd.prog 20 #[v,.slice A ps.length cap] w (RGet g ps w):=by
 obtain ⟨L,O,rfl,hL,hO⟩:=hv
 obtain ⟨AL,cL,rfl⟩:=lst_form hL
 obtain ⟨AO,cO,rfl⟩:=obj_form hO
 have HST:=Lib.hid (rg_start hL hO)
 have HP:=Lib.hid hp
 clear hL hO hp
 unfold maxLen at hm
 unfold ZC at HST
 go_enter Tryd.func20,Tryd.ntmps20
 go_wp2
 go_loopw [6] (RGRel w g ps) (fun i _=>ps.length - (intOf i).toNat)
 case atStart=>exact ⟨0,g,AL,AO,cL,cO,rfl,Nat.zero_le _,rfl,HST.out,Nat.le_refl _⟩
 case round=>
  obtain ⟨k,h,BL,BO,dL,dO,rfl,hk,hget,hR,hgs⟩:=hrel
  have HR:=Lib.hid hR
  clear hR
  by_cases hlt:k<ps.length
  ·obtain ⟨pb,po,rfl,hpb,p0,p1,p2⟩:=(HP.out.keep (HR.out.below.mono hhi) (Nat.le_refl _)).one hlt
   have hdr:ps.drop k=ps[k] :: ps.drop (k+1):=List.drop_eq_getElem_cons hlt
   rw [hdr] at hget
   simp only [GV.get] at hget
   have hstep:∀ W,Below wr.heap.size wr W→Calls Tryd.prog 34 #[.agg #[.int .u8 h.kind,.int .i64 h.num,.string h.str,.slice BL h.items.length dL,.slice BO h.vals.length dO],.agg #[.bool ps[k].list,.int .i64 ps[k].i,.string ps[k].key]] W (StepPost (fun k=>k<w.heap.size) h ps[k] W):=fun W hb=>
    ref_step _ _ h ps[k] W ⟨_,_,rfl,HR.out.lst.keep (From.of_below hb) (fun _ h _=>h),HR.out.obj.keep (From.of_below hb) (fun _ h _=>h)⟩
   have HGET:=Lib.hid hget
   clear hget hdr
   obtain ⟨v0,v1,v2,v3,v4,_⟩:=HR.out.box.five
   have hws:w.heap.size≤wr.heap.size:=HR.out.below.size
   generalize hs:ps[k]=s at *
   have q0:=fun o=>cell_alloc o p0
   have q1:=fun o=>cell_alloc o p1
   have q2:=fun o=>cell_alloc o p2
   have g0:=fun o=>cell_alloc o v0
   have g1:=fun o=>cell_alloc o v1
   have g2:=fun o=>cell_alloc o v2
   have g3:=fun o=>cell_alloc o v3
   have g4:=fun o=>cell_alloc o v4
   cases hio:h.inside s with
   | none=>
    have hs2:=fun W hb=>(hstep W hb).mono (R':=fun e w'=>e=.returned (.tuple #[.agg #[.int .u8 0,.int .i64 0,.string ⟨#[]⟩,.slice none 0 0,.slice none 0 0],.int .i64 0,.int .i64 30])∧Below W.heap.size W w') fun e w' hq=>by
     rcases hq.2 with ⟨_,he⟩ | ⟨h',_,_,_,_,_,hx,_⟩
     ·exact ⟨he,hq.1⟩
     ·rw [hio] at hx;cases hx
    have HC:=Lib.hid hs2
    clear hs2 hstep
    go_wp2_with fail
    go_cut [7,8,9] from 10 to 30 (CutN wr)
    case first=>
     go_region_with (first | (go_at_call 34;refine (HC.out wr.drew (Below.refl _ wr).drew).mono ?_;rintro e w1 ⟨rfl,hb1⟩;have HB1:Hid (Below wr.heap.size wr w1):=Lib.hid ((Below.refl _ wr).drew.trans hb1);clear hb1) | (go_at_call 34;refine (HC.out _ ((Below.refl _ wr).alloc (Nat.le_refl _) _).drew).mono ?_;rintro e w1 ⟨rfl,hb1⟩;have HX:=whole_ahead hb1;obtain ⟨x0,x1,x2,x3,x4,y0,y1,y2,y3,y4⟩:=HX.out.1.five;have HB1:Hid (Below wr.heap.size wr w1):=Lib.hid HX.out.2;clear hb1))
     all_goals go_wp2_with fail
     all_goals go_meet
     all_goals first | exact ⟨HB1.out.alloc HB1.out.size _,rfl,_,_,rfl,rfl⟩ | exact ⟨put5_below HB1.out (Nat.le_refl _) _ _ _ _ _,rfl,_,_,rfl,rfl⟩
    case rest=>
     obtain ⟨hbw,rfl,X,kx,rfl,rfl⟩:=hcut
     have HR2:=Lib.hid (HR.out.later hbw)
     obtain ⟨x0,x1,x2,x3,x4,y0,y1,y2,y3,y4⟩:=HR2.out.res.five
     obtain ⟨d0,d1,d2,d3,d4,_⟩:=(whole_put5 HR2.out.res (.int .u8 0) (.int .i64 0) (.string ⟨#[]⟩) (.slice none 0 0) (.slice none 0 0)).five
     unfold put5 at d0 d1 d2 d3 d4
     clear hbw q0 q1 q2 g0 g1 g2 g3 g4
     go_wp2
     refine bodyPost_ret (v:=.tuple #[zeroV,.int .i64 30]) (by simp [results,Tryd.results20,go_sem,zeroV,d0,d1,d2,d3,d4]) rfl ?_
     exact ⟨put5_below HR2.out.below (by omega) _ _ _ _ _,.inl ⟨by rw [HGET.out,hio];rfl,rfl⟩⟩
   | some h'=>
    have hs2:=fun W (hb:Below wr.heap.size wr W)=>(hstep W hb).mono (R':=fun e w'=>∃ BL' BO' dL' dO' kk,e=.returned (.tuple #[.agg #[.int .u8 h'.kind,.int .i64 h'.num,.string h'.str,.slice BL' h'.items.length dL',.slice BO' h'.vals.length dO'],.int .i64 (kk:Nat),.int .i64 0]) ∧
      LstV (fun k=>k<w.heap.size) wr (.slice BL' h'.items.length dL') h'.items∧ObjV (fun k=>k<w.heap.size) wr (.slice BO' h'.vals.length dO') h'.keys h'.vals∧Below W.heap.size W w') fun e w' hq=>by
     rcases hq.2 with ⟨hx,_⟩ | ⟨h2,BL',BO',dL',dO',kk,hx,he,hL,hO,_⟩
     ·rw [hio] at hx;cases hx
     ·rw [hio] at hx;cases hx
      exact ⟨BL',BO',dL',dO',kk,he,hL.keep (fun k hk _=>(hb.block k (by omega)).symm) (fun _ h _=>h),hO.keep (fun k hk _=>(hb.block k (by omega)).symm) (fun _ h _=>h),hq.1⟩
    have HC:=Lib.hid hs2
    clear hs2 hstep
    go_wp2_with fail
    go_cut [7,8,9] from 10 to 30 (CutS w wr h')
    case first=>
     go_region_with (first | (go_at_call 34;refine (HC.out wr.drew (Below.refl _ wr).drew).mono ?_;rintro e w1 ⟨BL',BO',dL',dO',kk,rfl,hL1,hO1,hb1⟩;have HLO:=Lib.hid (And.intro hL1 hO1);clear hL1 hO1;have HB1:Hid (Below wr.heap.size wr w1):=Lib.hid ((Below.refl _ wr).drew.trans hb1);clear hb1) | (go_at_call 34;refine (HC.out _ ((Below.refl _ wr).alloc (Nat.le_refl _) _).drew).mono ?_;rintro e w1 ⟨BL',BO',dL',dO',kk,rfl,hL1,hO1,hb1⟩;have HLO:=Lib.hid (And.intro hL1 hO1);clear hL1 hO1;have HX:=whole_ahead hb1;obtain ⟨x0,x1,x2,x3,x4,y0,y1,y2,y3,y4⟩:=HX.out.1.five;have HB1:Hid (Below wr.heap.size wr w1):=Lib.hid HX.out.2;clear hb1))
     all_goals go_wp2_with fail
     all_goals go_meet
     all_goals first
      | (have hx:=HX.out.1;exact ⟨put5_below HB1.out (Nat.le_refl _) _ _ _ _ _,rfl,_,BL',BO',dL',dO',kk,rfl,rfl,whole_put5 hx _ _ _ _ _,HLO.out.1,HLO.out.2⟩)
      | exact ⟨HB1.out.alloc HB1.out.size _,rfl,_,BL',BO',dL',dO',kk,rfl,rfl,Whole.new w1 _ _,HLO.out.1,HLO.out.2⟩
    case rest=>
     obtain ⟨hbw,rfl,X,BL',BO',dL',dO',kx,rfl,rfl,hX,hL',hO'⟩:=hcut
     have HR2:=Lib.hid (HR.out.later hbw)
     have HR3:=Lib.hid (HR.out.put hbw hL' hO')
     obtain ⟨x0,x1,x2,x3,x4,_⟩:=hX.five
     obtain ⟨v0,v1,v2,v3,v4,y0,y1,y2,y3,y4⟩:=HR2.out.box.five
     clear hbw q0 q1 q2 g0 g1 g2 g3 g4 hX hL' hO'
     go_wp2
     go_roundw
     case rel=>exact ⟨k+1,h',BL',BO',dL',dO',by go_num,by omega,by rw [HGET.out,hio];rfl,HR3.out,Nat.le_trans (inside_size hio) hgs⟩
     case measure=>simp [intOf];omega
  ·have hk':k=ps.length:=by omega
   have hd:ps.drop k=[]:=by rw [hk'];simp
   rw [hd] at hget
   have hcopy:=fun (W:World) (hb:Below wr.heap.size wr W)=>(ref_Copy h.size (fun k=>k<w.heap.size) (.agg #[.int .u8 h.kind,.int .i64 h.num,.string h.str,.slice BL h.items.length dL,.slice BO h.vals.length dO]) h W (Nat.le_refl _) ⟨_,_,rfl,HR.out.lst.keep (From.of_below hb) (fun _ h _=>h),HR.out.obj.keep (From.of_below hb) (fun _ h _=>h)⟩ (Nat.le_trans hgs hsz)).mono
    (R':=fun e w'=>∃ BL dL BO dO,e=.returned (.agg #[.int .u8 h.kind,.int .i64 h.num,.string h.str,.slice BL h.items.length dL,.slice BO h.vals.length dO])∧LstV (fun k=>wr.heap.size≤k) w' (.slice BL h.items.length dL) h.items∧ObjV (fun k=>wr.heap.size≤k) w' (.slice BO h.vals.length dO) h.keys h.vals∧Below wr.heap.size wr w') fun e w' ⟨v',he,⟨L,O,hv,hL,hO⟩,hb'⟩=>by
     subst hv
     obtain ⟨BL,dL,rfl⟩:=lst_form hL
     obtain ⟨BO,dO,rfl⟩:=obj_form hO
     exact ⟨BL,dL,BO,dO,he,hL.keep (From.refl _ _) (fun k hk _=>Nat.le_trans hb.size hk),hO.keep (From.refl _ _) (fun k hk _=>Nat.le_trans hb.size hk),hb.trans (hb'.mono hb.size)⟩
   have HC:=Lib.hid hcopy
   have HGET:=Lib.hid hget
   clear hcopy hget hd
   obtain ⟨v0,v1,v2,v3,v4,_⟩:=HR.out.box.five
   go_wp2_with (go_at_call 35;refine (HC.out _ (Below.refl _ _)).mono ?_;rintro e w1 ⟨CL,eL,CO,eO,rfl,hL,hO,hb1⟩;obtain ⟨x0,x1,x2,x3,x4,y0,y1,y2,y3,y4⟩:=(HR.out.later hb1).res.five;have HB1:=Lib.hid hb1;have HV:=Lib.hid (And.intro hL hO);clear hb1 hL hO)
   have hlt2:=HR.out.res.lt
   obtain ⟨d0,d1,d2,d3,d4,_⟩:=(whole_put5 (HR.out.later HB1.out).res (.int .u8 h.kind) (.int .i64 h.num) (.string h.str) (.slice CL h.items.length eL) (.slice CO h.vals.length eO)).five
   unfold put5 at d0 d1 d2 d3 d4
   refine bodyPost_ret (v:=.tuple #[.agg #[.int .u8 h.kind,.int .i64 h.num,.string h.str,.slice CL h.items.length eL,.slice CO h.vals.length eO],.int .i64 0]) (by simp [results,Tryd.results20,go_sem,d0,d1,d2,d3,d4]) rfl ?_
   refine ⟨put5_below (HR.out.later HB1.out).below (by omega) _ _ _ _ _,.inr ⟨h,_,HGET.out,rfl,_,_,rfl,?_,?_⟩⟩
   ·exact HV.out.1.keep (fun k hk _=>put5_block _ _ _ _ _ _ _ _ (by omega)) (fun k hk _=>by omega)
   ·exact HV.out.2.keep (fun k hk _=>put5_block _ _ _ _ _ _ _ _ (by omega)) (fun k hk _=>by omega)
end Go.Proofs.YtlhfnemcpgfcdaaDoor
