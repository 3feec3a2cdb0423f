/- The document's own fields, the walk. -/
import Derived.Test.YtmmgdkpkcoopgaaGreatDoorP23
import Derived.Test.YtmmgdkpkcoopgaaGreatDoorP25
import Derived.BigQuiet
set_option maxRecDepth 100000
set_option maxHeartbeats 8000000
namespace Go.Proofs.YtmmgdkpkcoopgaaGreatDoor
open Go.Lib(hid)
open Go Go.RowKit Go.Shelf
set_option linter.unusedVariables false
set_option linter.unusedSimpArgs false
theorem put6 {W b} {t:TypeId} {z0 z1 z2 z3 z4 z5:Value} (h:Whole W b t #[z0,z1,z2,z3,z4,z5]) (a0 a1 a2 a3 a4 a5:Value):Whole ((((((W.setCell ⟨b,0,none⟩ a0).setCell ⟨b,1,none⟩ a1).setCell ⟨b,2,none⟩ a2).setCell ⟨b,3,none⟩ a3).setCell ⟨b,4,none⟩ a4).setCell ⟨b,5,none⟩ a5) b t #[a0,a1,a2,a3,a4,a5]:=by
 have h1:Whole _ b t #[a0,z1,z2,z3,z4,z5]:=h.put 0 a0;have h2:Whole _ b t #[a0,a1,z2,z3,z4,z5]:=h1.put 1 a1;have h3:Whole _ b t #[a0,a1,a2,z3,z4,z5]:=h2.put 2 a2;have h4:Whole _ b t #[a0,a1,a2,a3,z4,z5]:=h3.put 3 a3;have h5:Whole _ b t #[a0,a1,a2,a3,a4,z5]:=h4.put 4 a4;exact h5.put 5 a5
theorem zik {B:Nat} {w W:World} {b:Nat} (h:Below B w W) (hb:B<=b) (a0 a1 a2 a3 a4 a5:Value):Below B w ((((((W.setCell ⟨b,0,none⟩ a0).setCell ⟨b,1,none⟩ a1).setCell ⟨b,2,none⟩ a2).setCell ⟨b,3,none⟩ a3).setCell ⟨b,4,none⟩ a4).setCell ⟨b,5,none⟩ a5):=
 (((((h.setCell (p:=⟨b,0,none⟩) hb _).setCell (p:=⟨b,1,none⟩) hb _).setCell (p:=⟨b,2,none⟩) hb _).setCell (p:=⟨b,3,none⟩) hb _).setCell (p:=⟨b,4,none⟩) hb _).setCell (p:=⟨b,5,none⟩) hb _
theorem ze3 {W:World} {b k:Nat} (h:k≠b) (a0 a1 a2 a3 a4 a5:Value):((((((W.setCell ⟨b,0,none⟩ a0).setCell ⟨b,1,none⟩ a1).setCell ⟨b,2,none⟩ a2).setCell ⟨b,3,none⟩ a3).setCell ⟨b,4,none⟩ a4).setCell ⟨b,5,none⟩ a5).heap[k]? = W.heap[k]?:=by
 rw [Below.heap_setCell _ _ _ _ h,Below.heap_setCell _ _ _ _ h,Below.heap_setCell _ _ _ _ h,Below.heap_setCell _ _ _ _ h,Below.heap_setCell _ _ _ _ h,Below.heap_setCell _ _ _ _ h]
structure Six (W:World) (b:Nat) (a0 a1 a2 a3 a4 a5:Value):Prop where
 c0:W.cell? ⟨b,0,none⟩=some a0
 c1:W.cell? ⟨b,1,none⟩=some a1
 c2:W.cell? ⟨b,2,none⟩=some a2
 c3:W.cell? ⟨b,3,none⟩=some a3
 c4:W.cell? ⟨b,4,none⟩=some a4
 c5:W.cell? ⟨b,5,none⟩=some a5
 f0:W.frozen? ⟨b,0,none⟩=false
 f1:W.frozen? ⟨b,1,none⟩=false
 f2:W.frozen? ⟨b,2,none⟩=false
 f3:W.frozen? ⟨b,3,none⟩=false
 f4:W.frozen? ⟨b,4,none⟩=false
 f5:W.frozen? ⟨b,5,none⟩=false
theorem zjn {W b} {t:TypeId} {a0 a1 a2 a3 a4 a5:Value} (h:Whole W b t #[a0,a1,a2,a3,a4,a5]):Six W b a0 a1 a2 a3 a4 a5:=
 ⟨(h.cell 0).trans rfl,(h.cell 1).trans rfl,(h.cell 2).trans rfl,(h.cell 3).trans rfl,(h.cell 4).trans rfl,(h.cell 5).trans rfl,h.frozen 0,h.frozen 1,h.frozen 2,h.frozen 3,h.frozen 4,h.frozen 5⟩
def CutFd (c:GC) (w0:World) (t7:Value) (W:World):Prop:=Below w0.heap.size w0 W/\∃ (X:Nat) (CL CO:Option Addr) (eL eO:Nat),t7=.pointer (some ⟨X,0,none⟩)/\Whole W X 56 #[.string c.key,.int .u8 c.v.kq,.int .i64 c.v.num,.string c.v.str,.slice CL c.v.il.length eL,.slice CO c.v.vz.length eO]/\LstV (fun k=>w0.heap.size<=k) W (.slice CL c.v.il.length eL) c.v.il/\ObjV (fun k=>w0.heap.size<=k) W (.slice CO c.v.vz.length eO) c.v.keys c.v.vz
theorem ziC {c:GC} {w0 W:World} {CL CO:Option Addr} {eL eO n0:Nat} (hb:Below w0.heap.size w0 W) (hn0:w0.heap.size<=n0) (hv:LstV (fun k=>n0<=k) W (.slice CL c.v.il.length eL) c.v.il/\ObjV (fun k=>n0<=k) W (.slice CO c.v.vz.length eO) c.v.keys c.v.vz):
  CutFd c w0 (.pointer (some ⟨W.heap.size,0,none⟩)) (W.alloc (.cells #[.string c.key,.int .u8 c.v.kq,.int .i64 c.v.num,.string c.v.str,.slice CL c.v.il.length eL,.slice CO c.v.vz.length eO] 56)):=
 ⟨hb.alloc hb.size _,W.heap.size,CL,CO,eL,eO,rfl,Whole.new W _ _,hv.1.keep (From.of_below (zaa W _)) (fun _ h _=>Nat.le_trans hn0 h),hv.2.keep (From.of_below (zaa W _)) (fun _ h _=>Nat.le_trans hn0 h)⟩
theorem zhp {c:GC} {w0 W:World} {X} {CL CO:Option Addr} {eL eO n0:Nat} {z0 z1 z2 z3 z4 z5:Value} (hb:Below w0.heap.size w0 W) (hX:Whole W X 56 #[z0,z1,z2,z3,z4,z5]) (h0:w0.heap.size<=X) (hn:X<n0) (hv:LstV (fun k=>n0<=k) W (.slice CL c.v.il.length eL) c.v.il/\ObjV (fun k=>n0<=k) W (.slice CO c.v.vz.length eO) c.v.keys c.v.vz):
  CutFd c w0 (.pointer (some ⟨X,0,none⟩)) ((((((W.setCell ⟨X,0,none⟩ (.string c.key)).setCell ⟨X,1,none⟩ (.int .u8 c.v.kq)).setCell ⟨X,2,none⟩ (.int .i64 c.v.num)).setCell ⟨X,3,none⟩ (.string c.v.str)).setCell ⟨X,4,none⟩ (.slice CL c.v.il.length eL)).setCell ⟨X,5,none⟩ (.slice CO c.v.vz.length eO)):=
 ⟨zik hb h0 _ _ _ _ _ _,X,CL,CO,eL,eO,rfl,put6 hX _ _ _ _ _ _,hv.1.keep (fun k hk _=>ze3 (by omega) _ _ _ _ _ _) (fun k h _=>by omega),hv.2.keep (fun k hk _=>ze3 (by omega) _ _ _ _ _ _) (fun k h _=>by omega)⟩
theorem zkK {W0 w1:World} {cs:Array Value} {t:TypeId} (hb:Below ((W0.alloc (.cells cs t)).drew).heap.size ((W0.alloc (.cells cs t)).drew) w1):Whole w1 W0.heap.size t cs/\Below W0.heap.size W0 w1:=by
 have h0:Whole (W0.alloc (.cells cs t)).drew W0.heap.size t cs:=Whole.new W0 t cs;have h1:Below W0.heap.size W0 (W0.alloc (.cells cs t)).drew:=(zaa W0 _).drew;exact ⟨h0.below hb h0.lt,h1.trans (hb.mono h1.size)⟩
theorem zce {α:Type} {p q:Nat} {x l:List α} {i:Nat} (hx:x.length<=1):(partK p q x l i).length<=2 * l.length+2:=by
 unfold partK;split<;>simp<;>omega
theorem zkB {Q:Nat->Prop} {W:World} {OA:Option Addr} {oc:Nat} {ks:List ByteArray} {ov:List GV} (hO:ObjV Q W (.slice OA ov.length oc) ks ov) {k:Nat} (hk:k<ov.length) (hk':k<ks.length):∃ b o A1 c1 A2 c2,OA=some ⟨b,o,none⟩/\ov.length<=oc /\
  (∀ W',Below W.heap.size W W'->W'.cell? ⟨b,o+k * 6,none⟩=some (.string ks[k])/\W'.cell? ⟨b,o+k * 6+1,none⟩=some (.int .u8 ov[k].kq)/\W'.cell? ⟨b,o+k * 6+2,none⟩=some (.int .i64 ov[k].num)/\W'.cell? ⟨b,o+k * 6+3,none⟩=some (.string ov[k].str) /\
   W'.cell? ⟨b,o+k * 6+4,none⟩=some (.slice A1 ov[k].il.length c1)/\W'.cell? ⟨b,o+k * 6+5,none⟩=some (.slice A2 ov[k].vz.length c2)) /\
  LstV (fun j=>j<W.heap.size/\Q j) W (.slice A1 ov[k].il.length c1) ov[k].il/\ObjV (fun j=>j<W.heap.size/\Q j) W (.slice A2 ov[k].vz.length c2) ov[k].keys ov[k].vz:=by
 obtain ⟨_,hO2⟩:=hO;rcases hO2 with ⟨e,_⟩ | ⟨b,o,c',e,h1,h2,hK,hks,hE⟩
 ·subst e;simp at hk
 ·simp only [Value.slice.injEq] at e
  obtain ⟨rfl,_,rfl⟩:=e;obtain ⟨L,O,q0,q1,q2,q3,q4,hL,hO⟩:=GV.at_iff.1 (GV.els_get hE (List.getElem?_eq_getElem hk));obtain ⟨A1,c1,rfl⟩:=zah hL;obtain ⟨A2,c2,rfl⟩:=zag hO;have hlt:=hK.lt;have e1:o+1+k * 6=o+k * 6+1:=by omega
  rw [e1] at q0 q1 q2 q3 q4;exact ⟨b,o,A1,c1,A2,c2,rfl,h1,fun W' hb=>⟨(hb.cell (p:=⟨b,_,none⟩) hlt).trans (hks.get (List.getElem?_eq_getElem hk')),(hb.cell (p:=⟨b,_,none⟩) hlt).trans q0,(hb.cell (p:=⟨b,_,none⟩) hlt).trans q1,(hb.cell (p:=⟨b,_,none⟩) hlt).trans q2,(hb.cell (p:=⟨b,_,none⟩) hlt).trans q3,(hb.cell (p:=⟨b,_,none⟩) hlt).trans q4⟩,hL.keep (From.refl _ _) (fun _ h hl=>⟨hl,h⟩),hO.keep (From.refl _ _) (fun _ h hl=>⟨hl,h⟩)⟩
def FldOut (Q:Nat->Prop) (ks:List ByteArray) (ov:List GV) (w:World) (e:Ending) (w':World):Prop:=∃ A c,e=.returned (.slice A ov.length c)/\ObjV Q w' (.slice A ov.length c) ks ov/\Below w.heap.size w w'
theorem zi9 {Q:Nat->Prop} {w wc W:World} {A:Option Addr} {n c:Nat} {ks ks':List ByteArray} {ov ov':List GV} {xs:List Value} (h:So Q wc W (.slice A n c) n ks' ov' xs) (hn:n=ov'.length) (hb:Below w.heap.size w wc) (hQ:∀ k,w.heap.size<=k->Q k) (e1:ks=ks') (e2:ov=ov'):FldOut Q ks ov w (.returned (.slice A n c)) W:=by
 subst e1 e2 hn;exact ⟨A,c,rfl,h.done (fun k hk=>hQ k (Nat.le_trans hb.size hk)),hb.trans (h.below.mono hb.size)⟩
theorem zmP {h:GV} {c:GC} {p:Nat} {t:Bool} (hkl:h.keys.length=h.vz.length) (hp:place c.key h.keys=p) (ht:there c.key h.keys=t) (hk:c.kq=2\/(c.kq=3/\t=true)):
  (doH h c).keys=(h.keys.take p++(if c.kq=3 then [] else [c.key]))++h.keys.drop (p+if t=true then 1 else 0)/\(doH h c).vz=(h.vz.take p++(if c.kq=3 then [] else [c.v]))++h.vz.drop (p+if t=true then 1 else 0):=by
 obtain ⟨gk,gn,gs,gl,ks,ov⟩:=h;have n1:¬ c.kq=1:=by omega
 rcases hk with h2 | ⟨h3,rfl⟩
 ·have n3:¬ c.kq=3:=by omega
  rw [if_neg n3,if_neg n3];unfold doH;rw [if_neg n1,if_pos h2];cases t
  ·rw [if_neg (by rw [ht];simp)]
   rw [hp];simp [insL,GV.keys,GV.vz]
  ·rw [if_pos ht]
   rw [hp];simp only [GV.keys,GV.vz] at hkl hp ht ⊢;have hlt:p<ks.length:=by rw [<- hp];exact zbP ht
   obtain ⟨k,hk,he⟩:=zeg ht;rw [hp] at hk;obtain ⟨_,hk2⟩:=List.getElem?_eq_some_iff.1 hk;have hkk:ks[p]=c.key:=by
    rw [hk2];rw [zcB,zcB] at he;exact ByteArray.ext (Array.toList_inj.1 he)
   have e1:ks=ks.take p++ks[p] :: ks.drop (p+1):=by rw [<- List.drop_eq_getElem_cons hlt,List.take_append_drop]
   rw [hkk] at e1;refine ⟨?_,?_⟩
   ·simpa using e1
   ·simp only [if_true]
    rw [List.set_eq_take_append_cons_drop,if_pos (by omega)]
    simp
 ·have n2:¬ c.kq=2:=by omega
  rw [if_pos h3,if_pos h3];unfold doH;rw [if_neg n1,if_neg n2,if_pos h3];rw [hp];simp [remL,GV.keys,GV.vz]
theorem zeV (Q:Nat->Prop) (h:GV) (OA:Option Addr) (oc:Nat) (c:GC) (A AL AO:Option Addr) (cp cL cO:Nat) (w:World) (hQ:∀ k,w.heap.size<=k->Q k) (hO:ObjV Q w (.slice OA h.vz.length oc) h.keys h.vz) (hks:KeysOk h.keys) (hv:Vl w c.v AL AO cL cO) (hcw:c.v.weight<=1000000000) (hn:h.vz.length<=1000000) (hk:c.kq=2\/(c.kq=3/\there c.key h.keys=true)):
  Calls Tryz.prog 27 #[.slice OA h.vz.length oc,.agg #[.int .u8 c.kq,.slice A c.path.length cp,.string c.key,.int .i64 c.i,.int .i64 c.j,.int .i64 c.n,.int .u8 c.v.kq,.int .i64 c.v.num,.string c.v.str,.slice AL c.v.il.length cL,.slice AO c.v.vz.length cO,.string c.s]] w (FldOut Q (doH h c).keys (doH h c).vz w):=by
 have H0:=hid (Whole.new w 45 #[.int .u8 c.kq,.slice A c.path.length cp,.string c.key,.int .i64 c.i,.int .i64 c.j,.int .i64 c.n,.int .u8 c.v.kq,.int .i64 c.v.num,.string c.v.str,.slice AL c.v.il.length cL,.slice AO c.v.vz.length cO,.string c.s]);have HB:=hid (zaa w (.cells #[.int .u8 c.kq,.slice A c.path.length cp,.string c.key,.int .i64 c.i,.int .i64 c.j,.int .i64 c.n,.int .u8 c.v.kq,.int .i64 c.v.num,.string c.v.str,.slice AL c.v.il.length cL,.slice AO c.v.vz.length cO,.string c.s] 45));have HC:=hid (fun W (h:Below w.heap.size w W)=>zb6 (hv.later h) hcw)
 obtain ⟨i1,hi1,hy0,hy1,hy2⟩:=info_parts infoField;have HI1:=hid (And.intro hi1 (And.intro hy0 (And.intro hy1 hy2)));have HO:=hid hO;have HK:=hid (And.intro hks hk);have HQQ:=hid hQ;clear hQ hi1 hy0 hy1 hy2 hO hks hv hcw hk;obtain ⟨c0,c1,c2,c3,c4,c5,c6,c7,c8,c9,c10,c11,_⟩:=H0.out.tw;obtain ⟨d0,hd0⟩:∃ d0:Bool,(c.kq == 3)=d0:=⟨_,rfl⟩;go_enter Tryz.func27,Tryz.ntmps27
 go_upto_region 3 with fail
 generalize hW0:w.alloc (.cells #[.int .u8 c.kq,.slice A c.path.length cp,.string c.key,.int .i64 c.i,.int .i64 c.j,.int .i64 c.n,.int .u8 c.v.kq,.int .i64 c.v.num,.string c.v.str,.slice AL c.v.il.length cL,.slice AO c.v.vz.length cO,.string c.s] 45)=W0 at *;clear hW0;have hlt0:w.heap.size<W0.heap.size:=H0.out.lt;have q2:=fun o=>zab o c2
 have q6:=fun o=>zab o c6
 have q7:=fun o=>zab o c7
 have q8:=fun o=>zab o c8
 have q9:=fun o=>zab o c9
 have q10:=fun o=>zab o c10
 go_cut [7] (CutFd c W0)
 case first=>
  go_region_with (first
   | (go_at_call 20;refine (HC.out W0.drew HB.out.drew).mono ?_;rintro e w1 ⟨CL,CO,eL,eO,rfl,hv1,hb1⟩;have HV1:=hid hv1;have HB1:Hid (Below W0.heap.size W0 w1):=hid ((Below.refl _ W0).drew.trans hb1);have H1:=hid (H0.out.below HB1.out H0.out.lt);clear hv1 hb1;obtain ⟨t0,t1,t2,t3,t4,t5,t6,t7,t8,t9,t10,t11,_⟩:=H1.out.tw;have r2:=fun o=>zab o t2)
   | (go_at_call 20;refine (HC.out _ ((HB.out.trans ((zaa W0 (.cells #[.string ⟨#[]⟩,.int .u8 0,.int .i64 0,.string ⟨#[]⟩,.slice none 0 0,.slice none 0 0] 56)).mono HB.out.size)).drew)).mono ?_;rintro e w1 ⟨CL,CO,eL,eO,rfl,hv1,hb1⟩;have HV1:=hid hv1;have HX:=hid (zkK hb1);have H1:=hid (H0.out.below HX.out.2 H0.out.lt);clear hv1 hb1;obtain ⟨t0,t1,t2,t3,t4,t5,t6,t7,t8,t9,t10,t11,_⟩:=H1.out.tw;obtain ⟨x0,x1,x2,x3,x4,x5,y0,y1,y2,y3,y4,y5⟩:=zjn HX.out.1))
  -- SORRY
  all_goals clear c0 c1 c2 c3 c4 c5 c6 c7 c8 c9 c10 c11 q2 q6 q7 q8 q9 q10
  all_goals go_wp2_with fail
  all_goals go_meet
  all_goals first
   | (have hx:=HX.out;exact zhp hx.2 hx.1 (Nat.le_refl _) (by simp) HV1.out)
   | (have hx:=HB1.out;exact ziC hx (Nat.le_refl _) HV1.out)
 case rest=>
  clear q2 q6 q7 q8 q9 q10 c0 c1 c2 c3 c4 c5 c6 c7 c8 c9 c10 c11 HC hlt0;obtain ⟨hb0,X,CL,CO,eL,eO,rfl,hX,hvc1,hvc2⟩:=hcut;have H1:=hid (H0.out.below hb0 H0.out.lt);have HX:=hid hX;have HVC:=hid (And.intro (hvc1.keep (From.refl _ _) (fun k h hl=>⟨hl,HQQ.out k (Nat.le_trans HB.out.size h)⟩):LstV (fun k=>k<wc.heap.size/\Q k) wc _ _) (hvc2.keep (From.refl _ _) (fun k h hl=>⟨hl,HQQ.out k (Nat.le_trans HB.out.size h)⟩):ObjV (fun k=>k<wc.heap.size/\Q k) wc _ _ _))
  have HB1:=hid (HB.out.trans (hb0.mono HB.out.size));clear hb0 hX hvc1 hvc2 H0 HB;have HOC:=hid (ObjV.keep (From.of_below HB1.out) (fun _ h _=>h) HO.out)
  have hkl:=HO.out.1;clear HO;have HKA:=hid (fun k kk hk=>zj8 c.key HK.out.1 k kk hk)
  have hple:=zbA c.key h.keys;obtain ⟨t,ht⟩:∃ t,there c.key h.keys=t:=⟨_,rfl⟩;have htp:t=true->place c.key h.keys<h.keys.length:=fun e=>zbP (ht.trans e)
  have HTP:=hid htp;have HD:=hid hd0;have hkd:(d0=true/\t=true)\/d0=false:=by
   rcases HK.out.2 with h2 | ⟨_,h3⟩
   ·exact .inr (by rw [<- hd0,h2];rfl)
   ·cases d0
    ·exact .inr rfl
    ·exact .inl ⟨rfl,by rw [<- ht];exact h3⟩
  have HKD:=hid hkd;rw [ht] at HKA;obtain ⟨p,hp⟩:∃ p,place c.key h.keys=p:=⟨_,rfl⟩;have HPT:=hid (And.intro hp ht);rw [hp] at HKA HTP hple;obtain ⟨q,hq⟩:∃ q,p+(if t=true then 1 else 0)=q:=⟨_,rfl⟩;have HQ:=hid hq;obtain ⟨xk,hxk⟩:∃ xk:List ByteArray,(if c.kq=3 then [] else [c.key])=xk:=⟨_,rfl⟩;obtain ⟨xv,hxv⟩:∃ xv:List GV,(if c.kq=3 then [] else [c.v])=xv:=⟨_,rfl⟩;have HXK:=hid (And.intro hxk hxv);have hxl:xv.length<=1:=by rw [<- hxv];split<;>simp
  clear hp ht hq hxk hxv hkd htp hd0
  go_wp2_with fail
  go_loopw [5,6,8] (FldRel Q wc d0 p q xk xv h.keys h.vz) (fun _ _ i _=>h.vz.length - (intOf i).toNat)
  case atStart=>exact ⟨0,[],rfl,Nat.zero_le _,by simp,by rw [zgu,zgu];exact So.start Q wc⟩
  case round=>
   obtain ⟨k,xs,rfl,hkn,rfl,hS⟩:=hrel;obtain ⟨A3,c3,rfl⟩:=zaf hS.own;have HS:=hid hS;clear hS;by_cases hlt:k<h.vz.length
   ·have hlk:k<h.keys.length:=by omega
    obtain ⟨b,o,A1,a1,A2,a2,rfl,hoc,hcells,hL1,hO1⟩:=zkB HOC.out hlt hlk;have HI:=hid (And.intro hL1 hO1);obtain ⟨e0,e1,e2,e3,e4,e5⟩:=hcells wr HS.out.below;have q2:=(H1.out.below HS.out.below H1.out.lt).tw.c2;obtain ⟨x0,x1,x2,x3,x4,x5,_⟩:=zjn (HX.out.below HS.out.below HX.out.lt);have hka:=HKA.out k h.keys[k] (List.getElem?_eq_getElem hlk);have hk0:(0:Int)<=(k:Int):=by omega
    have hk1:(k:Int)<(h.vz.length:Int):=by omega
    have HCE:=hid hcells;clear hcells hL1 hO1;rcases hka with ⟨hkp,l1,l2,_⟩ | ⟨hkp,l1,l2⟩ | ⟨hkp,l1,l2,hne⟩
    ·have hdec:(d0 || decide (p<k))=d0:=by simp;omega
     rw [hdec];have HP:=hid (And.intro (zhL (p:=p) (q:=q) (x:=xk) hkp hlk) (zhL (p:=p) (q:=q) (x:=xv) hkp hlt));generalize h.keys[k]=kk at *;generalize h.vz[k]=x at *;generalize hm:(partK p q xv h.vz k).length=m at *;have HMM:=hid hm;have HM:=hid (show m+1<=maxLen/\(m+1) * 96<=140737488355328 by have:m<=2 * h.vz.length+2:=(by rw [<- hm];exact zce hxl);unfold maxLen;omega)
     clear hm;have hls:=zdT l1;obtain ⟨l3,_,l4⟩:=hls;cases d0
     ·go_wp2_with fail
      go_region
      go_wp2_with fail
      go_region
      go_wp2_with (at_builtin;refine wpList_append_own_at _ rfl (.tmp 48) (.tmp 53) 27 rfl wc.heap.size 56 i1 _ 6 96 Tryz.underlying27 HI1.out.1 HI1.out.2.1 HI1.out.2.2.1 HI1.out.2.2.2 rfl (by decide) (.slice A3 m c3) (m) _ rfl ((HS.out.step (by first | exact (((Below.refl _ _).drew).drew).alloc (Nat.le_refl _) _ | exact ((Below.refl _ _).drew).alloc (Nat.le_refl _) _ | exact (Below.refl _ _).alloc (Nat.le_refl _) _)).own) _ 1 1 (.string kk :: chunk x (.slice A1 x.il.length a1) (.slice A2 x.vz.length a2)) rfl rfl (row_cells' _ _ rfl _ _) (by simp [chunk,Value.oneCell']) HM.out.1 HM.out.2 (by have:=HS.out.below.size;simp;omega) ?_;intro v5 W5 hown5 hgrow5 _ hat5;obtain ⟨A5,c5,rfl⟩:=zaf hown5;have HS5:=hid ((HS.out.step (by first | exact (((Below.refl _ _).drew).drew).alloc (Nat.le_refl _) _ | exact ((Below.refl _ _).drew).alloc (Nat.le_refl _) _ | exact (Below.refl _ _).alloc (Nat.le_refl _) _)).app HI.out.1 HI.out.2 hown5 hgrow5);clear hown5 hgrow5 hat5)
      go_roundw
      case rel=>exact ⟨k+1,_,by go_num,by omega,by simp;omega,by rw [HP.out.1,HP.out.2,List.length_append,HMM.out];exact HS5.out⟩
      case measure=>simp [intOf];omega
     ·go_wp2_with fail
      go_region
      go_wp2_with fail
      go_region
      go_wp2_with (at_builtin;refine wpList_append_own_at _ rfl (.tmp 48) (.tmp 53) 27 rfl wc.heap.size 56 i1 _ 6 96 Tryz.underlying27 HI1.out.1 HI1.out.2.1 HI1.out.2.2.1 HI1.out.2.2.2 rfl (by decide) (.slice A3 m c3) (m) _ rfl ((HS.out.step (by first | exact (((Below.refl _ _).drew).drew).alloc (Nat.le_refl _) _ | exact ((Below.refl _ _).drew).alloc (Nat.le_refl _) _ | exact (Below.refl _ _).alloc (Nat.le_refl _) _)).own) _ 1 1 (.string kk :: chunk x (.slice A1 x.il.length a1) (.slice A2 x.vz.length a2)) rfl rfl (row_cells' _ _ rfl _ _) (by simp [chunk,Value.oneCell']) HM.out.1 HM.out.2 (by have:=HS.out.below.size;simp;omega) ?_;intro v5 W5 hown5 hgrow5 _ hat5;obtain ⟨A5,c5,rfl⟩:=zaf hown5;have HS5:=hid ((HS.out.step (by first | exact (((Below.refl _ _).drew).drew).alloc (Nat.le_refl _) _ | exact ((Below.refl _ _).drew).alloc (Nat.le_refl _) _ | exact (Below.refl _ _).alloc (Nat.le_refl _) _)).app HI.out.1 HI.out.2 hown5 hgrow5);clear hown5 hgrow5 hat5)
      go_roundw
      case rel=>exact ⟨k+1,_,by go_num,by omega,by simp,by rw [HP.out.1,HP.out.2,List.length_append,HMM.out];exact HS5.out⟩
      case measure=>simp [intOf];omega
    ·subst hkp
     have hpl:k<h.keys.length:=hlk;have hdec:(d0 || decide (k<k))=d0:=by simp
     rw [hdec];rcases HKD.out with ⟨rfl,rfl⟩ | rfl
     ·have hq1:q=k+1:=by rw [<- HQ.out];rfl
      have hx0:xk=[]/\xv=[]:=by
       have h3:c.kq=3:=by simpa using HD.out
       rw [<- HXK.out.1,<- HXK.out.2,if_pos h3,if_pos h3];exact ⟨rfl,rfl⟩
      obtain ⟨rfl,rfl⟩:=hx0;subst hq1;have HP:=hid (And.intro (zcW (x:=([]:List ByteArray)) hlk) (zcW (x:=([]:List GV)) hlt));generalize h.keys[k]=kk at *;generalize h.vz[k]=x at *
      go_wp2_with fail
      go_region
      go_wp2_with fail
      go_region
      go_wp2_with fail
      go_roundw
      case rel=>exact ⟨k+1,_,by go_num,by omega,by simp,by rw [HP.out.1,HP.out.2,List.append_nil,List.append_nil];exact HS.out.step (Below.refl _ _).drew.drew⟩
      case measure=>simp [intOf];omega
     ·have hx0:xk=[c.key]/\xv=[c.v]:=by
       have h3:¬ c.kq=3:=by simpa using HD.out
       rw [<- HXK.out.1,<- HXK.out.2,if_neg h3,if_neg h3];exact ⟨rfl,rfl⟩
      obtain ⟨rfl,rfl⟩:=hx0;have hge:=zcl c.key.toList h.keys[k].toList;rw [l1] at hge;cases t
      ·have hq1:q=k:=by rw [<- HQ.out];rfl
       subst hq1;have HP:=hid (And.intro (zfY (x:=[c.key]) hlk) (zfY (x:=[c.v]) hlt));have l3:Op.bytesLess c.key.toList h.keys[q].toList=true:=by
        rcases (show Op.bytesLess c.key.toList h.keys[q].toList=true\/c.key.toList=h.keys[q].toList by simpa using hge) with h | h
        ·exact h
        ·rw [h] at l2;simp at l2
       generalize h.keys[q]=kk at *;generalize h.vz[q]=x at *;generalize hm:(partK q q [c.v] h.vz q).length=m at *;have HMM:=hid hm;have HM:=hid (show (m+1<=maxLen/\(m+1) * 96<=140737488355328) by have:m<=2 * h.vz.length+2:=(by rw [<- hm];exact zce hxl);unfold maxLen;omega)
       have HM2:=hid (show (m+1+1<=maxLen/\(m+1+1) * 96<=140737488355328) by have:m<=2 * h.vz.length+2:=(by rw [<- hm];exact zce hxl);unfold maxLen;omega)
       clear hm
       go_wp2_with fail
       go_region
       go_wp2_with (at_builtin;refine wpList_append_own_at _ rfl (.tmp 36) (.tmp 38) 27 rfl wc.heap.size 56 i1 _ 6 96 Tryz.underlying27 HI1.out.1 HI1.out.2.1 HI1.out.2.2.1 HI1.out.2.2.2 rfl (by decide) (.slice A3 m c3) (m) _ rfl ((HS.out.step (by first | exact (((Below.refl _ _).drew).drew).alloc (Nat.le_refl _) _ | exact ((Below.refl _ _).drew).alloc (Nat.le_refl _) _ | exact (Below.refl _ _).alloc (Nat.le_refl _) _)).own) _ 1 1 (.string c.key :: chunk c.v (.slice CL c.v.il.length eL) (.slice CO c.v.vz.length eO)) rfl rfl (row_cells' _ _ rfl _ _) (by simp [chunk,Value.oneCell']) HM.out.1 HM.out.2 (by have:=HS.out.below.size;simp;omega) ?_;intro v5 W5 hown5 hgrow5 _ hat5;obtain ⟨A5,c5,rfl⟩:=zaf hown5;have HS5:=hid ((HS.out.step (by first | exact (((Below.refl _ _).drew).drew).alloc (Nat.le_refl _) _ | exact ((Below.refl _ _).drew).alloc (Nat.le_refl _) _ | exact (Below.refl _ _).alloc (Nat.le_refl _) _)).app HVC.out.1 HVC.out.2 hown5 hgrow5);clear hown5 hgrow5 hat5 q2 e0 e1 e2 e3 e4 e5;have q2:=(H1.out.below HS5.out.below H1.out.lt).tw.c2;obtain ⟨e0,e1,e2,e3,e4,e5⟩:=HCE.out _ HS5.out.below)
       go_region
       go_wp2_with (at_builtin;refine wpList_append_own_at _ rfl (.tmp 48) (.tmp 53) 27 rfl wc.heap.size 56 i1 _ 6 96 Tryz.underlying27 HI1.out.1 HI1.out.2.1 HI1.out.2.2.1 HI1.out.2.2.2 rfl (by decide) (.slice A5 (m+1) c5) (m+1) _ rfl ((HS5.out.step (((Below.refl _ W5).alloc (Nat.le_refl _) _).drew)).own) _ 1 1 (.string kk :: chunk x (.slice A1 x.il.length a1) (.slice A2 x.vz.length a2)) rfl rfl (row_cells' _ _ rfl _ _) (by simp [chunk,Value.oneCell']) HM2.out.1 HM2.out.2 (by have:=HS5.out.below.size;simp;omega) ?_;intro v7 W7 hown7 hgrow7 _ hat7;obtain ⟨A7,c7,rfl⟩:=zaf hown7;have HS7:=hid ((HS5.out.step (((Below.refl _ W5).alloc (Nat.le_refl _) _).drew)).app HI.out.1 HI.out.2 hown7 hgrow7);clear hown7 hgrow7 hat7)
       go_roundw
       case rel=>exact ⟨q+1,_,by go_num,by omega,by simp,by rw [HP.out.1,HP.out.2,List.length_append,List.length_append,HMM.out];exact HS7.out⟩
       case measure=>simp [intOf];omega
      ·have hq1:q=k+1:=by rw [<- HQ.out];rfl
       subst hq1;have HP:=hid (And.intro (zcW (x:=[c.key]) hlk) (zcW (x:=[c.v]) hlt));have hqe:h.keys[k].toList=c.key.toList:=by simpa using l2
       have l3:Op.bytesLess c.key.toList h.keys[k].toList=false:=by rw [hqe] at l1 ⊢;exact l1
       clear hqe;generalize h.keys[k]=kk at *;generalize h.vz[k]=x at *;generalize hm:(partK k (k+1) [c.v] h.vz k).length=m at *;have HMM:=hid hm;have HM:=hid (show (m+1<=maxLen/\(m+1) * 96<=140737488355328) by have:m<=2 * h.vz.length+2:=(by rw [<- hm];exact zce hxl);unfold maxLen;omega)
       have HM2:=hid (show (m+1+1<=maxLen/\(m+1+1) * 96<=140737488355328) by have:m<=2 * h.vz.length+2:=(by rw [<- hm];exact zce hxl);unfold maxLen;omega)
       clear hm
       go_wp2_with fail
       go_region
       go_wp2_with (at_builtin;refine wpList_append_own_at _ rfl (.tmp 36) (.tmp 38) 27 rfl wc.heap.size 56 i1 _ 6 96 Tryz.underlying27 HI1.out.1 HI1.out.2.1 HI1.out.2.2.1 HI1.out.2.2.2 rfl (by decide) (.slice A3 m c3) (m) _ rfl ((HS.out.step (by first | exact (((Below.refl _ _).drew).drew).alloc (Nat.le_refl _) _ | exact ((Below.refl _ _).drew).alloc (Nat.le_refl _) _ | exact (Below.refl _ _).alloc (Nat.le_refl _) _)).own) _ 1 1 (.string c.key :: chunk c.v (.slice CL c.v.il.length eL) (.slice CO c.v.vz.length eO)) rfl rfl (row_cells' _ _ rfl _ _) (by simp [chunk,Value.oneCell']) HM.out.1 HM.out.2 (by have:=HS.out.below.size;simp;omega) ?_;intro v5 W5 hown5 hgrow5 _ hat5;obtain ⟨A5,c5,rfl⟩:=zaf hown5;have HS5:=hid ((HS.out.step (by first | exact (((Below.refl _ _).drew).drew).alloc (Nat.le_refl _) _ | exact ((Below.refl _ _).drew).alloc (Nat.le_refl _) _ | exact (Below.refl _ _).alloc (Nat.le_refl _) _)).app HVC.out.1 HVC.out.2 hown5 hgrow5);clear hown5 hgrow5 hat5 q2 e0 e1 e2 e3 e4 e5;have q2:=(H1.out.below HS5.out.below H1.out.lt).tw.c2;obtain ⟨e0,e1,e2,e3,e4,e5⟩:=HCE.out _ HS5.out.below)
       go_region
       go_wp2_with fail
       go_roundw
       case rel=>exact ⟨k+1,_,by go_num,by omega,by simp,by rw [HP.out.1,HP.out.2,List.length_append,HMM.out];exact HS5.out.step (Below.refl _ _).drew⟩
       case measure=>simp [intOf];omega
    ·have hpk:p<k:=by have:k≠p:=(by simpa using hne.2);omega
     have hdec:(d0 || decide (p<k))=true:=by simp [hpk]
     rw [hdec];have hq1:q<=p+1:=by rw [<- HQ.out];split<;>omega
     have HP:=hid (And.intro (zfT (p:=p) (q:=q) (x:=xk) hpk hq1 hlk) (zfT (p:=p) (q:=q) (x:=xv) hpk hq1 hlt));generalize h.keys[k]=kk at *;generalize h.vz[k]=x at *;generalize hm:(partK p q xv h.vz k).length=m at *;have HMM:=hid hm;have HM:=hid (show (m+1<=maxLen/\(m+1) * 96<=140737488355328) by have:m<=2 * h.vz.length+2:=(by rw [<- hm];exact zce hxl);unfold maxLen;omega)
     have HM2:=hid (show (m+1+1<=maxLen/\(m+1+1) * 96<=140737488355328) by have:m<=2 * h.vz.length+2:=(by rw [<- hm];exact zce hxl);unfold maxLen;omega)
     clear hm
     go_wp2_with fail
     go_region
     go_wp2_with fail
     go_region
     go_wp2_with (at_builtin;refine wpList_append_own_at _ rfl (.tmp 48) (.tmp 53) 27 rfl wc.heap.size 56 i1 _ 6 96 Tryz.underlying27 HI1.out.1 HI1.out.2.1 HI1.out.2.2.1 HI1.out.2.2.2 rfl (by decide) (.slice A3 m c3) (m) _ rfl ((HS.out.step (by first | exact (((Below.refl _ _).drew).drew).alloc (Nat.le_refl _) _ | exact ((Below.refl _ _).drew).alloc (Nat.le_refl _) _ | exact (Below.refl _ _).alloc (Nat.le_refl _) _)).own) _ 1 1 (.string kk :: chunk x (.slice A1 x.il.length a1) (.slice A2 x.vz.length a2)) rfl rfl (row_cells' _ _ rfl _ _) (by simp [chunk,Value.oneCell']) HM.out.1 HM.out.2 (by have:=HS.out.below.size;simp;omega) ?_;intro v5 W5 hown5 hgrow5 _ hat5;obtain ⟨A5,c5,rfl⟩:=zaf hown5;have HS5:=hid ((HS.out.step (by first | exact (((Below.refl _ _).drew).drew).alloc (Nat.le_refl _) _ | exact ((Below.refl _ _).drew).alloc (Nat.le_refl _) _ | exact (Below.refl _ _).alloc (Nat.le_refl _) _)).app HI.out.1 HI.out.2 hown5 hgrow5);clear hown5 hgrow5 hat5)
     go_roundw
     case rel=>exact ⟨k+1,_,by go_num,by omega,by simp;omega,by rw [HP.out.1,HP.out.2,List.length_append,HMM.out];exact HS5.out⟩
     case measure=>simp [intOf];omega
   ·have hkn2:k=h.vz.length:=by omega
    have hfin:=zmP hkl HPT.out.1 HPT.out.2 (by
     rcases HK.out.2 with h2 | ⟨h3,h4⟩
     ·exact .inl h2
     ·exact .inr ⟨h3,HPT.out.2 ▸ h4⟩)
    rw [HXK.out.1,HXK.out.2,HQ.out] at hfin;by_cases hpn:p<h.vz.length
    ·have hdec:(d0 || decide (p<k))=true:=by simp;right;omega
     rw [hdec];have HE:=hid (show (doH h c).keys=partK p q xk h.keys k/\(doH h c).vz=partK p q xv h.vz k by
      rw [hfin.1,hfin.2,hkn2,zhx hpn,<- hkl,zhx (by omega)]
      exact ⟨rfl,rfl⟩)
     clear hfin hkn2;go_wp2
     go_ret
     exact zi9 HS.out rfl HB1.out HQQ.out HE.out.1 HE.out.2
    ·have hd:d0=false:=by
      rcases HKD.out with ⟨_,h2⟩ | h1
      ·have:=HTP.out h2;omega
      ·exact h1
     subst hd;have hdec:(false || decide (p<k))=false:=by simp;omega
     rw [hdec];have hx0:xk=[c.key]/\xv=[c.v]:=by
      have h3:¬ c.kq=3:=by simpa using HD.out
      rw [<- HXK.out.1,<- HXK.out.2,if_neg h3,if_neg h3];exact ⟨rfl,rfl⟩
     obtain ⟨rfl,rfl⟩:=hx0;have hpq:p<=q:=by rw [<- HQ.out];omega
     have HE:=hid (show (doH h c).keys=partK p q [c.key] h.keys k++[c.key]/\(doH h c).vz=partK p q [c.v] h.vz k++[c.v] by
      rw [hfin.1,hfin.2,hkn2,zh0 (by omega),<- hkl,zh0 (by omega),List.take_of_length_le (by omega),List.take_of_length_le (by omega),List.drop_of_length_le (by omega),List.drop_of_length_le (by omega)]
      simp)
     have q2:=(H1.out.below HS.out.below H1.out.lt).tw.c2;obtain ⟨x0,x1,x2,x3,x4,x5,_⟩:=zjn (HX.out.below HS.out.below HX.out.lt);clear hfin;generalize hm:(partK p q [c.v] h.vz k).length=m at *;have HMM:=hid hm;have HM:=hid (show (m+1<=maxLen/\(m+1) * 96<=140737488355328) by have:m<=2 * h.vz.length+2:=(by rw [<- hm];exact zce hxl);unfold maxLen;omega)
     clear hm hkn2
     go_wp2_with (at_builtin;refine wpList_append_own_at _ rfl (.tmp 57) (.tmp 59) 27 rfl wc.heap.size 56 i1 _ 6 96 Tryz.underlying27 HI1.out.1 HI1.out.2.1 HI1.out.2.2.1 HI1.out.2.2.2 rfl (by decide) (.slice A3 m c3) (m) _ rfl ((HS.out.step (by first | exact (((Below.refl _ _).drew).drew).alloc (Nat.le_refl _) _ | exact ((Below.refl _ _).drew).alloc (Nat.le_refl _) _ | exact (Below.refl _ _).alloc (Nat.le_refl _) _)).own) _ 1 1 (.string c.key :: chunk c.v (.slice CL c.v.il.length eL) (.slice CO c.v.vz.length eO)) rfl rfl (row_cells' _ _ rfl _ _) (by simp [chunk,Value.oneCell']) HM.out.1 HM.out.2 (by have:=HS.out.below.size;simp;omega) ?_;intro v5 W5 hown5 hgrow5 _ hat5;obtain ⟨A5,c5,rfl⟩:=zaf hown5;have HS5:=hid ((HS.out.step (by first | exact (((Below.refl _ _).drew).drew).alloc (Nat.le_refl _) _ | exact ((Below.refl _ _).drew).alloc (Nat.le_refl _) _ | exact (Below.refl _ _).alloc (Nat.le_refl _) _)).app HVC.out.1 HVC.out.2 hown5 hgrow5);clear hown5 hgrow5 hat5)
     go_ret
     exact zi9 HS5.out (by simp [HMM.out]) HB1.out HQQ.out HE.out.1 HE.out.2
end Go.Proofs.YtmmgdkpkcoopgaaGreatDoor
