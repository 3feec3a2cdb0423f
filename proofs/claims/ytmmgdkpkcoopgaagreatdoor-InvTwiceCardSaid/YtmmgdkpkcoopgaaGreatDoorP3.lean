/- Texts in one: Read, Deep, Weight, Self, Itself, Sound, Pairs, Same, RefW. -/
import Derived.Test.YtmmgdkpkcoopgaaGreatDoorP2
import Derived.Sort.CutIn
import Derived.Test.YtmmgdkpkcoopgaaGreatDoorP1
import Derived.Test.YtmmgdkpkcoopgaaGreatDoorLaysT
import Derived.WalkKit
import Derived.WalkSpells
import Derived.WalkLawsBesides
import Derived.Deep.QuietTactic
import Derived.BigQuiet
import Derived.Lib.Hide
import Derived.IntWalk
import Derived.Deep.RegionLaw
import Derived.BigRegion
import Derived.Shelf.Abstract
import Derived.Shelf.RegionOpen
import Derived.OwnWalkIn
import Derived.TacticsInMore
import Derived.LoopNIn
import Derived.LoopIn
import Derived.Sort.LoopGhostIn
import Derived.StillTailTactics
import Derived.Lib.QuietBelow
set_option maxRecDepth 100000
set_option maxHeartbeats 8000000
namespace Go.Proofs.YtmmgdkpkcoopgaaGreatDoor
open Go.Lib(hid)
open Go Go.RowKit Go.Shelf
attribute [local go_sem] Oper.semAt_some
structure Ahead (n0:Nat) (w0:World) (S:List Item):Prop where
 ats:∀ x∈S,x.b<n0/\(∃ e cs,e≠168/\e≠178/\Whole w0 x.b e cs)/\x.g.at (fun k=>k<n0) w0 x.b x.off
theorem LstV.kids {n0:Nat} {w0:World} {L:Value} {l:List GV} (h:LstV (fun k=>k<n0) w0 L l) (d:Nat):
  ∃ A c lb lo,L=.slice A l.length c/\(l≠[]->A=some ⟨lb,lo,none⟩)/\Ahead n0 w0 (itemsAt d lb 5 lo l):=by
 rcases h with ⟨rfl,rfl⟩ | ⟨b,o,c,rfl,h1,h2,hK,hE⟩
 ·exact ⟨_,_,0,0,rfl,fun h=>absurd rfl h,⟨fun x hx=>by simp [itemsAt] at hx⟩⟩
 ·refine ⟨_,_,b,o,rfl,fun _=>rfl,?_⟩
  have:∀ (l:List GV) (o:Nat),GV.els (fun k=>k<n0) w0 b 5 o l->Ahead n0 w0 (itemsAt d b 5 o l):=fun l=>by
   induction l with
   | nil=>exact fun o _=>⟨fun x hx=>by simp [itemsAt] at hx⟩
   | cons g r ih=>
    intro o hE;unfold GV.els at hE;refine ⟨fun x hx=>?_⟩
    simp only [itemsAt,List.mem_cons] at hx;rcases hx with rfl | hx
    ·obtain ⟨hb,cur,hc⟩:=hK
     exact ⟨hb,⟨_,cur,by decide,by decide,hc⟩,hE.1⟩
    ·exact (ih _ hE.2).ats x hx
  exact this l o hE
theorem ObjV.kids {n0:Nat} {w0:World} {O:Value} {ks:List ByteArray} {ov:List GV} (h:ObjV (fun k=>k<n0) w0 O ks ov) (d:Nat):
  ∃ A c ob oo,O=.slice A ov.length c/\(ov≠[]->A=some ⟨ob,oo,none⟩)/\Ahead n0 w0 (itemsAt d ob 6 (oo+1) ov):=by
 rcases h.2 with ⟨rfl,rfl⟩ | ⟨b,o,c,rfl,h1,h2,hK,_,hE⟩
 ·exact ⟨_,_,0,0,rfl,fun h=>absurd rfl h,⟨fun x hx=>by simp [itemsAt] at hx⟩⟩
 ·refine ⟨_,_,b,o,rfl,fun _=>rfl,?_⟩
  have:∀ (l:List GV) (o:Nat),GV.els (fun k=>k<n0) w0 b 6 o l->Ahead n0 w0 (itemsAt d b 6 o l):=fun l=>by
   induction l with
   | nil=>exact fun o _=>⟨fun x hx=>by simp [itemsAt] at hx⟩
   | cons g r ih=>
    intro o hE;unfold GV.els at hE;refine ⟨fun x hx=>?_⟩
    simp only [itemsAt,List.mem_cons] at hx;rcases hx with rfl | hx
    ·obtain ⟨hb,cur,hc⟩:=hK
     exact ⟨hb,⟨_,cur,by decide,by decide,hc⟩,hE.1⟩
    ·exact (ih _ hE.2).ats x hx
  exact this ov (o+1) hE
theorem Ahead.front {n0:Nat} {w0:World} {S T:List Item} (h:Ahead n0 w0 (S++T)):Ahead n0 w0 S:=⟨fun x hx=>h.ats x (List.mem_append.2 (.inl hx))⟩
theorem Ahead.join {n0 w0} {S T:List Item} (h:Ahead n0 w0 S) (k:Ahead n0 w0 T):Ahead n0 w0 (S++T):=⟨fun x hx=>(List.mem_append.1 hx).elim (h.ats x) (k.ats x)⟩
theorem Ahead.now {n0:Nat} {w0 W:World} {rest:List Item} {x:Item} (h:Ahead n0 w0 (rest++[x])) (hb:Below n0 w0 W):
  ∃ AL cL AO cO lb lo ob oo,W.cell? ⟨x.b,x.off,none⟩=some (.int .u8 x.g.kq)/\W.cell? ⟨x.b,x.off+1,none⟩=some (.int .i64 x.g.num)/\W.cell? ⟨x.b,x.off+2,none⟩=some (.string x.g.str) /\
   W.cell? ⟨x.b,x.off+3,none⟩=some (.slice AL x.g.il.length cL)/\W.cell? ⟨x.b,x.off+4,none⟩=some (.slice AO x.g.vz.length cO) /\
   LstV (fun k=>k<n0) w0 (.slice AL x.g.il.length cL) x.g.il/\ObjV (fun k=>k<n0) w0 (.slice AO x.g.vz.length cO) x.g.keys x.g.vz /\
   (∀ W',Below n0 w0 W'->KidsAt W' x 168 lb lo ob oo)/\Ahead n0 w0 (rest++kids x lb lo ob oo):=by
 obtain ⟨hlt,⟨e,cs,he,he',hw⟩,hat⟩:=h.ats x (by simp)
 obtain ⟨L,O,h0,h1,h2,h3,h4,hL,hO⟩:=GV.at_iff.1 hat;obtain ⟨AL,cL,lb,lo,rfl,hl,hal⟩:=hL.kids (x.d+1);obtain ⟨AO,cO,ob,oo,rfl,ho,hao⟩:=hO.kids (x.d+1);have c:∀ {W':World} (_:Below n0 w0 W') (j:Nat),W'.cell? ⟨x.b,j,none⟩=w0.cell? ⟨x.b,j,none⟩:=fun h j=>h.cell (p:=⟨x.b,j,none⟩) hlt
 refine ⟨AL,cL,AO,cO,lb,lo,ob,oo,(c hb _).trans h0,(c hb _).trans h1,(c hb _).trans h2,(c hb _).trans h3,(c hb _).trans h4,hL,hO,fun W' hW'=>⟨⟨e,cs,he,hw.below hW' hlt⟩,⟨AL,cL,(c hW' _).trans h3,hl⟩,⟨AO,cO,(c hW' _).trans h4,ho⟩⟩,h.front.join (hal.join hao)⟩
theorem Whole.apart {W} {b l:Nat} {t:TypeId} {cs:Array Value} {o:Obj} (h:Whole W b t cs) (hl:W.heap[l]? = some o) (ho:o.isCells=false) (o':Obj):Whole (W.putObj l o') b t cs:=by
 refine h.of_eq (World.putObj_heap_other ?_)
 rintro rfl
 rw [show W.heap[b]? = _ from h] at hl;cases hl
 cases ho
theorem zaC {n0 l:Nat} {w0 W:World} (h:Below n0 w0 W) (hl:n0<=l) {o:Obj} (hk:W.heap[l]? = some o) (o':Obj):Below n0 w0 (W.putObj l o'):=
 h.trans ((Below.refl n0 W).grown (grownBy_putObj' W l o') (by have:=(Array.getElem?_eq_some_iff.1 hk).1;omega) (fun k e=>by cases e;omega))
theorem KidsAt.apart {W:World} {x:Item} {e:TypeId} {lb lo ob oo l:Nat} {o:Obj} (h:KidsAt W x e lb lo ob oo) (hl:W.heap[l]? = some o) (ho:o.isCells=false) (o':Obj):KidsAt (W.putObj l o') x e lb lo ob oo:=by
 obtain ⟨t,cs,hne,hw⟩:=h.whole;have hw':=hw.apart hl ho o';have he:(W.putObj l o').heap[x.b]? = W.heap[x.b]?:=(show _=_ from hw').trans (show W.heap[x.b]? = _ from hw).symm;obtain ⟨A1,c1,h1,h1'⟩:=h.lst;obtain ⟨A2,c2,h2,h2'⟩:=h.obj;exact ⟨⟨t,cs,hne,hw'⟩,⟨A1,c1,(World.cell?_of_block (a:=⟨x.b,x.off+3,none⟩) he).trans h1,h1'⟩,⟨A2,c2,(World.cell?_of_block (a:=⟨x.b,x.off+4,none⟩) he).trans h2,h2'⟩⟩
theorem Owned.apart {W:World} {e:TypeId} {own:List (Nat × Array Value)} {l:Nat} {o:Obj} (h:Owned e own W) (hl:W.heap[l]? = some o) (ho:o.isCells=false) (o':Obj):Owned e own (W.putObj l o'):=fun p hp=>(h p hp).apart hl ho o'
theorem zdl {B:Nat} {J:List Item->World->Prop} (hJ:∀ S,Apart B (J S)) (x:Due):Apart B (Due.Pre J x):=
 fun W l o o' hB hl ho ho' h=>⟨hJ _ W l o o' hB hl ho ho' h.1,h.2.apart hl ho o'⟩
theorem zck {B:Nat} {J:List Item->World->Prop} (hJ:∀ S,Apart B (J S)) (x:Due):Apart B (Due.Post J x):=by
 rintro W l o o' hB hl ho ho' ⟨h,lb,lo,ob,oo,hk,hj⟩
 exact ⟨h.apart hl ho o',lb,lo,ob,oo,hk.apart hl ho o',hJ _ W l o o' hB hl ho ho' hj⟩
structure Reads1 (n0:Nat) (w0:World) (bm:Nat) (tm:TypeId) (C:List Item->Value->Prop) (S:List Item) (W:World):Prop where
 ahead:Ahead n0 w0 S
 below:Below n0 w0 W
 box:∃ u,Whole W bm tm #[u]/\C S u
section
variable {n0:Nat} {w0:World} {bm:Nat} {tm:TypeId} {C:List Item->Value->Prop}
theorem Reads1.apart {B:Nat} (hB:n0<=B) (S:List Item):Apart B (Reads1 n0 w0 bm tm C S):=fun W l o o' hl hk ho _ h=>by
 obtain ⟨u,hu,hc⟩:=h.box;exact ⟨h.ahead,zaC h.below (by omega) hk o',u,hu.apart hk ho o',hc⟩
theorem Reads1.but {base:Nat} (hn:n0<=base) (hw:n0<=w0.heap.size) (htm:tm≠168) (S:List Item) (X Y:World) (h:Reads1 n0 w0 bm tm C S X) (hb:But 168 base X Y):Reads1 n0 w0 bm tm C S Y:=by
 obtain ⟨u,hu,hc⟩:=h.box;exact ⟨h.ahead,h.below.trans (hb.below hn (by have:=h.below.size;omega)),u,hb.whole hu htm,hc⟩
end
theorem Whole.ne {W b b'} {t t':TypeId} {cs cs':Array Value} (h:Whole W b t cs) (h':Whole W b' t' cs') (hne:t≠t'):b≠b':=by
 rintro rfl
 have h2:some (Obj.cells cs t (0,0))=some (Obj.cells cs' t' (0,0)):=(show W.heap[b]? = _ from h).symm.trans h';simp at h2
 exact hne h2.2
theorem Owned.far {W:World} {own:List (Nat × Array Value)} {e t:TypeId} {bm} {cs:Array Value} (h:Owned e own W) (hw:Whole W bm t cs) (hne:t≠e) (j:Nat) (u:Value):Owned e own (W.setCell ⟨bm,j,none⟩ u):=
 fun p hp=>(h p hp).far ((h p hp).ne hw (fun e'=>hne e'.symm)) u
theorem Owned.below {W W':World} {own:List (Nat × Array Value)} {e:TypeId} (h:Owned e own W) (hb:Below W.heap.size W W'):Owned e own W':=fun p hp=>(h p hp).below hb (h p hp).lt
theorem zaX {D:Nat} {W W':World} (hb:Below W.heap.size W W'):KeepsFrom D W W':=⟨hb.size,fun k _ _ hk _=>(hb.block k (Array.getElem?_eq_some_iff.1 hk).1).trans hk⟩
theorem zeS {n0 D bm:Nat} {w0 W:World} {tm:TypeId} {C:List Item->Value->Prop} {rest:List Item} {x:Item} {own:List (Nat × Array Value)} {u u':Value} (hbm:n0<=bm) (htm:tm≠168)
  (hA:Ahead n0 w0 (rest++[x])) (hB:Below n0 w0 W) (hu:Whole W bm tm #[u]) (hO:Owned 168 own W) (hC:∀ lb lo ob oo,C (rest++kids x lb lo ob oo) u'):
  KeepsFrom D W (W.setCell ⟨bm,0,none⟩ u')/\Due.Post (Reads1 n0 w0 bm tm C) (x,rest,own) (W.setCell ⟨bm,0,none⟩ u'):=by
 obtain ⟨_,_,_,_,lb,lo,ob,oo,_,_,_,_,_,_,_,hk,ha⟩:=hA.now hB;have hb':Below n0 w0 (W.setCell ⟨bm,0,none⟩ u'):=hB.setCell hbm _;exact ⟨(KeepsOthers.setCell _ _ _).from _,hO.far hu htm 0 u',lb,lo,ob,oo,hk _ hb',⟨ha,hb',u',hu.put 0 u',hC lb lo ob oo⟩⟩
theorem ziP {n0 D bm:Nat} {w0 W W':World} {tm:TypeId} {C:List Item->Value->Prop} {rest:List Item} {x:Item} {own:List (Nat × Array Value)} {u:Value}
  (hA:Ahead n0 w0 (rest++[x])) (hB:Below n0 w0 W) (hn:n0<=W.heap.size) (hu:Whole W bm tm #[u]) (hO:Owned 168 own W) (hb:Below W.heap.size W W') (hk:KeepsFrom D W W') (hC:∀ lb lo ob oo,C (rest++kids x lb lo ob oo) u):
  KeepsFrom D W W'/\Due.Post (Reads1 n0 w0 bm tm C) (x,rest,own) W':=by
 have hb':Below n0 w0 W':=hB.trans (hb.mono hn);obtain ⟨_,_,_,_,lb,lo,ob,oo,_,_,_,_,_,_,_,hk',ha⟩:=hA.now hb';exact ⟨hk,hO.below hb,lb,lo,ob,oo,hk' _ hb',⟨ha,hb',u,hu.below hb hu.lt,hC lb lo ob oo⟩⟩
theorem zdO (p:Option Addr) (w:World):Calls Tryz.prog 101 #[.pointer p] w fun e w'=>e=.returned (.func (.func 121) #[] #[.pointer (some ⟨w.heap.size,0,none⟩)])/\w.alloc (.cells #[.pointer p] 113)=w':=by
 go_enter Tryz.func101,Tryz.ntmps101
 go_wp2
 go_ret
 exact ⟨rfl,rfl⟩
def dmaxs:List Item->Nat
 | []=>0
 | x :: r=>max (x.d+x.g.deep) (dmaxs r)
theorem zdH (a b:List Item):dmaxs (a++b)=max (dmaxs a) (dmaxs b):=by
 induction a with
 | nil=>simp [dmaxs]
 | cons x r ih=>simp [dmaxs,ih,Nat.max_assoc]
theorem zcI {d b step:Nat}:∀ {off:Nat} {l:List GV},max d (dmaxs (itemsAt (d+1) b step off l))=d+GV.deeps l
 | _,[]=>by simp [itemsAt,dmaxs,GV.deeps]
 | off,g :: r=>by
  have:=zcI (d:=d) (b:=b) (step:=step) (off:=off+step) (l:=r);simp only [itemsAt,dmaxs,GV.deeps];omega
theorem ziQ (x:Item) (lb lo ob oo:Nat):max x.d (dmaxs (kids x lb lo ob oo))=x.d+x.g.deep:=by
 have h1:=zcI (d:=x.d) (b:=lb) (step:=5) (off:=lo) (l:=x.g.il);have h2:=zcI (d:=x.d) (b:=ob) (step:=6) (off:=oo+1) (l:=x.g.vz);have h3:x.g.deep=max (GV.deeps x.g.il) (GV.deeps x.g.vz):=by cases x.g with | mk k n s l ks ov=>simp only [GV.deep,GV.il,GV.vz]
 unfold kids;rw [zdH,h3];omega
theorem zcL {ok w} {g:GV} {L O:Value} (hL:LstV ok w L g.il) (hO:ObjV ok w O g.keys g.vz):
  Ahead (w.heap.size+1) (w.alloc (.cells #[.int .u8 g.kq,.int .i64 g.num,.string g.str,L,O] 29)) [⟨0,w.heap.size,0,g⟩]:=by
 have hF:From ok w (w.alloc (.cells #[.int .u8 g.kq,.int .i64 g.num,.string g.str,L,O] 29)):=fun k _ hk=>Below.heap_alloc _ _ _ hk
 have hw:=Whole.new w 29 #[.int .u8 g.kq,.int .i64 g.num,.string g.str,L,O];refine ⟨fun x hx=>?_⟩
 simp only [List.mem_singleton] at hx;subst hx;refine ⟨by simp,⟨_,_,by decide,by decide,hw⟩,GV.at_iff.2 ⟨L,O,(hw.cell 0).trans rfl,(hw.cell 1).trans rfl,(hw.cell 2).trans rfl,(hw.cell 3).trans rfl,(hw.cell 4).trans rfl,hL.keep hF (fun k _ hk=>by omega),hO.keep hF (fun k _ hk=>by omega)⟩⟩
open Go Go.RowKit Go.Shelf
attribute [local go_sem] Oper.semAt_some
theorem zkx (ok:Nat->Prop) (v:Value) (g:GV) (w:World) (hv:g.val ok w v) (hg:g.size<=1000000000):
  Calls Tryz.prog 86 #[v] w fun e w'=>e=.returned (.int .i64 g.deep)/\Below w.heap.size w w':=by
 obtain ⟨L,O,rfl,hL,hO⟩:=hv;obtain ⟨AL,cL,rfl⟩:=zah hL;obtain ⟨AO,cO,rfl⟩:=zag hO;refine (callsIn_wide (n:=9)).1 ?_
 refine callsIn_of_wp_marks Tryz.func86 rfl trivial ?_ rfl
 simp only [Tryz.ntmps86,List.size_toArray,List.length_cons,List.length_nil,Nat.reduceAdd,Nat.reduceSub,Array.replicate_succ,Array.replicate_zero,List.push_toArray,List.append_toArray,List.nil_append,List.cons_append]
 gi_wp2_with (refine ⟨trivial,?_⟩;gi_at_call 101;refine (callsIn_wide.2 (zdO _ _)).mono ?_;rintro e w' ⟨rfl,rfl⟩)
 have hah:=zcL hL hO;have hw0:(w.alloc (.cells #[.int .u8 g.kq,.int .i64 g.num,.string g.str,.slice AL g.il.length cL,.slice AO g.vz.length cO] 29)).heap.size=w.heap.size+1:=by simp
 have hB1:Below w.heap.size w (w.alloc (.cells #[.int .u8 g.kq,.int .i64 g.num,.string g.str,.slice AL g.il.length cL,.slice AO g.vz.length cO] 29)):=(Below.refl _ _).alloc (Nat.le_refl _) _;obtain ⟨w0,hw0e⟩:∃ w0,w0=w.alloc (.cells #[.int .u8 g.kq,.int .i64 g.num,.string g.str,.slice AL g.il.length cL,.slice AO g.vz.length cO] 29):=⟨_,rfl⟩;rw [<- hw0e] at hah hw0 hB1 ⊢;clear hw0e hL hO;have hJb:∀ (base:Nat),w.heap.size+1<=base->∀ S X Y,Reads1 (w.heap.size+1) w0 (w.heap.size+1) 3 (fun S u=>∃ m:Nat,u=.int .i64 m/\max m (dmaxs S)=g.deep) S X->But 168 base X Y->Reads1 (w.heap.size+1) w0 (w.heap.size+1) 3 (fun S u=>∃ m:Nat,u=.int .i64 m/\max m (dmaxs S)=g.deep) S Y:=
  fun base hb S X Y h k=>h.but hb (by omega) (by decide) S X Y k
 refine zcf rfl (by decide) (gf:=121) (lb:=#[.pointer (some ⟨w.heap.size+1+1,0,none⟩)]) rfl trivial (enters_of Tryz.func121 (by kernel_rfl) rfl) Due.encs (fun _=>rfl)
  (Due.Pre (Reads1 (w.heap.size+1) w0 (w.heap.size+1) 3 (fun S u=>∃ m:Nat,u=.int .i64 m/\max m (dmaxs S)=g.deep)))
  (Due.Post (Reads1 (w.heap.size+1) w0 (w.heap.size+1) 3 (fun S u=>∃ m:Nat,u=.int .i64 m/\max m (dmaxs S)=g.deep)))
  (fun _ _=>False) (Reads1 (w.heap.size+1) w0 (w.heap.size+1) 3 (fun S u=>∃ m:Nat,u=.int .i64 m/\max m (dmaxs S)=g.deep) [])
  (zdl fun S=>Reads1.apart (by simp;omega) S) (zck fun S=>Reads1.apart (by simp;omega) S) (fun _ _ _ _ _ _ _ _ _ h=>h) (Reads1.apart (by simp;omega) _) ?seq
  (fun x=>{ tmps:=#[.agg #[.int .u8 g.kq,.int .i64 g.num,.string g.str,.slice AL g.il.length cL,.slice AO g.vz.length cO],.pointer (some ⟨w.heap.size,0,none⟩),.int .i64 0,.pointer (some ⟨w.heap.size+1,0,none⟩),.int .i64 x.1.d,.func (.func 121) #[] #[.pointer (some ⟨w.heap.size+1+1,0,none⟩)],.int .i64 x.1.d,.pointer (some ⟨x.1.b,x.1.off,none⟩),undef,undef,undef,undef],defers:=[] }) ?assign ?body ?done ?stop
 case seq=>
  rintro l W rfl ⟨o,o',ho,ho',rfl⟩
  refine zcP 8 (by decide) _ 1000000000 (Nat.le_refl _) _ _ (hJb _ (by simp;omega)) (w.heap.size+1+1) ⟨0,w.heap.size,0,g⟩ _ ?_ (by simpa using hg) ?_ rfl
  ·refine ⟨hah,((((Below.refl _ _).alloc (by omega) _).alloc (by simp;omega) _).alloc (by simp;omega) _).alloc (by simp;omega) _,.int .i64 0,?_,0,rfl,by simp [dmaxs]⟩
   have:=Whole.new w0 3 #[.int .i64 0];rw [hw0] at this;exact ((this.alloc _).alloc _).alloc _
  ·refine zab _ (zab _ ?_)
   have:=Whole.new (w0.alloc (.cells #[.int .i64 0] 3)) 113 #[.pointer (some ⟨w.heap.size,0,none⟩)];rw [World.size_alloc,hw0] at this;exact (this.cell 0).trans rfl
 case assign=>
  intro l x W K hK
  gi_wp2
  exact hK
 case body=>
  rintro l ⟨x,rest,own⟩ W ⟨⟨hA,hB,u,hu,m,rfl,hm⟩,hO⟩
  have hc:W.cell? ⟨w.heap.size+1,0,none⟩=some (.int .i64 m):=(hu.cell 0).trans rfl;have hf:W.frozen? ⟨w.heap.size+1,0,none⟩=false:=hu.frozen 0;have HM:=hid hm;have HU:=hid hu;clear hm hu;have hC:∀ m':Nat,m'=max m x.d->∀ lb lo ob oo,∃ k:Nat,(Value.int .i64 m':Value)=.int .i64 k/\max k (dmaxs (rest++kids x lb lo ob oo))=g.deep:=fun m' e lb lo ob oo=>by
   refine ⟨m',rfl,?_⟩
   have h1:=HM.out;have h2:=ziQ x lb lo ob oo;rw [zdH] at h1 ⊢;simp only [dmaxs] at h1;omega
  have HC:=hid hC;clear hC;have hmx:max (m:Int) (x.d:Int)=((max m x.d:Nat):Int):=by omega
  have HMX:=hid hmx;clear hmx
  gi_wp2
  all_goals first
   | (rw [HMX.out];exact zeS (Nat.le_refl _) (by decide) hA hB HU.out hO (HC.out _ rfl))
   | exact zeS (Nat.le_refl _) (by decide) hA hB HU.out hO (HC.out _ (by omega))
 case done=>
  rintro D W hD ⟨_,hB,u,hu,m,rfl,hm⟩ hK
  have hc:W.cell? ⟨w.heap.size+1,0,none⟩=some (.int .i64 m):=(hu.cell 0).trans rfl;have hm':m=g.deep:=by simpa [dmaxs] using hm
  have HM:=hid hm';clear hm hm' hu
  gi_wp2
  refine ⟨by simp,.inl ⟨_,_,rfl,run_takeDeferred hK,?_⟩⟩
  refine ⟨_,results_tmp rfl _ _ _,?_,?_⟩
  ·rw [<- HM.out];rfl
  ·exact hB1.trans ((zaC hB (by simp at hD;omega) hK _).mono (by omega))
 case stop=>
  rintro D c W _ h _
  exact h.elim
attribute [local go_sem] Oper.semAt_some
def wsum:List Item->Nat
 | []=>0
 | x :: r=>x.g.weight+wsum r
theorem zbt (a b:List Item):wsum (a++b)=wsum a+wsum b:=by
 induction a with
 | nil=>simp [wsum]
 | cons x r ih=>simp [wsum,ih];omega
theorem zdp {d b step:Nat}:∀ {off:Nat} {l:List GV},wsum (itemsAt d b step off l)=GV.weights l
 | _,[]=>by simp [itemsAt,wsum,GV.weights]
 | _,_ :: r=>by simp [itemsAt,wsum,GV.weights,zdp (l:=r)]
def ksum (ks:List ByteArray):Nat:=(ks.map (·.size)).sum
theorem zcU (ks:List ByteArray) (k:Nat) (h:k<ks.length):ksum (ks.take (k+1))=ksum (ks.take k)+ks[k].size:=by
 unfold ksum;rw [List.take_succ_eq_append_getElem h,List.map_append,List.sum_append];simp
theorem zep (ks:List ByteArray) (k:Nat):ksum (ks.take k)<=ksum ks:=by
 have:ksum (ks.take k++ks.drop k)=ksum (ks.take k)+ksum (ks.drop k):=by unfold ksum;rw [List.map_append,List.sum_append]
 rw [List.take_append_drop] at this;omega
theorem zbL (x:Item) (lb lo ob oo:Nat):x.g.weight=1+x.g.str.size+ksum x.g.keys+wsum (kids x lb lo ob oo):=by
 unfold kids;rw [zbt,zdp,zdp];cases x.g with | mk k n s l ks ov=>simp only [GV.weight,GV.str,GV.il,GV.keys,GV.vz,ksum];omega
theorem zdg {x:Item}:∀ {S:List Item},x∈S->x.g.weight<=wsum S
 | [],h=>by cases h
 | y :: r,h=>by
  simp only [wsum];rcases List.mem_cons.1 h with rfl | h
  ·omega
  ·have:=zdg h;omega
def KeyRel (n0 bm D m:Nat) (w0 W:World) (own:List (Nat × Array Value)) (ks:List ByteArray) (i:Value) (wr:World):Prop:=
 ∃ k:Nat,i=.int .i64 k/\k<=ks.length/\Whole wr bm 3 #[.int .i64 ((m+ksum (ks.take k):Nat):Int)]/\Below n0 w0 wr/\Owned 168 own wr/\KeepsFrom D W wr
theorem zad:∀ (g:GV),g.size<=g.weight:=by
 have h:(∀ g:GV,g.size<=g.weight)/\(∀ l:List GV,GV.sizes l<=GV.weights l):=by
  refine ⟨fun g=>?_,fun l=>?_⟩
  ·exact GV.rec (motive_1:=fun g=>g.size<=g.weight) (motive_2:=fun l=>GV.sizes l<=GV.weights l) (fun k n s l ks ov h1 h2=>by simp only [GV.size,GV.weight];omega) (by simp [GV.sizes]) (fun a r h1 h2=>by simp only [GV.sizes,GV.weights];omega) g
  ·exact GV.rec_1 (motive_1:=fun g=>g.size<=g.weight) (motive_2:=fun l=>GV.sizes l<=GV.weights l) (fun k n s l ks ov h1 h2=>by simp only [GV.size,GV.weight];omega) (by simp [GV.sizes]) (fun a r h1 h2=>by simp only [GV.sizes,GV.weights];omega) l
 exact h.1
theorem zic (ok:Nat->Prop) (v:Value) (g:GV) (w:World) (hv:g.val ok w v) (hg:g.weight<=1000000000):
  Calls Tryz.prog 87 #[v] w fun e w'=>e=.returned (.int .i64 g.weight)/\Below w.heap.size w w':=by
 obtain ⟨L,O,rfl,hL,hO⟩:=hv;obtain ⟨AL,cL,rfl⟩:=zah hL;obtain ⟨AO,cO,rfl⟩:=zag hO;refine (callsIn_wide (n:=9)).1 ?_
 refine callsIn_of_wp_marks Tryz.func87 rfl trivial ?_ rfl
 simp only [Tryz.ntmps87,List.size_toArray,List.length_cons,List.length_nil,Nat.reduceAdd,Nat.reduceSub,Array.replicate_succ,Array.replicate_zero,List.push_toArray,List.append_toArray,List.nil_append,List.cons_append]
 gi_wp2_with (refine ⟨trivial,?_⟩;gi_at_call 101;refine (callsIn_wide.2 (zdO _ _)).mono ?_;rintro e w' ⟨rfl,rfl⟩)
 have hah:=zcL hL hO;have hw0:(w.alloc (.cells #[.int .u8 g.kq,.int .i64 g.num,.string g.str,.slice AL g.il.length cL,.slice AO g.vz.length cO] 29)).heap.size=w.heap.size+1:=by simp
 have hB1:Below w.heap.size w (w.alloc (.cells #[.int .u8 g.kq,.int .i64 g.num,.string g.str,.slice AL g.il.length cL,.slice AO g.vz.length cO] 29)):=(Below.refl _ _).alloc (Nat.le_refl _) _;obtain ⟨w0,hw0e⟩:∃ w0,w0=w.alloc (.cells #[.int .u8 g.kq,.int .i64 g.num,.string g.str,.slice AL g.il.length cL,.slice AO g.vz.length cO] 29):=⟨_,rfl⟩;rw [<- hw0e] at hah hw0 hB1 ⊢;clear hw0e hL hO;have hJb:∀ (base:Nat),w.heap.size+1<=base->∀ S X Y,Reads1 (w.heap.size+1) w0 (w.heap.size+1) 3 (fun S u=>∃ m:Nat,u=.int .i64 m/\m+wsum S=g.weight) S X->But 168 base X Y->Reads1 (w.heap.size+1) w0 (w.heap.size+1) 3 (fun S u=>∃ m:Nat,u=.int .i64 m/\m+wsum S=g.weight) S Y:=
  fun base hb S X Y h k=>h.but hb (by omega) (by decide) S X Y k
 refine zcf rfl (by decide) (gf:=121) (lb:=#[.pointer (some ⟨w.heap.size+1+1,0,none⟩)]) rfl trivial (enters_of Tryz.func121 (by kernel_rfl) rfl) Due.encs (fun _=>rfl)
  (Due.Pre (Reads1 (w.heap.size+1) w0 (w.heap.size+1) 3 (fun S u=>∃ m:Nat,u=.int .i64 m/\m+wsum S=g.weight)))
  (Due.Post (Reads1 (w.heap.size+1) w0 (w.heap.size+1) 3 (fun S u=>∃ m:Nat,u=.int .i64 m/\m+wsum S=g.weight)))
  (fun _ _=>False) (Reads1 (w.heap.size+1) w0 (w.heap.size+1) 3 (fun S u=>∃ m:Nat,u=.int .i64 m/\m+wsum S=g.weight) [])
  (zdl fun S=>Reads1.apart (by simp;omega) S) (zck fun S=>Reads1.apart (by simp;omega) S) (fun _ _ _ _ _ _ _ _ _ h=>h) (Reads1.apart (by simp;omega) _) ?seq
  (fun x=>{ tmps:=#[.agg #[.int .u8 g.kq,.int .i64 g.num,.string g.str,.slice AL g.il.length cL,.slice AO g.vz.length cO],.pointer (some ⟨w.heap.size,0,none⟩),.int .i64 0,.pointer (some ⟨w.heap.size+1,0,none⟩),undef,.pointer (some ⟨x.1.b,x.1.off,none⟩),undef,.func (.func 121) #[] #[.pointer (some ⟨w.heap.size+1+1,0,none⟩)],.int .i64 x.1.d,.pointer (some ⟨x.1.b,x.1.off,none⟩),undef,undef,undef,undef,undef,undef,undef,undef,undef,undef,undef,undef,undef,undef,undef,undef,undef,undef,undef,undef,undef,undef,undef,undef,undef,undef,undef,undef,undef],defers:=[] }) ?assign ?body ?done ?stop
 case seq=>
  rintro l W rfl ⟨o,o',ho,ho',rfl⟩
  refine zcP 8 (by decide) _ 1000000000 (Nat.le_refl _) _ _ (hJb _ (by simp;omega)) (w.heap.size+1+1) ⟨0,w.heap.size,0,g⟩ _ ?_ (by have:=zad g;simp;omega) ?_ rfl
  ·refine ⟨hah,((((Below.refl _ _).alloc (by omega) _).alloc (by simp;omega) _).alloc (by simp;omega) _).alloc (by simp;omega) _,.int .i64 0,?_,0,rfl,by simp [wsum]⟩
   have:=Whole.new w0 3 #[.int .i64 0];rw [hw0] at this;exact ((this.alloc _).alloc _).alloc _
  ·refine zab _ (zab _ ?_)
   have:=Whole.new (w0.alloc (.cells #[.int .i64 0] 3)) 113 #[.pointer (some ⟨w.heap.size,0,none⟩)];rw [World.size_alloc,hw0] at this;exact (this.cell 0).trans rfl
 case assign=>
  intro l x W K hK
  gi_wp2
  exact hK
 case body=>
  rintro l ⟨x,rest,own⟩ W ⟨⟨hA,hB,u,hu,m,rfl,hm⟩,hO⟩
  have hc:W.cell? ⟨w.heap.size+1,0,none⟩=some (.int .i64 m):=(hu.cell 0).trans rfl;have hf:W.frozen? ⟨w.heap.size+1,0,none⟩=false:=hu.frozen 0;have HM:=hid hm;have HU:=hid hu;clear hm hu;replace hA:Ahead (w.heap.size+1) w0 (rest++[x]):=hA;obtain ⟨A1,c1,A2,c2,lb,lo,ob,oo,hx0,hx1,hx2,hx3,hx4,hLL,hOO,hkid,hah2⟩:=hA.now hB;have hwx:=zbL x lb lo ob oo;have hmx:=HM.out;rw [zbt] at hmx;simp only [wsum] at hmx;have b1:m+x.g.weight<=1000000000:=by omega
  have b2:1+x.g.str.size+ksum x.g.keys<=x.g.weight:=by omega
  clear hwx hmx;generalize hsz:x.g.str.size=sz at *;have e1:IntKind.i64.wrap (1+(sz:Int))=1+(sz:Int):=IntWalk.i64_in _ (by omega)
  have e2:IntKind.i64.wrap ((m:Int)+(1+(sz:Int)))=(m:Int)+(1+(sz:Int)):=IntWalk.i64_in _ (by omega)
  have hmix:Tryz.prog.follows .mixedOrders=true:=by kernel_rfl
  have hst:∀ (j:Int),Whole (W.setCell ⟨w.heap.size+1,0,none⟩ (.int .i64 j)).drew (w.heap.size+1) 3 #[.int .i64 j]:=fun j=>HU.out.put 0 _
  have hst2:∀ (j:Int),Below (w.heap.size+1) w0 (W.setCell ⟨w.heap.size+1,0,none⟩ (.int .i64 j)).drew/\Owned 168 own (W.setCell ⟨w.heap.size+1,0,none⟩ (.int .i64 j)).drew/\KeepsFrom (w0.heap.size+1+1) W (W.setCell ⟨w.heap.size+1,0,none⟩ (.int .i64 j)).drew:=fun j=>
   ⟨(hB.setCell (Nat.le_refl _) _).drew,hO.far HU.out (by decide) 0 _,((KeepsOthers.setCell _ _ _).trans (KeepsOthers.drew _)).from _⟩
  have HST:=hid (And.intro hst hst2);clear hst hst2;dsimp only
  gi_upto_region 4 with (fail)
  gi_cut [] from 10 (fun wx=>Whole wx (w.heap.size+1) 3 #[.int .i64 ((m:Int)+(1+(sz:Int)))]/\Below (w.heap.size+1) w0 wx/\Owned 168 own wx/\KeepsFrom (w0.heap.size+1+1) W wx)
  case first=>
   gi_region_with_o (fail)
   all_goals
    gi_wp2
    go_meet
    case rel=>exact ⟨HST.out.1 _,HST.out.2 _⟩
  case rest=>
   clear hx0 hx1 hx2 hx3 hx4 HST hc hf;obtain ⟨hcw,hcB,hcO,hcK⟩:=hcut;obtain ⟨A1',c1',A2',c2',lb',lo',ob',oo',hx0,hx1,hx2,hx3,hx4,_,hOO',hkid',hah2'⟩:=hA.now hcB;have hkl:=hOO'.1;have hwx:=hid (zbL x lb' lo' ob' oo');have HFORM:=hid hOO'.form;clear hkid hah2 hLL hOO hOO';have hgl:x.g.keys.length<=1000000000:=by have h1:=zaq x.g.vz;have h2:=zaD x.g;have h3:=zad x.g;omega
   have HKL:=hid hkl;have HSZ:=hid hsz;have hks2:m+1+sz+ksum x.g.keys<=1000000000:=by omega
   have hcw':Whole wc (w.heap.size+1) 3 #[.int .i64 ((m+1+sz+ksum (x.g.keys.take 0):Nat):Int)]:=by
    have e:((m+1+sz+ksum (x.g.keys.take 0):Nat):Int)=(m:Int)+(1+(sz:Int)):=by simp [ksum];omega
    rw [e];exact hcw
   have HCW:=hid hcw';have HKID:=hid (And.intro hkid' hah2');clear hcw hcw' hkl hsz hkid' hah2'
   gi_wp2
   gi_loopw [23] (KeyRel (w.heap.size+1) (w.heap.size+1) (w0.heap.size+1+1) (m+1+sz) w0 W own x.g.keys) (fun i _=>x.g.keys.length - (intOf i).toNat)
   case atStart=>exact ⟨0,rfl,Nat.zero_le _,HCW.out,hcB,hcO,hcK⟩
   case round=>
    obtain ⟨k,rfl,hk,hwb,hrB,hrO,hrK⟩:=hrel;by_cases hlt:k<x.g.keys.length
    ·have hlt2:k<x.g.vz.length:=by have:=HKL.out;omega
     obtain ⟨A3,c3,e3,_,_,hf3⟩:=HFORM.out;obtain ⟨rfl,rfl⟩:A2'=A3/\c2'=c3:=by simpa using e3
     obtain ⟨bk,okk,rfl,hKk,hks,_⟩:=hf3 (by intro e;rw [e] at hlt2;simp at hlt2)
     have hkc:=(hrB.cell (p:=⟨bk,okk+k * 6,none⟩) hKk.1).trans (hks.get (List.getElem?_eq_getElem hlt));obtain ⟨A1r,c1r,A2r,c2r,_,_,_,_,_,_,_,_,hy4,_,_,_,_⟩:=hA.now hrB;have hbx:=(hA.ats x (by simp)).1
     have hx4':wr.cell? ⟨x.b,x.off+4,none⟩=some (.slice (some ⟨bk,okk,none⟩) x.g.vz.length c2'):=by
      rw [hrB.cell (p:=⟨x.b,x.off+4,none⟩) hbx,<- hcB.cell (p:=⟨x.b,x.off+4,none⟩) hbx];exact hx4
     clear hy4 hks hKk e3;have HT:=hid (zcU x.g.keys k hlt);have hle:=zep x.g.keys (k+1);rw [HT.out] at hle;have hc0:wr.cell? ⟨w.heap.size+1,0,none⟩=some (.int .i64 ((m+1+sz+ksum (x.g.keys.take k):Nat):Int)):=(hwb.cell 0).trans rfl;have hf0:wr.frozen? ⟨w.heap.size+1,0,none⟩=false:=hwb.frozen 0;have HWB:=hid hwb;clear hwb;generalize hkz:x.g.keys[k].size=kz at *;generalize hmk:m+1+sz+ksum (x.g.keys.take k)=mk at *;have hmk2:mk+kz<=1000000000:=by omega
     have HMK:=hid hmk;have HKZ:=hid hkz;clear hmk;have e3:IntKind.i64.wrap ((mk:Int)+(kz:Int))=(mk:Int)+(kz:Int):=IntWalk.i64_in _ (by omega)
     gi_wp2
     gi_region_with_o (fail)
     all_goals
      gi_wp2
      go_roundw
      case rel=>
       refine ⟨k+1,by go_num,by omega,?_,(hrB.setCell (Nat.le_refl _) _).drew,hrO.far HWB.out (by decide) 0 _,hrK.trans (((KeepsOthers.setCell _ _ _).trans (KeepsOthers.drew _)).from _)⟩
       have e:((m+1+sz+ksum (x.g.keys.take (k+1)):Nat):Int)=(mk:Int)+(kz:Int):=by rw [HT.out,<- HMK.out];push_cast;omega
       rw [e];exact HWB.out.put 0 _
      case measure=>simp [intOf];omega
    ·have hk2:k=x.g.keys.length:=by omega
     subst hk2;have HE:=hid hwb;have hnl:¬ x.g.keys.length<x.g.vz.length:=by have:=HKL.out;omega
     clear hwb
     gi_wp2
     refine ⟨(by simpa [World.size_alloc] using hrK),hrO,lb',lo',ob',oo',HKID.out.1 _ hrB,⟨HKID.out.2,hrB,_,HE.out,_,rfl,?_⟩⟩
     show m+1+sz+ksum (x.g.keys.take x.g.keys.length)+wsum (rest++kids x lb' lo' ob' oo')=g.weight
     have h1:=HM.out;have h2:=hwx.out;have h3:=HSZ.out;rw [zbt] at h1 ⊢;simp only [wsum] at h1;rw [List.take_length];omega
 case done=>
  rintro D W hD ⟨_,hB,u,hu,m,rfl,hm⟩ hK
  have hc:W.cell? ⟨w.heap.size+1,0,none⟩=some (.int .i64 m):=(hu.cell 0).trans rfl;have hm':m=g.weight:=by simpa [wsum] using hm
  have HM:=hid hm';clear hm hm' hu
  gi_wp2
  refine ⟨by simp,.inl ⟨_,_,rfl,run_takeDeferred hK,?_⟩⟩
  refine ⟨_,results_tmp rfl _ _ _,?_,?_⟩
  ·rw [<- HM.out];rfl
  ·exact hB1.trans ((zaC hB (by simp at hD;omega) hK _).mono (by omega))
 case stop=>
  rintro D c W _ h _
  exact h.elim
def less' (a b:ByteArray):Bool:=Op.bytesLess a.toList b.toList
def valid (s:ByteArray):Bool:=Lib.validD s.data.toList
def Tabs (w:World):Prop:=Lib.Utf8Tabs (Tryz.laysValid_ren.g 3) (Tryz.laysValid_ren.g 4) w
theorem Tabs.below {w w':World} {B:Nat} (h:Tabs w) (hb:Below B w w') (hB:w.heap.size<=B):Tabs w':=by
 have hc:∀ (a:Addr) (v:Value),w.cell? a=some v->w'.cell? a=some v:=fun a v hv=>(hb.cell (by have:=World.block_lt_of_cell? w a hv;omega)).trans hv
 exact ⟨fun c hcc=>hc _ _ (h.1 c hcc),fun i hi=>⟨hc _ _ (h.2 i hi).1,hc _ _ (h.2 i hi).2⟩⟩
theorem zao (s:ByteArray) (w:World) (hs:s.size<=9223372036854775807) (hT:Tabs w):
  Calls Tryz.prog 54 #[.string s] w fun e w'=>e=.returned (.bool (valid s))/\Below w.heap.size w w':=
 Any.utf8_ValidString Tryz.laysValid s w hs hT
def KeysTo (ks:List ByteArray) (n:Nat):Prop:=∀ (i:Nat) (k:ByteArray),i<n->ks[i]? = some k->valid k=true/\(∀ (j:Nat) (p:ByteArray),i=j+1->ks[j]? = some p->less' p k=true)
def KeysOk (ks:List ByteArray):Prop:=KeysTo ks ks.length
theorem KeysTo.succ {ks:List ByteArray} {n:Nat} (h:KeysTo ks n) {k:ByteArray} (hk:ks[n]? = some k) (hv:valid k=true) (hl:∀ (j:Nat) (p:ByteArray),n=j+1->ks[j]? = some p->less' p k=true):KeysTo ks (n+1):=by
 intro i k' hi hk';by_cases e:i=n
 ·subst e;rw [hk] at hk';cases hk';exact ⟨hv,hl⟩
 ·exact h i k' (by omega) hk'
def BoolPost (P:Prop) (w:World) (e:Ending) (w':World):Prop:=∃ b:Bool,e=.returned (.bool b)/\(b=true↔P)/\Below w.heap.size w w'
def KeysRel (w:World) (ks:List ByteArray) (i:Value) (wr:World):Prop:=∃ k:Nat,i=.int .i64 k/\k<=ks.length/\KeysTo ks k/\Below w.heap.size w wr
theorem zit (ok) (O:Value) (ks ov w) (hO:ObjV ok w O ks ov) (hT:Tabs w) (hs:∀ k∈ks,k.size<=9223372036854775807):
  Calls Tryz.prog 124 #[O] w (BoolPost (KeysOk ks) w):=by
 have hkl:=hO.1;obtain ⟨A,c,rfl,hc1,hc2,hf⟩:=hO.form;clear hO;unfold maxLen at hc2;have HL:=hid hkl;have HF:=hid hf;have HS:=hid hs;have HT:=hid hT;clear hkl hf hs hT;go_enter Tryz.func124,Tryz.ntmps124
 go_wp2
 go_loopw [6] (KeysRel w ks) (fun i _=>ov.length - (intOf i).toNat)
 case atStart=>exact ⟨0,rfl,Nat.zero_le _,fun _ _ h=>absurd h (by omega),Below.refl _ _⟩
 case round=>
  obtain ⟨k,rfl,hk,hok,hB⟩:=hrel;have HOK:=hid hok;clear hok;by_cases hlt:k<ks.length
  ·have hlt':k<ov.length:=by have:=HL.out;omega
   obtain ⟨b,o,rfl,hK,hks,_⟩:=HF.out (by intro e;rw [e] at hlt';simp at hlt')
   have hc:=(hB.cell (p:=⟨b,o+k * 6,none⟩) hK.lt).trans (hks.get (List.getElem?_eq_getElem hlt));have HG:=hid (List.getElem?_eq_getElem hlt);have hcall:=zao ks[k] wr (HS.out _ (List.getElem_mem hlt)) (HT.out.below hB (Nat.le_refl _))
   -- the key ahead
   have hprev : ∀ j, k = j + 1 -> ∃ p, ks[j]? = some p := fun j e => ⟨ks[j]'(by omega), List.getElem?_eq_getElem (by omega)⟩
   have hkl1:b<wr.heap.size:=by have:=hK.lt;have:=hB.size;omega
   have hprevc:∀ j p,ks[j]? = some p->wr.cell? ⟨b,o+j * 6,none⟩=some (.string p):=fun j p hp=>(hB.cell (p:=⟨b,o+j * 6,none⟩) hK.lt).trans (hks.get hp)
   have HPC:=hid hprevc;clear hprevc hks;by_cases hv:valid ks[k]=true
   ·rw [hv] at hcall
    have HV:=hid hv;clear hv;by_cases hk0:k=0
    ·have hkz:¬ (0:Int)<(k:Int):=by omega
     have hkd:decide ((0:Int)<(k:Int))=false:=by simp;omega
     have hkd2:decide (0<k)=false:=by simp;omega
     have hkn:¬ 0<k:=by omega
     have HK0:=hid hk0;clear hprev hk0;generalize ks[k]=kk at *
     go_wp2_with (go_at_call 54;refine hcall.mono ?_;rintro e W1 ⟨rfl,hB1⟩)
     go_quiet (fail)
     go_wp2
     go_roundw
     case rel=>exact ⟨k+1,by go_num,by omega,HOK.out.succ HG.out HV.out (fun j p e _=>by have:=HK0.out;omega),hB.trans ((below_drewNv hB1 _).mono hB.size)⟩
     case measure=>simp [intOf];omega
    ·have hkz:(0:Int)<(k:Int):=by omega
     have hkn:0<k:=by omega
     have hkd2:decide (0<k)=true:=by simp;omega
     obtain ⟨p,hp⟩:=hprev (k - 1) (by omega)
     have hcp:=HPC.out (k - 1) p hp;have HPp:=hid hp;have ew:IntKind.i64.wrap ((k:Int) - 1)=(k:Int) - 1:=IntWalk.i64_in _ (by omega)
     have ew2:(0:Int)<=(k:Int) - 1:=by omega
     have ew3:(k:Int) - 1<(ov.length:Int):=by omega
     have ew4:((k:Int) - 1).toNat=k - 1:=by omega
     clear hprev hp;generalize ks[k]=kk at *;by_cases hl:less' p kk=true
     ·have hl':Op.bytesLess p.toList kk.toList=true:=hl
      have HLs:=hid hl;clear hl
      go_wp2_with (go_at_call 54;refine hcall.mono ?_;rintro e W1 ⟨rfl,hB1⟩;have hc1:=(hB1.cell (p:=⟨b,o+k * 6,none⟩) hkl1).trans hc;have hc2:=(hB1.cell (p:=⟨b,o+(k - 1) * 6,none⟩) hkl1).trans hcp)
      go_quiet (fail)
      go_wp2
      go_roundw
      case rel=>exact ⟨k+1,by go_num,by omega,HOK.out.succ HG.out HV.out (fun j p' e hp'=>by
       obtain rfl:j=k - 1:=by omega
       rw [HPp.out] at hp';cases hp';exact HLs.out),hB.trans ((below_drewNv hB1 _).mono hB.size)⟩
      case measure=>simp [intOf];omega
     ·have hl':Op.bytesLess p.toList kk.toList=false:=by simpa [less'] using hl
      have HLs:=hid hl;clear hl
      go_wp2_with (go_at_call 54;refine hcall.mono ?_;rintro e W1 ⟨rfl,hB1⟩;have hc1:=(hB1.cell (p:=⟨b,o+k * 6,none⟩) hkl1).trans hc;have hc2:=(hB1.cell (p:=⟨b,o+(k - 1) * 6,none⟩) hkl1).trans hcp)
      go_quiet (fail)
      go_wp2
      go_ret
      exact ⟨false,rfl,by
       constructor
       ·intro h;cases h
       ·intro h
        have:=(h k kk hlt HG.out).2 (k - 1) p (by omega) HPp.out
        exact absurd this HLs.out,hB.trans ((below_drewNv hB1 _).mono hB.size)⟩
   ·have hv':valid ks[k]=false:=by simpa using hv
    rw [hv'] at hcall;have HV:=hid hv;clear hv hv' hprev;generalize ks[k]=kk at *
    go_wp2_with (go_at_call 54;refine hcall.mono ?_;rintro e W1 ⟨rfl,hB1⟩)
    go_ret
    exact ⟨false,rfl,by
     constructor
     ·intro h;cases h
     ·intro h;exact absurd (h k kk hlt HG.out).1 HV.out,hB.trans (hB1.mono hB.size)⟩
  ·have hnl:¬ k<ov.length:=by have:=HL.out;omega
   have hke:k=ks.length:=by omega
   have HKE:=hid hke;clear hke;go_wp2
   go_ret
   exact ⟨true,rfl,by
    refine ⟨fun _=>?_,fun _=>rfl⟩
    have:=HOK.out;rw [HKE.out] at this;exact this,hB⟩
def SelfP (gk gn:Int) (gs:ByteArray) (gl:List GV) (gy:List ByteArray) (go:List GV):Prop:=
 (gk=0\/gk=1\/gk=2\/gk=3\/gk=4\/gk=5) /\
 (gk=2\/gn=0\/gk=1/\gn=1)/\(gk=3/\valid gs=true\/gk≠3/\gs.toList=[]) /\
 (gk=4\/gl=[])/\(gk=5/\KeysOk gy\/gk≠5/\go=[])
def SelfOk (g:GV):Prop:=SelfP g.kq g.num g.str g.il g.keys g.vz
theorem zf2 (ok:Nat->Prop) (b off:Nat) (g:GV) (AL AO:Option Addr) (cL cO:Nat) (w:World) (h0:w.cell? ⟨b,off,none⟩=some (.int .u8 g.kq)) (h1:w.cell? ⟨b,off+1,none⟩=some (.int .i64 g.num))
  (h2:w.cell? ⟨b,off+2,none⟩=some (.string g.str)) (h3:w.cell? ⟨b,off+3,none⟩=some (.slice AL g.il.length cL)) (h4:w.cell? ⟨b,off+4,none⟩=some (.slice AO g.vz.length cO))
  (hO:ObjV ok w (.slice AO g.vz.length cO) g.keys g.vz) (hT:Tabs w) (hw:g.weight<=1000000000):
  Calls Tryz.prog 110 #[.pointer (some ⟨b,off,none⟩)] w (BoolPost (SelfOk g) w):=by
 have hsz:g.str.size<=9223372036854775807:=by cases g with | mk k n s l ks ov=>simp only [GV.weight,GV.str] at hw ⊢;omega
 have hks:∀ k∈g.keys,k.size<=9223372036854775807:=fun k hk=>by
  cases g with | mk k' n s l ks ov=>
   simp only [GV.weight,GV.keys] at hw hk;have:∀ (l:List ByteArray),k∈l->k.size<=(l.map (·.size)).sum:=fun l=>by
    induction l with
    | nil=>intro h;cases h
    | cons x r ih=>intro h;rcases List.mem_cons.1 h with rfl | h<;>simp;have:=ih h;omega
   have:=this ks hk;omega
 unfold SelfOk;have hcs0:=fun (o:Obj)=>zab o h0
 have hcs1:=fun (o:Obj)=>zab o h1
 have hcs2:=fun (o:Obj)=>zab o h2
 have hcs3:=fun (o:Obj)=>zab o h3
 have hcs4:=fun (o:Obj)=>zab o h4
 have hkw:=fun (o:Obj)=>(Below.refl w.heap.size w).alloc (Nat.le_refl _) o
 generalize hgk:g.kq=gk at *;generalize hgn:g.num=gn at *;generalize hgs:g.str=gs at *;generalize hgl:g.il=gl at *;generalize hgo:g.vz=go at *;generalize hgy:g.keys=gy at *;clear hgk hgn hgs hgl hgo hgy hw;by_cases k0:gk=0
 ·subst k0
  go_enter Tryz.func110,Tryz.ntmps110
  go_wp2
  all_goals
   go_ret
   refine ⟨_,rfl,?_,?_⟩
   ·unfold SelfP
    simp_all
   ·exact hkw _
 by_cases k2:gk=2
 ·subst k2
  go_enter Tryz.func110,Tryz.ntmps110
  go_wp2
  all_goals
   go_ret
   refine ⟨_,rfl,?_,?_⟩
   ·unfold SelfP
    simp_all
   ·exact hkw _
 by_cases k4:gk=4
 ·subst k4
  go_enter Tryz.func110,Tryz.ntmps110
  go_wp2
  all_goals
   go_ret
   refine ⟨_,rfl,?_,?_⟩
   ·unfold SelfP
    simp_all
   ·exact hkw _
 by_cases k1:gk=1
 ·subst k1
  go_enter Tryz.func110,Tryz.ntmps110
  go_wp2
  all_goals
   go_ret
   refine ⟨_,rfl,?_,?_⟩
   ·unfold SelfP
    simp_all
   ·exact hkw _
 by_cases k3:gk=3
 ·subst k3
  have hcall:=fun (o:Obj)=>zao gs (w.alloc o) hsz (hT.below (hkw o) (Nat.le_refl _))
  by_cases hv:valid gs=true
  all_goals
   simp only [hv] at hcall;have HV:=hid hv;clear hv;go_enter Tryz.func110,Tryz.ntmps110
   go_wp2_with (go_at_call 54;refine (hcall _).mono ?_;rintro e W1 ⟨rfl,hb1⟩;have hx:=((Whole.new w 29 #[.int .u8 3,.int .i64 gn,.string gs,.slice AL gl.length cL,.slice AO go.length cO]).below hb1 (by simp)).five;have hx0:=hx.c0;have hx1:=hx.c1;have hx2:=hx.c2;have hx3:=hx.c3;have hx4:=hx.c4;have hy2:=hx.f2;have hy4:=hx.f4;have hbw:=((Below.refl w.heap.size w).alloc (Nat.le_refl _) (.cells #[.int .u8 3,.int .i64 gn,.string gs,.slice AL gl.length cL,.slice AO go.length cO] 29)).trans (hb1.mono (by simp));clear hx)
   all_goals
    go_ret
    refine ⟨_,rfl,?_,hbw.setCell (Nat.le_refl _) _⟩
    have hv:=HV.out;unfold SelfP
    simp_all
 by_cases k5:gk=5
 ·subst k5
  have hcall:=fun (o:Obj)=>zit ok (.slice AO go.length cO) gy go (w.alloc o) (hO.keep (From.of_below (hkw o)) (fun _ h _=>h)) (hT.below (hkw o) (Nat.le_refl _)) hks
  go_enter Tryz.func110,Tryz.ntmps110
  go_wp2_with (go_at_call 124;refine (hcall _).mono ?_;rintro e W1 ⟨bb,rfl,hbb,hb1⟩;have HBB:=hid hbb;clear hbb;have hx:=((Whole.new w 29 #[.int .u8 5,.int .i64 gn,.string gs,.slice AL gl.length cL,.slice AO go.length cO]).below hb1 (by simp)).five;have hx0:=hx.c0;have hx1:=hx.c1;have hx2:=hx.c2;have hx3:=hx.c3;have hx4:=hx.c4;have hy2:=hx.f2;have hy4:=hx.f4;have hbw:=((Below.refl w.heap.size w).alloc (Nat.le_refl _) (.cells #[.int .u8 5,.int .i64 gn,.string gs,.slice AL gl.length cL,.slice AO go.length cO] 29)).trans (hb1.mono (by simp));clear hx)
  all_goals
   go_ret
   refine ⟨_,rfl,?_,hbw.setCell (Nat.le_refl _) _⟩
   have hv:=HBB.out;unfold SelfP
   simp_all
 have q0:(gk == 0)=false:=by simpa using k0
 have q1:(gk == 1)=false:=by simpa using k1
 have q2:(gk == 2)=false:=by simpa using k2
 have q3:(gk == 3)=false:=by simpa using k3
 have q4:(gk == 4)=false:=by simpa using k4
 have q5:(gk == 5)=false:=by simpa using k5
 have HK:=hid (And.intro k0 (And.intro k1 (And.intro k2 (And.intro k3 (And.intro k4 k5)))));clear k0 k1 k2 k3 k4 k5;go_enter Tryz.func110,Tryz.ntmps110
 go_wp2
 all_goals
  go_ret
  refine ⟨_,rfl,?_,hkw _⟩
  have hv:=HK.out;unfold SelfP
  simp_all
attribute [local go_sem] Oper.semAt_some
mutual
def GV.Sound:GV->Prop
 | .mk k n s l ks ov=>SelfP k n s l ks ov/\GV.Sounds l/\GV.Sounds ov
def GV.Sounds:List GV->Prop
 | []=>True
 | g :: r=>GV.Sound g/\GV.Sounds r
end
theorem zb3 {d b step:Nat}:∀ {off:Nat} {l:List GV},(∀ x∈itemsAt d b step off l,x.g.Sound)↔GV.Sounds l
 | _,[]=>by simp [itemsAt,GV.Sounds]
 | _,_ :: r=>by simp [itemsAt,GV.Sounds,zb3 (l:=r)]
theorem zeZ (x:Item) (lb lo ob oo:Nat):x.g.Sound↔SelfOk x.g/\∀ y∈kids x lb lo ob oo,y.g.Sound:=by
 have h:(∀ y∈kids x lb lo ob oo,y.g.Sound)↔GV.Sounds x.g.il/\GV.Sounds x.g.vz:=by
  unfold kids;rw [<- zb3 (d:=x.d+1) (b:=lb) (step:=5) (off:=lo),<- zb3 (d:=x.d+1) (b:=ob) (step:=6) (off:=oo+1)];simp only [List.mem_append];exact ⟨fun h=>⟨fun y hy=>h y (.inl hy),fun y hy=>h y (.inr hy)⟩,fun h y hy=>hy.elim (h.1 y) (h.2 y)⟩
 rw [h];unfold SelfOk;cases x.g with | mk k n s l ks ov=>simp only [GV.Sound,GV.kq,GV.num,GV.str,GV.il,GV.keys,GV.vz]
theorem zi5 (ok:Nat->Prop) (v:Value) (g:GV) (w:World) (hv:g.val ok w v) (hg:g.weight<=1000000000) (hT:Tabs w):
  Calls Tryz.prog 85 #[v] w (BoolPost g.Sound w):=by
 obtain ⟨L,O,rfl,hL,hO⟩:=hv;obtain ⟨AL,cL,rfl⟩:=zah hL;obtain ⟨AO,cO,rfl⟩:=zag hO;refine (callsIn_wide (n:=9)).1 ?_
 refine callsIn_of_wp_marks Tryz.func85 rfl trivial ?_ rfl
 simp only [Tryz.ntmps85,List.size_toArray,List.length_cons,List.length_nil,Nat.reduceAdd,Nat.reduceSub,Array.replicate_succ,Array.replicate_zero,List.push_toArray,List.append_toArray,List.nil_append,List.cons_append]
 gi_wp2_with (refine ⟨trivial,?_⟩;gi_at_call 101;refine (callsIn_wide.2 (zdO _ _)).mono ?_;rintro e w' ⟨rfl,rfl⟩)
 have hah:=zcL hL hO;have hw0:(w.alloc (.cells #[.int .u8 g.kq,.int .i64 g.num,.string g.str,.slice AL g.il.length cL,.slice AO g.vz.length cO] 29)).heap.size=w.heap.size+1:=by simp
 have hB1:Below w.heap.size w (w.alloc (.cells #[.int .u8 g.kq,.int .i64 g.num,.string g.str,.slice AL g.il.length cL,.slice AO g.vz.length cO] 29)):=(Below.refl _ _).alloc (Nat.le_refl _) _;obtain ⟨w0,hw0e⟩:∃ w0,w0=w.alloc (.cells #[.int .u8 g.kq,.int .i64 g.num,.string g.str,.slice AL g.il.length cL,.slice AO g.vz.length cO] 29):=⟨_,rfl⟩;rw [<- hw0e] at hah hw0 hB1 ⊢;clear hw0e hL hO;have hJb:∀ (base:Nat),w.heap.size+1<=base->∀ S X Y,Reads1 (w.heap.size+1) w0 (w.heap.size+1) 4 (fun S u=>u=.bool false/\wsum S<=1000000000/\(g.Sound↔∀ x∈S,x.g.Sound)) S X->But 168 base X Y->Reads1 (w.heap.size+1) w0 (w.heap.size+1) 4 (fun S u=>u=.bool false/\wsum S<=1000000000/\(g.Sound↔∀ x∈S,x.g.Sound)) S Y:=
  fun base hb S X Y h k=>h.but hb (by omega) (by decide) S X Y k
 refine zcf rfl (by decide) (gf:=121) (lb:=#[.pointer (some ⟨w.heap.size+1+1,0,none⟩)]) rfl trivial (enters_of Tryz.func121 (by kernel_rfl) rfl) Due.encs (fun _=>rfl)
  (Due.Pre (Reads1 (w.heap.size+1) w0 (w.heap.size+1) 4 (fun S u=>u=.bool false/\wsum S<=1000000000/\(g.Sound↔∀ x∈S,x.g.Sound))))
  (Due.Post (Reads1 (w.heap.size+1) w0 (w.heap.size+1) 4 (fun S u=>u=.bool false/\wsum S<=1000000000/\(g.Sound↔∀ x∈S,x.g.Sound))))
  (fun c W=>c=.ret/\Whole W (w.heap.size+1) 4 #[.bool false]/\Below (w.heap.size+1) w0 W/\¬ g.Sound) (Reads1 (w.heap.size+1) w0 (w.heap.size+1) 4 (fun S u=>u=.bool false/\wsum S<=1000000000/\(g.Sound↔∀ x∈S,x.g.Sound)) [])
  (zdl fun S=>Reads1.apart (by simp;omega) S) (zck fun S=>Reads1.apart (by simp;omega) S) (fun c W l o o' hl hk ho _ h=>⟨h.1,h.2.1.apart hk ho o',zaC h.2.2.1 (by simp at hl;omega) hk o',h.2.2.2⟩) (Reads1.apart (by simp;omega) _) ?seq
  (fun x=>{ tmps:=#[.agg #[.int .u8 g.kq,.int .i64 g.num,.string g.str,.slice AL g.il.length cL,.slice AO g.vz.length cO],.pointer (some ⟨w.heap.size,0,none⟩),.pointer (some ⟨w.heap.size+1,0,none⟩),undef,.pointer (some ⟨x.1.b,x.1.off,none⟩),.func (.func 121) #[] #[.pointer (some ⟨w.heap.size+1+1,0,none⟩)],.int .i64 x.1.d,.pointer (some ⟨x.1.b,x.1.off,none⟩),undef,undef,undef],defers:=[] }) ?assign ?body ?done ?stop
 case seq=>
  rintro l W rfl ⟨o,o',ho,ho',rfl⟩
  refine zcP 8 (by decide) _ 1000000000 (Nat.le_refl _) _ _ (hJb _ (by simp;omega)) (w.heap.size+1+1) ⟨0,w.heap.size,0,g⟩ _ ?_ (by have:=zad g;simp;omega) ?_ rfl
  ·refine ⟨hah,((((Below.refl _ _).alloc (by omega) _).alloc (by simp;omega) _).alloc (by simp;omega) _).alloc (by simp;omega) _,.bool false,?_,rfl,by simpa [wsum] using hg,by simp⟩
   have:=Whole.new w0 4 #[.bool false];rw [hw0] at this;exact ((this.alloc _).alloc _).alloc _
  ·refine zab _ (zab _ ?_)
   have:=Whole.new (w0.alloc (.cells #[.bool false] 4)) 113 #[.pointer (some ⟨w.heap.size,0,none⟩)];rw [World.size_alloc,hw0] at this;exact (this.cell 0).trans rfl
 case assign=>
  intro l x W K hK
  gi_wp2
  exact hK
 case body=>
  rintro l ⟨x,rest,own⟩ W ⟨⟨hA,hB,u,hu,rfl,hws,hm⟩,hO⟩
  replace hA:Ahead (w.heap.size+1) w0 (rest++[x]):=hA;have hc:W.cell? ⟨w.heap.size+1,0,none⟩=some (.bool false):=(hu.cell 0).trans rfl;have hf:W.frozen? ⟨w.heap.size+1,0,none⟩=false:=hu.frozen 0;obtain ⟨A1,c1,A2,c2,lb,lo,ob,oo,hx0,hx1,hx2,hx3,hx4,hLL,hOO,hkid,hah2⟩:=hA.now hB;have hOW:ObjV (fun k=>k<w.heap.size+1) W (.slice A2 x.g.vz.length c2) x.g.keys x.g.vz:=hOO.keep (fun k hk _=>hB.block k hk) (fun _ h _=>h)
  have hTW:Tabs W:=(hT.below hB1 (Nat.le_refl _)).below hB (by omega)
  have hwx:x.g.weight<=1000000000:=Nat.le_trans (zdg (S:=rest++[x]) (by simp)) hws
  have hcall:=zf2 (fun k=>k<w.heap.size+1) x.b x.off x.g A1 A2 c1 c2 W hx0 hx1 hx2 hx3 hx4 hOW hTW hwx
  have HM:=hid hm;have HU:=hid hu;have HWS:=hid hws;have hWsz:w.heap.size+1<=W.heap.size:=by have:=hB.size;omega
  clear hm hu hws hOW hLL hOO hx0 hx1 hx2 hx3 hx4 hkid hah2 hTW;dsimp only;have hSelf:SelfOk x.g\/¬ SelfOk x.g:=Classical.em _;rcases hSelf with hso | hso
  ·have hcall':Calls Tryz.prog 110 #[.pointer (some ⟨x.b,x.off,none⟩)] W fun e W1=>e=.returned (.bool true)/\Below W.heap.size W W1:=hcall.mono fun e W1 h=>by
    obtain ⟨bb,rfl,hbb,hb1⟩:=h;have:bb=true:=hbb.2 hso;subst this;exact ⟨rfl,hb1⟩
   have HSO:=hid hso;clear hcall hso
   gi_wp2_with (refine ⟨trivial,?_⟩;gi_at_call 110;refine (CallsIn.inRound l (callsIn_wide.2 hcall')).mono ?_;rintro e W1 ⟨rfl,hb1⟩)
   refine ziP hA hB hWsz HU.out hO hb1 (zaX hb1) (fun lb lo ob oo=>⟨rfl,?_,?_⟩)
   ·have h1:=HWS.out
    have h2:=zbL x lb lo ob oo;rw [zbt] at h1 ⊢;simp only [wsum] at h1;omega
   ·have h1:=zeZ x lb lo ob oo
    rw [HM.out];simp only [List.mem_append,List.mem_singleton];constructor
    ·intro h y hy
     rcases hy with hy | hy
     ·exact h y (.inl hy)
     ·exact (h1.1 (h x (.inr rfl))).2 y hy
    ·intro h y hy
     rcases hy with hy | rfl
     ·exact h y (.inl hy)
     ·exact h1.2 ⟨HSO.out,fun z hz=>h z (.inr hz)⟩
  ·have hcall':Calls Tryz.prog 110 #[.pointer (some ⟨x.b,x.off,none⟩)] W fun e W1=>e=.returned (.bool false)/\Below W.heap.size W W1:=hcall.mono fun e W1 h=>by
    obtain ⟨bb,rfl,hbb,hb1⟩:=h;cases bb with
    | false=>exact ⟨rfl,hb1⟩
    | true=>exact absurd (hbb.1 rfl) hso
   have HSO:=hid hso;clear hcall hso
   gi_wp2_with (refine ⟨trivial,?_⟩;gi_at_call 110;refine (CallsIn.inRound l (callsIn_wide.2 hcall')).mono ?_;rintro e W1 ⟨rfl,hb1⟩;have hc1:W1.cell? ⟨w.heap.size+1,0,none⟩=some (.bool false):=((HU.out.below hb1 HU.out.lt).cell 0).trans rfl;have hf1:W1.frozen? ⟨w.heap.size+1,0,none⟩=false:=(HU.out.below hb1 HU.out.lt).frozen 0)
   refine ⟨(zaX hb1).trans ((KeepsOthers.setCell _ _ _).from _),rfl,(HU.out.below hb1 HU.out.lt).put 0 _,(hB.trans (hb1.mono hWsz)).setCell (Nat.le_refl _) _,fun h=>?_⟩
   exact HSO.out ((zeZ x 0 0 0 0).1 (HM.out.1 h x (by simp))).1
 case done=>
  rintro D W hD ⟨_,hB,u,hu,rfl,_,hm⟩ hK
  have hc:W.cell? ⟨w.heap.size+1,0,none⟩=some (.bool false):=(hu.cell 0).trans rfl;have hf:W.frozen? ⟨w.heap.size+1,0,none⟩=false:=hu.frozen 0;have HM:=hid hm;have HU:=hid hu;clear hm hu
  gi_wp2
  have hK':=(KeepsOthers.setCell W ⟨w.heap.size+1,0,none⟩ (.bool true)).same D _ hK rfl;refine ⟨by simp,.inl ⟨_,_,rfl,run_takeDeferred hK',?_⟩⟩
  have hc5:=((HU.out.put 0 (.bool true)).apart hK' rfl (.deferred none)).cell 0;refine ⟨.bool true,?_,true,rfl,⟨fun _=>HM.out.2 (fun x hx=>by cases hx),fun _=>rfl⟩,?_⟩
  ·simp [results,Tryz.results85,go_sem,hc5]
  ·exact hB1.trans ((zaC (hB.setCell (Nat.le_refl _) _) (by simp at hD;omega) hK' _).mono (by omega))
 case stop=>
  rintro D c W hD ⟨rfl,hu,hB,hn⟩ hK
  gi_wp2
  refine ⟨by simp,.inl ⟨_,_,rfl,run_takeDeferred hK,?_⟩⟩
  have hc5:=(hu.apart hK rfl (.deferred none)).cell 0;refine ⟨.bool false,?_,false,rfl,⟨(fun h=>by cases h),fun h=>absurd h hn⟩,?_⟩
  ·simp [results,Tryz.results85,go_sem,hc5]
  ·exact hB1.trans ((zaC hB (by simp at hD;omega) hK _).mono (by omega))
open Go Go.RowKit Go.Shelf
attribute [local go_sem] Oper.semAt_some
theorem infoCouple:(Tryz.prog.info? 178).map (fun i=>(i.zero,i.size,i.bytes))=some (some (.agg #[.pointer none,.pointer none]),2,16):=by kernel_rfl
abbrev Due2:=Pair × List Pair × List (Nat × Array Value)
abbrev Due2.encs (x:Due2):Array Value:=#[.pointer (some ⟨x.1.1.b,x.1.1.off,none⟩),.pointer (some ⟨x.1.2.b,x.1.2.off,none⟩)]
def Due2.Pre (J:List Pair->World->Prop) (x:Due2) (W:World):Prop:=J (x.2.1++[x.1]) W/\Owned 178 x.2.2 W
def Due2.Post (J:List Pair->World->Prop) (x:Due2) (W:World):Prop:=
 Owned 178 x.2.2 W/\∃ lb lo ob oo lb' lo' ob' oo',KidsAt W x.1.1 178 lb lo ob oo/\KidsAt W x.1.2 178 lb' lo' ob' oo'/\J (x.2.1++kids2 x.1 lb lo ob oo lb' lo' ob' oo') W
structure AllInv2 (B M:Nat) (J:List Pair->World->Prop) (W0:World) (base:Nat) (S:List Pair) (v:Value) (W:World):Prop where
 row:W.ownsRow base 178 2 v S.length (pcellsOf S)
 inv:J S W
 keep:KeepsFrom B W0 W
 size:base<=W.heap.size
 small:∀ x∈S,x.1.g.size<=M/\x.2.g.size<=M
 sum:psum S<=M
def AllRel2 (B M:Nat) (J:List Pair->World->Prop) (W0:World) (base:Nat) (m:Nat) (v:Value) (W:World):Prop:=∃ S,psum S=m/\AllInv2 B M J W0 base S v W
structure PushInv2 (W3:World) (base ab:Nat) (bc:Array Value) (rest its:List Pair) (k:Nat) (v:Value) (W:World):Prop where
 row:W.ownsRow base 178 2 v (rest.length+k) (pcellsOf (rest++its.take k))
 but:But 178 base W3 W
 box:Whole W ab 178 bc
 ne:v.ownBlock≠some ab
def PushRel2 (W3:World) (base ab:Nat) (bc:Array Value) (rest its:List Pair) (n:Nat) (v i:Value) (W:World):Prop:=
 ∃ k:Nat,i=.int .i64 k/\k<=n/\PushInv2 W3 base ab bc rest its k v W
theorem PushInv2.push {W3 wr W4:World} {base ab k:Nat} {bc:Array Value} {rest its:List Pair} {v v':Value} (h:PushInv2 W3 base ab bc rest its k v wr) (o:Obj) (y:Pair) (hy:its.take (k+1)=its.take k++[y])
  (hown:W4.ownsRow base 178 2 v' (rest.length+k+1) (pcellsOf (rest++its.take k)++pcells y)) (hg':(wr.alloc o).drew.grownBy W4 v.ownBlock) (hat:v'.ownBlock=v.ownBlock\/v'.ownBlock=some (wr.alloc o).drew.heap.size):
  PushInv2 W3 base ab bc rest its (k+1) v' W4:=by
 have hg:(wr.alloc o).grownBy W4 v.ownBlock:=⟨hg'.os,hg'.tape,hg'.output,hg'.size,hg'.block⟩;refine ⟨?_,(h.but.alloc o).grown (h.row.alloc o) hg,(h.box.alloc o).grown hg (fun e=>h.ne e.symm),?_⟩
 ·rw [hy,<- List.append_assoc,zbc]
  simpa [pcellsOf,Nat.add_assoc] using hown
 ·rcases hat with e | e
  ·rw [e];exact h.ne
  ·rw [e];intro e';have:=h.box.lt;have e2:(wr.alloc o).heap.size=ab:=Option.some.inj e';simp at e2;omega
theorem PushInv2.second {W3 wr:World} {base ab:Nat} {bc:Array Value} {rest its its2:List Pair} {k:Nat} {v:Value} (h:PushInv2 W3 base ab bc rest its k v wr) (hk:k=its.length):PushInv2 W3 base ab bc (rest++its) its2 0 v wr:=by
 subst hk;refine ⟨?_,h.but,h.box,h.ne⟩
 have:=h.row;rw [List.take_length] at this
 simpa using this
theorem Whole.drewN' {W b} {t:TypeId} {cs:Array Value} (h:Whole W b t cs) (n:Nat):Whole (W.drewN n) b t cs:=h
theorem _root_.Go.World.ownsRow.drewN' {W:World} {base:Nat} {e:TypeId} {size n:Nat} {v:Value} {xs:List Value} (h:W.ownsRow base e size v n xs) (k:Nat):(W.drewN k).ownsRow base e size v n xs:=h
theorem But.drewN' {e:TypeId} {base:Nat} {A B:World} (h:But e base A B) (n:Nat):But e base A (B.drewN n):=⟨h.os,h.tape,h.output,h.size,h.same⟩
theorem zdt {b step b' step' off off':Nat} {l l':List GV}:((itemsAt 0 b step off l).zip (itemsAt 0 b' step' off' l')).length=min l.length l'.length:=by
 rw [List.length_zip,zau,zau]
theorem zdb {b step b' step' off off':Nat} {l l':List GV} {x:Pair} (h:x∈(itemsAt 0 b step off l).zip (itemsAt 0 b' step' off' l')):x.1.g.size<=GV.sizes l/\x.2.g.size<=GV.sizes l':=by
 have:=List.of_mem_zip (a:=x.1) (b:=x.2) h;exact ⟨(zb2 this.1).2,(zb2 this.2).2⟩
theorem AllInv2.next {B M base:Nat} {J:List Pair->World->Prop} (hJ:∀ S X Y,J S X->But 178 base X Y->J S Y) {W0 wo W3 W5:World} {rest:List Pair} {x:Pair} {v vo:Value} {lb lo ob oo lb' lo' ob' oo' ab k:Nat} {bc:Array Value}
  (h:AllInv2 B M J W0 base (rest++[x]) vo wo) (hJ3:J (rest++kids2 x lb lo ob oo lb' lo' ob' oo') W3) (hk3:KeepsFrom B wo W3)
  (hp:PushInv2 W3 base ab bc (rest++(itemsAt 0 lb 5 lo x.1.g.il).zip (itemsAt 0 lb' 5 lo' x.2.g.il)) ((itemsAt 0 ob 6 (oo+1) x.1.g.vz).zip (itemsAt 0 ob' 6 (oo'+1) x.2.g.vz)) k v W5) (hk:k=min x.1.g.vz.length x.2.g.vz.length):
  AllInv2 B M J W0 base (rest++kids2 x lb lo ob oo lb' lo' ob' oo') v W5/\psum (rest++kids2 x lb lo ob oo lb' lo' ob' oo')<psum (rest++[x]):=by
 have hs:=ziB x lb lo ob oo lb' lo' ob' oo';have hx:psum (rest++[x])=psum rest+x.1.g.size:=by rw [zbO];simp [psum]
 have hsum:=h.sum;have hsm:=h.small x (by simp)
 refine ⟨⟨?_,hJ _ _ _ hJ3 hp.but,(h.keep.trans hk3).trans (hp.but.others B),?_,?_,?_⟩,?_⟩
 ·have:=hp.row
  rw [hk,List.take_of_length_le (by rw [zdt];exact Nat.le_refl _),List.append_assoc] at this
  have e:(rest++kids2 x lb lo ob oo lb' lo' ob' oo').length=(rest++(itemsAt 0 lb 5 lo x.1.g.il).zip (itemsAt 0 lb' 5 lo' x.2.g.il)).length+min x.1.g.vz.length x.2.g.vz.length:=by
   unfold kids2;rw [List.length_append,List.length_append,zdt,zdt,List.length_append,zdt];omega
  rw [e];exact this
 ·have h1:=h.size;have h2:=hk3.size;have h3:=hp.but.size;omega
 ·intro y hy
  rcases List.mem_append.1 hy with hy | hy
  ·exact h.small y (by simp [hy])
  ·have hz:=zaD x.1.g
   have hz':=zaD x.2.g;unfold kids2 at hy;rcases List.mem_append.1 hy with hy | hy
   ·have:=zdb hy;omega
   ·have:=zdb hy;omega
 ·rw [zbO];omega
 ·rw [zbO];omega
theorem zhk (n:Nat) (hn:1<=n) (B M:Nat) (hM:M<=1000000000) (W0:World) (J:List Pair->World->Prop) (hJ:∀ S X Y,J S X->But 178 W0.heap.size X Y->J S Y)
  (Ba Bb:Nat) (x0:Pair) (l:Nat) (h0:J [x0] W0) (hd0:x0.1.g.size<=M/\x0.2.g.size<=M) (hBa:W0.cell? ⟨Ba,0,none⟩=some (.pointer (some ⟨x0.1.b,x0.1.off,none⟩))) (hBb:W0.cell? ⟨Bb,0,none⟩=some (.pointer (some ⟨x0.2.b,x0.2.off,none⟩))):
  Dues Fence.wide n Tryz.prog 129 #[.pointer (some ⟨Ba,0,none⟩),.pointer (some ⟨Bb,0,none⟩)] Due2.encs B (Due2.Pre J) (Due2.Post J) (J []) l W0:=by
 intro Jx hY;refine callsIn_of_wp Tryz.func129 rfl trivial ?_ rfl
 simp only [Tryz.ntmps129,List.size_toArray,List.length_cons,List.length_nil,Nat.reduceAdd,Nat.reduceSub,Array.replicate_succ,Array.replicate_zero,List.push_toArray,List.append_toArray,List.nil_append,List.cons_append]
 gi_wp2
 gi_loopg [4] (psum [x0]) (AllRel2 B M J W0 W0.heap.size)
 case atStart=>
  refine ⟨[x0],rfl,⟨?_,hJ _ _ _ h0 ((But.refl _ _ _).alloc _),((But.refl 178 W0.heap.size W0).alloc _).others B,by simp,fun x hx=>by simp at hx;subst hx;exact hd0,by simp [psum];omega⟩⟩
  refine ⟨by simp [pcellsOf,pcells],.inr ⟨W0.heap.size,1,_,rfl,Nat.le_refl _,heap_alloc_new W0 _,Nat.le_refl _,by decide,rfl,?_⟩⟩
  simp [pcellsOf,pcells]
 case round=>
  obtain ⟨S,hS,hinv⟩:=hrel;rcases List.eq_nil_or_concat S with rfl | ⟨rest,x,rfl⟩
  ·obtain ⟨A,c,rfl⟩:=zaf hinv.row
   simp only [List.length_nil];have H:=hid hinv;clear hinv hS
   gi_wp2
   go_end0
   exact ⟨⟨_,rfl⟩,.inl ⟨H.out.keep,H.out.inv⟩⟩
  ·rw [List.concat_eq_append] at hinv hS
   obtain ⟨wo,rfl⟩:∃ wo:World,wo=wr:=⟨_,rfl⟩;obtain ⟨t,c,cur,hv,hc1,hc2,hbt,hwt,hcell⟩:=zlI hinv.row (by simp)
   subst hv;have hcd:=hcell (rest.length * 2) (.pointer (some ⟨x.1.b,x.1.off,none⟩)) (by rw [zbc,List.getElem?_append_right (by rw [zaZ];omega),zaZ];simp [pcellsOf,pcells])
   have hcp:=hcell (rest.length * 2+1) (.pointer (some ⟨x.2.b,x.2.off,none⟩)) (by rw [zbc,List.getElem?_append_right (by rw [zaZ];omega),zaZ];simp [pcellsOf,pcells])
   have hrow:=zgn hinv.row rest.length (by simp) (by simp)
   rw [zbc,<- zaZ,List.take_left] at hrow;have hlen:(rest++[x]).length=rest.length+1:=by simp
   simp only [hlen] at hc1 hrow ⊢;have hbd:=hinv.small x (by simp)
   have hln:rest.length<=M:=by have:=zll (rest++[x]);have:=hinv.sum;rw [hlen] at *;omega
   unfold maxLen at hc2;have H:=hid hinv;have HR:=hid hrow;have HS:=hid hS;have HW:=hid hwt;have HBD:=hid hbd;clear hinv hrow hcell hS hlen hwt hbd;generalize hN:rest.length=N at *;have HN:=hid hN;clear hN;have H2:But 178 W0.heap.size wo (wo.alloc (.cells #[.pointer (some ⟨x.1.b,x.1.off,none⟩),.pointer (some ⟨x.2.b,x.2.off,none⟩)] 178)):=(But.refl _ _ _).alloc _;obtain ⟨fn,tmps,assign,body,hy,hR⟩:=hY (x,rest,[(t,cur),(wo.heap.size,#[.pointer (some ⟨x.1.b,x.1.off,none⟩),.pointer (some ⟨x.2.b,x.2.off,none⟩)])]) (wo.alloc (.cells #[.pointer (some ⟨x.1.b,x.1.off,none⟩),.pointer (some ⟨x.2.b,x.2.off,none⟩)] 178))
    ⟨hJ _ _ _ H.out.inv H2,fun p hp=>by
     simp only [List.mem_cons,List.not_mem_nil,or_false] at hp;rcases hp with rfl | rfl
     ·exact HW.out.alloc _
     ·exact Whole.new wo _ _⟩ (H.out.keep.trans (H2.others B))
   have HB:=hid H2;clear H2;dsimp only [Due2.encs] at hy
   gi_wp2
   refine hR.mono ?_
   clear hR hy;rintro e W3 (⟨rfl,hk3,hown3,lb,lo,ob,oo,lb',lo',ob',oo',hkids,hkids',hJ3⟩ | ⟨rfl,hx3⟩)
   ·have hat:=hown3 _ (List.mem_cons_of_mem _ (List.mem_cons_self ..))
    have htd:=hown3 _ (List.mem_cons_self ..);have hrow3:W3.ownsRow W0.heap.size 178 2 (.slice (some ⟨t,0,none⟩) N c) (rest.length+0) (pcellsOf (rest++((itemsAt 0 lb 5 lo x.1.g.il).zip (itemsAt 0 lb' 5 lo' x.2.g.il)).take 0)):=by
     simp only [List.take_zero,List.append_nil,Nat.add_zero,HN.out];exact zbo HR.out (fun k hk=>by cases hk;exact (show W3.heap[t]? = _ from htd).trans (show wo.heap[t]? = _ from HW.out).symm)
    have hA0:W3.cell? ⟨wo.heap.size,0,none⟩=some (.pointer (some ⟨x.1.b,x.1.off,none⟩)):=(hat.cell 0).trans rfl;have hA1:W3.cell? ⟨wo.heap.size,1,none⟩=some (.pointer (some ⟨x.2.b,x.2.off,none⟩)):=(hat.cell 1).trans rfl;obtain ⟨AL,cL,hL3,hL3'⟩:=hkids.lst;obtain ⟨AL',cL',hL4,hL4'⟩:=hkids'.lst;have HAt:=hid hat;have HRow3:=hid hrow3;have HK:=hid (And.intro hkids hkids');have HJ3:=hid hJ3;have HK3:=hid hk3;clear hat htd hrow3 hkids hkids' hJ3 hk3 hown3 hL3' hL4';have hlen1:x.1.g.il.length<=M:=by have:=zaq x.1.g.il;have:=zaD x.1.g;have:=HBD.out;omega
    have hlen2:x.2.g.il.length<=M:=by have:=zaq x.2.g.il;have:=zaD x.2.g;have:=HBD.out;omega
    gi_wp2
    refine wpIn_wide.2 ?_
    go_quiet (fail)
    have emin:(if x.2.g.il.length<x.1.g.il.length then (x.2.g.il.length:Int) else (x.1.g.il.length:Int))=((min x.1.g.il.length x.2.g.il.length:Nat):Int):=by split<;>omega
    have emin2:min (x.1.g.il.length:Int) (x.2.g.il.length:Int)=((min x.1.g.il.length x.2.g.il.length:Nat):Int):=by omega
    first | rw [emin] | rw [emin2]
    clear emin emin2;have hm1:min x.1.g.il.length x.2.g.il.length<=x.1.g.il.length:=Nat.min_le_left _ _;have hm2:min x.1.g.il.length x.2.g.il.length<=x.2.g.il.length:=Nat.min_le_right _ _;have HMin:Hid (min x.1.g.il.length x.2.g.il.length=min x.1.g.il.length x.2.g.il.length):=rfl
    revert HMin
    generalize hmm:min x.1.g.il.length x.2.g.il.length=m at *;intro _;have HM:=hid hmm;clear hmm
    gi_wp2
    gi_loopw [4,46] (PushRel2 W3 W0.heap.size wo.heap.size #[.pointer (some ⟨x.1.b,x.1.off,none⟩),.pointer (some ⟨x.2.b,x.2.off,none⟩)] rest ((itemsAt 0 lb 5 lo x.1.g.il).zip (itemsAt 0 lb' 5 lo' x.2.g.il)) m) (fun _ i _=>m - (intOf i).toNat)
    case atStart=>exact ⟨0,rfl,Nat.zero_le _,HRow3.out.drewN' nq,(But.refl _ _ _).drewN' nq,HAt.out.drewN' nq,by have:=HW.out.lt;simp [Value.ownBlock];omega⟩
    case round=>
     obtain ⟨k,rfl,hk,hp⟩:=hrel;have hB0:wr.cell? ⟨wo.heap.size,0,none⟩=some (.pointer (some ⟨x.1.b,x.1.off,none⟩)):=(hp.box.cell 0).trans rfl;have hB1:wr.cell? ⟨wo.heap.size,1,none⟩=some (.pointer (some ⟨x.2.b,x.2.off,none⟩)):=(hp.box.cell 1).trans rfl;have hkids:=hp.but.kids HK.out.1;have hkids':=hp.but.kids HK.out.2;by_cases hlt:k<m
     ·have hka:k<x.1.g.il.length:=by omega
      have hkb:k<x.2.g.il.length:=by omega
      have hne:x.1.g.il≠[]:=fun e=>by rw [e] at hka;simp at hka
      have hne':x.2.g.il≠[]:=fun e=>by rw [e] at hkb;simp at hkb
      obtain ⟨A1,c1,hL5,hL5'⟩:=hkids.lst;obtain rfl:=hL5' hne;obtain ⟨A1',c1',hL6,hL6'⟩:=hkids'.lst;obtain rfl:=hL6' hne';obtain ⟨A2,c2,rfl⟩:=zaf hp.row;have HP:=hid hp;have hNk:rest.length+k<=2 * M:=by have:=HN.out;omega
      have b1:rest.length+k+1<=maxLen:=by unfold maxLen;omega
      have b2:(rest.length+k+1) * 16<=140737488355328:=by omega
      have HB12:=hid (And.intro b1 b2);have hbs:W0.heap.size<=wr.heap.size:=by have h1:=H.out.size;have h2:=HK3.out.size;have h3:=hp.but.size;simp at h2;omega
      have HAl:∀ o,wr.heap.size<=(wr.alloc o).heap.size:=fun o=>by simp
      have HZT:=hid (zhy (b:=lb) (step:=5) (b':=lb') (step':=5) (off:=lo) (off':=lo') hka hkb);clear hp hkids hkids' hL5' hL6' hne hne' b1 b2 hNk;obtain ⟨i0,hi0,hz0,hz1,hz2⟩:=info_parts infoCouple;have HI0:=hid hi0;have HZ0:=hid (And.intro hz0 (And.intro hz1 hz2));clear hi0 hz0 hz1 hz2
      gi_wp2
      refine wpIn_wide.2 ?_
      go_region_law (refine zaJ rfl (.tmp 49) (.tmp 65) 179 rfl W0.heap.size 178 i0 _ 2 16 Tryz.underlying179 HI0.out HZ0.out.1 HZ0.out.2.1 HZ0.out.2.2 rfl (by decide) (.slice A2 (rest.length+k) c2) (rest.length+k) _ (by simp [Act.eval]) ((HP.out.row.alloc _).drew) ⟨wr.heap.size,0,none⟩ 1 1 [.pointer (some ⟨lb,lo+k * 5,none⟩),.pointer (some ⟨lb',lo'+k * 5,none⟩)] (by simp [Act.eval]) rfl (fun j u hj=>row_cells' wr wr.heap.size rfl [.pointer (some ⟨lb,lo+k * 5,none⟩),.pointer (some ⟨lb',lo'+k * 5,none⟩)] 178 j u hj) (by simp [Value.oneCell']) HB12.out.1 HB12.out.2 (Nat.le_trans hbs (HAl _)) ?_;intro v4 W4 hown4 hg4 hat4;obtain ⟨A4,c4,rfl⟩:=zaf hown4;have H4:=hid (And.intro hown4 (And.intro hg4 hat4));clear hown4 hg4 hat4)
      all_goals
       gi_wp2
       go_roundw
       case rel=>exact ⟨k+1,by go_num,by omega,HP.out.push _ _ HZT.out H4.out.1 H4.out.2.1 H4.out.2.2⟩
       case measure=>simp [intOf];omega
     ·have hkl:k=((itemsAt 0 lb 5 lo x.1.g.il).zip (itemsAt 0 lb' 5 lo' x.2.g.il)).length:=by rw [zdt,HM.out];omega
      have HP:=hid (hp.second (its2:=(itemsAt 0 ob 6 (oo+1) x.1.g.vz).zip (itemsAt 0 ob' 6 (oo'+1) x.2.g.vz)) hkl);obtain ⟨AO,cO,hO3,hO3'⟩:=hkids.obj;obtain ⟨AO',cO',hO4,hO4'⟩:=hkids'.obj;have hlen3:x.1.g.vz.length<=M:=by have:=zaq x.1.g.vz;have:=zaD x.1.g;have:=HBD.out;omega
      have hlen4:x.2.g.vz.length<=M:=by have:=zaq x.2.g.vz;have:=zaD x.2.g;have:=HBD.out;omega
      clear hp hkids hkids' hkl hO3' hO4'
      gi_wp2
      refine wpIn_wide.2 ?_
      go_quiet (fail)
      have emin:(if x.2.g.vz.length<x.1.g.vz.length then (x.2.g.vz.length:Int) else (x.1.g.vz.length:Int))=((min x.1.g.vz.length x.2.g.vz.length:Nat):Int):=by split<;>omega
      have emin2:min (x.1.g.vz.length:Int) (x.2.g.vz.length:Int)=((min x.1.g.vz.length x.2.g.vz.length:Nat):Int):=by omega
      first | rw [emin] | rw [emin2]
      clear emin emin2;have hn1:min x.1.g.vz.length x.2.g.vz.length<=x.1.g.vz.length:=Nat.min_le_left _ _;have hn2:min x.1.g.vz.length x.2.g.vz.length<=x.2.g.vz.length:=Nat.min_le_right _ _;generalize hmm2:min x.1.g.vz.length x.2.g.vz.length=m2 at *;have HM2:=hid hmm2;clear hmm2;obtain ⟨wp,rfl⟩:∃ wp:World,wp=wr:=⟨_,rfl⟩
      gi_wp2
      rename_i nq2 _
      gi_loopw [4,81] (PushRel2 W3 W0.heap.size wo.heap.size #[.pointer (some ⟨x.1.b,x.1.off,none⟩),.pointer (some ⟨x.2.b,x.2.off,none⟩)] (rest++(itemsAt 0 lb 5 lo x.1.g.il).zip (itemsAt 0 lb' 5 lo' x.2.g.il)) ((itemsAt 0 ob 6 (oo+1) x.1.g.vz).zip (itemsAt 0 ob' 6 (oo'+1) x.2.g.vz)) m2) (fun _ i _=>m2 - (intOf i).toNat)
      case atStart=>exact ⟨0,rfl,Nat.zero_le _,HP.out.row.drewN' _,HP.out.but.drewN' _,HP.out.box.drewN' _,HP.out.ne⟩
      case round=>
       obtain ⟨k2,rfl,hk2,hp⟩:=hrel;have hC0:wr.cell? ⟨wo.heap.size,0,none⟩=some (.pointer (some ⟨x.1.b,x.1.off,none⟩)):=(hp.box.cell 0).trans rfl;have hC1:wr.cell? ⟨wo.heap.size,1,none⟩=some (.pointer (some ⟨x.2.b,x.2.off,none⟩)):=(hp.box.cell 1).trans rfl;have hkids:=hp.but.kids HK.out.1;have hkids':=hp.but.kids HK.out.2;by_cases hlt:k2<m2
       ·have hka:k2<x.1.g.vz.length:=by omega
        have hkb:k2<x.2.g.vz.length:=by omega
        have hne:x.1.g.vz≠[]:=fun e=>by rw [e] at hka;simp at hka
        have hne':x.2.g.vz≠[]:=fun e=>by rw [e] at hkb;simp at hkb
        obtain ⟨A1,c1,hL5,hL5'⟩:=hkids.obj;obtain rfl:=hL5' hne;obtain ⟨A1',c1',hL6,hL6'⟩:=hkids'.obj;obtain rfl:=hL6' hne';obtain ⟨A2,c2,rfl⟩:=zaf hp.row;have HP2:=hid hp;have hNk:(rest++(itemsAt 0 lb 5 lo x.1.g.il).zip (itemsAt 0 lb' 5 lo' x.2.g.il)).length+k2<=3 * M:=by have:=HN.out;have:=HM.out;rw [List.length_append,zdt];omega
        have b1:(rest++(itemsAt 0 lb 5 lo x.1.g.il).zip (itemsAt 0 lb' 5 lo' x.2.g.il)).length+k2+1<=maxLen:=by unfold maxLen;omega
        have b2:((rest++(itemsAt 0 lb 5 lo x.1.g.il).zip (itemsAt 0 lb' 5 lo' x.2.g.il)).length+k2+1) * 16<=140737488355328:=by omega
        have HB12:=hid (And.intro b1 b2);have hbs:W0.heap.size<=wr.heap.size:=by have h1:=H.out.size;have h2:=HK3.out.size;have h3:=hp.but.size;simp at h2;omega
        have HAl:∀ o,wr.heap.size<=(wr.alloc o).heap.size:=fun o=>by simp
        have HZT:Hid (((itemsAt 0 ob 6 (oo+1) x.1.g.vz).zip (itemsAt 0 ob' 6 (oo'+1) x.2.g.vz)).take (k2+1)=((itemsAt 0 ob 6 (oo+1) x.1.g.vz).zip (itemsAt 0 ob' 6 (oo'+1) x.2.g.vz)).take k2++[(⟨0,ob,oo+k2 * 6+1,x.1.g.vz[k2]⟩,⟨0,ob',oo'+k2 * 6+1,x.2.g.vz[k2]⟩)]):=by
         rw [zhy hka hkb,show oo+1+k2 * 6=oo+k2 * 6+1 by omega,show oo'+1+k2 * 6=oo'+k2 * 6+1 by omega];rfl
        clear hp hkids hkids' hL5' hL6' hne hne' b1 b2 hNk;generalize (rest++(itemsAt 0 lb 5 lo x.1.g.il).zip (itemsAt 0 lb' 5 lo' x.2.g.il))=R2 at *;obtain ⟨i0,hi0,hz0,hz1,hz2⟩:=info_parts infoCouple;have HI0:=hid hi0;have HZ0:=hid (And.intro hz0 (And.intro hz1 hz2));clear hi0 hz0 hz1 hz2
        gi_wp2
        refine wpIn_wide.2 ?_
        go_region_law (refine zaJ rfl (.tmp 84) (.tmp 102) 179 rfl W0.heap.size 178 i0 _ 2 16 Tryz.underlying179 HI0.out HZ0.out.1 HZ0.out.2.1 HZ0.out.2.2 rfl (by decide) (.slice A2 (R2.length+k2) c2) (R2.length+k2) _ (by simp [Act.eval]) ((HP2.out.row.alloc _).drew) ⟨wr.heap.size,0,none⟩ 1 1 [.pointer (some ⟨ob,oo+k2 * 6+1,none⟩),.pointer (some ⟨ob',oo'+k2 * 6+1,none⟩)] (by simp [Act.eval]) rfl (fun j u hj=>row_cells' wr wr.heap.size rfl [.pointer (some ⟨ob,oo+k2 * 6+1,none⟩),.pointer (some ⟨ob',oo'+k2 * 6+1,none⟩)] 178 j u hj) (by simp [Value.oneCell']) HB12.out.1 HB12.out.2 (Nat.le_trans hbs (HAl _)) ?_;intro v4 W4 hown4 hg4 hat4;obtain ⟨A4,c4,rfl⟩:=zaf hown4;have H4:=hid (And.intro hown4 (And.intro hg4 hat4));clear hown4 hg4 hat4)
        all_goals
         gi_wp2
         go_roundw
         case rel=>exact ⟨k2+1,by go_num,by omega,HP2.out.push _ _ HZT.out H4.out.1 H4.out.2.1 H4.out.2.2⟩
         case measure=>simp [intOf];omega
       ·have hkl:k2=min x.1.g.vz.length x.2.g.vz.length:=by have:=HM2.out;omega
        have HE:=hid (H.out.next hJ HJ3.out ((HB.out.others B).trans HK3.out) hp hkl);clear hp hkids hkids' hkl
        gi_wp2
        gi_roundg (psum (rest++kids2 x lb lo ob oo lb' lo' ob' oo'))
        case measure=>rw [<- HS.out];exact HE.out.2
        case rel=>exact ⟨_,rfl,HE.out.1⟩
   ·gi_wp2
    refine bodyPost_ret (results_none rfl _ _ _) rfl ?_
    exact ⟨⟨_,rfl⟩,.inr hx3⟩
attribute [local go_sem] Oper.semAt_some
mutual
def GV.Same:GV->GV->Prop
 | .mk k n s l ks ov,h=>SameSelf (.mk k n s l ks ov) h/\GV.Sames l h.il/\GV.Sames ov h.vz
def GV.Sames:List GV->List GV->Prop
 | [],_=>True
 | _ :: _,[]=>True
 | g :: r,h :: q=>GV.Same g h/\GV.Sames r q
end
theorem zjw (g h:GV):g.Same h↔SameSelf g h/\GV.Sames g.il h.il/\GV.Sames g.vz h.vz:=by
 cases g with | mk k n s l ks ov=>simp only [GV.Same,GV.il,GV.vz]
theorem zew {b step b' step':Nat}:∀ {off off':Nat} {l l':List GV},(∀ x∈(itemsAt 0 b step off l).zip (itemsAt 0 b' step' off' l'),x.1.g.Same x.2.g)↔GV.Sames l l'
 | _,_,[],_=>by simp [itemsAt,GV.Sames]
 | _,_,_ :: _,[]=>by simp [itemsAt,GV.Sames]
 | off,off',g :: r,h :: q=>by
  have:=zew (b:=b) (step:=step) (b':=b') (step':=step') (off:=off+step) (off':=off'+step') (l:=r) (l':=q);simp only [itemsAt,List.zip_cons_cons,List.mem_cons,GV.Sames,<- this];exact ⟨fun h=>⟨h _ (.inl rfl),fun x hx=>h x (.inr hx)⟩,fun h x hx=>hx.elim (fun e=>by rw [e];exact h.1) (h.2 x)⟩
theorem zgL (x:Pair) (lb lo ob oo lb' lo' ob' oo':Nat):x.1.g.Same x.2.g↔SameSelf x.1.g x.2.g/\∀ y∈kids2 x lb lo ob oo lb' lo' ob' oo',y.1.g.Same y.2.g:=by
 rw [zjw,<- zew (b:=lb) (step:=5) (b':=lb') (step':=5) (off:=lo) (off':=lo'),<- zew (b:=ob) (step:=6) (b':=ob') (step':=6) (off:=oo+1) (off':=oo'+1)];unfold kids2;simp only [List.mem_append];exact ⟨fun h=>⟨h.1,fun y hy=>hy.elim (h.2.1 y) (h.2.2 y)⟩,fun h=>⟨h.1,fun y hy=>h.2 y (.inl hy),fun y hy=>h.2 y (.inr hy)⟩⟩
structure Ahead2 (n0:Nat) (w0:World) (S:List Pair):Prop where
 one:∀ x∈S,Ahead n0 w0 [x.1]
 two:∀ x∈S,Ahead n0 w0 [x.2]
theorem Ahead.mem {n0 w0} {S:List Item} (h:Ahead n0 w0 S) {x:Item} (hx:x∈S):Ahead n0 w0 [x]:=⟨fun y hy=>by simp at hy;subst hy;exact h.ats y hx⟩
theorem Ahead.one {n0} {w0 W:World} {x:Item} (h:Ahead n0 w0 [x]) (hb:Below n0 w0 W):
  ∃ AL cL AO cO lb lo ob oo,ValAt W x.b x.off x.g AL AO cL cO/\ObjV (fun k=>k<n0) w0 (.slice AO x.g.vz.length cO) x.g.keys x.g.vz /\
   (∀ W',Below n0 w0 W'->KidsAt W' x 178 lb lo ob oo)/\Ahead n0 w0 (itemsAt 0 lb 5 lo x.g.il)/\Ahead n0 w0 (itemsAt 0 ob 6 (oo+1) x.g.vz):=by
 obtain ⟨hlt,⟨e,cs,he,he',hw⟩,hat⟩:=h.ats x (by simp)
 obtain ⟨L,O,h0,h1,h2,h3,h4,hL,hO⟩:=GV.at_iff.1 hat;obtain ⟨AL,cL,lb,lo,rfl,hl,hal⟩:=hL.kids 0;obtain ⟨AO,cO,ob,oo,rfl,ho,hao⟩:=hO.kids 0;have c:∀ {W':World} (_:Below n0 w0 W') (j:Nat),W'.cell? ⟨x.b,j,none⟩=w0.cell? ⟨x.b,j,none⟩:=fun h j=>h.cell (p:=⟨x.b,j,none⟩) hlt
 exact ⟨AL,cL,AO,cO,lb,lo,ob,oo,⟨(c hb _).trans h0,(c hb _).trans h1,(c hb _).trans h2,(c hb _).trans h3,(c hb _).trans h4⟩,hO,fun W' hW'=>⟨⟨e,cs,he',hw.below hW' hlt⟩,⟨AL,cL,(c hW' _).trans h3,hl⟩,⟨AO,cO,(c hW' _).trans h4,ho⟩⟩,hal,hao⟩
theorem Ahead2.zip {n0 w0} {a b:List Item} (ha:Ahead n0 w0 a) (hb:Ahead n0 w0 b):Ahead2 n0 w0 (a.zip b):=
 ⟨fun x hx=>ha.mem (List.of_mem_zip (a:=x.1) (b:=x.2) hx).1,fun x hx=>hb.mem (List.of_mem_zip (a:=x.1) (b:=x.2) hx).2⟩
theorem Ahead2.front {n0:Nat} {w0:World} {S T:List Pair} (h:Ahead2 n0 w0 (S++T)):Ahead2 n0 w0 S:=⟨fun x hx=>h.one x (List.mem_append.2 (.inl hx)),fun x hx=>h.two x (List.mem_append.2 (.inl hx))⟩
theorem Ahead2.join {n0:Nat} {w0:World} {S T:List Pair} (h:Ahead2 n0 w0 S) (k:Ahead2 n0 w0 T):Ahead2 n0 w0 (S++T):=
 ⟨fun x hx=>(List.mem_append.1 hx).elim (h.one x) (k.one x),fun x hx=>(List.mem_append.1 hx).elim (h.two x) (k.two x)⟩
structure Reads2 (n0:Nat) (w0:World) (bm:Nat) (g h:GV) (S:List Pair) (W:World):Prop where
 ahead:Ahead2 n0 w0 S
 below:Below n0 w0 W
 box:Whole W bm 4 #[.bool false]
 same:g.Same h↔∀ x∈S,x.1.g.Same x.2.g
section
variable {n0:Nat} {w0:World} {bm:Nat} {g h:GV}
theorem Reads2.apart {B:Nat} (hB:n0<=B) (S:List Pair):Apart B (Reads2 n0 w0 bm g h S):=fun W l o o' hl hk ho _ q=>
 ⟨q.ahead,zaC q.below (by omega) hk o',q.box.apart hk ho o',q.same⟩
theorem Reads2.but {base:Nat} (hn:n0<=base) (hw:n0<=w0.heap.size) (S:List Pair) (X Y:World) (q:Reads2 n0 w0 bm g h S X) (hb:But 178 base X Y):Reads2 n0 w0 bm g h S Y:=
 ⟨q.ahead,q.below.trans (hb.below hn (by have:=q.below.size;omega)),hb.whole q.box (by decide),q.same⟩
end
theorem zir {B:Nat} {J:List Pair->World->Prop} (hJ:∀ S,Apart B (J S)) (x:Due2):Apart B (Due2.Pre J x):=
 fun W l o o' hB hl ho ho' h=>⟨hJ _ W l o o' hB hl ho ho' h.1,h.2.apart hl ho o'⟩
theorem zgW {B:Nat} {J:List Pair->World->Prop} (hJ:∀ S,Apart B (J S)) (x:Due2):Apart B (Due2.Post J x):=by
 rintro W l o o' hB hl ho ho' ⟨h,lb,lo,ob,oo,lb',lo',ob',oo',hk,hk',hj⟩
 exact ⟨h.apart hl ho o',lb,lo,ob,oo,lb',lo',ob',oo',hk.apart hl ho o',hk'.apart hl ho o',hJ _ W l o o' hB hl ho ho' hj⟩
theorem ziJ (p q:Option Addr) (w:World):Calls Tryz.prog 122 #[.pointer p,.pointer q] w fun e w'=>
  e=.returned (.func (.func 129) #[] #[.pointer (some ⟨w.heap.size,0,none⟩),.pointer (some ⟨w.heap.size+1,0,none⟩)])/\(w.alloc (.cells #[.pointer p] 113)).alloc (.cells #[.pointer q] 113)=w':=by
 go_enter Tryz.func122,Tryz.ntmps122
 go_wp2
 go_ret
 exact ⟨rfl,rfl⟩
theorem zfR {ok w} {g h:GV} {L O L' O':Value} (hL:LstV ok w L g.il) (hO:ObjV ok w O g.keys g.vz) (hL':LstV ok w L' h.il) (hO':ObjV ok w O' h.keys h.vz):
  Ahead2 (w.heap.size+1+1) ((w.alloc (.cells #[.int .u8 g.kq,.int .i64 g.num,.string g.str,L,O] 29)).alloc (.cells #[.int .u8 h.kq,.int .i64 h.num,.string h.str,L',O'] 29)) [(⟨0,w.heap.size,0,g⟩,⟨0,w.heap.size+1,0,h⟩)]:=by
 obtain ⟨w0,hw0⟩:∃ w0,w0=(w.alloc (.cells #[.int .u8 g.kq,.int .i64 g.num,.string g.str,L,O] 29)).alloc (.cells #[.int .u8 h.kq,.int .i64 h.num,.string h.str,L',O'] 29):=⟨_,rfl⟩;rw [<- hw0];have hb:Below w.heap.size w w0:=by rw [hw0];exact ((Below.refl _ _).alloc (Nat.le_refl _) _).alloc (by simp) _
 have hF:From ok w w0:=.of_below hb;have h1:Whole w0 w.heap.size 29 #[.int .u8 g.kq,.int .i64 g.num,.string g.str,L,O]:=by rw [hw0];exact (Whole.new _ _ _).alloc _
 have h2:Whole w0 (w.heap.size+1) 29 #[.int .u8 h.kq,.int .i64 h.num,.string h.str,L',O']:=by
  rw [hw0];have:=Whole.new (w.alloc (.cells #[.int .u8 g.kq,.int .i64 g.num,.string g.str,L,O] 29)) 29 #[.int .u8 h.kq,.int .i64 h.num,.string h.str,L',O']
  rwa [World.size_alloc] at this
 refine ⟨fun x hx=>⟨fun y hy=>?_⟩,fun x hx=>⟨fun y hy=>?_⟩⟩
 ·simp only [List.mem_singleton] at hx hy
  subst hx;subst hy;exact ⟨by simp;omega,⟨_,_,by decide,by decide,h1⟩,GV.at_iff.2 ⟨L,O,(h1.cell 0).trans rfl,(h1.cell 1).trans rfl,(h1.cell 2).trans rfl,(h1.cell 3).trans rfl,(h1.cell 4).trans rfl,hL.keep hF (fun k _ hk=>by omega),hO.keep hF (fun k _ hk=>by omega)⟩⟩
 ·simp only [List.mem_singleton] at hx hy
  subst hx;subst hy;exact ⟨by simp,⟨_,_,by decide,by decide,h2⟩,GV.at_iff.2 ⟨L',O',(h2.cell 0).trans rfl,(h2.cell 1).trans rfl,(h2.cell 2).trans rfl,(h2.cell 3).trans rfl,(h2.cell 4).trans rfl,hL'.keep hF (fun k _ hk=>by omega),hO'.keep hF (fun k _ hk=>by omega)⟩⟩
theorem zkT (ok:Nat->Prop) (v v':Value) (g h:GV) (w:World) (hv:g.val ok w v) (hv':h.val ok w v') (hg:g.size<=1000000000) (hh:h.size<=1000000000):
  Calls Tryz.prog 109 #[v,v'] w (EqPost (g.Same h) w):=by
 obtain ⟨L,O,rfl,hL,hO⟩:=hv;obtain ⟨AL,cL,rfl⟩:=zah hL;obtain ⟨AO,cO,rfl⟩:=zag hO;obtain ⟨L',O',rfl,hL',hO'⟩:=hv';obtain ⟨AL',cL',rfl⟩:=zah hL';obtain ⟨AO',cO',rfl⟩:=zag hO';refine (callsIn_wide (n:=9)).1 ?_
 refine callsIn_of_wp_marks Tryz.func109 rfl trivial ?_ rfl
 simp only [Tryz.ntmps109,List.size_toArray,List.length_cons,List.length_nil,Nat.reduceAdd,Nat.reduceSub,Array.replicate_succ,Array.replicate_zero,List.push_toArray,List.append_toArray,List.nil_append,List.cons_append]
 gi_wp2_with (refine ⟨trivial,?_⟩;gi_at_call 122;refine (callsIn_wide.2 (ziJ _ _ _)).mono ?_;rintro e w' ⟨rfl,rfl⟩)
 have hah:=zfR hL hO hL' hO';obtain ⟨w0,hw0e⟩:∃ w0,w0=(w.alloc (.cells #[.int .u8 g.kq,.int .i64 g.num,.string g.str,.slice AL g.il.length cL,.slice AO g.vz.length cO] 29)).alloc (.cells #[.int .u8 h.kq,.int .i64 h.num,.string h.str,.slice AL' h.il.length cL',.slice AO' h.vz.length cO'] 29):=⟨_,rfl⟩;have hw0:w0.heap.size=w.heap.size+1+1:=by rw [hw0e];simp
 have hB1:Below w.heap.size w w0:=by rw [hw0e];exact ((Below.refl _ _).alloc (Nat.le_refl _) _).alloc (by simp) _
 rw [<- hw0e] at hah ⊢;clear hw0e hL hO hL' hO';refine zcf rfl (by decide) (gf:=129) (lb:=#[.pointer (some ⟨w.heap.size+1+1+1,0,none⟩),.pointer (some ⟨w.heap.size+1+1+1+1,0,none⟩)]) rfl trivial (enters_of Tryz.func129 (by kernel_rfl) rfl) Due2.encs (fun _=>rfl)
  (Due2.Pre (Reads2 (w.heap.size+1+1) w0 (w.heap.size+1+1) g h))
  (Due2.Post (Reads2 (w.heap.size+1+1) w0 (w.heap.size+1+1) g h))
  (fun c W=>c=.ret/\Whole W (w.heap.size+1+1) 4 #[.bool false]/\Below (w.heap.size+1+1) w0 W/\¬ g.Same h) (Reads2 (w.heap.size+1+1) w0 (w.heap.size+1+1) g h [])
  (zir fun S=>Reads2.apart (by simp;omega) S) (zgW fun S=>Reads2.apart (by simp;omega) S) (fun c W l o o' hl hk ho _ h=>⟨h.1,h.2.1.apart hk ho o',zaC h.2.2.1 (by simp at hl;omega) hk o',h.2.2.2⟩) (Reads2.apart (by simp;omega) _) ?seq
  (fun x=>{ tmps:=#[.agg #[.int .u8 g.kq,.int .i64 g.num,.string g.str,.slice AL g.il.length cL,.slice AO g.vz.length cO],.agg #[.int .u8 h.kq,.int .i64 h.num,.string h.str,.slice AL' h.il.length cL',.slice AO' h.vz.length cO'],.pointer (some ⟨w.heap.size,0,none⟩),.pointer (some ⟨w.heap.size+1,0,none⟩),.pointer (some ⟨w.heap.size+1+1,0,none⟩),.pointer (some ⟨x.1.1.b,x.1.1.off,none⟩),.pointer (some ⟨x.1.2.b,x.1.2.off,none⟩),.func (.func 129) #[] #[.pointer (some ⟨w.heap.size+1+1+1,0,none⟩),.pointer (some ⟨w.heap.size+1+1+1+1,0,none⟩)],.pointer (some ⟨x.1.1.b,x.1.1.off,none⟩),.pointer (some ⟨x.1.2.b,x.1.2.off,none⟩),undef,undef,undef,undef],defers:=[] }) ?assign ?body ?done ?stop
 case seq=>
  rintro l W rfl ⟨o,o',ho,ho',rfl⟩
  refine zhk 8 (by decide) _ 1000000000 (Nat.le_refl _) _ _ (fun S X Y q k=>q.but (by simp;omega) (by omega) S X Y k) (w.heap.size+1+1+1) (w.heap.size+1+1+1+1) (⟨0,w.heap.size,0,g⟩,⟨0,w.heap.size+1,0,h⟩) _ ?_ ⟨hg,hh⟩ ?_ ?_
  ·refine ⟨hah,(((((Below.refl _ _).alloc (by omega) _).alloc (by simp;omega) _).alloc (by simp;omega) _).alloc (by simp;omega) _).alloc (by simp;omega) _,?_,by simp⟩
   have:=Whole.new w0 4 #[.bool false];rw [hw0] at this;exact (((this.alloc _).alloc _).alloc _).alloc _
  ·refine zab _ (zab _ (zab _ ?_))
   have:=Whole.new (w0.alloc (.cells #[.bool false] 4)) 113 #[.pointer (some ⟨w.heap.size,0,none⟩)];rw [World.size_alloc,hw0] at this;exact (this.cell 0).trans rfl
  ·refine zab _ (zab _ ?_)
   have:=Whole.new ((w0.alloc (.cells #[.bool false] 4)).alloc (.cells #[.pointer (some ⟨w.heap.size,0,none⟩)] 113)) 113 #[.pointer (some ⟨w.heap.size+1,0,none⟩)];rw [World.size_alloc,World.size_alloc,hw0] at this;exact (this.cell 0).trans rfl
 case assign=>
  intro l x W K hK
  gi_wp2
  exact hK
 case body=>
  rintro l ⟨x,rest,own⟩ W ⟨⟨hA,hB,hu,hm⟩,hO⟩
  replace hA:Ahead2 (w.heap.size+1+1) w0 (rest++[x]):=hA;have hc:W.cell? ⟨w.heap.size+1+1,0,none⟩=some (.bool false):=(hu.cell 0).trans rfl;have hf:W.frozen? ⟨w.heap.size+1+1,0,none⟩=false:=hu.frozen 0;obtain ⟨A1,c1,A2,c2,lb,lo,ob,oo,hx,hOO,hkid,ha1,ha2⟩:=(hA.one x (by simp)).one hB
  obtain ⟨A1',c1',A2',c2',lb',lo',ob',oo',hx',hOO',hkid',ha1',ha2'⟩:=(hA.two x (by simp)).one hB
  have hOW:ObjV (fun k=>k<w.heap.size+1+1) W (.slice A2 x.1.g.vz.length c2) x.1.g.keys x.1.g.vz:=hOO.keep (fun k hk _=>hB.block k hk) (fun _ h _=>h)
  have hOW':ObjV (fun k=>k<w.heap.size+1+1) W (.slice A2' x.2.g.vz.length c2') x.2.g.keys x.2.g.vz:=hOO'.keep (fun k hk _=>hB.block k hk) (fun _ h _=>h)
  have hcall:=zhh (fun k=>k<w.heap.size+1+1) x.1.b x.1.off x.2.b x.2.off x.1.g x.2.g A1 A2 A1' A2' c1 c2 c1' c2' W hx hx' hOW hOW'
  have HM:=hid hm;have HU:=hid hu;have hWsz:w.heap.size+1+1<=W.heap.size:=by have:=hB.size;omega
  have HKD:=hid (And.intro hkid hkid');have HAH:=hid (hA.front.join ((Ahead2.zip ha1 ha1').join (Ahead2.zip ha2 ha2')));clear hm hu hOW hOW' hOO hOO' hx hx' hkid hkid' ha1 ha2 ha1' ha2';dsimp only;have hSelf:SameSelf x.1.g x.2.g\/¬ SameSelf x.1.g x.2.g:=Classical.em _;rcases hSelf with hso | hso
  ·have hcall':Calls Tryz.prog 123 #[.pointer (some ⟨x.1.b,x.1.off,none⟩),.pointer (some ⟨x.2.b,x.2.off,none⟩)] W fun e W1=>e=.returned (.bool true)/\Below W.heap.size W W1:=hcall.mono fun e W1 h=>by
    obtain ⟨bb,rfl,hbb,hb1⟩:=h;have:bb=true:=hbb.2 hso;subst this;exact ⟨rfl,hb1⟩
   have HSO:=hid hso;clear hcall hso
   gi_wp2_with (refine ⟨trivial,?_⟩;gi_at_call 123;refine (CallsIn.inRound l (callsIn_wide.2 hcall')).mono ?_;rintro e W1 ⟨rfl,hb1⟩)
   have hb1':Below (w.heap.size+1+1) w0 W1:=hB.trans (hb1.mono hWsz);refine ⟨zaX hb1,fun p hp=>(hO p hp).below hb1 (hO p hp).lt,lb,lo,ob,oo,lb',lo',ob',oo',HKD.out.1 _ hb1',HKD.out.2 _ hb1',⟨HAH.out,hb1',HU.out.below hb1 HU.out.lt,?_⟩⟩
   have h1:=zgL x lb lo ob oo lb' lo' ob' oo';rw [HM.out];simp only [List.mem_append,List.mem_singleton];constructor
   ·intro h y hy
    rcases hy with hy | hy
    ·exact h y (.inl hy)
    ·exact (h1.1 (h x (.inr rfl))).2 y hy
   ·intro h y hy
    rcases hy with hy | rfl
    ·exact h y (.inl hy)
    ·exact h1.2 ⟨HSO.out,fun z hz=>h z (.inr hz)⟩
  ·have hcall':Calls Tryz.prog 123 #[.pointer (some ⟨x.1.b,x.1.off,none⟩),.pointer (some ⟨x.2.b,x.2.off,none⟩)] W fun e W1=>e=.returned (.bool false)/\Below W.heap.size W W1:=hcall.mono fun e W1 h=>by
    obtain ⟨bb,rfl,hbb,hb1⟩:=h;cases bb with
    | false=>exact ⟨rfl,hb1⟩
    | true=>exact absurd (hbb.1 rfl) hso
   have HSO:=hid hso;clear hcall hso
   gi_wp2_with (refine ⟨trivial,?_⟩;gi_at_call 123;refine (CallsIn.inRound l (callsIn_wide.2 hcall')).mono ?_;rintro e W1 ⟨rfl,hb1⟩;have hc1:W1.cell? ⟨w.heap.size+1+1,0,none⟩=some (.bool false):=((HU.out.below hb1 HU.out.lt).cell 0).trans rfl;have hf1:W1.frozen? ⟨w.heap.size+1+1,0,none⟩=false:=(HU.out.below hb1 HU.out.lt).frozen 0)
   refine ⟨(zaX hb1).trans ((KeepsOthers.setCell _ _ _).from _),rfl,(HU.out.below hb1 HU.out.lt).put 0 _,(hB.trans (hb1.mono hWsz)).setCell (Nat.le_refl _) _,fun h=>?_⟩
   exact HSO.out ((zgL x 0 0 0 0 0 0 0 0).1 (HM.out.1 h x (by simp))).1
 case done=>
  rintro D W hD ⟨_,hB,hu,hm⟩ hK
  have hc:W.cell? ⟨w.heap.size+1+1,0,none⟩=some (.bool false):=(hu.cell 0).trans rfl;have hf:W.frozen? ⟨w.heap.size+1+1,0,none⟩=false:=hu.frozen 0;have HM:=hid hm;have HU:=hid hu;clear hm hu
  gi_wp2
  have hK':=(KeepsOthers.setCell W ⟨w.heap.size+1+1,0,none⟩ (.bool true)).same D _ hK rfl;refine ⟨by simp,.inl ⟨_,_,rfl,run_takeDeferred hK',?_⟩⟩
  have hc5:=((HU.out.put 0 (.bool true)).apart hK' rfl (.deferred none)).cell 0;refine ⟨.bool true,?_,true,rfl,⟨fun _=>HM.out.2 (fun x hx=>by cases hx),fun _=>rfl⟩,?_⟩
  ·simp [results,Tryz.results109,go_sem,hc5]
  ·exact hB1.trans ((zaC (hB.setCell (Nat.le_refl _) _) (by simp at hD;omega) hK' _).mono (by omega))
 case stop=>
  rintro D c W hD ⟨rfl,hu,hB,hn⟩ hK
  gi_wp2
  refine ⟨by simp,.inl ⟨_,_,rfl,run_takeDeferred hK,?_⟩⟩
  have hc5:=(hu.apart hK rfl (.deferred none)).cell 0;refine ⟨.bool false,?_,false,rfl,⟨(fun h=>by cases h),fun h=>absurd h hn⟩,?_⟩
  ·simp [results,Tryz.results109,go_sem,hc5]
  ·exact hB1.trans ((zaC hB (by simp at hD;omega) hK _).mono (by omega))
open Go Go.RowKit Go.Sort
theorem ze4 (x:Int) (h0:0<=x) (h1:x<9223372036854775808):IntKind.i64.wrap x=x:=by
 simp [IntKind.wrap,IntKind.bits,IntKind.signed]
 omega
theorem zbx:∀ (l:List GV) (k:Nat) (h:k<l.length),l[k].weight<=GV.weights l
 | [],_,h=>by simp at h
 | x :: r,0,_=>by simp [GV.weights]
 | x :: r,k+1,h=>by
  have:=zbx r k (by simpa using h)
  simp only [GV.weights,List.getElem_cons_succ];omega
def WtRel (W0:World) (ks:List ByteArray) (l:List GV) (z:Nat) (n i:Value) (wr:World):Prop:=∃ k:Nat,i=.int .i64 k/\k<=l.length/\n=.int .i64 (z+ksum (ks.take k)+GV.weights (l.take k):Nat)/\Below W0.heap.size W0 wr
theorem za1 (F:Nat):∀ (ok:Nat->Prop) (v:Value) (g:GV) (w:World),g.size<=F->g.val ok w v->g.weight<=1000000000 ->
  Calls Tryz.prog 72 #[v] w fun e w'=>e=.returned (.int .i64 g.weight)/\Below w.heap.size w w':=by
 induction F with
 | zero=>intro ok v g w hF;cases g with | mk k n s l ks ov=>simp only [GV.size] at hF;omega
 | succ F ih=>
  intro ok v g w hF hv hsz;obtain ⟨L,O,rfl,hL,hO⟩:=hv;have hkl:=hO.1;obtain ⟨A,c,rfl,hc1,hc2,hf⟩:=hL.form;obtain ⟨A',c',rfl,hc1',hc2',hf'⟩:=hO.form;have hge:=zaD g;have hde:g.weight=1+g.str.size+GV.weights g.il+ksum g.keys+GV.weights g.vz:=by cases g with | mk k n s l ks ov=>simp only [GV.weight,GV.il,GV.vz,GV.keys,GV.str,ksum]
  have hs9:=zad g;have hln1:=zaq g.il;have hln2:=zaq g.vz;rw [hde] at hsz hs9 ⊢;unfold maxLen at hc2 hc2';generalize g.il=l at *;generalize g.vz=ov at *;generalize g.keys=ks at *;generalize g.kq=gk;generalize g.num=gn;generalize g.str=gs at *;have IH:=hid ih;have HF:=hid hf;have HF':=hid hf';have HSZ:=hid (And.intro hF (And.intro hsz hge));have hll:l.length<=1000000000:=by omega
  have hlo:ov.length<=1000000000:=by omega
  have hgs:gs.size<=1000000000:=by omega
  have HKL:=hid hkl;clear ih hf hf' hF hsz hge hL hO hde hs9 hln1 hln2 hkl;go_enter Tryz.func72,Tryz.ntmps72
  go_wp2
  have hB:Below w.heap.size w (w.alloc (.cells #[Value.int IntKind.u8 gk,Value.int IntKind.i64 gn,Value.string gs,Value.slice A l.length c,Value.slice A' ov.length c'] 29)):=(Below.refl _ _).alloc (Nat.le_refl _) _;have hW:=Whole.new w 29 #[Value.int IntKind.u8 gk,Value.int IntKind.i64 gn,Value.string gs,Value.slice A l.length c,Value.slice A' ov.length c'];generalize (w.alloc (.cells #[Value.int IntKind.u8 gk,Value.int IntKind.i64 gn,Value.string gs,Value.slice A l.length c,Value.slice A' ov.length c'] 29))=W0 at hB hW ⊢;have HW:=hid hW;have HB:=hid hB;clear hW hB
  go_loopw [3,4] (WtRel W0 [] l (1+gs.size)) (fun _ i _=>l.length - (intOf i).toNat)
  case atStart=>exact ⟨0,rfl,Nat.zero_le _,by simp [GV.weights,ksum],Below.refl _ _⟩
  case round=>
   obtain ⟨k,rfl,hk,rfl,hr⟩:=hrel;have hx3:wr.cell? ⟨w.heap.size,3,none⟩=some (.slice A l.length c):=((HW.out.below hr HW.out.lt).cell 3).trans rfl;have hwr:Below w.heap.size w wr:=HB.out.trans (hr.mono HB.out.size);have HR:=hid hr;clear hr;have hd0:1+gs.size+ksum (([]:List ByteArray).take k)+GV.weights (l.take k)<=1000000000:=by have:=zbb l k;have:=HSZ.out;simp [ksum];omega
   by_cases hlt:k<l.length
   ·obtain ⟨b,o,rfl,hK,hE⟩:=HF.out (by intro e;rw [e] at hlt;simp at hlt)
    obtain ⟨A1,c1,A2,c2,hcells,hval⟩:=zcK hE hK hlt;obtain ⟨q0,q1,q2,q3,q4⟩:=hcells wr hwr;have hz:=hval wr hwr;have hs:=zaL l k hlt;have hs2:=HSZ.out;have hs3:=zbx l k hlt;have hxd:l[k].weight<=1000000000:=by omega
    have hcall:=IH.out _ _ l[k] wr (by omega) hz (by omega)
    have hT:=zci l k hlt;have hT2:=zbb l (k+1);have hd1:1+gs.size+ksum (([]:List ByteArray).take k)+GV.weights (l.take k)+l[k].weight<=1000000000:=by simp [ksum];omega
    have HT:=hid hT;have HC:=hid hcall;clear hcells hval hz hs hs2 hs3 hcall hE hK hT hT2;generalize l[k]=x at *;generalize hm:1+gs.size+ksum (([]:List ByteArray).take k)+GV.weights (l.take k)=m at *;have HM:=hid hm;clear hm
    go_wp2_with (go_at_call 72;refine HC.out.mono ?_;rintro e W1 ⟨rfl,hb1⟩;have HB1:=hid hb1;clear hb1)
    go_roundw
    case rel=>exact ⟨k+1,by go_simp,by omega,by have h1:=HT.out;have h2:=HM.out;congr 1;rw [h1,<- h2];simp [ksum];omega,HR.out.trans (HB1.out.mono HR.out.size)⟩
    case measure=>simp [intOf];omega
   ·have hkl:k=l.length:=by omega
    subst hkl;have hz0:1+gs.size+ksum (([]:List ByteArray).take l.length)+GV.weights (l.take l.length)=1+gs.size+GV.weights l:=by simp [ksum]
    rw [hz0] at *;generalize hz:1+gs.size+GV.weights l=z at *;have HZ:=hid hz;clear hz hz0;go_wp2
    clear hx3 hwr
    go_loopw [3,5] (WtRel W0 ks ov z) (fun _ i _=>ov.length - (intOf i).toNat)
    case atStart=>exact ⟨0,rfl,Nat.zero_le _,by simp [GV.weights,ksum],HR.out⟩
    case round=>
     clear HR;obtain ⟨k,rfl,hk,rfl,hr⟩:=hrel;have hx4:wr.cell? ⟨w.heap.size,4,none⟩=some (.slice A' ov.length c'):=((HW.out.below hr HW.out.lt).cell 4).trans rfl;have hwr:Below w.heap.size w wr:=HB.out.trans (hr.mono HB.out.size);have HR:=hid hr;clear hr;have hd0:z+ksum (ks.take k)+GV.weights (ov.take k)<=1000000000:=by have:=zbb ov k;have:=zep ks k;have:=HSZ.out;have:=HZ.out;omega
     by_cases hlt:k<ov.length
     ·obtain ⟨b,o,rfl,hK,hks,hE⟩:=HF'.out (by intro e;rw [e] at hlt;simp at hlt)
      have hlk:k<ks.length:=by have:=HKL.out;omega
      obtain ⟨A1,c1,A2,c2,hcells,hval⟩:=zbV hks hE hK hlt hlk;obtain ⟨q0,q1,q2,q3,q4,q5⟩:=hcells wr hwr;have r0:=cell_regrown q0;have r1:=cell_regrown q1;have r2:=cell_regrown q2;have r3:=cell_regrown q3;have r4:=cell_regrown q4;have r5:=cell_regrown q5;have rx:=cell_regrown hx4;have hs:=zaL ov k hlt;have hs2:=HSZ.out;have hs3:=zbx ov k hlt;have hxd:ov[k].weight<=1000000000:=by omega
      have hcall:=fun (d:Nat) (os:Array Obj)=>Calls.regrown_of (IH.out _ _ ov[k] (grow (redrawn wr d) os) (by omega) (hval _ (hwr.trans ((below_regrown wr d os).mono hwr.size))) (by omega))
      have hT:=zci ov k hlt;have hU:=zcU ks k hlk;have hT2:=zbb ov (k+1);have hU2:=zep ks (k+1);have hz2:=HZ.out;have hd1:z+ksum (ks.take k)+GV.weights (ov.take k)+(ks[k].size+ov[k].weight)<=1000000000:=by omega
      have hks0:ks[k].size<=1000000000:=by omega
      have HT:=hid (And.intro hT hU);clear hcells hval hs hs2 hs3 hE hK hks hT hT2 hU hU2 hz2;generalize ov[k]=x at *;generalize ks[k]=kk at *;generalize hm:z+ksum (ks.take k)+GV.weights (ov.take k)=m at *;have HM:=hid hm;clear hm;go_wp2
      refine wp_region_quiet_below (by kernel_rfl) (by kernel_rfl) ?_
      repeat (quiet_step (exact hcall _ _))
      refine wpQuiet_nil ?_
      intro _ hw';obtain ⟨⟨dq,osq⟩,hw''⟩:=hw';subst hw'';go_wp2
      go_roundw
      case rel=>exact ⟨k+1,by go_simp,by omega,by have h1:=HT.out;have h2:=HM.out;congr 1;rw [ze4 ((kk.size:Int)+(x.weight:Int)) (by omega) (by omega),ze4 _ (by omega) (by omega),h1.1,h1.2,<- h2];omega,HR.out.trans ((below_regrown wr dq osq).mono HR.out.size)⟩
      case measure=>simp [intOf];omega
     ·have hkl:k=ov.length:=by omega
      subst hkl;go_wp2
      refine bodyPost_ret (v:=.int .i64 (z+ksum (ks.take ov.length)+GV.weights (ov.take ov.length):Nat)) (by simp [results,Tryz.results72,go_sem]) rfl ?_
      refine ⟨?_,hwr⟩
      rw [<- HZ.out,<- HKL.out,List.take_length,HKL.out,List.take_length]
end Go.Proofs.YtmmgdkpkcoopgaaGreatDoor
