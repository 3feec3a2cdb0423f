/- Texts in one: Just, Loosen, ReachP, RStep, Put. -/
import Derived.Test.YtmmgdkpkcoopgaaGreatDoorP5
import Derived.Test.YtmmgdkpkcoopgaaGreatDoorLaysV
import Derived.Test.YtmmgdkpkcoopgaaGreatDoorP4
import Derived.BigQuiet
import Derived.BigRegion
import Derived.RegionTactic
set_option maxHeartbeats 4000000
namespace Go.Proofs.YtmmgdkpkcoopgaaGreatDoor
open Go.Lib(hid)
open Go Go.RowKit
structure Just (b lo n:Nat) (W W':World):Prop where
 os:W'.os=W.os
 tape:W'.tape=W.tape
 output:W'.output=W.output
 size:W.heap.size<=W'.heap.size
 far:∀ k,k<W.heap.size->k≠b->W'.heap[k]? = W.heap[k]?
 near:∀ j,(j<lo\/lo+n<=j)->W'.cell? ⟨b,j,none⟩=W.cell? ⟨b,j,none⟩
 row:∀ t cs,Whole W b t cs->∃ cs',Whole W' b t cs'
theorem Just.refl (b lo n:Nat) (W:World):Just b lo n W W:=⟨rfl,rfl,rfl,Nat.le_refl _,fun _ _ _=>rfl,fun _ _=>rfl,fun _ cs h=>⟨cs,h⟩⟩
theorem Just.trans {b lo n W W' W''} (h:Just b lo n W W') (k:Just b lo n W' W''):Just b lo n W W'':=
 ⟨k.os.trans h.os,k.tape.trans h.tape,k.output.trans h.output,Nat.le_trans h.size k.size,fun i hi hn=>(k.far i (Nat.lt_of_lt_of_le hi h.size) hn).trans (h.far i hi hn),fun j hj=>(k.near j hj).trans (h.near j hj),
  fun t cs hw=>by obtain ⟨cs',h'⟩:=h.row t cs hw;exact k.row t cs' h'⟩
theorem Just.of_below {b lo n:Nat} {W W':World} (h:Below W.heap.size W W') (hb:b<W.heap.size):Just b lo n W W':=
 ⟨h.os,h.tape,h.output,h.size,fun k hk _=>h.block k hk,fun j _=>h.cell (p:=⟨b,j,none⟩) hb,fun _ cs hw=>⟨cs,hw.below h hb⟩⟩
theorem Just.set {b lo n:Nat} (W:World) {j:Nat} (h1:lo<=j) (h2:j<lo+n) (u:Value):Just b lo n W (W.setCell ⟨b,j,none⟩ u):=by
 refine ⟨rfl,rfl,rfl,by simp,fun k _ hn=>Below.heap_setCell W ⟨b,j,none⟩ u k hn,fun i hi=>?_,fun t cs hw=>⟨_,hw.put j u⟩⟩
 rw [World.cell?_setCell_other];intro e;cases e
 omega
theorem Just.below {b lo n B:Nat} {W W'} (h:Just b lo n W W') (hB:B<=b) (hs:B<=W.heap.size):Below B W W':=
 ⟨h.os,h.tape,h.output,h.size,fun k hk=>h.far k (by omega) (by omega)⟩
theorem Just.from {b lo n} {ok:Nat->Prop} {W W'} (h:Just b lo n W W') (hb:¬ ok b):From ok W W':=fun k hk hl=>h.far k hl (fun e=>hb (e ▸ hk))
theorem zbl {b off:Nat} (W:World) (a0 a1 a2 a3 a4:Value):Just b off 5 W (((((W.setCell ⟨b,off,none⟩ a0).setCell ⟨b,off+1,none⟩ a1).setCell ⟨b,off+2,none⟩ a2).setCell ⟨b,off+3,none⟩ a3).setCell ⟨b,off+4,none⟩ a4):=
 ((((Just.set W (Nat.le_refl _) (by omega) a0).trans (Just.set _ (by omega) (by omega) a1)).trans (Just.set _ (by omega) (by omega) a2)).trans (Just.set _ (by omega) (by omega) a3)).trans (Just.set _ (by omega) (by omega) a4)
theorem zlm {R B0:Nat} {W W':World} {v:Value} {l:List GV} {xs:List Value} {g k:Nat} {y:GV} (hr:RowL (fun k=>k<R) W l xs) (ho:W.ownsRow B0 29 5 v l.length xs) (hR:R<=B0) {c:Nat} (hv:v=.slice (some ⟨g,0,none⟩) l.length c)
  (hJ:Just g (0+k * 5) 5 W W') (hy:y.at (fun _=>True) W' g (0+k * 5)):LstV (fun _=>True) W' v (l.set k y):=by
 subst hv;rcases ho.2 with ⟨hn,_⟩ | ⟨g',cap,cur,he,hb,hg,h1,h2,h3,h4⟩
 ·cases hn
 cases he
 have hF:From (fun k=>k<R) W W':=hJ.from (by omega)
 obtain ⟨cs',hw'⟩:=hJ.row _ _ (show Whole W g 29 cur from hg);have hE:GV.els (fun k=>k<R) W g 5 0 l:=hr.els fun j u hj=>by
  have:=ho.cells (g:=g) rfl j u hj;by_cases e:j=0<;>simpa [Addr.add,e] using this
 refine .inr ⟨g,0,c,by rw [List.length_set],by rw [List.length_set];exact h1,h2,hw'.kq trivial,GV.els_of fun i a ha=>?_⟩
 by_cases e:i=k
 ·subst e
  rw [List.getElem?_set] at ha;simp only [if_true] at ha;split at ha
  ·cases ha;exact hy
  ·cases ha
 ·rw [List.getElem?_set_ne (Ne.symm e)] at ha
  obtain ⟨L,O,c0,c1,c2,c3,c4,hL,hO⟩:=GV.at_iff.1 (GV.els_get hE ha);have hn:∀ d,d<5->W'.cell? ⟨g,0+i * 5+d,none⟩=W.cell? ⟨g,0+i * 5+d,none⟩:=fun d hd=>hJ.near _ (by omega)
  have n0:=hn 0 (by omega)
  rw [Nat.add_zero] at n0;exact GV.at_iff.2 ⟨L,O,n0.trans c0,(hn 1 (by omega)).trans c1,(hn 2 (by omega)).trans c2,(hn 3 (by omega)).trans c3,(hn 4 (by omega)).trans c4,hL.keep hF (fun _ _ _=>trivial),hO.keep hF (fun _ _ _=>trivial)⟩
theorem zkA {R B0:Nat} {W W':World} {v:Value} {ks:List ByteArray} {l:List GV} {xs:List Value} {g k:Nat} {y:GV} (hr:RowO (fun k=>k<R) W ks l xs) (ho:W.ownsRow B0 56 6 v l.length xs) (hR:R<=B0) {c:Nat} (hv:v=.slice (some ⟨g,0,none⟩) l.length c)
  (hJ:Just g (0+k * 6+1) 5 W W') (hy:y.at (fun _=>True) W' g (0+k * 6+1)):ObjV (fun _=>True) W' v ks (l.set k y):=by
 subst hv;rcases ho.2 with ⟨hn,_⟩ | ⟨g',cap,cur,he,hb,hg,h1,h2,h3,h4⟩
 ·cases hn
 cases he
 have hF:From (fun k=>k<R) W W':=hJ.from (by omega)
 obtain ⟨cs',hw'⟩:=hJ.row _ _ (show Whole W g 56 cur from hg);have hlen:=hr.len;have hE:=hr.els (b:=g) (off:=0) fun j u hj=>by
  have:=ho.cells (g:=g) rfl j u hj;by_cases e:j=0<;>simpa [Addr.add,e] using this
 refine ⟨by rw [List.length_set];exact hlen,.inr ⟨g,0,c,by rw [List.length_set],by rw [List.length_set];exact h1,h2,hw'.kq trivial,KeysAt.of fun i a ha=>?_,GV.els_of fun i a ha=>?_⟩⟩
 ·exact (hJ.near _ (by omega)).trans (hE.1.get ha)
 ·by_cases e:i=k
  ·subst e
   rw [List.getElem?_set] at ha;simp only [if_true] at ha;split at ha
   ·cases ha;rwa [show 0+1+i * 6=0+i * 6+1 by omega]
   ·cases ha
  ·rw [List.getElem?_set_ne (Ne.symm e)] at ha
   obtain ⟨L,O,c0,c1,c2,c3,c4,hL,hO⟩:=GV.at_iff.1 (GV.els_get hE.2 ha);have hn:∀ d,d<5->W'.cell? ⟨g,0+1+i * 6+d,none⟩=W.cell? ⟨g,0+1+i * 6+d,none⟩:=fun d hd=>hJ.near _ (by omega)
   have n0:=hn 0 (by omega)
   rw [Nat.add_zero] at n0;exact GV.at_iff.2 ⟨L,O,n0.trans c0,(hn 1 (by omega)).trans c1,(hn 2 (by omega)).trans c2,(hn 3 (by omega)).trans c3,(hn 4 (by omega)).trans c4,hL.keep hF (fun _ _ _=>trivial),hO.keep hF (fun _ _ _=>trivial)⟩
theorem zbu (b o j:Nat):(⟨b,o,none⟩:Addr).add j =⟨b,o+j,none⟩:=by
 by_cases e:j=0
 ·subst e;simp [Addr.add]
 ·simp [Addr.add,e]
theorem zkh (ok:Nat->Prop) (A:Option Addr) (n c:Nat) (l:List GV) (w:World) (hL:LstV ok w (.slice A n c) l) (hn:n=l.length) (hsz:n<=1000000000):
  Calls Tryz.prog 99 #[.slice A n c] w fun e w'=>∃ v' xs,e=.returned v'/\RowL ok w l xs/\w'.ownsRow w.heap.size 29 5 v' l.length xs/\Below w.heap.size w w':=by
 subst hn;rcases hL with ⟨rfl,he⟩ | ⟨b,o,c',he,h1,h2,hK,hE⟩
 ·cases he
  refine Calls.mono (AnyE.slices_Clone_nil Tryz.cloneV 0 0 w) fun e w' ⟨he,hw⟩=>⟨_,[],he,rfl,?_,by rw [hw];exact Below.refl _ _⟩
  exact World.ownsRow_nil _ _ _ _
 ·cases he
  obtain ⟨xs,hr,hlen,hcell,h1c⟩:=zd1 hE;obtain ⟨i0,hi,hz0,hz1,hz2⟩:=info_parts infoVal;refine Calls.mono (AnyE.slices_Clone Tryz.cloneV i0 _ 5 80 hi hz0 hz1 hz2 rfl (by decide) Tryz.sizeOf29 b o l.length c xs w hlen (by unfold maxLen;omega) (by omega) hcell h1c) fun e w' ⟨v',he,ho,_,hb⟩=>⟨v',xs,he,hr,ho,hb⟩
theorem zjW (ok:Nat->Prop) (A:Option Addr) (n c:Nat) (ks:List ByteArray) (l:List GV) (w:World) (hO:ObjV ok w (.slice A n c) ks l) (hn:n=l.length) (hsz:n<=1000000000):
  Calls Tryz.prog 100 #[.slice A n c] w fun e w'=>∃ v' xs,e=.returned v'/\RowO ok w ks l xs/\w'.ownsRow w.heap.size 56 6 v' l.length xs/\Below w.heap.size w w':=by
 subst hn;obtain ⟨hl,hO⟩:=hO;rcases hO with ⟨rfl,he⟩ | ⟨b,o,c',he,h1,h2,hK,hks,hE⟩
 ·cases he
  obtain rfl:ks=[]:=List.length_eq_zero_iff.1 (by simpa using hl)
  refine Calls.mono (AnyE.slices_Clone_nil Tryz.cloneF 0 0 w) fun e w' ⟨he,hw⟩=>⟨_,[],he,by simp [RowO],?_,by rw [hw];exact Below.refl _ _⟩
  exact World.ownsRow_nil _ _ _ _
 ·cases he
  obtain ⟨xs,hr,hlen,hcell,h1c⟩:=zdX hl hks hE;obtain ⟨i0,hi,hz0,hz1,hz2⟩:=info_parts infoField;refine Calls.mono (AnyE.slices_Clone Tryz.cloneF i0 _ 6 96 hi hz0 hz1 hz2 rfl (by decide) Tryz.sizeOf56 b o l.length c xs w hlen (by unfold maxLen;omega) (by omega) hcell h1c) fun e w' ⟨v',he,ho,_,hb⟩=>⟨v',xs,he,hr,ho,hb⟩
structure Loose (R b off:Nat) (h:GV) (W W':World) (AL AO:Option Addr) (cL cO:Nat) (xs ys:List Value):Prop where
 just:Just b off 5 W W'
 c0:W'.cell? ⟨b,off,none⟩=some (.int .u8 h.kq)
 c1:W'.cell? ⟨b,off+1,none⟩=some (.int .i64 h.num)
 c2:W'.cell? ⟨b,off+2,none⟩=some (.string h.str)
 c3:W'.cell? ⟨b,off+3,none⟩=some (.slice AL h.il.length cL)
 c4:W'.cell? ⟨b,off+4,none⟩=some (.slice AO h.vz.length cO)
 rl:RowL (fun k=>k<R) W' h.il xs
 ol:W'.ownsRow W.heap.size 29 5 (.slice AL h.il.length cL) h.il.length xs
 ro:RowO (fun k=>k<R) W' h.keys h.vz ys
 oo:W'.ownsRow W.heap.size 56 6 (.slice AO h.vz.length cO) h.vz.length ys
theorem zam (w:World) {b i j:Nat} (h:i≠j) (u:Value):(w.setCell ⟨b,i,none⟩ u).cell? ⟨b,j,none⟩=w.cell? ⟨b,j,none⟩:=by
 rw [World.cell?_setCell_other];intro e;cases e
 exact h rfl
theorem zlE {W:World} {base base':Nat} {e:TypeId} {size n:Nat} {v:Value} {xs:List Value} (h:W.ownsRow base e size v n xs) (hb:base'<=base):W.ownsRow base' e size v n xs:=
 ⟨h.1,h.2.imp id fun ⟨g,cap,cur,h1,h2,h3⟩=>⟨g,cap,cur,h1,Nat.le_trans hb h2,h3⟩⟩
theorem zi2 (R b off:Nat) (h:GV) (W:World) (hat:h.at (fun k=>k<R) W b off) (hwh:∃ t cs,Whole W b t cs) (hR:R<=b) (hw:h.weight<=1000000000):
  Calls Tryz.prog 64 #[.pointer (some ⟨b,off,none⟩)] W fun e w'=>e=.returned (.tuple #[])/\∃ AL AO cL cO xs ys,Loose R b off h W w' AL AO cL cO xs ys:=by
 obtain ⟨AL,AO,cL,cO,hsp⟩:=hat.spot;obtain ⟨t,cs,hwh⟩:=hwh;have hlt:=hwh.lt;have hn1:h.il.length<=1000000000:=by have h1:=zaq h.il;have h2:=zaD h;have h3:=zad h;omega
 have hn2:h.vz.length<=1000000000:=by have h1:=zaq h.vz;have h2:=zaD h;have h3:=zad h;omega
 have hv:=zkh _ AL h.il.length cL h.il W hsp.lst rfl hn1;have ho:∀ W',Just b off 5 W W'->Calls Tryz.prog 100 #[.slice AO h.vz.length cO] W' fun e w'=>∃ v' xs,e=.returned v'/\RowO (fun k=>k<R) W' h.keys h.vz xs/\w'.ownsRow W'.heap.size 56 6 v' h.vz.length xs/\Below W'.heap.size W' w':=fun W' hJ=>
  zjW _ AO h.vz.length cO h.keys h.vz W' (hsp.obj.keep (hJ.from (by simp;omega)) (fun _ h _=>h)) rfl hn2
 have HV:=hid hv;have HO:=hid ho;have HW:=hid hwh;have HSP:=hid hsp;have c3:=hsp.c3;clear hv ho hwh hsp hat hw;go_enter Tryz.func64,Tryz.ntmps64
 go_wp2_with (first
  | (go_at_call 99;refine HV.out.mono ?_;rintro e w1 ⟨v1,xs,rfl,hr1,ho1,hb1⟩;obtain ⟨A1,d1,rfl⟩:=zaf ho1;have hw1:=HW.out.below hb1 hlt;have x3:=(hb1.cell (p:=⟨b,off+3,none⟩) hlt).trans HSP.out.c3;have x4:=(hb1.cell (p:=⟨b,off+4,none⟩) hlt).trans HSP.out.c4;have f3:=hw1.frozen (off+3);have H1:=hid (And.intro hr1 (And.intro ho1 (And.intro hb1 hw1)));clear hr1 ho1 hb1 hw1)
  | (go_at_call 100;refine (HO.out _ ((Just.of_below H1.out.2.2.1 hlt).trans (Just.set w1 (j:=off+3) (by omega) (by omega) _))).mono ?_;rintro e w2 ⟨v2,ys,rfl,hr2,ho2,hb2⟩;obtain ⟨A2,d2,rfl⟩:=zaf ho2;have hw2:=(H1.out.2.2.2.put (off+3) (.slice A1 h.il.length d1)).below hb2 (by simpa using H1.out.2.2.2.lt);have z3:w2.cell? ⟨b,off+3,none⟩=some (.slice A1 h.il.length d1):=(hb2.cell (p:=⟨b,off+3,none⟩) (by simpa using H1.out.2.2.2.lt)).trans (World.cell?_setCell_same' _ _ _ (by rw [x3];rfl));have z4:w2.cell? ⟨b,off+4,none⟩=some (.slice AO h.vz.length cO):=(hb2.cell (p:=⟨b,off+4,none⟩) (by simpa using H1.out.2.2.2.lt)).trans ((zam w1 (by omega) _).trans x4);have f4:=hw2.frozen (off+4);have H2:=hid (And.intro hr2 (And.intro ho2 (And.intro hb2 hw2)));clear hr2 ho2 hb2 hw2))
 go_end0
 have hJ:=(((Just.of_below (lo:=off) (n:=5) H1.out.2.2.1 hlt).trans (Just.set w1 (j:=off+3) (by omega) (by omega) (.slice A1 h.il.length d1))).trans (Just.of_below (lo:=off) (n:=5) H2.out.2.2.1 (by simpa using H1.out.2.2.2.lt))).trans (Just.set w2 (j:=off+4) (by omega) (by omega) (.slice A2 h.vz.length d2))
 have hs1:=H1.out.2.2.1.size;have hs2:=H2.out.2.2.1.size;simp only [zaW] at hs2;have hc:∀ i,i≠off+3->i≠off+4->(w2.setCell ⟨b,off+4,none⟩ (.slice A2 h.vz.length d2)).cell? ⟨b,i,none⟩=W.cell? ⟨b,i,none⟩:=fun i h3 h4=>by
  rw [zam w2 (Ne.symm h4)];refine (H2.out.2.2.1.cell (p:=⟨b,i,none⟩) (by simpa using H1.out.2.2.2.lt)).trans ?_
  rw [zam w1 (Ne.symm h3)];exact H1.out.2.2.1.cell (p:=⟨b,i,none⟩) hlt
 have hF1:From (fun k=>k<R) W (w2.setCell ⟨b,off+4,none⟩ (.slice A2 h.vz.length d2)):=hJ.from (by omega)
 have hF2:From (fun k=>k<R) (w1.setCell ⟨b,off+3,none⟩ (.slice A1 h.il.length d1)) (w2.setCell ⟨b,off+4,none⟩ (.slice A2 h.vz.length d2)):=fun k hk hlk=>by
  rw [Below.heap_setCell w2 ⟨b,off+4,none⟩ _ k (by simp only;omega)]
  exact H2.out.2.2.1.block k hlk
 have hb1:∀ k,(Value.slice A1 h.il.length d1).ownBlock=some k->W.heap.size<=k/\k<w1.heap.size:=fun k hk=>H1.out.2.1.lt k hk
 have hb2:∀ k,(Value.slice A2 h.vz.length d2).ownBlock=some k->w1.heap.size<=k/\k<w2.heap.size:=fun k hk=>by simpa using H2.out.2.1.lt k hk
 refine ⟨rfl,A1,A2,d1,d2,xs,ys,hJ,(hc _ (by omega) (by omega)).trans HSP.out.c0,(hc _ (by omega) (by omega)).trans HSP.out.c1,(hc _ (by omega) (by omega)).trans HSP.out.c2,?_,World.cell?_setCell_same' _ _ _ (by rw [z4];rfl),H1.out.1.keep hF1 (fun _ h _=>h),?_,H2.out.1.keep hF2 (fun _ h _=>h),?_⟩
 ·exact (zam w2 (by omega) _).trans z3
 ·refine zgV (zaz (zgV H1.out.2.1 ?_ _) H2.out.2.2.1) ?_ _
  ·intro e;have:=hb1 b e;omega
  ·intro e;have:=hb1 b e;omega
 ·refine zgV (zlE H2.out.2.1 (by simpa using hs1)) ?_ _
  intro e;have:=hb2 b e;omega
theorem Just.over {b lo n n1 lo' n'} {W W1 W2 W':World} (h:Just b lo n W W1) (hb:Below W1.heap.size W1 W2) (k:Just n1 lo' n' W2 W') (hlt:b<W.heap.size) (hn:W.heap.size<=n1):Just b lo n W W':=by
 have hs:=h.size;have hs2:=hb.size;have hblk:W'.heap[b]? = W1.heap[b]?:=(k.far b (by omega) (by omega)).trans (hb.block b (by omega))
 exact ⟨(k.os.trans hb.os).trans h.os,(k.tape.trans hb.tape).trans h.tape,(k.output.trans hb.output).trans h.output,by have:=k.size;omega,
  fun i hi hne=>((k.far i (by omega) (by omega)).trans (hb.block i (by omega))).trans (h.far i hi hne),
  fun j hj=>(World.cell?_of_block (a:=⟨b,j,none⟩) hblk).trans (h.near j hj),
  fun t cs hw=>by obtain ⟨cs',h'⟩:=h.row t cs hw;exact ⟨cs',h'.of_eq hblk⟩⟩
theorem Just.later {root b off w W W'} (h:Just root 0 5 w W) (k:Just b off 5 W W') (hbig:(b=root/\off=0)\/w.heap.size<=b) (hr:root<w.heap.size):Just root 0 5 w W':=by
 rcases hbig with ⟨rfl,rfl⟩ | hb
 ·exact h.trans k
 ·have hs:=h.size
  have hblk:W'.heap[root]? = W.heap[root]?:=k.far root (by omega) (by omega)
  exact ⟨k.os.trans h.os,k.tape.trans h.tape,k.output.trans h.output,Nat.le_trans h.size k.size,fun i hi hn=>(k.far i (by omega) (by omega)).trans (h.far i hi hn),
   fun j hj=>(World.cell?_of_block (a:=⟨root,j,none⟩) hblk).trans (h.near j hj),fun t cs hw=>by obtain ⟨cs',h'⟩:=h.row t cs hw;exact ⟨cs',h'.of_eq hblk⟩⟩
structure PJ (w:World) (R root:Nat) (g x:GV) (ps:List GStep) (k b off:Nat) (h:GV) (F:GV->GV) (W:World):Prop where
 just:Just root 0 5 w W
 big:(b=root/\off=0)\/w.heap.size<=b
 whole:∃ t cs,Whole W b t cs
 at':h.at (fun k=>k<R) W b off
 goes:∀ y,h.put x (ps.drop k)=some y->g.put x ps=some (F y)
 stops:h.put x (ps.drop k)=none->g.put x ps=none
 small:h.weight<=1000000000
 wand:∀ (W':World) (y:GV),Just b off 5 W W'->y.at (fun _=>True) W' b off->(F y).at (fun _=>True) W' root 0
section
variable {w W W1 W2:World} {R root:Nat} {g x:GV} {ps:List GStep} {k b off:Nat} {h:GV} {F:GV->GV}
theorem PJ.lt (q:PJ w R root g x ps k b off h F W):b<W.heap.size:=by obtain ⟨t,cs,hw⟩:=q.whole;exact hw.lt
theorem PJ.root_lt (q:PJ w R root g x ps k b off h F W) (hr:root<w.heap.size):root<W.heap.size:=Nat.lt_of_lt_of_le hr q.just.size
theorem PJ.le (q:PJ w R root g x ps k b off h F W) (hR:R<=root) (hr:root<w.heap.size):R<=b:=by rcases q.big with ⟨e,_⟩ | h<;>omega
theorem PJ.later (q:PJ w R root g x ps k b off h F W) (hr:root<w.heap.size) (hb:Below W.heap.size W W1):PJ w R root g x ps k b off h F W1:=
 ⟨q.just.trans (Just.of_below hb (q.root_lt hr)),q.big,by obtain ⟨t,cs,hw⟩:=q.whole;exact ⟨t,cs,hw.below hb hw.lt⟩,GV.at_keep (From.of_below hb) (fun _ h _=>h) h (hb.block b q.lt) q.at',q.goes,q.stops,q.small,
  fun W' y hJ hy=>q.wand W' y ((Just.of_below hb q.lt).trans hJ) hy⟩
theorem PJ.start {_ok:Nat->Prop} (_hr:root<w.heap.size) (_hR:R<=root) {AL AO cL cO} (hw:Whole w root 29 #[.int .u8 g.kq,.int .i64 g.num,.string g.str,.slice AL g.il.length cL,.slice AO g.vz.length cO])
  (hL:LstV (fun k=>k<R) w (.slice AL g.il.length cL) g.il) (hO:ObjV (fun k=>k<R) w (.slice AO g.vz.length cO) g.keys g.vz) (hs:g.weight<=1000000000):PJ w R root g x ps 0 root 0 g (fun y=>y) w:=by
 obtain ⟨c0,c1,c2,c3,c4,_⟩:=hw.five;exact ⟨Just.refl _ _ _ _,.inl ⟨rfl,rfl⟩,⟨_,_,hw⟩,GV.at_iff.2 ⟨_,_,c0,c1,c2,c3,c4,hL,hO⟩,fun y h=>h,fun h=>h,hs,fun _ _ _ h=>h⟩
theorem PJ.put_step (q:PJ w R root g x ps k b off h F W) {s:GStep} (hd:ps.drop k=s :: ps.drop (k+1)) {h':GV} (hi:h.inside s=some h'):
  (∀ y,h'.put x (ps.drop (k+1))=some y->g.put x ps=some (F (h.setIn s y)))/\(h'.put x (ps.drop (k+1))=none->g.put x ps=none):=by
 constructor
 ·intro y hy
  exact q.goes _ (by rw [hd];simp [GV.put,hi,hy])
 ·intro hn
  exact q.stops (by rw [hd];simp [GV.put,hi,hn])
theorem PJ.put_stop (q:PJ w R root g x ps k b off h F W) {s:GStep} (hd:ps.drop k=s :: ps.drop (k+1)) (hi:h.inside s=none):g.put x ps=none:=
 q.stops (by rw [hd];simp [GV.put,hi])
theorem zhM {W:World} {base:Nat} {e:TypeId} {size n c:Nat} {A:Option Addr} {xs:List Value} (h:W.ownsRow base e size (.slice A n c) n xs) {b o:Nat} (hA:A=some ⟨b,o,none⟩):o=0/\base<=b/\∃ cs,Whole W b e cs:=by
 subst hA;rcases h.2 with ⟨hn,_⟩ | ⟨g,cap,cur,he,hb,hg,_⟩
 ·cases hn
 ·cases he;exact ⟨rfl,hb,cur,hg⟩
theorem zj1 {W:World} {base:Nat} {e e':TypeId} {size size' n n' c:Nat} {A:Option Addr} {v':Value} {xs xs':List Value} (h:W.ownsRow base e size (.slice A n c) n xs) (h':W.ownsRow base e' size' v' n' xs') (hne:e≠e') {b o:Nat} (hA:A=some ⟨b,o,none⟩):∀ k,v'.ownBlock=some k->k≠b:=fun k hk e2=>by
 subst e2;rcases zb5 h' h (Ne.symm hne) with h1 | h1
 ·rw [h1] at hk;cases hk
 ·rw [hk,hA] at h1;exact h1 rfl
theorem PJ.stepL (q:PJ w R root g x ps k b off h F W) (hR:R<=root) (hr:root<w.heap.size) {AL AO:Option Addr} {cL cO:Nat} {xs ys:List Value} (hl:Loose R b off h W W1 AL AO cL cO xs ys) (hb:Below W1.heap.size W1 W2) {s:GStep} (hd:ps.drop k=s :: ps.drop (k+1))
  {k' n1 o1:Nat} {h':GV} (hs:s.list=true) (hi:s.i=k') (hg:h.il[k']? = some h') (hin:h.inside s=some h') (hA:AL=some ⟨n1,o1,none⟩):PJ w R root g x ps (k+1) n1 (o1+k' * 5) h' (fun y=>F (h.setIn s y)) W2:=by
 obtain ⟨rfl,hB,cs,hcs⟩:=zhM hl.ol hA;have hle:=q.le hR hr;have hsz:=hl.just.size;have hws:=q.just.size;have hbl:=q.lt;have hRW:R<=W.heap.size:=by omega
 have hE:GV.els (fun k=>k<R) W1 n1 5 0 h.il:=hl.rl.els fun j u hj=>by
  have:=hl.ol.cells (g:=n1) (by rw [hA];rfl) j u hj
  rwa [zbu] at this
 refine ⟨(q.just.later hl.just q.big hr).trans (Just.of_below hb (by omega)),.inr (by omega),⟨_,cs,hcs.below hb hcs.lt⟩,GV.at_keep (From.of_below hb) (fun _ h _=>h) h' (hb.block n1 hcs.lt) (GV.els_get hE hg),(q.put_step hd hin).1,(q.put_step hd hin).2,Nat.le_trans (zb0 hin) q.small,fun W' y hJ hy=>?_⟩
 refine q.wand W' (h.setIn s y) (hl.just.over hb hJ hbl hB) ?_
 have hblk:W'.heap[b]? = W1.heap[b]?:=(hJ.far b (by have:=hb.size;omega) (by omega)).trans (hb.block b (by omega))
 have hc:∀ j,W'.cell? ⟨b,j,none⟩=W1.cell? ⟨b,j,none⟩:=fun j=>World.cell?_of_block (a:=⟨b,j,none⟩) hblk
 have hF1:From (fun k=>k<R) W1 W2:=From.of_below hb
 have hF2:From (fun k=>k<R) W2 W':=hJ.from (by omega)
 have hL:=zlm (hl.rl.keep hF1 (fun _ h _=>h)) (zaz hl.ol hb) hRW (by rw [hA]) hJ hy
 have hO2:W'.ownsRow W.heap.size 56 6 (.slice AO h.vz.length cO) h.vz.length ys:=
  zbo (zaz hl.oo hb) (fun j hj=>hJ.far j (by have:=(zaz hl.oo hb).lt j hj;omega) (zj1 hl.ol hl.oo (by decide) hA j hj))
 have hO:=ObjV.of_own (ok:=fun _=>True) hO2 (((hl.ro.keep hF1 (fun _ h _=>h)).keep hF2 (fun _ h _=>h)).keep (From.refl _ _) (fun _ _ _=>trivial)) (fun _ _=>trivial)
 obtain ⟨e1,e2⟩:=zbQ (g:=h) (y:=y) hs;refine GV.at_iff.2 ⟨_,_,(hc _).trans (by simpa using hl.c0),(hc _).trans (by simpa using hl.c1),(hc _).trans (by simpa using hl.c2),(hc _).trans hl.c3,(hc _).trans hl.c4,?_,?_⟩
 ·rw [e1,hi];exact hL
 ·rw [e2,setIn_keys];exact hO
theorem PJ.stepO (q:PJ w R root g x ps k b off h F W) (hR:R<=root) (hr:root<w.heap.size) {AL AO:Option Addr} {cL cO:Nat} {xs ys:List Value} (hl:Loose R b off h W W1 AL AO cL cO xs ys) (hb:Below W1.heap.size W1 W2) {s:GStep} (hd:ps.drop k=s :: ps.drop (k+1))
  {n1 o1:Nat} {h':GV} (hs:s.list=false) (hg:h.vz[place s.key h.keys]? = some h') (hin:h.inside s=some h') (hA:AO=some ⟨n1,o1,none⟩):PJ w R root g x ps (k+1) n1 (o1+place s.key h.keys * 6+1) h' (fun y=>F (h.setIn s y)) W2:=by
 obtain ⟨rfl,hB,cs,hcs⟩:=zhM hl.oo hA;have hle:=q.le hR hr;have hsz:=hl.just.size;have hws:=q.just.size;have hbl:=q.lt;have hRW:R<=W.heap.size:=by omega
 have hE:=hl.ro.els (b:=n1) (off:=0) fun j u hj=>by
  have:=hl.oo.cells (g:=n1) (by rw [hA];rfl) j u hj
  rwa [zbu] at this
 have hat:=GV.els_get hE.2 hg;rw [show 0+1+place s.key h.keys * 6=0+place s.key h.keys * 6+1 by omega] at hat
 refine ⟨(q.just.later hl.just q.big hr).trans (Just.of_below hb (by omega)),.inr (by omega),⟨_,cs,hcs.below hb hcs.lt⟩,GV.at_keep (From.of_below hb) (fun _ h _=>h) h' (hb.block n1 hcs.lt) hat,(q.put_step hd hin).1,(q.put_step hd hin).2,Nat.le_trans (zb0 hin) q.small,fun W' y hJ hy=>?_⟩
 refine q.wand W' (h.setIn s y) (hl.just.over hb hJ hbl hB) ?_
 have hblk:W'.heap[b]? = W1.heap[b]?:=(hJ.far b (by have:=hb.size;omega) (by omega)).trans (hb.block b (by omega))
 have hc:∀ j,W'.cell? ⟨b,j,none⟩=W1.cell? ⟨b,j,none⟩:=fun j=>World.cell?_of_block (a:=⟨b,j,none⟩) hblk
 have hF1:From (fun k=>k<R) W1 W2:=From.of_below hb
 have hF2:From (fun k=>k<R) W2 W':=hJ.from (by omega)
 have hO:=zkA (hl.ro.keep hF1 (fun _ h _=>h)) (zaz hl.oo hb) hRW (by rw [hA]) hJ hy
 have hL2:W'.ownsRow W.heap.size 29 5 (.slice AL h.il.length cL) h.il.length xs:=
  zbo (zaz hl.ol hb) (fun j hj=>hJ.far j (by have:=(zaz hl.ol hb).lt j hj;omega) (zj1 hl.oo hl.ol (by decide) hA j hj))
 have hL:=LstV.of_own (ok:=fun _=>True) hL2 (((hl.rl.keep hF1 (fun _ h _=>h)).keep hF2 (fun _ h _=>h)).keep (From.refl _ _) (fun _ _ _=>trivial)) (fun _ _=>trivial)
 obtain ⟨e1,e2⟩:=zcm (g:=h) (y:=y) hs;refine GV.at_iff.2 ⟨_,_,(hc _).trans (by simpa using hl.c0),(hc _).trans (by simpa using hl.c1),(hc _).trans (by simpa using hl.c2),(hc _).trans hl.c3,(hc _).trans hl.c4,?_,?_⟩
 ·rw [e1];exact hL
 ·rw [e2,setIn_keys];exact hO
end
open Go Go.RowKit
def StepPost (ok:Nat->Prop) (g:GV) (s:GStep) (w:World) (e:Ending) (w':World):Prop:=
 Below w.heap.size w w'/\((g.inside s=none/\e=.returned (.tuple #[.agg #[.int .u8 0,.int .i64 0,.string ⟨#[]⟩,.slice none 0 0,.slice none 0 0],.int .i64 0,.int .i64 30])) \/
  ∃ (h:GV) (BL BO:Option Addr) (dL dO k:Nat),g.inside s=some h/\e=.returned (.tuple #[.agg #[.int .u8 h.kq,.int .i64 h.num,.string h.str,.slice BL h.il.length dL,.slice BO h.vz.length dO],.int .i64 k,.int .i64 0]) /\
   LstV ok w (.slice BL h.il.length dL) h.il/\ObjV ok w (.slice BO h.vz.length dO) h.keys h.vz/\((s.list=true/\s.i=k/\k<g.il.length)\/(s.list=false/\place s.key g.keys=k/\k<g.vz.length)))
structure Stepped (w:World) (W:World):Prop where
 below:Below w.heap.size w W
 x:Whole W (w.heap.size+1+1) 29 ZC
theorem stepped (w:World) (a b:Obj):Stepped w (((w.alloc a).alloc b).alloc (.cells ZC 29)):=by
 have h3:=Whole.new ((w.alloc a).alloc b) 29 ZC;rw [World.size_alloc,World.size_alloc] at h3;exact ⟨(((Below.refl _ w).alloc (Nat.le_refl _) _).alloc (by simp) _).alloc (by simp;omega) _,h3⟩
theorem boxes (w:World) (cs ds:Array Value) (t u:TypeId):Whole (((w.alloc (.cells cs t)).alloc (.cells ds u)).alloc (.cells ZC 29)) w.heap.size t cs/\Whole (((w.alloc (.cells cs t)).alloc (.cells ds u)).alloc (.cells ZC 29)) (w.heap.size+1) u ds:=by
 refine ⟨((Whole.new w t cs).alloc _).alloc _,?_⟩
 have:=(Whole.new (w.alloc (.cells cs t)) u ds).alloc (.cells ZC 29)
 rwa [World.size_alloc] at this
theorem Stepped.later {w W W':World} (h:Stepped w W) (hb:Below W.heap.size W W'):Stepped w W':=⟨h.below.trans (hb.mono h.below.size),h.x.below hb h.x.lt⟩
theorem Stepped.none {ok:Nat->Prop} {g:GV} {s:GStep} {w W:World} (h:Stepped w W) (hn:g.inside s=none) (a0 a1 a2 a3 a4:Value):
  StepPost ok g s w (.returned (.tuple #[.agg #[.int .u8 0,.int .i64 0,.string ⟨#[]⟩,.slice none 0 0,.slice none 0 0],.int .i64 0,.int .i64 30])) (put5 W (w.heap.size+1+1) a0 a1 a2 a3 a4):=
 ⟨zae h.below (by omega) _ _ _ _ _,.inl ⟨hn,rfl⟩⟩
theorem Stepped.five {w W:World} (h:Stepped w W) (a0 a1 a2 a3 a4:Value):Five (put5 W (w.heap.size+1+1) a0 a1 a2 a3 a4) (w.heap.size+1+1) a0 a1 a2 a3 a4:=(zai h.x a0 a1 a2 a3 a4).five
theorem zeB (w:World) (a b:Obj):Five (((w.alloc a).alloc b).alloc (.cells #[.int .u8 0,.int .i64 0,.string ⟨#[]⟩,.slice none 0 0,.slice none 0 0] 29)) (w.heap.size+1+1) (.int .u8 0) (.int .i64 0) (.string ⟨#[]⟩) (.slice none 0 0) (.slice none 0 0):=by
 have h:=(stepped w a b).x;unfold ZC at h;exact h.five
theorem zeE {ok:Nat->Prop} {g:GV} {s:GStep} (w:World) (a b:Obj) (hn:g.inside s=none):
  StepPost ok g s w (.returned (.tuple #[.agg #[.int .u8 0,.int .i64 0,.string ⟨#[]⟩,.slice none 0 0,.slice none 0 0],.int .i64 0,.int .i64 30])) (((w.alloc a).alloc b).alloc (.cells #[.int .u8 0,.int .i64 0,.string ⟨#[]⟩,.slice none 0 0,.slice none 0 0] 29)):=by
 have h:=(stepped w a b).below;unfold ZC at h;exact ⟨h,.inl ⟨hn,rfl⟩⟩
theorem Stepped.some {ok:Nat->Prop} {g h:GV} {s:GStep} {w W:World} {BL BO:Option Addr} {dL dO k:Nat} (hS:Stepped w W) (hi:g.inside s=some h) (hL:LstV ok w (.slice BL h.il.length dL) h.il) (hO:ObjV ok w (.slice BO h.vz.length dO) h.keys h.vz)
  (hk:(s.list=true/\s.i=k/\k<g.il.length)\/(s.list=false/\place s.key g.keys=k/\k<g.vz.length)) (a0 a1 a2 a3 a4:Value):
  StepPost ok g s w (.returned (.tuple #[.agg #[.int .u8 h.kq,.int .i64 h.num,.string h.str,.slice BL h.il.length dL,.slice BO h.vz.length dO],.int .i64 k,.int .i64 0])) (put5 W (w.heap.size+1+1) a0 a1 a2 a3 a4):=
 ⟨zae hS.below (by omega) _ _ _ _ _,.inr ⟨h,BL,BO,dL,dO,k,hi,rfl,hL,hO,hk⟩⟩
theorem StepPost.drew {ok:Nat->Prop} {g:GV} {s:GStep} {w W:World} {e:Ending} (h:StepPost ok g s w e W):StepPost ok g s w e W.drew:=⟨h.1.drew,h.2⟩
theorem zhQ (ok:Nat->Prop) (v:Value) (g:GV) (s:GStep) (w:World) (hv:g.val ok w v):
  Calls Tryz.prog 39 #[v,.agg #[.bool s.list,.int .i64 s.i,.string s.key]] w (StepPost ok g s w):=by
 obtain ⟨L,O,rfl,hL,hO⟩:=hv;obtain ⟨AL,cL,rfl⟩:=zah hL;obtain ⟨AO,cO,rfl⟩:=zag hO;obtain ⟨_,_,he,hl1,hl2,hlf⟩:=hL.form;cases he
 obtain ⟨_,_,he,ho1,ho2,hof⟩:=hO.form;cases he
 unfold maxLen at hl2 ho2;have hlen:=hO.1;have hfield:=fun (W:World) (hb:Below w.heap.size w W)=>(zaT ok (.agg #[.int .u8 g.kq,.int .i64 g.num,.string g.str,.slice AL g.il.length cL,.slice AO g.vz.length cO]) g s.key W ⟨_,_,rfl,hL.keep (From.of_below hb) (fun _ h _=>h),hO.keep (From.of_below hb) (fun _ h _=>h)⟩)
 have HF:=hid hfield;clear hfield;have hnl:s.list=true->(g.kq≠4\/s.i<0\/(g.il.length:Int)<=s.i)->g.inside s=none:=fun hs h=>by
  unfold GV.inside;rw [if_pos hs];split
  ·rename_i hc
   exact List.getElem?_eq_none (by omega)
  ·rfl
 have hno:s.list=false->(g.kq≠5\/there s.key g.keys=false)->g.inside s=none:=fun hs h=>by
  unfold GV.inside;rw [if_neg (by simp [hs])]
  split
  ·rename_i hc
   rcases h with h | h
   ·exact absurd hc.1 h
   ·rw [h] at hc;simp at hc
  ·rfl
 have HNL:=hid hnl;have HNO:=hid hno;clear hnl hno;cases hs:s.list with
 | true=>
  have HS:=hid hs;clear hof hlen HF HNO hs hO;by_cases hk:g.kq=4
  ·have HK:=hid hk
   by_cases hneg:s.i<0
   ·have HN:=HNL.out HS.out (.inr (.inl hneg))
    clear hlf hL;rw [hk];clear hk;generalize s.i=i at *;go_enter Tryz.func39,Tryz.ntmps39
    go_wp2
    obtain ⟨d0,d1,d2,d3,d4,_⟩:=zeB w (.cells #[.int .u8 4,.int .i64 g.num,.string g.str,.slice AL g.il.length cL,.slice AO g.vz.length cO] 29) (.cells #[.bool true,.int .i64 i,.string s.key] 85);refine bodyPost_ret (v:=.tuple #[.agg #[.int .u8 0,.int .i64 0,.string ⟨#[]⟩,.slice none 0 0,.slice none 0 0],.int .i64 0,.int .i64 30]) (by simp [results,Tryz.results39,go_sem,d0,d1,d2,d3,d4]) rfl ?_
    exact zeE w _ _ HN
   ·obtain ⟨k,hki⟩:∃ k:Nat,s.i=k:=⟨s.i.toNat,by omega⟩
    by_cases hlt:k<g.il.length
    ·obtain ⟨lb,lo,rfl,hK,hE⟩:=hlf (by intro e;rw [e] at hlt;simp at hlt)
     have hin:=zbS HS.out HK.out hki hlt;have hat:=GV.els_get hE (List.getElem?_eq_getElem hlt);generalize g.il[k]=h at *;obtain ⟨BL,BO,dL,dO,hsp⟩:=hat.spot;have HIN:=hid hin;have HKI:=hid hki;have HV:=hid (And.intro hsp.lst hsp.obj);have hbl:=hsp.lt;obtain ⟨c0,c1,c2,c3,c4,_,_⟩:=hsp;clear hin hat hL hE hK hlf HNL;rw [hk,hki];clear hk hki;generalize hn:g.il.length=n at *;go_enter Tryz.func39,Tryz.ntmps39
     go_wp2
     have hst:=stepped w (.cells #[.int .u8 4,.int .i64 g.num,.string g.str,.slice (some ⟨lb,lo,none⟩) n cL,.slice AO g.vz.length cO] 29) (.cells #[.bool true,.int .i64 k,.string s.key] 85);have hv:=boxes w #[.int .u8 4,.int .i64 g.num,.string g.str,.slice (some ⟨lb,lo,none⟩) n cL,.slice AO g.vz.length cO] #[.bool true,.int .i64 k,.string s.key] 29 85
     change Code.wp _ _ _ _ (((w.alloc (.cells #[.int .u8 4,.int .i64 g.num,.string g.str,.slice (some ⟨lb,lo,none⟩) n cL,.slice AO g.vz.length cO] 29)).alloc (.cells #[.bool true,.int .i64 k,.string s.key] 85)).alloc (.cells ZC 29))
     generalize ((w.alloc (.cells #[.int .u8 4,.int .i64 g.num,.string g.str,.slice (some ⟨lb,lo,none⟩) n cL,.slice AO g.vz.length cO] 29)).alloc (.cells #[.bool true,.int .i64 k,.string s.key] 85)).alloc (.cells ZC 29)=W3 at *;have b3:W3.cell? ⟨w.heap.size,3,none⟩=some (.slice (some ⟨lb,lo,none⟩) n cL):=(hv.1.cell 3).trans rfl;have s1:W3.cell? ⟨w.heap.size+1,1,none⟩=some (.int .i64 k):=(hv.2.cell 1).trans rfl;replace c0:=(hst.below.cell (p:=⟨lb,lo+k * 5,none⟩) hbl).trans c0;replace c1:=(hst.below.cell (p:=⟨lb,lo+k * 5+1,none⟩) hbl).trans c1;replace c2:=(hst.below.cell (p:=⟨lb,lo+k * 5+2,none⟩) hbl).trans c2;replace c3:=(hst.below.cell (p:=⟨lb,lo+k * 5+3,none⟩) hbl).trans c3;replace c4:=(hst.below.cell (p:=⟨lb,lo+k * 5+4,none⟩) hbl).trans c4;obtain ⟨x0,x1,x2,x3,x4,y0,y1,y2,y3,y4⟩:=hst.x.five;have HST:=hid hst;clear hst hv
     go_region
     obtain ⟨d0,d1,d2,d3,d4,_⟩:=HST.out.five (.int .u8 h.kq) (.int .i64 h.num) (.string h.str) (.slice BL h.il.length dL) (.slice BO h.vz.length dO);unfold put5 at d0 d1 d2 d3 d4;go_wp2
     refine bodyPost_ret (v:=.tuple #[.agg #[.int .u8 h.kq,.int .i64 h.num,.string h.str,.slice BL h.il.length dL,.slice BO h.vz.length dO],.int .i64 k,.int .i64 0]) (by simp [results,Tryz.results39,go_sem,d0,d1,d2,d3,d4]) rfl ?_
     exact (HST.out.some HIN.out HV.out.1 HV.out.2 (.inl ⟨HS.out,HKI.out,by rw [hn];exact hlt⟩) _ _ _ _ _).drew
    ·have HN:=HNL.out HS.out (.inr (.inr (by omega)))
     clear hlf hL;rw [hk,hki];clear hk hki hneg HNL;generalize hn:g.il.length=n at *;go_enter Tryz.func39,Tryz.ntmps39
     go_wp2
     obtain ⟨d0,d1,d2,d3,d4,_⟩:=zeB w (.cells #[.int .u8 4,.int .i64 g.num,.string g.str,.slice AL n cL,.slice AO g.vz.length cO] 29) (.cells #[.bool true,.int .i64 k,.string s.key] 85);refine bodyPost_ret (v:=.tuple #[.agg #[.int .u8 0,.int .i64 0,.string ⟨#[]⟩,.slice none 0 0,.slice none 0 0],.int .i64 0,.int .i64 30]) (by simp [results,Tryz.results39,go_sem,d0,d1,d2,d3,d4]) rfl ?_
     exact zeE w _ _ HN
  ·have HN:=HNL.out HS.out (.inl hk)
   have hk1:(g.kq == 4)=false:=by simpa using hk
   have hk2:(g.kq != 4)=true:=by simpa using hk
   clear hlf hL HNL hk;go_enter Tryz.func39,Tryz.ntmps39
   go_wp2
   obtain ⟨d0,d1,d2,d3,d4,_⟩:=zeB w (.cells #[.int .u8 g.kq,.int .i64 g.num,.string g.str,.slice AL g.il.length cL,.slice AO g.vz.length cO] 29) (.cells #[.bool true,.int .i64 s.i,.string s.key] 85);refine bodyPost_ret (v:=.tuple #[.agg #[.int .u8 0,.int .i64 0,.string ⟨#[]⟩,.slice none 0 0,.slice none 0 0],.int .i64 0,.int .i64 30]) (by simp [results,Tryz.results39,go_sem,d0,d1,d2,d3,d4]) rfl ?_
   exact zeE w _ _ HN
 | false=>
  have HS:=hid hs;clear hlf hs hL;unfold FieldPost at HF;by_cases hk:g.kq=5
  ·cases ht:there s.key g.keys with
   | true=>
    have hlt:=zbP ht;rw [hlen] at hlt;obtain ⟨ob,oo,rfl,hK,_,hE⟩:=hof (by intro e;rw [e] at hlt;simp at hlt)
    have hin:=zdw HS.out hk ht hlt;have hat:=GV.els_get hE (List.getElem?_eq_getElem hlt);rw [show oo+1+place s.key g.keys * 6=oo+place s.key g.keys * 6+1 by omega] at hat
    generalize g.vz[place s.key g.keys]=h at *;obtain ⟨BL,BO,dL,dO,hsp⟩:=hat.spot;have HIN:=hid hin;have HV:=hid (And.intro hsp.lst hsp.obj);have hbl:=hsp.lt;obtain ⟨c0,c1,c2,c3,c4,_,_⟩:=hsp;have HCC:=hid (And.intro c0 (And.intro c1 (And.intro c2 (And.intro c3 c4))));clear hin hat hE hK hof HNO HNL hlen hO c0 c1 c2 c3 c4;rw [ht,hk] at HF;generalize hpl:place s.key g.keys=pl at *;have HPL:=hid hpl;rw [hk];clear hk hpl ht;generalize hn:g.vz.length=n at *;have HNN:=hid hn;clear hn;have hst:=stepped w (.cells #[.int .u8 5,.int .i64 g.num,.string g.str,.slice AL g.il.length cL,.slice (some ⟨ob,oo,none⟩) n cO] 29) (.cells #[.bool false,.int .i64 s.i,.string s.key] 85);have hv:=boxes w #[.int .u8 5,.int .i64 g.num,.string g.str,.slice AL g.il.length cL,.slice (some ⟨ob,oo,none⟩) n cO] #[.bool false,.int .i64 s.i,.string s.key] 29 85;have HST:=hid hst;have HV3:=hid hv;clear hst hv;unfold ZC at HST HV3;go_enter Tryz.func39,Tryz.ntmps39
    go_wp2_with (go_at_call 41;refine (HF.out _ HST.out.below).mono ?_;rintro e w1 ⟨rfl,hb1⟩;have hbw:=HST.out.below.trans (hb1.mono HST.out.below.size);have z0:w1.cell? ⟨w.heap.size,0,none⟩=some (.int .u8 5):=((HV3.out.1.below hb1 HV3.out.1.lt).cell 0).trans rfl;have z4:w1.cell? ⟨w.heap.size,4,none⟩=some (.slice (some ⟨ob,oo,none⟩) n cO):=((HV3.out.1.below hb1 HV3.out.1.lt).cell 4).trans rfl;have c0:=(hbw.cell (p:=⟨ob,oo+pl * 6+1,none⟩) hbl).trans HCC.out.1;have c1:=(hbw.cell (p:=⟨ob,oo+pl * 6+1+1,none⟩) hbl).trans HCC.out.2.1;have c2:=(hbw.cell (p:=⟨ob,oo+pl * 6+1+2,none⟩) hbl).trans HCC.out.2.2.1;have c3:=(hbw.cell (p:=⟨ob,oo+pl * 6+1+3,none⟩) hbl).trans HCC.out.2.2.2.1;have c4:=(hbw.cell (p:=⟨ob,oo+pl * 6+1+4,none⟩) hbl).trans HCC.out.2.2.2.2;obtain ⟨x0,x1,x2,x3,x4,y0,y1,y2,y3,y4⟩:=(HST.out.x.below hb1 HST.out.x.lt).five;have HB1:=hid hb1;clear hb1 hbw)
    obtain ⟨d0,d1,d2,d3,d4,_⟩:=(HST.out.later HB1.out).five (.int .u8 h.kq) (.int .i64 h.num) (.string h.str) (.slice BL h.il.length dL) (.slice BO h.vz.length dO);unfold put5 at d0 d1 d2 d3 d4;refine bodyPost_ret (v:=.tuple #[.agg #[.int .u8 h.kq,.int .i64 h.num,.string h.str,.slice BL h.il.length dL,.slice BO h.vz.length dO],.int .i64 pl,.int .i64 0]) (by simp [results,Tryz.results39,go_sem,d0,d1,d2,d3,d4]) rfl ?_
    exact (HST.out.later HB1.out).some HIN.out HV.out.1 HV.out.2 (.inr ⟨HS.out,HPL.out,by rw [HNN.out];exact hlt⟩) _ _ _ _ _
   | false=>
    have HN:=HNO.out HS.out (.inr ht);rw [ht,hk] at HF;rw [hk];clear hof HNO HNL hlen hO hk ht;have hst:=stepped w (.cells #[.int .u8 5,.int .i64 g.num,.string g.str,.slice AL g.il.length cL,.slice AO g.vz.length cO] 29) (.cells #[.bool false,.int .i64 s.i,.string s.key] 85);have hv:=boxes w #[.int .u8 5,.int .i64 g.num,.string g.str,.slice AL g.il.length cL,.slice AO g.vz.length cO] #[.bool false,.int .i64 s.i,.string s.key] 29 85;have HST:=hid hst;have HV3:=hid hv;clear hst hv;unfold ZC at HST HV3;go_enter Tryz.func39,Tryz.ntmps39
    go_wp2_with (go_at_call 41;refine (HF.out _ HST.out.below).mono ?_;rintro e w1 ⟨rfl,hb1⟩;have z0:w1.cell? ⟨w.heap.size,0,none⟩=some (.int .u8 5):=((HV3.out.1.below hb1 HV3.out.1.lt).cell 0).trans rfl;obtain ⟨x0,x1,x2,x3,x4,y0,y1,y2,y3,y4⟩:=(HST.out.x.below hb1 HST.out.x.lt).five;have HB1:=hid hb1;clear hb1)
    obtain ⟨d0,d1,d2,d3,d4,_⟩:=(HST.out.later HB1.out).five (.int .u8 0) (.int .i64 0) (.string ⟨#[]⟩) (.slice none 0 0) (.slice none 0 0);unfold put5 at d0 d1 d2 d3 d4;refine bodyPost_ret (v:=.tuple #[.agg #[.int .u8 0,.int .i64 0,.string ⟨#[]⟩,.slice none 0 0,.slice none 0 0],.int .i64 0,.int .i64 30]) (by simp [results,Tryz.results39,go_sem,d0,d1,d2,d3,d4]) rfl ?_
    exact (HST.out.later HB1.out).none HN _ _ _ _ _
  ·have HN:=HNO.out HS.out (.inl hk)
   have hk1:(g.kq == 5)=false:=by simpa using hk
   have hk2:(g.kq != 5)=true:=by simpa using hk
   clear hof HNO HNL hlen hO hk;have hst:=stepped w (.cells #[.int .u8 g.kq,.int .i64 g.num,.string g.str,.slice AL g.il.length cL,.slice AO g.vz.length cO] 29) (.cells #[.bool false,.int .i64 s.i,.string s.key] 85);have hv:=boxes w #[.int .u8 g.kq,.int .i64 g.num,.string g.str,.slice AL g.il.length cL,.slice AO g.vz.length cO] #[.bool false,.int .i64 s.i,.string s.key] 29 85;have HST:=hid hst;have HV3:=hid hv;clear hst hv;unfold ZC at HST HV3;go_enter Tryz.func39,Tryz.ntmps39
   go_wp2_with (go_at_call 41;refine (HF.out _ HST.out.below).mono ?_;rintro e w1 ⟨rfl,hb1⟩;have z0:w1.cell? ⟨w.heap.size,0,none⟩=some (.int .u8 g.kq):=((HV3.out.1.below hb1 HV3.out.1.lt).cell 0).trans rfl;obtain ⟨x0,x1,x2,x3,x4,y0,y1,y2,y3,y4⟩:=(HST.out.x.below hb1 HST.out.x.lt).five;have HB1:=hid hb1;clear hb1)
   obtain ⟨d0,d1,d2,d3,d4,_⟩:=(HST.out.later HB1.out).five (.int .u8 0) (.int .i64 0) (.string ⟨#[]⟩) (.slice none 0 0) (.slice none 0 0);unfold put5 at d0 d1 d2 d3 d4;refine bodyPost_ret (v:=.tuple #[.agg #[.int .u8 0,.int .i64 0,.string ⟨#[]⟩,.slice none 0 0,.slice none 0 0],.int .i64 0,.int .i64 30]) (by simp [results,Tryz.results39,go_sem,d0,d1,d2,d3,d4]) rfl ?_
   exact (HST.out.later HB1.out).none HN _ _ _ _ _
theorem zmk (b off X:Nat) (x:GV) (CL CO:Option Addr) (eL eO:Nat) (W:World) (z0 z1 z2 z3 z4:Value) (c0:W.cell? ⟨b,off,none⟩=some z0) (c1:W.cell? ⟨b,off+1,none⟩=some z1) (c2:W.cell? ⟨b,off+2,none⟩=some z2) (c3:W.cell? ⟨b,off+3,none⟩=some z3) (c4:W.cell? ⟨b,off+4,none⟩=some z4)
  (hwh:∃ t cs,Whole W b t cs) (hX:Whole W X 29 #[.int .u8 x.kq,.int .i64 x.num,.string x.str,.slice CL x.il.length eL,.slice CO x.vz.length eO]):
  Calls Tryz.prog 65 #[.pointer (some ⟨b,off,none⟩),.pointer (some ⟨X,0,none⟩)] W fun e w'=>e=.returned (.tuple #[]) /\
   w'=((((W.setCell ⟨b,off,none⟩ (.int .u8 x.kq)).setCell ⟨b,off+1,none⟩ (.int .i64 x.num)).setCell ⟨b,off+2,none⟩ (.string x.str)).setCell ⟨b,off+3,none⟩ (.slice CL x.il.length eL)).setCell ⟨b,off+4,none⟩ (.slice CO x.vz.length eO):=by
 obtain ⟨t,cs,hw⟩:=hwh;obtain ⟨x0,x1,x2,x3,x4,_⟩:=hX.five;have f0:=hw.frozen off;have f1:=hw.frozen (off+1);have f2:=hw.frozen (off+2);have f3:=hw.frozen (off+3);have f4:=hw.frozen (off+4);clear hw hX;go_enter Tryz.func65,Tryz.ntmps65
 go_wp2
 go_end0
 exact ⟨rfl,rfl⟩
theorem zgH {b off:Nat} {x:GV} {CL CO:Option Addr} {eL eO:Nat} {W:World} {z0 z1 z2 z3 z4:Value} {R:Nat} (c0:W.cell? ⟨b,off,none⟩=some z0) (c1:W.cell? ⟨b,off+1,none⟩=some z1) (c2:W.cell? ⟨b,off+2,none⟩=some z2) (c3:W.cell? ⟨b,off+3,none⟩=some z3) (c4:W.cell? ⟨b,off+4,none⟩=some z4)
  (hb:R<=b) (hL:LstV (fun k=>k<R) W (.slice CL x.il.length eL) x.il) (hO:ObjV (fun k=>k<R) W (.slice CO x.vz.length eO) x.keys x.vz):
  x.at (fun _=>True) (((((W.setCell ⟨b,off,none⟩ (.int .u8 x.kq)).setCell ⟨b,off+1,none⟩ (.int .i64 x.num)).setCell ⟨b,off+2,none⟩ (.string x.str)).setCell ⟨b,off+3,none⟩ (.slice CL x.il.length eL)).setCell ⟨b,off+4,none⟩ (.slice CO x.vz.length eO)) b off:=by
 have hJ:=zbl (b:=b) (off:=off) W (.int .u8 x.kq) (.int .i64 x.num) (.string x.str) (.slice CL x.il.length eL) (.slice CO x.vz.length eO);have hF:From (fun k=>k<R) W _:=hJ.from (by omega)
 refine GV.at_iff.2 ⟨.slice CL x.il.length eL,.slice CO x.vz.length eO,?_,?_,?_,?_,?_,hL.keep hF (fun _ _ _=>trivial),hO.keep hF (fun _ _ _=>trivial)⟩
 ·rw [zam _ (by omega),zam _ (by omega),zam _ (by omega),zam _ (by omega)]
  exact World.cell?_setCell_same' _ _ _ (by rw [c0];rfl)
 ·rw [zam _ (by omega),zam _ (by omega),zam _ (by omega)]
  exact World.cell?_setCell_same' _ _ _ (by rw [zam _ (by omega),c1];rfl)
 ·rw [zam _ (by omega),zam _ (by omega)]
  exact World.cell?_setCell_same' _ _ _ (by rw [zam _ (by omega),zam _ (by omega),c2];rfl)
 ·rw [zam _ (by omega)]
  exact World.cell?_setCell_same' _ _ _ (by rw [zam _ (by omega),zam _ (by omega),zam _ (by omega),c3];rfl)
 ·exact World.cell?_setCell_same' _ _ _ (by rw [zam _ (by omega),zam _ (by omega),zam _ (by omega),zam _ (by omega),c4];rfl)
def PutRel (w:World) (R root:Nat) (g x:GV) (ps:List GStep) (v i:Value) (wr:World):Prop:=
 ∃ (k b off:Nat) (h:GV) (F:GV->GV),v=.pointer (some ⟨b,off,none⟩)/\i=.int .i64 k/\k<=ps.length/\PJ w R root g x ps k b off h F wr
def ReachPut (w:World) (root:Nat) (g x:GV) (ps:List GStep) (e:Ending) (W:World):Prop:=
 Just root 0 5 w W/\((g.put x ps=none/\e=.returned (.int .u16 30))\/∃ y,g.put x ps=some y/\e=.returned (.int .u16 0)/\y.at (fun _=>True) W root 0)
theorem zd6 {W W':World} {n} {t:TypeId} {a b c:Value} (h:Whole W n t #[a,b,c]) (e:W'.heap[n]? = W.heap[n]?):W'.cell? ⟨n,0,none⟩=some a/\W'.cell? ⟨n,1,none⟩=some b/\W'.cell? ⟨n,2,none⟩=some c:=by
 have h':=h.of_eq e;exact ⟨(h'.cell 0).trans rfl,(h'.cell 1).trans rfl,(h'.cell 2).trans rfl⟩
theorem PJ.next {w W W1:World} {R root:Nat} {g x:GV} {ps:List GStep} {k b off:Nat} {h:GV} {F:GV->GV} (q:PJ w R root g x ps k b off h F W) (hR:R<=root) (hr:root<w.heap.size) {AL AO:Option Addr} {cL cO:Nat} {xs ys:List Value} (hl:Loose R b off h W W1 AL AO cL cO xs ys)
  {s:GStep} (hd:ps.drop k=s :: ps.drop (k+1)):
  Calls Tryz.prog 98 #[.pointer (some ⟨b,off,none⟩),.agg #[.bool s.list,.int .i64 s.i,.string s.key]] W1 fun e w2=>
   (h.inside s=none/\e=.returned (.pointer none)/\Just root 0 5 w w2)\/∃ h' b' o' F',h.inside s=some h'/\e=.returned (.pointer (some ⟨b',o',none⟩))/\PJ w R root g x ps (k+1) b' o' h' F' w2:=by
 have hL:=LstV.of_own (ok:=fun _=>True) hl.ol (hl.rl.keep (From.refl _ _) (fun _ _ _=>trivial)) (fun _ _=>trivial)
 have hO:=ObjV.of_own (ok:=fun _=>True) hl.oo (hl.ro.keep (From.refl _ _) (fun _ _ _=>trivial)) (fun _ _=>trivial)
 refine (zf1 (fun _=>True) b off h AL AO cL cO W1 ⟨hl.c0,hl.c1,hl.c2,hl.c3,hl.c4,hL,hO⟩ s).mono fun e w2 hq=>?_
 obtain ⟨hb,hq⟩:=hq;rcases hq with ⟨h1,he⟩ | ⟨hs,k',n1,o1,h',hi,hg,hin,hA,he⟩ | ⟨hs,n1,o1,h',hg,hin,hA,he⟩
 ·exact .inl ⟨h1,he,(q.just.later hl.just q.big hr).trans (Just.of_below hb (Nat.lt_of_lt_of_le (q.root_lt hr) hl.just.size))⟩
 ·exact .inr ⟨h',_,_,_,hin,he,q.stepL hR hr hl hb hd hs hi hg hin hA⟩
 ·exact .inr ⟨h',_,_,_,hin,he,q.stepO hR hr hl hb hd hs hg hin hA⟩
theorem zjY (w:World) (R root X:Nat) (g x:GV) (AL AO CL CO:Option Addr) (cL cO eL eO:Nat) (hi:Nat) (A:Option Addr) (cap:Nat) (ps:List GStep) (hR:R<=root) (hr:root<w.heap.size) (hXr:X≠root) (_hRX:R<=X)
  (hw:Whole w root 29 #[.int .u8 g.kq,.int .i64 g.num,.string g.str,.slice AL g.il.length cL,.slice AO g.vz.length cO]) (hL:LstV (fun k=>k<R) w (.slice AL g.il.length cL) g.il) (hO:ObjV (fun k=>k<R) w (.slice AO g.vz.length cO) g.keys g.vz)
  (hX:Whole w X 29 #[.int .u8 x.kq,.int .i64 x.num,.string x.str,.slice CL x.il.length eL,.slice CO x.vz.length eO]) (hxL:LstV (fun k=>k<R) w (.slice CL x.il.length eL) x.il) (hxO:ObjV (fun k=>k<R) w (.slice CO x.vz.length eO) x.keys x.vz)
  (hp:Steps hi w A ps) (hhi:hi<=R) (hcap:ps.length<=cap) (hm:cap<=maxLen) (hs:g.weight<=1000000000):
  Calls Tryz.prog 63 #[.pointer (some ⟨root,0,none⟩),.slice A ps.length cap,.func (.func 64) #[] #[],.func (.func 65) #[] #[.pointer (some ⟨X,0,none⟩)]] w (ReachPut w root g x ps):=by
 have hst:=PJ.start (x:=x) (ps:=ps) (_ok:=fun _=>True) hr hR hw hL hO hs
 have HST:=hid hst;have HP:=hid hp;have HX:=hid (And.intro hX (And.intro hxL hxO));have hXlt:=hX.lt;clear hst hp hX hxL hxO hw hL hO;unfold maxLen at hm;go_enter Tryz.func63,Tryz.ntmps63
 go_wp2
 go_loopw [0,13] (PutRel w R root g x ps) (fun _ i _=>ps.length - (intOf i).toNat)
 case atStart=>exact ⟨0,root,0,g,_,rfl,rfl,Nat.zero_le _,HST.out⟩
 case round=>
  obtain ⟨k,b,off,h,F,rfl,rfl,hk,hq⟩:=hrel;have HQ:=hid hq;clear hq;have hsR:Steps hi wr A ps:=HP.out.keep (Just.below HQ.out.just (B:=hi) (by omega) (by omega)) (Nat.le_refl _)
  by_cases hlt:k<ps.length
  ·obtain ⟨pb,po,rfl,hpb,p0,p1,p2⟩:=hsR.one hlt
   clear hsR;have hdr:ps.drop k=ps[k] :: ps.drop (k+1):=List.drop_eq_getElem_cons hlt;have HD:=hid hdr;clear hdr;generalize hs:ps[k]=s at *;have hq1:=fun (o:Obj)=>HQ.out.later hr ((Below.refl _ wr).alloc (Nat.le_refl _) o)
   have hloose:=fun (o:Obj)=>zi2 R b off h (wr.alloc o) (hq1 o).at' (hq1 o).whole ((hq1 o).le hR hr) (hq1 o).small
   have hblt:=HQ.out.lt;have hnext:=fun (o:Obj) (W1:World) (AL AO:Option Addr) (cL cO:Nat) (xs ys:List Value) (hl:Loose R b off h (wr.alloc o) W1 AL AO cL cO xs ys)=>(hq1 o).next hR hr hl HD.out
   have HLO:=hid hloose;have hthree:=Whole.new wr 85 #[.bool s.list,.int .i64 s.i,.string s.key];have H3:=hid hthree;clear hthree hloose hq1;cases hio:h.inside s with
   | none=>
    have hc:=fun o W1 AL AO cL cO xs ys hl=>(hnext o W1 AL AO cL cO xs ys hl).mono (R':=fun e w2=>e=.returned (.pointer none)/\Just root 0 5 w w2) fun e w2 hq=>hq.elim (fun h=>h.2) (fun ⟨_,_,_,_,h,_⟩=>by rw [hio] at h;cases h)
    have HC:=hid hc;have HST2:=hid (HQ.out.put_stop HD.out hio);clear hc hnext
    go_wp2_with (first | (go_at_call 64;refine (HLO.out _).mono ?_;rintro e w1 ⟨rfl,AL1,AO1,cL1,cO1,xs1,ys1,hl⟩;have HL:=hid hl;obtain ⟨q0,q1,q2⟩:=zd6 H3.out (hl.just.far _ (by simp) (by omega));clear hl) | (go_at_call 98;refine (HC.out _ _ _ _ _ _ _ _ HL.out).mono ?_;rintro e w2 ⟨rfl,hj⟩;have HJ:=hid hj;clear hj))
    go_ret
    exact ⟨HJ.out,.inl ⟨HST2.out,rfl⟩⟩
   | some h'=>
    have hc:=fun o W1 AL AO cL cO xs ys hl=>(hnext o W1 AL AO cL cO xs ys hl).mono (R':=fun e w2=>∃ b' o' F',e=.returned (.pointer (some ⟨b',o',none⟩))/\PJ w R root g x ps (k+1) b' o' h' F' w2) fun e w2 hq=>hq.elim (fun h=>by rw [hio] at h;cases h.1) (fun ⟨_,b',o',F',h,he,hp⟩=>by rw [hio] at h;cases h;exact ⟨b',o',F',he,hp⟩)
    have HC:=hid hc;clear hc hnext
    go_wp2_with (first | (go_at_call 64;refine (HLO.out _).mono ?_;rintro e w1 ⟨rfl,AL1,AO1,cL1,cO1,xs1,ys1,hl⟩;have HL:=hid hl;obtain ⟨q0,q1,q2⟩:=zd6 H3.out (hl.just.far _ (by simp) (by omega));clear hl) | (go_at_call 98;refine (HC.out _ _ _ _ _ _ _ _ HL.out).mono ?_;rintro e w2 ⟨b',o',F',rfl,hp⟩;have HPJ:=hid hp;clear hp))
    go_roundw
    case rel=>exact ⟨k+1,b',o',h',F',rfl,by go_num,by omega,HPJ.out⟩
    case measure=>simp [intOf];omega
  ·have hk':k=ps.length:=by omega
   have hd:ps.drop k=[]:=by rw [hk'];simp
   obtain ⟨AL1,AO1,cL1,cO1,hsp⟩:=HQ.out.at'.spot;have hXb:X≠b:=by rcases HQ.out.big with ⟨e,_⟩ | h<;>omega
   have hXw:wr.heap[X]? = w.heap[X]?:=HQ.out.just.far X hXlt hXr;have hle:=HQ.out.le hR hr;have hF:From (fun k=>k<R) w wr:=HQ.out.just.from (by omega)
   have hput:=zmk b off X x CL CO eL eO wr _ _ _ _ _ hsp.c0 hsp.c1 hsp.c2 hsp.c3 hsp.c4 HQ.out.whole (HX.out.1.of_eq hXw);have hat:=zgH (x:=x) hsp.c0 hsp.c1 hsp.c2 hsp.c3 hsp.c4 hle (HX.out.2.1.keep hF (fun _ h _=>h)) (HX.out.2.2.keep hF (fun _ h _=>h))
   have hjust:=HQ.out.just.later (zbl (b:=b) (off:=off) wr (.int .u8 x.kq) (.int .i64 x.num) (.string x.str) (.slice CL x.il.length eL) (.slice CO x.vz.length eO)) HQ.out.big hr;have hroot:=HQ.out.wand _ x (zbl (b:=b) (off:=off) wr (.int .u8 x.kq) (.int .i64 x.num) (.string x.str) (.slice CL x.il.length eL) (.slice CO x.vz.length eO)) hat;have hgo:=HQ.out.goes x (by rw [hd];rfl)
   have HPT:=hid hput;have HEND:=hid (And.intro hjust (And.intro hroot hgo));clear hput hat hjust hroot hgo hsp hXw hF hsR
   go_wp2_with (go_at_call 65;refine HPT.out.mono ?_;rintro e w1 ⟨rfl,rfl⟩)
   go_ret
   exact ⟨HEND.out.1,.inr ⟨F x,HEND.out.2.2,rfl,HEND.out.2.1⟩⟩
def PutPost (g x:GV) (ps:List GStep) (w:World) (e:Ending) (w':World):Prop:=
 Below w.heap.size w w'/\((g.put x ps=none/\e=.returned (.tuple #[zeroV,.int .u16 30]))\/∃ y v',g.put x ps=some y/\e=.returned (.tuple #[v',.int .u16 0])/\y.val (fun k=>w.heap.size<=k) w' v')
structure PBox (w:World) (g x:GV) (AL AO CL CO:Option Addr) (cL cO eL eO:Nat) (W:World):Prop where
 size:W.heap.size=w.heap.size+1+1+1
 below:Below w.heap.size w W
 root:Whole W w.heap.size 29 #[.int .u8 g.kq,.int .i64 g.num,.string g.str,.slice AL g.il.length cL,.slice AO g.vz.length cO]
 x:Whole W (w.heap.size+1) 29 #[.int .u8 x.kq,.int .i64 x.num,.string x.str,.slice CL x.il.length eL,.slice CO x.vz.length eO]
 res:Whole W (w.heap.size+1+1) 29 ZC
theorem pboxed (w:World) (g x:GV) (AL AO CL CO:Option Addr) (cL cO eL eO:Nat):
  PBox w g x AL AO CL CO cL cO eL eO (((w.alloc (.cells #[.int .u8 g.kq,.int .i64 g.num,.string g.str,.slice AL g.il.length cL,.slice AO g.vz.length cO] 29)).alloc (.cells #[.int .u8 x.kq,.int .i64 x.num,.string x.str,.slice CL x.il.length eL,.slice CO x.vz.length eO] 29)).alloc (.cells ZC 29)):=by
 have hb:=stepped w (.cells #[.int .u8 g.kq,.int .i64 g.num,.string g.str,.slice AL g.il.length cL,.slice AO g.vz.length cO] 29) (.cells #[.int .u8 x.kq,.int .i64 x.num,.string x.str,.slice CL x.il.length eL,.slice CO x.vz.length eO] 29);have h2:=boxes w #[.int .u8 g.kq,.int .i64 g.num,.string g.str,.slice AL g.il.length cL,.slice AO g.vz.length cO] #[.int .u8 x.kq,.int .i64 x.num,.string x.str,.slice CL x.il.length eL,.slice CO x.vz.length eO] 29 29;exact ⟨by simp,hb.below,h2.1,h2.2,hb.x⟩
theorem zfb {w W W':World} (hb:Below w.heap.size w W) (hJ:Just w.heap.size 0 5 W W'):Below w.heap.size w W':=hb.trans (hJ.below (Nat.le_refl _) hb.size)
theorem zli (ok:Nat->Prop) (v vx:Value) (g x:GV) (hi:Nat) (A:Option Addr) (cap:Nat) (ps:List GStep) (w:World) (hv:g.val ok w v) (hvx:x.val ok w vx) (hp:Steps hi w A ps) (hhi:hi<=w.heap.size) (hcap:ps.length<=cap) (hm:cap<=maxLen) (hw:g.weight<=400000000) (hwx:x.weight<=400000000):
  Calls Tryz.prog 38 #[v,.slice A ps.length cap,vx] w (PutPost g x ps w):=by
 obtain ⟨L,O,rfl,hL,hO⟩:=hv;obtain ⟨AL,cL,rfl⟩:=zah hL;obtain ⟨AO,cO,rfl⟩:=zag hO;obtain ⟨L,O,rfl,hxL,hxO⟩:=hvx;obtain ⟨CL,eL,rfl⟩:=zah hxL;obtain ⟨CO,eO,rfl⟩:=zag hxO;have hcall:∀ W,PBox w g x AL AO CL CO cL cO eL eO W->Calls Tryz.prog 63 #[.pointer (some ⟨w.heap.size,0,none⟩),.slice A ps.length cap,.func (.func 64) #[] #[],.func (.func 65) #[] #[.pointer (some ⟨w.heap.size+1,0,none⟩)]] W (ReachPut W w.heap.size g x ps):=fun W hB=>
  zjY W w.heap.size w.heap.size (w.heap.size+1) g x AL AO CL CO cL cO eL eO w.heap.size A cap ps (Nat.le_refl _) hB.root.lt (by omega) (by omega) hB.root (hL.keep (From.of_below hB.below) (fun k _ h=>h)) (hO.keep (From.of_below hB.below) (fun k _ h=>h))
   hB.x (hxL.keep (From.of_below hB.below) (fun k _ h=>h)) (hxO.keep (From.of_below hB.below) (fun k _ h=>h)) (hp.keep (hB.below.mono hhi) hhi) (Nat.le_refl _) hcap hm (by omega)
 have HBOX:=hid (pboxed w g x AL AO CL CO cL cO eL eO);clear hp hL hO hxL hxO;unfold ReachPut at hcall;unfold ZC at HBOX;cases hpt:g.put x ps with
 | none=>
  rw [hpt] at hcall;have hc2:=fun W hB=>(hcall W hB).mono (R':=fun e w'=>e=.returned (.int .u16 30)/\Just w.heap.size 0 5 W w') fun e w' ⟨hj,hq⟩=>hq.elim (fun h=>⟨h.2,hj⟩) (fun ⟨_,h,_⟩=>by cases h)
  have HC:=hid hc2;have HPT:=hid hpt;clear hcall hc2 hpt;go_enter Tryz.func38,Tryz.ntmps38
  go_wp2_with (go_at_call 63;refine (HC.out _ HBOX.out).mono ?_;rintro e w1 ⟨rfl,hj⟩;have hres:=HBOX.out.res.of_eq (hj.far _ HBOX.out.res.lt (by omega));obtain ⟨r0,r1,r2,r3,r4,f0,f1,f2,f3,f4⟩:=hres.five;have HJ:=hid (And.intro hj hres);clear hj hres)
  have hlt:w.heap.size+1+1<w1.heap.size:=HJ.out.2.lt;obtain ⟨d0,d1,d2,d3,d4,_⟩:=(zai HJ.out.2 (.int .u8 0) (.int .i64 0) (.string ⟨#[]⟩) (.slice none 0 0) (.slice none 0 0)).five;unfold put5 at d0 d1 d2 d3 d4;refine bodyPost_ret (v:=.tuple #[zeroV,.int .u16 30]) (by simp [results,Tryz.results38,go_sem,zeroV,d0,d1,d2,d3,d4]) rfl ?_
  refine ⟨?_,.inl ⟨HPT.out,rfl⟩⟩
  exact zae (zfb HBOX.out.below HJ.out.1) (by omega) _ _ _ _ _
 | some y=>
  rw [hpt] at hcall;have hyw:y.weight<=1000000000:=by have:=zcn ps g y hpt;omega
  have hc2:=fun W hB=>(hcall W hB).mono (R':=fun e w'=>∃ BL dL BO dO,e=.returned (.int .u16 0)/\Spot (fun _=>True) w' w.heap.size 0 y BL BO dL dO/\Just w.heap.size 0 5 W w') fun e w' ⟨hj,hq⟩=>hq.elim (fun h=>by cases h.1) (fun ⟨_,h,he,hat⟩=>by
   cases h
   obtain ⟨BL,BO,dL,dO,hsp⟩:=hat.spot;exact ⟨BL,dL,BO,dO,he,hsp,hj⟩)
  have hcopy:∀ (W:World) (BL BO:Option Addr) (dL dO:Nat),Spot (fun _=>True) W w.heap.size 0 y BL BO dL dO->Calls Tryz.prog 66 #[.agg #[.int .u8 y.kq,.int .i64 y.num,.string y.str,.slice BL y.il.length dL,.slice BO y.vz.length dO]] W fun e w'=>
    ∃ EL fL EO fO,e=.returned (.agg #[.int .u8 y.kq,.int .i64 y.num,.string y.str,.slice EL y.il.length fL,.slice EO y.vz.length fO])/\LstV (fun k=>W.heap.size<=k) w' (.slice EL y.il.length fL) y.il/\ObjV (fun k=>W.heap.size<=k) w' (.slice EO y.vz.length fO) y.keys y.vz/\Below W.heap.size W w':=fun W BL BO dL dO hsp=>
   (zfk (fun _=>True) _ y W ⟨_,_,rfl,hsp.lst,hsp.obj⟩ hyw).mono fun e w' ⟨v',he,⟨L,O,hv,hL,hO⟩,hb⟩=>by
    subst hv;obtain ⟨EL,fL,rfl⟩:=zah hL;obtain ⟨EO,fO,rfl⟩:=zag hO;exact ⟨EL,fL,EO,fO,he,hL,hO,hb⟩
  have HC:=hid hc2;have HCP:=hid hcopy;have HPT:=hid hpt;clear hcall hc2 hcopy hpt;go_enter Tryz.func38,Tryz.ntmps38
  go_wp2_with (first
   | (go_at_call 63;refine (HC.out _ HBOX.out).mono ?_;rintro e w1 ⟨BL,dL,BO,dO,rfl,hsp,hj⟩;have hres:=HBOX.out.res.of_eq (hj.far _ HBOX.out.res.lt (by omega));have c0:=hsp.c0;have c1:=hsp.c1;have c2:=hsp.c2;have c3:=hsp.c3;have c4:=hsp.c4;have HJ:=hid (And.intro hj (And.intro hres hsp));clear hj hres hsp)
   | (go_at_call 66;refine (HCP.out _ _ _ _ _ HJ.out.2.2).mono ?_;rintro e w2 ⟨EL,fL,EO,fO,rfl,hL,hO,hb⟩;have hres:=HJ.out.2.1.below hb HJ.out.2.1.lt;obtain ⟨r0,r1,r2,r3,r4,f0,f1,f2,f3,f4⟩:=hres.five;have HV:=hid (And.intro hb (And.intro hres (And.intro hL hO)));clear hb hres hL hO))
  have hlt:w.heap.size+1+1<w1.heap.size:=HJ.out.2.1.lt;obtain ⟨d0,d1,d2,d3,d4,_⟩:=(zai HV.out.2.1 (.int .u8 y.kq) (.int .i64 y.num) (.string y.str) (.slice EL y.il.length fL) (.slice EO y.vz.length fO)).five;unfold put5 at d0 d1 d2 d3 d4;refine bodyPost_ret (v:=.tuple #[.agg #[.int .u8 y.kq,.int .i64 y.num,.string y.str,.slice EL y.il.length fL,.slice EO y.vz.length fO],.int .u16 0]) (by simp [results,Tryz.results38,go_sem,d0,d1,d2,d3,d4]) rfl ?_
  refine ⟨zae ((zfb HBOX.out.below HJ.out.1).trans (HV.out.1.mono (by omega))) (by omega) _ _ _ _ _,.inr ⟨y,_,HPT.out,rfl,_,_,rfl,?_,?_⟩⟩
  ·exact HV.out.2.2.1.keep (fun k hk _=>zac _ _ _ _ _ _ _ _ (by omega)) (fun k hk _=>by omega)
  ·exact HV.out.2.2.2.keep (fun k hk _=>zac _ _ _ _ _ _ _ _ (by omega)) (fun k hk _=>by omega)
end Go.Proofs.YtmmgdkpkcoopgaaGreatDoor
