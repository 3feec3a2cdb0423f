/- Texts in one: InvD, InvE, InvF, InvG, InvH, InvI. -/
import Derived.Test.YtmmgdkpkcoopgaaGreatDoorP16
import Derived.Test.YtmmgdkpkcoopgaaGreatDoorP29
import Derived.Test.YtmmgdkpkcoopgaaGreatDoorP20
import Derived.Test.YtmmgdkpkcoopgaaGreatDoorP11
set_option maxHeartbeats 8000000
set_option maxRecDepth 100000
namespace Go.Proofs.YtmmgdkpkcoopgaaGreatDoor
open Go.Lib(hid)
open Go Go.RowKit Go.Shelf
set_option linter.unusedVariables false
set_option linter.unusedSimpArgs false
def pt12 (W:World) (b:Nat) (a0 a1 a2 a3 a4 a5 a6 a7 a8 a9 a10 a11:Value):World:=((((((((((((W.setCell ⟨b,0,none⟩ a0).setCell ⟨b,1,none⟩ a1).setCell ⟨b,2,none⟩ a2).setCell ⟨b,3,none⟩ a3).setCell ⟨b,4,none⟩ a4).setCell ⟨b,5,none⟩ a5).setCell ⟨b,6,none⟩ a6).setCell ⟨b,7,none⟩ a7).setCell ⟨b,8,none⟩ a8).setCell ⟨b,9,none⟩ a9).setCell ⟨b,10,none⟩ a10).setCell ⟨b,11,none⟩ a11)
theorem zaF {W b} {t:TypeId} {z0 z1 z2 z3 z4 z5 z6 z7 z8 z9 z10 z11:Value} (h:Whole W b t #[z0,z1,z2,z3,z4,z5,z6,z7,z8,z9,z10,z11]) (a0 a1 a2 a3 a4 a5 a6 a7 a8 a9 a10 a11:Value):Whole (pt12 W b a0 a1 a2 a3 a4 a5 a6 a7 a8 a9 a10 a11) b t #[a0,a1,a2,a3,a4,a5,a6,a7,a8,a9,a10,a11]:=put12 h a0 a1 a2 a3 a4 a5 a6 a7 a8 a9 a10 a11
theorem zby (W:World) (b:Nat) (a0 a1 a2 a3 a4 a5 a6 a7 a8 a9 a10 a11:Value):Kp (b+1) W (pt12 W b a0 a1 a2 a3 a4 a5 a6 a7 a8 a9 a10 a11):=((((((((((((Kp.refl (b+1) W).set (p:=⟨b,0,none⟩) (by simp) a0).set (p:=⟨b,1,none⟩) (by simp) a1).set (p:=⟨b,2,none⟩) (by simp) a2).set (p:=⟨b,3,none⟩) (by simp) a3).set (p:=⟨b,4,none⟩) (by simp) a4).set (p:=⟨b,5,none⟩) (by simp) a5).set (p:=⟨b,6,none⟩) (by simp) a6).set (p:=⟨b,7,none⟩) (by simp) a7).set (p:=⟨b,8,none⟩) (by simp) a8).set (p:=⟨b,9,none⟩) (by simp) a9).set (p:=⟨b,10,none⟩) (by simp) a10).set (p:=⟨b,11,none⟩) (by simp) a11
theorem zaH {w W:World} {b:Nat} (hb:Below w.heap.size w W) (hn:w.heap.size<=b) (a0 a1 a2 a3 a4 a5 a6 a7 a8 a9 a10 a11:Value):Below w.heap.size w (pt12 W b a0 a1 a2 a3 a4 a5 a6 a7 a8 a9 a10 a11):=(((((((((((hb.setCell (p:=⟨b,0,none⟩) hn a0).setCell (p:=⟨b,1,none⟩) hn a1).setCell (p:=⟨b,2,none⟩) hn a2).setCell (p:=⟨b,3,none⟩) hn a3).setCell (p:=⟨b,4,none⟩) hn a4).setCell (p:=⟨b,5,none⟩) hn a5).setCell (p:=⟨b,6,none⟩) hn a6).setCell (p:=⟨b,7,none⟩) hn a7).setCell (p:=⟨b,8,none⟩) hn a8).setCell (p:=⟨b,9,none⟩) hn a9).setCell (p:=⟨b,10,none⟩) hn a10).setCell (p:=⟨b,11,none⟩) hn a11
def undo4 (h:GV) (c:GC):GC:=⟨5,c.path,⟨#[]⟩,c.i,0,0,noG,⟨#[]⟩⟩
def undo7 (h:GV) (c:GC):GC:=⟨c.kq,c.path,⟨#[]⟩,c.j,c.i,0,noG,⟨#[]⟩⟩
def undo1 (h:GV) (c:GC):GC:=⟨c.kq,c.path,⟨#[]⟩,0,0,wrap64 (-c.n),noG,⟨#[]⟩⟩
def undo8 (h:GV) (c:GC):GC:=⟨9,c.path,⟨#[]⟩,c.i,0,nChars c.s,noG,⟨#[]⟩⟩
def undo9 (h:GV) (c:GC):GC:=⟨8,c.path,⟨#[]⟩,c.i,0,0,noG,partS h.str c.i.toNat c.n.toNat⟩
end Go.Proofs.YtmmgdkpkcoopgaaGreatDoor
namespace Go.Proofs.YtmmgdkpkcoopgaaGreatDoor
open Go.Lib(hid)
open Go Go.RowKit Go.Shelf
set_option linter.unusedVariables false
set_option linter.unusedSimpArgs false
def undo5 (c:GC) (i:Nat) (g:GV):GC:=⟨4,c.path,⟨#[]⟩,i,0,0,g,⟨#[]⟩⟩
def undo6 (c:GC) (i:Nat) (g:GV):GC:=⟨c.kq,c.path,⟨#[]⟩,i,0,0,g,⟨#[]⟩⟩
end Go.Proofs.YtmmgdkpkcoopgaaGreatDoor
namespace Go.Proofs.YtmmgdkpkcoopgaaGreatDoor
open Go.Lib(hid)
open Go Go.RowKit Go.Shelf
set_option linter.unusedVariables false
set_option linter.unusedSimpArgs false
def undo2n (c:GC):GC:=⟨3,c.path,c.key,0,0,0,noG,⟨#[]⟩⟩
def undo2t (c:GC) (g:GV):GC:=⟨2,c.path,c.key,0,0,0,g,⟨#[]⟩⟩
def undo3t (c:GC) (g:GV):GC:=⟨2,c.path,c.key,0,0,0,g,⟨#[]⟩⟩
end Go.Proofs.YtmmgdkpkcoopgaaGreatDoor
namespace Go.Proofs.YtmmgdkpkcoopgaaGreatDoor
open Go.Lib(hid)
open Go Go.RowKit
set_option linter.unusedVariables false
set_option linter.unusedSimpArgs false
def Undo (h:GV) (c d:GC):Prop:=
 (c.kq=1/\d=undo1 h c)\/(c.kq=2/\there c.key h.keys=false/\d=undo2n c) \/
 (c.kq=2/\there c.key h.keys=true/\∃ g,h.vz[place c.key h.keys]? = some g/\d=undo2t c g) \/
 (c.kq=3/\there c.key h.keys=true/\∃ g,h.vz[place c.key h.keys]? = some g/\d=undo3t c g) \/
 (c.kq=4/\d=undo4 h c)\/(c.kq=5/\∃ (i:Nat) (g:GV),c.i=i/\h.il[i]? = some g/\d=undo5 c i g) \/
 (c.kq=6/\∃ (i:Nat) (g:GV),c.i=i/\h.il[i]? = some g/\d=undo6 c i g)\/(c.kq=7/\d=undo7 h c) \/
 (c.kq=8/\d=undo8 h c)\/(c.kq=9/\h.kq=3/\(0<=c.i/\1<=c.n/\c.i.toNat+c.n.toNat<=nChars h.str)/\d=undo9 h c)
theorem zhK {h:GV} {c:GC} (hk:c.kq=5\/c.kq=6) (e:chkH h c=0):∃ (i:Nat) (g:GV),c.i=i/\h.il[i]? = some g:=by
 have hw:worksOn c.kq=4:=by unfold worksOn;(repeat' split)<;>omega
 have h4:h.kq=4:=(zaS e).trans hw;unfold chkH at e;rw [if_neg (fun hn=>hn (h4.trans hw.symm)),if_pos h4] at e
 unfold chkL at e;rw [if_neg (by omega),if_pos hk] at e
 by_cases hi:0<=c.i/\c.i<h.il.length
 ·exact ⟨c.i.toNat, h.il[c.i.toNat]'(by omega), by omega, List.getElem?_eq_getElem _⟩
 ·rw [if_neg hi] at e
  cases e
theorem zjy {h:GV} {c:GC} (hk:c.kq=9) (e:chkH h c=0):h.kq=3/\0<=c.i/\1<=c.n/\c.i.toNat+c.n.toNat<=nChars h.str:=by
 have hw:worksOn c.kq=3:=by rw [hk];decide
 have h3:h.kq=3:=(zaS e).trans hw;unfold chkH at e;rw [if_neg (fun hn=>hn (h3.trans hw.symm)),if_neg (by omega),if_pos h3,hk] at e
 obtain ⟨i,hi,hic,h8 | ⟨_,n,hn,h1,h2⟩⟩:=zer (k:=9) e
 ·cases h8
 ·exact ⟨h3,by omega,by omega,by omega⟩
theorem zj3 {h:GV} {c:GC} (hs:c.Sound) (e:chkH h c=0) (hl:h.keys.length=h.vz.length):∃ d,Undo h c d:=by
 obtain ⟨_,_,_,_,⟨⟨k1,k9⟩,_⟩,_⟩:=hs;have hv:there c.key h.keys=true->∃ g,h.vz[place c.key h.keys]? = some g:=fun ht=>⟨_,List.getElem?_eq_getElem (by rw [<- hl];exact zbP ht)⟩
 rcases (show c.kq=1\/c.kq=2\/c.kq=3\/c.kq=4\/c.kq=5\/c.kq=6\/c.kq=7\/c.kq=8\/c.kq=9 by omega) with q | q | q | q | q | q | q | q | q
 ·exact ⟨_,.inl ⟨q,rfl⟩⟩
 ·cases ht:there c.key h.keys with
  | false=>exact ⟨_,.inr (.inl ⟨q,ht,rfl⟩)⟩
  | true=>
   obtain ⟨g,hg⟩:=hv ht;exact ⟨_,.inr (.inr (.inl ⟨q,ht,g,hg,rfl⟩))⟩
 ·have ht:=zda e q
  obtain ⟨g,hg⟩:=hv ht;exact ⟨_,.inr (.inr (.inr (.inl ⟨q,ht,g,hg,rfl⟩)))⟩
 ·exact ⟨_,.inr (.inr (.inr (.inr (.inl ⟨q,rfl⟩))))⟩
 ·obtain ⟨i,g,hi,hg⟩:=zhK (.inl q) e
  exact ⟨_,.inr (.inr (.inr (.inr (.inr (.inl ⟨q,i,g,hi,hg,rfl⟩)))))⟩
 ·obtain ⟨i,g,hi,hg⟩:=zhK (.inr q) e
  exact ⟨_,.inr (.inr (.inr (.inr (.inr (.inr (.inl ⟨q,i,g,hi,hg,rfl⟩))))))⟩
 ·exact ⟨_,.inr (.inr (.inr (.inr (.inr (.inr (.inr (.inl ⟨q,rfl⟩)))))))⟩
 ·exact ⟨_,.inr (.inr (.inr (.inr (.inr (.inr (.inr (.inr (.inl ⟨q,rfl⟩))))))))⟩
 ·have h9:=zjy q e
  exact ⟨_,.inr (.inr (.inr (.inr (.inr (.inr (.inr (.inr (.inr ⟨q,h9.1,h9.2,rfl⟩))))))))⟩
theorem zeP {h g:GV} {k:Nat} (hg:h.vz[k]? = some g):g.weight<=h.weight:=by
 have:=zaP h;have:=zdB h.vz k g hg;omega
theorem zeG {h g:GV} {k:Nat} (hg:h.il[k]? = some g):g.weight<=h.weight:=by
 have:=zaP h;have:=zdB h.il k g hg;omega
end Go.Proofs.YtmmgdkpkcoopgaaGreatDoor
namespace Go.Proofs.YtmmgdkpkcoopgaaGreatDoor
open Go.Lib(hid)
open Go Go.RowKit Go.Shelf
set_option linter.unusedVariables false
set_option linter.unusedSimpArgs false
section
variable {P:Program} (w:World)
theorem zfr (t tx ty e:TypeId) (i:TypeInfo) (z:Value) (ht:P.underlying t=some (.slice e)) (hu:P.underlying tx=some (.int .i64)) (hi:P.info? e=some i) (hz:i.zero=some z)
  (n:Nat) (hp:0<n * i.size) (h63:(n:Int)<=9223372036854775807) (hb:(n:Int) * i.bytes<=281474976710656) (hfit:Builtin.nextslicecap (0+n) 0 * i.bytes<=281474976710656):
  (Builtin.append_ #[t,tx] ty #[.slice none 0 0,.int .i64 n]).run P w =
   .ok (.slice (some ⟨w.heap.size,0,none⟩) n (grownCap w (0+n) 0 e))
    (w.drew.alloc (.cells (Builtin.zeroCells z.cells n++Builtin.zeroCells z.cells (grownCap w (0+n) 0 e - n)) e)):=by
 have hn:¬ (n<=0):=fun h=>by rw [Nat.le_zero.1 h,Nat.zero_mul] at hp;omega
 have h63':¬ (9223372036854775807<(n:Int)):=by omega
 have h48':¬ (281474976710656<Builtin.nextslicecap (0+n) 0 * i.bytes):=by omega
 have hw:IntKind.i64.wrap (n:Int)=n:=IntWalk.i64_in _ (by omega)
 have hn0:¬ ((n:Int)<0):=by omega
 have hnb:¬ (281474976710656<(n:Int) * i.bytes):=by omega
 have hnz:¬ (n * i.size=0):=by omega
 have hai:(asIntOf (.int .i64 (n:Int))).run P w=.ok (.i64,(n:Int)) w:=rfl;have hmax:¬ (9223372036854775807<max (n:Int) 0):=by omega
 simp only [Nat.zero_add] at h48' ⊢;simp [Builtin.append_,Builtin.firstCells,run_underlying ht,run_underlying hu,asInt,hai,hmax,hw,hn0,hnb,hnz,sizeOf,typeInfo,zeroValue,hi,hz,hn,h63',h48',Question.forced,newRow,grownCap]
 omega
end
theorem zjU (n:Nat) (h0:0<n) (hn:n<=1000000) (w:World):∃ (c:Nat) (W1:World),n<=c/\c<=maxLen/\(∀ ty,(Builtin.append_ #[43,3] ty #[.slice none 0 0,.int .i64 n]).run Tryz.prog w=.ok (.slice (some ⟨w.heap.size,0,none⟩) n c) W1) /\
  W1.ownsRow w.heap.size 85 3 (.slice (some ⟨w.heap.size,0,none⟩) 0 c) 0 []/\Below w.heap.size w W1:=by
 obtain ⟨i0,hi0,hz0,hz1,hz2⟩:=info_parts infoStep;have hfit:=growslice_fits (need:=0+n) (old:=0) (bytes:=32) (by omega) (by omega)
 have hA:=fun ty=>zfr (P:=Tryz.prog) w 43 3 ty 85 i0 _ Tryz.underlying43 Tryz.underlying3 hi0 hz0 n (by rw [hz1];omega) (by omega) (by rw [hz2];omega) (by rw [hz2];exact hfit)
 have hge:=grownCap_ge w (0+n) 0 85;have hle:=grownCap_le_maxLen w (0+n) 0 85 (by unfold maxLen;omega)
 generalize grownCap w (0+n) 0 85=c at *;refine ⟨c,_,by omega,hle,hA,⟨rfl,.inr ⟨w.heap.size,c,_,rfl,Nat.le_refl _,heap_alloc_new w.drew _,Nat.zero_le _,hle,?_,?_⟩⟩,(Below.refl _ _).drew.alloc (Nat.le_refl _) _⟩
 ·rw [Array.size_append,size_zeroCells,size_zeroCells]
  show n * 3+(c - n) * 3=c * 3
  omega
 ·simp
theorem zkw (n:Nat) (h0:0<n) (hn:n<=1000000) (w:World):Calls Tryz.prog 106 #[.slice none 0 0,.int .i64 n] w fun e w'=>∃ (g c:Nat),e=.returned (.slice (some ⟨g,0,none⟩) 0 c)/\w'.ownsRow w.heap.size 85 3 (.slice (some ⟨g,0,none⟩) 0 c) 0 []/\Below w.heap.size w w':=by
 obtain ⟨c,W1,hge,hle,hA,hown,hb⟩:=zjU n h0 hn w;have HA:=hid hA;have H1:=hid (And.intro hown hb);unfold maxLen at hle;have hw1:IntKind.i64.wrap (n:Int)=n:=IntWalk.i64_in _ (by omega)
 clear hA hown hb;go_enter Tryz.func106,Tryz.ntmps106
 go_wp2_with (at_builtin;refine zdk rfl (.tmp 20) (.tmp 21) 43 3 rfl _ _ _ _ rfl rfl (HA.out _) ?_)
 go_ret
 exact ⟨_,_,rfl,H1.out.1,H1.out.2⟩
end Go.Proofs.YtmmgdkpkcoopgaaGreatDoor
namespace Go.Proofs.YtmmgdkpkcoopgaaGreatDoor
open Go.Lib(hid)
open Go Go.RowKit Go.Shelf
set_option linter.unusedVariables false
set_option linter.unusedSimpArgs false
def SumRel (w:World) (n:Nat) (t i:Value) (W:World)  :Prop:=w=W/\((i=.int .i64 0/\t=.int .i64 0)\/(i=.int .i64 1/\t=.int .i64 n)\/(i=.int .i64 2/\t=.int .i64 (n+1:Nat)))
def LayRel (w:World) (p:List GStep) (s:GStep) (v i:Value) (W:World):Prop:=∃ (k:Nat) (q:List GStep),i=.int .i64 k/\((k=0/\q=[])\/(k=1/\q=p)\/(k=2/\q=p++[s]))/\W.ownsRow w.heap.size 85 3 v q.length (cellsP q)/\Below w.heap.size w W
theorem zeT (p A cp) (s:GStep) (b d:Nat) (t:TypeId) (w) (hp:Wy w A cp p) (hl:p.length<=100000) (hb:Whole w b t #[.slice A p.length cp,.slice (some ⟨d,0,none⟩) 1 1]) (hd:Whole w d 85 #[.bool s.list,.int .i64 s.i,.string s.key]):
  Calls Tryz.prog 78 #[.slice (some ⟨b,0,none⟩) 2 2] w fun e w'=>∃ (B:Option Addr) (c:Nat),e=.returned (.slice B (p.length+1) c)/\Wy w' B c (p++[s])/\Below w.heap.size w w':=by
 obtain ⟨i0,hi,hz0,hz1,hz2⟩:=info_parts infoStep;have HI:=hid (And.intro hi (And.intro hz0 (And.intro hz1 hz2)));have HA:=hid (zhB hp).1;have HN:=hid (show ∀ W,Below w.heap.size w W->∀ ad,A=some ad->∀ (j:Nat) (u:Value),(cellsP p)[j]? = some u->W.cell? (ad.add j)=some u from fun W hb ad e j u hj=>by
  obtain ⟨hlt,h⟩:=(zhB hp).2 ad e j u hj;exact (hb.cell (by rw [show (ad.add j).block=ad.block by unfold Addr.add;split<;>rfl];exact hlt)).trans h)
 have HD:=hid (show ∀ W,Below w.heap.size w W->∀ ad,some (⟨d,0,none⟩:Addr)=some ad->∀ (j:Nat) (u:Value),(cellsP [s])[j]? = some u->W.cell? (ad.add j)=some u from fun W hb ad e j u hj=>by
  cases e
  have h:=hd.below hb hd.lt;have e2:(⟨d,0,none⟩:Addr).add j =⟨d,j,none⟩:=by unfold Addr.add;split<;>simp_all
  rw [e2,h.cell j,<- Array.getElem?_toList]
  simpa [cellsP,encG] using hj)
 have HF:=hid (And.intro (zdR p) (And.intro (zfo p) (And.intro (zdR [s]) (zfo [s]))));have HG:=hid (zkw (p.length+1) (by omega) (by omega) w)
 have HB:=hid hb;clear hp hi hz0 hz1 hz2 hd hb;go_enter Tryz.func78,Tryz.ntmps78
 go_wp2
 go_loopw [3,11] (SumRel w p.length) (fun _ i _=>2 - (intOf i).toNat)
 case atStart=>exact ⟨rfl,.inl ⟨rfl,rfl⟩⟩
 case round=>
  obtain ⟨hw0,h⟩:=hrel;subst hw0;have b0:=(HB.out.cell 0).trans rfl;have b1:=(HB.out.cell 1).trans rfl;rcases h with ⟨rfl,rfl⟩ | ⟨rfl,rfl⟩ | ⟨rfl,rfl⟩
  ·go_wp2
   go_roundw
   case rel=>exact ⟨rfl,.inr (.inl ⟨by go_num,by go_num⟩)⟩
   case measure=>simp [intOf]
  ·go_wp2
   go_roundw
   case rel=>exact ⟨rfl,.inr (.inr ⟨by go_num,by go_num⟩)⟩
   case measure=>simp [intOf]
  ·clear b0 b1
   go_wp2_with (go_at_call 106;refine HG.out.mono ?_;rintro e w1 ⟨g,c,rfl,ho,hb⟩;have H1:=hid (And.intro ho hb);clear ho hb)
   go_loopw [6,27] (LayRel w p s) (fun _ i _=>2 - (intOf i).toNat)
   case atStart=>exact ⟨0,[],rfl,.inl ⟨rfl,rfl⟩,H1.out.1,H1.out.2⟩
   case round=>
    obtain ⟨k,q,rfl,hq,ho,hb⟩:=hrel;have HO:=hid (And.intro ho hb);have HB2:=HB.out.below hb HB.out.lt;have b0:=(HB2.cell 0).trans rfl;have b1:=(HB2.cell 1).trans rfl;obtain ⟨QA,qc,rfl⟩:=zaf ho;clear ho hb HB2;rcases hq with ⟨rfl,rfl⟩ | ⟨rfl,rfl⟩ | ⟨rfl,rfl⟩
    ·go_wp2_with (at_builtin;refine zaj _ rfl (.tmp 31) (.tmp 32) 43 rfl w.heap.size 85 i0 _ 3 32 Tryz.underlying43 HI.out.1 HI.out.2.1 HI.out.2.2.1 HI.out.2.2.2 rfl (by decide) _ 0 [] rfl HO.out.1 A p.length cp (cellsP p) rfl HA.out HF.out.1 (HN.out _ HO.out.2) HF.out.2.1 (by unfold maxLen;omega) (by omega) HO.out.2.size ?_;intro v' w2 hown hgrow _;have H2:=hid (And.intro hown (HO.out.2.grown hgrow HO.out.2.size (fun k hk=>(HO.out.1.lt k hk).1)));clear hown hgrow)
     go_roundw
     case rel=>exact ⟨1,p,by go_num,.inr (.inl ⟨rfl,rfl⟩),by have:=H2.out.1;rwa [Nat.zero_add,List.nil_append] at this,H2.out.2⟩
     case measure=>simp [intOf]
    ·go_wp2_with (at_builtin;refine zaj _ rfl (.tmp 31) (.tmp 32) 43 rfl w.heap.size 85 i0 _ 3 32 Tryz.underlying43 HI.out.1 HI.out.2.1 HI.out.2.2.1 HI.out.2.2.2 rfl (by decide) _ q.length (cellsP q) rfl HO.out.1 (some ⟨d,0,none⟩) 1 1 (cellsP [s]) rfl (fun h=>by cases h) HF.out.2.2.1 (HD.out _ HO.out.2) HF.out.2.2.2 (by unfold maxLen;omega) (by omega) HO.out.2.size ?_;intro v' w2 hown hgrow _;have H2:=hid (And.intro hown (HO.out.2.grown hgrow HO.out.2.size (fun k hk=>(HO.out.1.lt k hk).1)));clear hown hgrow)
     go_roundw
     case rel=>exact ⟨2,q++[s],by go_num,.inr (.inr ⟨rfl,rfl⟩),by have:=H2.out.1;rw [zed,List.length_append];simpa [cellsP] using this,H2.out.2⟩
     case measure=>simp [intOf]
    ·obtain ⟨B,c',he,hle,hcm,hst⟩:=zej HO.out.1
     have HS:=hid (And.intro hle (And.intro hcm hst));cases he
     clear b0 b1 hle hcm hst;go_wp2
     go_ret
     exact ⟨_,_,by rw [List.length_append];rfl,⟨HS.out.2.2,HS.out.1,HS.out.2.1⟩,HO.out.2⟩
end Go.Proofs.YtmmgdkpkcoopgaaGreatDoor
