/- Texts in one: InvG, InvH, InvI. -/
import Derived.Test.YthmcfjmignlhfaaGreatDoorQ30
import Derived.Test.YthmcfjmignlhfaaGreatDoorQ21
import Derived.Test.YthmcfjmignlhfaaGreatDoorQ17
import Derived.Test.YthmcfjmignlhfaaGreatDoorQ11
set_option maxHeartbeats 8000000
set_option maxRecDepth 100000
namespace Go.Proofs.YthmcfjmignlhfaaGreatDoor
open Go.Lib(hid)
open Go Go.RowKit
set_option linter.unusedVariables false
set_option linter.unusedSimpArgs false
def Undo (h:GV) (c d:GC):Prop:=
 (c.kq=1/\d=undo1 h c)\/(c.kq=2/\there c.key h.keys=false/\d=undo2n c) \/
 (c.kq=2/\there c.key h.keys=true/\∃ g,h.vz[place c.key h.keys]? = some g/\d=undo2t c g) \/
 (c.kq=3/\there c.key h.keys=true/\∃ g,h.vz[place c.key h.keys]? = some g/\d=undo3t c g) \/
 (c.kq=4/\d=undo4 h c)\/(c.kq=5/\∃ (i:Nat) (g:GV),c.i=i/\h.il[i]? = some g/\d=undo5 c i g) \/
 (c.kq=6/\∃ (i:Nat) (g:GV),c.i=i/\h.il[i]? = some g/\d=undo6 c i g)\/(c.kq=7/\d=undo7 h c) \/
 (c.kq=8/\d=undo8 h c)\/(c.kq=9/\h.kq=3/\(0<=c.i/\1<=c.n/\c.i.toNat+c.n.toNat<=nChars h.str)/\d=undo9 h c)
theorem zho {h:GV} {c:GC} (hk:c.kq=5\/c.kq=6) (e:chkH h c=0):∃ (i:Nat) (g:GV),c.i=i/\h.il[i]? = some g:=by
 have hw:worksOn c.kq=4:=by unfold worksOn;(repeat' split)<;>omega
 have h4:h.kq=4:=(zcu e).trans hw;unfold chkH at e;rw [if_neg (fun hn=>hn (h4.trans hw.symm)),if_pos h4] at e
 unfold chkL at e;rw [if_neg (by omega),if_pos hk] at e
 by_cases hi:0<=c.i/\c.i<h.il.length
 ·exact ⟨c.i.toNat, h.il[c.i.toNat]'(by omega), by omega, List.getElem?_eq_getElem _⟩
 ·rw [if_neg hi] at e
  cases e
theorem zjn {h:GV} {c:GC} (hk:c.kq=9) (e:chkH h c=0):h.kq=3/\0<=c.i/\1<=c.n/\c.i.toNat+c.n.toNat<=nChars h.str:=by
 have hw:worksOn c.kq=3:=by rw [hk];decide
 have h3:h.kq=3:=(zcu e).trans hw;unfold chkH at e;rw [if_neg (fun hn=>hn (h3.trans hw.symm)),if_neg (by omega),if_pos h3,hk] at e
 obtain ⟨i,hi,hic,h8 | ⟨_,n,hn,h1,h2⟩⟩:=zlg (k:=9) e
 ·cases h8
 ·exact ⟨h3,by omega,by omega,by omega⟩
theorem zio {h:GV} {c:GC} (hs:c.Sound) (e:chkH h c=0) (hl:h.keys.length=h.vz.length):∃ d,Undo h c d:=by
 obtain ⟨_,_,_,_,⟨⟨k1,k9⟩,_⟩,_⟩:=hs;have hv:there c.key h.keys=true->∃ g,h.vz[place c.key h.keys]? = some g:=fun ht=>⟨_,List.getElem?_eq_getElem (by rw [<- hl];exact zcv ht)⟩
 rcases (show c.kq=1\/c.kq=2\/c.kq=3\/c.kq=4\/c.kq=5\/c.kq=6\/c.kq=7\/c.kq=8\/c.kq=9 by omega) with q | q | q | q | q | q | q | q | q
 ·exact ⟨_,.inl ⟨q,rfl⟩⟩
 ·cases ht:there c.key h.keys with
  | false=>exact ⟨_,.inr (.inl ⟨q,ht,rfl⟩)⟩
  | true=>
   obtain ⟨g,hg⟩:=hv ht;exact ⟨_,.inr (.inr (.inl ⟨q,ht,g,hg,rfl⟩))⟩
 ·have ht:=zf1 e q
  obtain ⟨g,hg⟩:=hv ht;exact ⟨_,.inr (.inr (.inr (.inl ⟨q,ht,g,hg,rfl⟩)))⟩
 ·exact ⟨_,.inr (.inr (.inr (.inr (.inl ⟨q,rfl⟩))))⟩
 ·obtain ⟨i,g,hi,hg⟩:=zho (.inl q) e
  exact ⟨_,.inr (.inr (.inr (.inr (.inr (.inl ⟨q,i,g,hi,hg,rfl⟩)))))⟩
 ·obtain ⟨i,g,hi,hg⟩:=zho (.inr q) e
  exact ⟨_,.inr (.inr (.inr (.inr (.inr (.inr (.inl ⟨q,i,g,hi,hg,rfl⟩))))))⟩
 ·exact ⟨_,.inr (.inr (.inr (.inr (.inr (.inr (.inr (.inl ⟨q,rfl⟩)))))))⟩
 ·exact ⟨_,.inr (.inr (.inr (.inr (.inr (.inr (.inr (.inr (.inl ⟨q,rfl⟩))))))))⟩
 ·have h9:=zjn q e
  exact ⟨_,.inr (.inr (.inr (.inr (.inr (.inr (.inr (.inr (.inr ⟨q,h9.1,h9.2,rfl⟩))))))))⟩
theorem zb3 {h g:GV} {k:Nat} (hg:h.vz[k]? = some g):g.weight<=h.weight:=by
 have:=zaV h;have:=zdb h.vz k g hg;omega
theorem zbG {h g:GV} {k:Nat} (hg:h.il[k]? = some g):g.weight<=h.weight:=by
 have:=zaV h;have:=zdb h.il k g hg;omega
theorem zdK (h HL HO dL dO c d A AL AO cp cL cO w) (hh:Vl w h HL HO dL dO) (hc:Cc w c A AL AO cp cL cO) (hpl:c.path.length<=1000000000) (hs:c.s.size<=1000000000) (hw:h.weight<=1000000000) (hll:h.il.length<=1000000000/\h.vz.length<=1000000000) (hT:Tabs w) (hu:Undo h c d):
  Calls Tryz.prog 40 #[.agg #[.int .u8 h.kq,.int .i64 h.num,.string h.str,.slice HL h.il.length dL,.slice HO h.vz.length dO],.agg #[.int .u8 c.kq,.slice A c.path.length cp,.string c.key,.int .i64 c.i,.int .i64 c.j,.int .i64 c.n,.int .u8 c.v.kq,.int .i64 c.v.num,.string c.v.str,.slice AL c.v.il.length cL,.slice AO c.v.vz.length cO,.string c.s]] w (SameNw d w):=by
 have hstr:h.str.size<=1000000000:=by have:=zaV h;omega
 rcases hu with ⟨q,rfl⟩ | ⟨q,ht,rfl⟩ | ⟨q,ht,g,hg,rfl⟩ | ⟨q,ht,g,hg,rfl⟩ | ⟨q,rfl⟩ | ⟨q,i,g,hi,hg,rfl⟩ | ⟨q,i,g,hi,hg,rfl⟩ | ⟨q,rfl⟩ | ⟨q,rfl⟩ | ⟨q,_,⟨i0,n1,hin⟩,rfl⟩
 ·exact zjy h HL HO dL dO c A AL AO cp cL cO w hh hc hpl q
 ·exact zed h HL HO dL dO c A AL AO cp cL cO w hh hc hpl q ht
 ·exact zej h HL HO dL dO c A AL AO cp cL cO w hh hc hpl q g hg (Nat.le_trans (zb3 hg) hw) ht hll.2
 ·exact zek h HL HO dL dO c A AL AO cp cL cO w hh hc hpl q g hg (Nat.le_trans (zb3 hg) hw) ht hll.2
 ·exact ziT h HL HO dL dO c A AL AO cp cL cO w hh hc hpl q
 ·exact ziM h HL HO dL dO c A AL AO cp cL cO w hh hc hpl q i g hi hg (Nat.le_trans (zbG hg) hw) hll.1
 ·exact zic h HL HO dL dO c A AL AO cp cL cO w hh hc hpl q i g hi hg (Nat.le_trans (zbG hg) hw) hll.1
 ·exact zi1 h HL HO dL dO c A AL AO cp cL cO w hh hc hpl q
 ·exact zi7 h HL HO dL dO c A AL AO cp cL cO w hh hc hpl q hs hT
 ·exact zir h HL HO dL dO c A AL AO cp cL cO w hh hc hpl q hstr hT i0 n1 hin
end Go.Proofs.YthmcfjmignlhfaaGreatDoor
namespace Go.Proofs.YthmcfjmignlhfaaGreatDoor
open Go.Lib(hid)
open Go Go.RowKit Go.Shelf
set_option linter.unusedVariables false
set_option linter.unusedSimpArgs false
section
variable {P:Program} (w:World)
theorem ze1 (t tx ty e:TypeId) (i:TypeInfo) (z:Value) (ht:P.underlying t=some (.slice e)) (hu:P.underlying tx=some (.int .i64)) (hi:P.info? e=some i) (hz:i.zero=some z)
  (n:Nat) (hp:0<n * i.size) (h63:(n:Int)<=9223372036854775807) (hb:(n:Int) * i.bytes<=281474976710656) (hfit:Builtin.nextslicecap (0+n) 0 * i.bytes<=281474976710656):
  (Builtin.append_ #[t,tx] ty #[.slice none 0 0,.int .i64 n]).run P w =
   .ok (.slice (some ⟨w.heap.size,0,none⟩) n (grownCap w (0+n) 0 e))
    (w.drew.alloc (.cells (Builtin.zeroCells z.cells n++Builtin.zeroCells z.cells (grownCap w (0+n) 0 e - n)) e)):=by
 have hn:¬ (n<=0):=fun h=>by rw [Nat.le_zero.1 h,Nat.zero_mul] at hp;omega
 have h63':¬ (9223372036854775807<(n:Int)):=by omega
 have h48':¬ (281474976710656<Builtin.nextslicecap (0+n) 0 * i.bytes):=by omega
 have hw:IntKind.i64.wrap (n:Int)=n:=IntWalk.i64_in _ (by omega)
 have hn0:¬ ((n:Int)<0):=by omega
 have hnb:¬ (281474976710656<(n:Int) * i.bytes):=by omega
 have hnz:¬ (n * i.size=0):=by omega
 have hai:(asIntOf (.int .i64 (n:Int))).run P w=.ok (.i64,(n:Int)) w:=rfl;have hmax:¬ (9223372036854775807<max (n:Int) 0):=by omega
 simp only [Nat.zero_add] at h48' ⊢;simp [Builtin.append_,Builtin.firstCells,run_underlying ht,run_underlying hu,asInt,hai,hmax,hw,hn0,hnb,hnz,sizeOf,typeInfo,zeroValue,hi,hz,hn,h63',h48',Question.forced,newRow,grownCap]
 omega
end
theorem zik (n:Nat) (h0:0<n) (hn:n<=1000000) (w:World):∃ (c:Nat) (W1:World),n<=c/\c<=maxLen/\(∀ ty,(Builtin.append_ #[41,3] ty #[.slice none 0 0,.int .i64 n]).run Tryz.prog w=.ok (.slice (some ⟨w.heap.size,0,none⟩) n c) W1) /\
  W1.ownsRow w.heap.size 102 3 (.slice (some ⟨w.heap.size,0,none⟩) 0 c) 0 []/\Below w.heap.size w W1:=by
 obtain ⟨i0,hi0,hz0,hz1,hz2⟩:=info_parts infoStep;have hfit:=growslice_fits (need:=0+n) (old:=0) (bytes:=32) (by omega) (by omega)
 have hA:=fun ty=>ze1 (P:=Tryz.prog) w 41 3 ty 102 i0 _ Tryz.underlying41 Tryz.underlying3 hi0 hz0 n (by rw [hz1];omega) (by omega) (by rw [hz2];omega) (by rw [hz2];exact hfit)
 have hge:=grownCap_ge w (0+n) 0 102;have hle:=grownCap_le_maxLen w (0+n) 0 102 (by unfold maxLen;omega)
 generalize grownCap w (0+n) 0 102=c at *;refine ⟨c,_,by omega,hle,hA,⟨rfl,.inr ⟨w.heap.size,c,_,rfl,Nat.le_refl _,heap_alloc_new w.drew _,Nat.zero_le _,hle,?_,?_⟩⟩,(Below.refl _ _).drew.alloc (Nat.le_refl _) _⟩
 ·rw [Array.size_append,size_zeroCells,size_zeroCells]
  show n * 3+(c - n) * 3=c * 3
  omega
 ·simp
theorem zku (n:Nat) (h0:0<n) (hn:n<=1000000) (w:World):Calls Tryz.prog 126 #[.slice none 0 0,.int .i64 n] w fun e w'=>∃ (g c:Nat),e=.returned (.slice (some ⟨g,0,none⟩) 0 c)/\w'.ownsRow w.heap.size 102 3 (.slice (some ⟨g,0,none⟩) 0 c) 0 []/\Below w.heap.size w w':=by
 obtain ⟨c,W1,hge,hle,hA,hown,hb⟩:=zik n h0 hn w;have HA:=hid hA;have H1:=hid (And.intro hown hb);unfold maxLen at hle;have hw1:IntKind.i64.wrap (n:Int)=n:=IntWalk.i64_in _ (by omega)
 clear hA hown hb;go_enter Tryz.func126,Tryz.ntmps126
 go_wp2_with (at_builtin;refine zct rfl (.tmp 20) (.tmp 21) 41 3 rfl _ _ _ _ rfl rfl (HA.out _) ?_)
 go_ret
 exact ⟨_,_,rfl,H1.out.1,H1.out.2⟩
end Go.Proofs.YthmcfjmignlhfaaGreatDoor
namespace Go.Proofs.YthmcfjmignlhfaaGreatDoor
open Go.Lib(hid)
open Go Go.RowKit Go.Shelf
set_option linter.unusedVariables false
set_option linter.unusedSimpArgs false
def SumRel (w:World) (n:Nat) (t i:Value) (W:World)  :Prop:=w=W/\((i=.int .i64 0/\t=.int .i64 0)\/(i=.int .i64 1/\t=.int .i64 n)\/(i=.int .i64 2/\t=.int .i64 (n+1:Nat)))
def LayRel (w:World) (p:List GStep) (s:GStep) (v i:Value) (W:World):Prop:=∃ (k:Nat) (q:List GStep),i=.int .i64 k/\((k=0/\q=[])\/(k=1/\q=p)\/(k=2/\q=p++[s]))/\W.ownsRow w.heap.size 102 3 v q.length (cellsP q)/\Below w.heap.size w W
theorem zeJ (p A cp) (s:GStep) (b d:Nat) (t:TypeId) (w) (hp:Wy w A cp p) (hl:p.length<=100000) (hb:Whole w b t #[.slice A p.length cp,.slice (some ⟨d,0,none⟩) 1 1]) (hd:Whole w d 102 #[.bool s.list,.int .i64 s.i,.string s.key]):
  Calls Tryz.prog 97 #[.slice (some ⟨b,0,none⟩) 2 2] w fun e w'=>∃ (B:Option Addr) (c:Nat),e=.returned (.slice B (p.length+1) c)/\Wy w' B c (p++[s])/\Below w.heap.size w w':=by
 obtain ⟨i0,hi,hz0,hz1,hz2⟩:=info_parts infoStep;have HI:=hid (And.intro hi (And.intro hz0 (And.intro hz1 hz2)));have HA:=hid (zdw hp).1;have HN:=hid (show ∀ W,Below w.heap.size w W->∀ ad,A=some ad->∀ (j:Nat) (u:Value),(cellsP p)[j]? = some u->W.cell? (ad.add j)=some u from fun W hb ad e j u hj=>by
  obtain ⟨hlt,h⟩:=(zdw hp).2 ad e j u hj;exact (hb.cell (by rw [show (ad.add j).block=ad.block by unfold Addr.add;split<;>rfl];exact hlt)).trans h)
 have HD:=hid (show ∀ W,Below w.heap.size w W->∀ ad,some (⟨d,0,none⟩:Addr)=some ad->∀ (j:Nat) (u:Value),(cellsP [s])[j]? = some u->W.cell? (ad.add j)=some u from fun W hb ad e j u hj=>by
  cases e
  have h:=hd.below hb hd.lt;have e2:(⟨d,0,none⟩:Addr).add j =⟨d,j,none⟩:=by unfold Addr.add;split<;>simp_all
  rw [e2,h.cell j,<- Array.getElem?_toList]
  simpa [cellsP,encG] using hj)
 have HF:=hid (And.intro (zcx p) (And.intro (zdu p) (And.intro (zcx [s]) (zdu [s]))));have HG:=hid (zku (p.length+1) (by omega) (by omega) w)
 have HB:=hid hb;clear hp hi hz0 hz1 hz2 hd hb;go_enter Tryz.func97,Tryz.ntmps97
 go_wp2
 go_loopw [3,11] (SumRel w p.length) (fun _ i _=>2 - (intOf i).toNat)
 case atStart=>exact ⟨rfl,.inl ⟨rfl,rfl⟩⟩
 case round=>
  obtain ⟨hw0,h⟩:=hrel;subst hw0;have b0:=(HB.out.cell 0).trans rfl;have b1:=(HB.out.cell 1).trans rfl;rcases h with ⟨rfl,rfl⟩ | ⟨rfl,rfl⟩ | ⟨rfl,rfl⟩
  ·go_wp2
   go_roundw
   case rel=>exact ⟨rfl,.inr (.inl ⟨by go_num,by go_num⟩)⟩
   case measure=>simp [intOf]
  ·go_wp2
   go_roundw
   case rel=>exact ⟨rfl,.inr (.inr ⟨by go_num,by go_num⟩)⟩
   case measure=>simp [intOf]
  ·clear b0 b1
   go_wp2_with (go_at_call 126;refine HG.out.mono ?_;rintro e w1 ⟨g,c,rfl,ho,hb⟩;have H1:=hid (And.intro ho hb);clear ho hb)
   go_loopw [6,27] (LayRel w p s) (fun _ i _=>2 - (intOf i).toNat)
   case atStart=>exact ⟨0,[],rfl,.inl ⟨rfl,rfl⟩,H1.out.1,H1.out.2⟩
   case round=>
    obtain ⟨k,q,rfl,hq,ho,hb⟩:=hrel;have HO:=hid (And.intro ho hb);have HB2:=HB.out.below hb HB.out.lt;have b0:=(HB2.cell 0).trans rfl;have b1:=(HB2.cell 1).trans rfl;obtain ⟨QA,qc,rfl⟩:=zag ho;clear ho hb HB2;rcases hq with ⟨rfl,rfl⟩ | ⟨rfl,rfl⟩ | ⟨rfl,rfl⟩
    ·go_wp2_with (at_builtin;refine zal _ rfl (.tmp 31) (.tmp 32) 41 rfl w.heap.size 102 i0 _ 3 32 Tryz.underlying41 HI.out.1 HI.out.2.1 HI.out.2.2.1 HI.out.2.2.2 rfl (by decide) _ 0 [] rfl HO.out.1 A p.length cp (cellsP p) rfl HA.out HF.out.1 (HN.out _ HO.out.2) HF.out.2.1 (by unfold maxLen;omega) (by omega) HO.out.2.size ?_;intro v' w2 hown hgrow _;have H2:=hid (And.intro hown (HO.out.2.grown hgrow HO.out.2.size (fun k hk=>(HO.out.1.lt k hk).1)));clear hown hgrow)
     go_roundw
     case rel=>exact ⟨1,p,by go_num,.inr (.inl ⟨rfl,rfl⟩),by have:=H2.out.1;rwa [Nat.zero_add,List.nil_append] at this,H2.out.2⟩
     case measure=>simp [intOf]
    ·go_wp2_with (at_builtin;refine zal _ rfl (.tmp 31) (.tmp 32) 41 rfl w.heap.size 102 i0 _ 3 32 Tryz.underlying41 HI.out.1 HI.out.2.1 HI.out.2.2.1 HI.out.2.2.2 rfl (by decide) _ q.length (cellsP q) rfl HO.out.1 (some ⟨d,0,none⟩) 1 1 (cellsP [s]) rfl (fun h=>by cases h) HF.out.2.2.1 (HD.out _ HO.out.2) HF.out.2.2.2 (by unfold maxLen;omega) (by omega) HO.out.2.size ?_;intro v' w2 hown hgrow _;have H2:=hid (And.intro hown (HO.out.2.grown hgrow HO.out.2.size (fun k hk=>(HO.out.1.lt k hk).1)));clear hown hgrow)
     go_roundw
     case rel=>exact ⟨2,q++[s],by go_num,.inr (.inr ⟨rfl,rfl⟩),by have:=H2.out.1;rw [zdI,List.length_append];simpa [cellsP] using this,H2.out.2⟩
     case measure=>simp [intOf]
    ·obtain ⟨B,c',he,hle,hcm,hst⟩:=zcH HO.out.1
     have HS:=hid (And.intro hle (And.intro hcm hst));cases he
     clear b0 b1 hle hcm hst;go_wp2
     go_ret
     exact ⟨_,_,by rw [List.length_append];rfl,⟨HS.out.2.2,HS.out.1,HS.out.2.1⟩,HO.out.2⟩
end Go.Proofs.YthmcfjmignlhfaaGreatDoor
