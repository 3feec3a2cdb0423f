/- Texts in one: InvW, LawXA, InvX, InvY, LawXE, LawIW. -/
import Derived.Test.YtmmgdkpkcoopgaaGreatDoorP37
import Derived.Test.YtmmgdkpkcoopgaaGreatDoorP35
import Derived.Test.YtmmgdkpkcoopgaaGreatDoorP20
import Derived.Test.YtmmgdkpkcoopgaaGreatDoorP25
import Derived.Test.YtmmgdkpkcoopgaaGreatDoorP13
import Derived.Lib.QuietBelow
import Derived.Test.YtmmgdkpkcoopgaaGreatDoorP23
import Derived.Test.YtmmgdkpkcoopgaaGreatDoorP1
import Derived.WalkKit
import Derived.WalkSpells
import Derived.WalkLawsBesides
import Derived.Lib.Hide
import Derived.Deep.RegionHeld3
import Derived.BigQuiet
import Derived.Deep.QuietTactic
import Derived.Test.YtmmgdkpkcoopgaaGreatDoorP36
set_option maxRecDepth 100000
set_option maxHeartbeats 16000000
namespace Go.Proofs.YtmmgdkpkcoopgaaGreatDoor
open Go.Lib(hid)
open Go Go.RowKit
set_option linter.unusedVariables false
set_option linter.unusedSimpArgs false
def kP (n:Int):GC:=⟨2,[],⟨#[97]⟩,0,0,0,nG n,⟨#[]⟩⟩
def kD:GC:=⟨3,[],⟨#[97]⟩,0,0,0,noG,⟨#[]⟩⟩
def kE:GV:=.mk 5 0 ⟨#[]⟩ [] [] []
theorem zcq (n:Int):(kP n).Sound:=
 ⟨Int.le_refl _,Int.le_refl _,by show valid ⟨#[97]⟩=true;decide +kernel,ze7,⟨⟨by show (1:Int)<=2;decide,by show (2:Int)<=9;decide⟩,⟨.inr (.inr rfl),.inl rfl,.inl rfl,.inr rfl,.inr rfl,.inr zaG⟩,(fun h=>by cases h),(fun h=>by cases h)⟩,⟨zhD n,by show 0+1+(nG n).deep<=16;rw [zmi];omega,by show (nG n).weight<=20000;rw [zdo];omega⟩⟩
theorem zkR:kD.Sound:=
 ⟨Int.le_refl _,Int.le_refl _,by decide +kernel,ze7,⟨⟨by decide,by decide⟩,⟨.inr (.inr rfl),.inr (.inl rfl),.inr (.inr (.inr zbf)),.inr rfl,.inr rfl,.inr zaG⟩,(fun h=>by cases h),(fun h=>by cases h)⟩,⟨zkj,by show 0+1+noG.deep<=16;rw [zko];omega,by show noG.weight<=20000;rw [zia];omega⟩⟩
theorem zhX (n:Int):(kV n).Sound:=by
 have h0:(⟨#[]⟩:ByteArray).toList=[]:=by decide +kernel
 have hk:KeysOk [(⟨#[97]⟩:ByteArray)]:=by
  intro i k hi hk
  match i with
  | 0=>simp at hk;subst hk;exact ⟨by decide +kernel,fun j y hj=>by omega⟩
  | i+1=>simp at hi
 simp [kV,GV.Sound,GV.Sounds,SelfP,h0,zhD,hk]
theorem zls:kE.Sound:=by
 have h0:(⟨#[]⟩:ByteArray).toList=[]:=by decide +kernel
 have hk:KeysOk ([]:List ByteArray):=by
  intro i k hi hk;simp at hi
 simp [kE,GV.Sound,GV.Sounds,SelfP,h0,hk]
theorem zke:kE.weight<=100:=by
 have h0:(⟨#[]⟩:ByteArray).size=0:=rfl;simp [kE,GV.weight,GV.weights,ksum,h0]
theorem zlG (n m:Int):chkH (kV n) (kP m)=0:=by simp [chkH,kV,kP,worksOn,GV.kq]
theorem zlJ (m:Int):chkH kE (kP m)=0:=by simp [chkH,kE,kP,worksOn,GV.kq]
theorem zhR:TurnsTo (kV 1) (kP 2) (kP 1) 0:=
 .inr ⟨kV 1,kP 1,.inr ⟨zcq 2,.inr ⟨kV 1,rfl,(zlG 1 2).symm⟩⟩,zcq 2,rfl,zlG 1 2,.inr (.inr (.inl ⟨rfl,zfq 1,nG 1,by rw [show place (kP 2).key (kV 1).keys=0 from zg8 1];rfl,rfl⟩)),.inl ⟨zcq 1,rfl,rfl⟩⟩
theorem zkp:TurnsTo kE (kP 2) kD 0:=
 .inr ⟨kE,kD,.inr ⟨zcq 2,.inr ⟨kE,rfl,(zlJ 2).symm⟩⟩,zcq 2,rfl,zlJ 2,.inr (.inl ⟨rfl,by show there ⟨#[97]⟩ []=false;decide +kernel,rfl⟩),.inl ⟨zkR,rfl,rfl⟩⟩
theorem zdQ (n:Int):Small (kP n):=⟨by show (nG n).weight<=_;rw [zdo];decide,by show (⟨#[97]⟩:ByteArray).size<=_;decide,by show (⟨#[]⟩:ByteArray).size<=_;decide,fun s hs=>by cases hs⟩
theorem zme {d:GC} {n:Int} (h:TurnsTo (kV 1) (kP 2) d n):n=0:=by
 rcases h with ⟨h0,hn,_⟩ | ⟨x,u,_,_,hget,_,hu,hc⟩
 ·exact absurd (zcg hn (ze2 zhR)) h0
 ·have hx:x=kV 1:=by have:=hget.symm;simpa [kP,GV.get] using this
  subst hx;rcases hc with ⟨_,_,h⟩ | ⟨hus,_,_⟩
  ·exact h
  ·exfalso
   apply hus
   rcases hu with ⟨q,_⟩ | ⟨_,ht,_⟩ | ⟨_,_,g,hg,rfl⟩ | ⟨q,_⟩ | ⟨q,_⟩ | ⟨q,_⟩ | ⟨q,_⟩ | ⟨q,_⟩ | ⟨q,_⟩ | ⟨q,_⟩
   ·exact absurd q (by decide)
   ·rw [show there (kP 2).key (kV 1).keys=true from zfq 1] at ht;cases ht
   ·rw [show place (kP 2).key (kV 1).keys=0 from zg8 1] at hg
    have:g=nG 1:=by simpa [kV,GV.vz] using hg.symm
    subst this;exact zcq 1
   all_goals exact absurd q (by decide)
theorem zgC {g z c} (h:Does1 g c z):z.weight<=3 * g.weight+c.v.weight+c.key.size+c.s.size+10:=by
 obtain ⟨_,x,hget,_,hput⟩:=h;have h1:=zcn _ _ _ hput;have h3:=zas _ _ _ hget;have h4:=za8 x c;omega
theorem zmA {w W:World} (hK:KB w W) (hT:Tabs W):Calls Tryz.prog 14 #[.agg #[.int .u8 5,.int .i64 0,.string ⟨#[]⟩,.slice none 0 0,.slice (some ⟨w.heap.size,0,none⟩) 1 1],.agg #[.int .u8 2,.slice none 0 0,.string ⟨#[97]⟩,.int .i64 0,.int .i64 0,.int .i64 0,.int .u8 2,.int .i64 2,.string ⟨#[]⟩,.slice none 0 0,.slice none 0 0,.string ⟨#[]⟩]] W fun e w'=>∃ B BL BO bp bL bO,e=.returned (.tuple #[.agg #[.int .u8 2,.slice B 0 bp,.string ⟨#[97]⟩,.int .i64 0,.int .i64 0,.int .i64 0,.int .u8 2,.int .i64 1,.string ⟨#[]⟩,.slice BL 0 bL,.slice BO 0 bO,.string ⟨#[]⟩],.int .u16 0])/\Below W.heap.size W w':=
 (zd5 (kV 1) none (some ⟨w.heap.size,0,none⟩) 0 1 (kP 2) (kP 1) 0 none none none 0 0 0 W hK.vl ⟨zdD W,⟨.inl ⟨rfl,rfl⟩,⟨rfl,.inl ⟨rfl,rfl⟩⟩⟩⟩ (by have:=zdc 1;omega) (zdQ 2) hT (by simp [kP,nG,GV.Pos,GV.Poss]) (zhX 1) (fun s hs=>by cases hs) zhR).mono fun e w' ⟨B,BL,BO,bp,bL,bO,he,_,hb⟩=>⟨B,BL,BO,bp,bL,bO,he,hb⟩
theorem zm1 {W:World} (hT:Tabs W):Calls Tryz.prog 14 #[.agg #[.int .u8 5,.int .i64 0,.string ⟨#[]⟩,.slice none 0 0,.slice none 0 0],.agg #[.int .u8 2,.slice none 0 0,.string ⟨#[97]⟩,.int .i64 0,.int .i64 0,.int .i64 0,.int .u8 2,.int .i64 2,.string ⟨#[]⟩,.slice none 0 0,.slice none 0 0,.string ⟨#[]⟩]] W fun e w'=>∃ B BL BO bp bL bO,e=.returned (.tuple #[.agg #[.int .u8 3,.slice B 0 bp,.string ⟨#[97]⟩,.int .i64 0,.int .i64 0,.int .i64 0,.int .u8 0,.int .i64 0,.string ⟨#[]⟩,.slice BL 0 bL,.slice BO 0 bO,.string ⟨#[]⟩],.int .u16 0])/\Below W.heap.size W w':=
 (zd5 kE none none 0 0 (kP 2) kD 0 none none none 0 0 0 W ⟨.inl ⟨rfl,rfl⟩,⟨rfl,.inl ⟨rfl,rfl⟩⟩⟩ ⟨zdD W,⟨.inl ⟨rfl,rfl⟩,⟨rfl,.inl ⟨rfl,rfl⟩⟩⟩⟩ (by have:=zke;omega) (zdQ 2) hT (by simp [kP,nG,GV.Pos,GV.Poss]) zls (fun s hs=>by cases hs) zkp).mono fun e w' ⟨B,BL,BO,bp,bL,bO,he,_,hb⟩=>⟨B,BL,BO,bp,bL,bO,he,hb⟩
theorem zmW {W S} (hS:Whole W S 45 #[.int .u8 2,.slice none 0 0,.string ⟨#[97]⟩,.int .i64 0,.int .i64 0,.int .i64 0,.int .u8 2,.int .i64 2,.string ⟨#[]⟩,.slice none 0 0,.slice none 0 0,.string ⟨#[]⟩]):Ops W (some ⟨S,0,none⟩) 1 [⟨kP 2,none,0,none,0,none,0⟩]:=
 ⟨fun _=>⟨S,0,rfl,hS.lt,fun i e he=>by
  match i with
  | 0=>
   simp at he
   subst he;obtain ⟨c0,c1,c2,c3,c4,c5,c6,c7,c8,c9,c10,c11,_⟩:=hS.tw;exact ⟨⟨c0,c1,c2,c3,c4,c5,c6,c7,c8,c9,c10,c11⟩,⟨zdD W,⟨.inl ⟨rfl,rfl⟩,⟨rfl,.inl ⟨rfl,rfl⟩⟩⟩⟩,zdQ 2⟩
  | i+1=>simp at he⟩,by simp,by decide⟩
theorem zm5:doH (kV 1) (kP 2)=kV 2:=by
 rw [zhl rfl (zfq 1)];show GV.mk 5 0 ⟨#[]⟩ [] [⟨#[97]⟩] ((kV 1).vz.set (place ⟨#[97]⟩ (kV 1).keys) (nG 2))=_
 rw [zg8 1]
 rfl
theorem zne {W:World} (hT:Tabs W):AllDo (kV 1) [⟨kP 2,none,0,none,0,none,0⟩] W:=fun k ds y E hc hE BL BO dL dO W' hb hv=>by
 match k with
 | 0=>
  obtain rfl:y=kV 1:=hc.2;have hE':(⟨kP 2,none,0,none,0,none,0⟩:EC)=E:=by simpa using hE
  subst hE';have hcv:Vl W' (kP 2).v none none 0 0:=⟨.inl ⟨rfl,rfl⟩,⟨rfl,.inl ⟨rfl,rfl⟩⟩⟩;have hh:∀ h,(kV 1).get (kP 2).path=some h->h=kV 1:=fun h hh=>by have:=hh.symm;simpa [kP,GV.get] using this
  exact zmv (kV 1) BL BO dL dO (kP 2) none none none 0 0 0 W' hv ⟨zdD W',hcv⟩ (by have:=zdc 1;omega) (by show (nG 2).weight<=1000000000;rw [zdo];omega) (zgG (by decide)) (zgG (by decide)) (fun s hs=>by cases hs) (hT.below hb (Nat.le_refl _)) (zmy (by decide))
   (fun h hg _ _=>by rw [hh h hg];exact ziU _ _ _ _ _ _ _ _ _ rfl hcv (zfq 1)) (fun h hg _=>by rw [hh h hg,zm5];have:=zdc 2;omega)
 | k+1=>simp at hE
theorem zmM {w W:World} {S} (hK:KB w W) (hS:Whole W S 45 #[.int .u8 2,.slice none 0 0,.string ⟨#[97]⟩,.int .i64 0,.int .i64 0,.int .i64 0,.int .u8 2,.int .i64 2,.string ⟨#[]⟩,.slice none 0 0,.slice none 0 0,.string ⟨#[]⟩]) (hT:Tabs W):Calls Tryz.prog 9 #[.agg #[.int .u8 5,.int .i64 0,.string ⟨#[]⟩,.slice none 0 0,.slice (some ⟨w.heap.size,0,none⟩) 1 1],.slice (some ⟨S,0,none⟩) 1 1] W fun e w'=>∃ b c,e=.returned (.tuple #[.slice (some ⟨b,0,none⟩) 1 c,.int .u16 0])/\Below W.heap.size W w':=by
 refine (zkD (kV 1) none (some ⟨w.heap.size,0,none⟩) 0 1 [⟨kP 2,none,0,none,0,none,0⟩] (some ⟨S,0,none⟩) 1 W hK.vl (zmW hS) ?_ (zhX 1) (fun e he=>?_) hT (zne hT)).mono fun e w' ⟨hb,hc⟩=>?_
 ·intro k ds y hc
  have hw:=zdc 1
  match k with
  | 0=>rw [hc.2];omega
  | k+1=>
   obtain ⟨d,z,dr,_,h2,_,h4⟩:=(show ∃ d z dr,TurnsTo (kV 1) (kP 2) d 0/\Does1 (kV 1) (kP 2) z/\ds=d :: dr/\Came z ([].take k) dr y from hc);rw [List.take_nil] at h4;rw [h4.2];have:=zgC h2;have h1:=(zdQ 2).v;have h3:(kP 2).key.size<=1:=by decide
   have h5:(kP 2).s.size<=1:=by decide
   have h6:(kP 2).v.weight=1:=zdo 2;omega
 ·simp only [List.mem_cons,List.mem_nil_iff,or_false] at he
  subst he;exact ⟨by simp [kP,nG,GV.Pos,GV.Poss],fun s hs=>by cases hs⟩
 ·rcases hc with ⟨h,_⟩ | ⟨_,k,ds,y,E,d,n,h1,h2,h3,h4,_⟩ | ⟨_,fs,ds,y,b,cap,h1,h2,he,_⟩
  ·simp at h
  ·exfalso
   match k with
   | 0=>
    simp at h2
    subst h2;rw [h1.2] at h3;exact h4 (zme h3)
   | k+1=>simp at h2
  ·obtain ⟨d,z,dr,_,_,h5,h6⟩:=h1
   have hl:fs.length=1:=by
    have:=congrArg List.length h2;rw [List.length_map,List.length_reverse,h5,h6.1] at this
    simpa using this
   rw [hl] at he;exact ⟨b,cap,he,hb⟩
theorem zhj (w:World) (hT:Tabs w):Calls Tryz.prog 6 #[] w (TrueBelow w):=by
 have HD1:=hid (fun W (hK:KB w W)=>zmA hK (hT.below hK.below (Nat.le_refl _)))
 have HD2:=hid (fun W (hb:Below w.heap.size w W)=>zm1 (hT.below hb (Nat.le_refl _)))
 have HD3:=hid (fun W S (hK:KB w W) (hS:Whole W S 45 #[.int .u8 2,.slice none 0 0,.string ⟨#[97]⟩,.int .i64 0,.int .i64 0,.int .i64 0,.int .u8 2,.int .i64 2,.string ⟨#[]⟩,.slice none 0 0,.slice none 0 0,.string ⟨#[]⟩])=>zmM hK hS (hT.below hK.below (Nat.le_refl _)))
 have HK0:=hid (KB.start w);have HC0:=hid (fun (W:World)=>Whole.new W 45 #[.int .u8 2,.slice none 0 0,.string ⟨#[97]⟩,.int .i64 0,.int .i64 0,.int .i64 0,.int .u8 2,.int .i64 2,.string ⟨#[]⟩,.slice none 0 0,.slice none 0 0,.string ⟨#[]⟩])
 clear hT;go_enter Tryz.func6,Tryz.ntmps6
 go_wp2_with (first
  | (go_at_call 14;(with_reducible refine (HD1.out _ (HK0.out.later (zaa _ (.cells #[.int .u8 2,.slice none 0 0,.string ⟨#[97]⟩,.int .i64 0,.int .i64 0,.int .i64 0,.int .u8 2,.int .i64 2,.string ⟨#[]⟩,.slice none 0 0,.slice none 0 0,.string ⟨#[]⟩] 45)))).mono ?_);rintro e w1 ⟨B,BL,BO,bp,bL,bO,rfl,hb⟩;have HK1:=hid (((HK0.out.later (zaa _ (.cells #[.int .u8 2,.slice none 0 0,.string ⟨#[97]⟩,.int .i64 0,.int .i64 0,.int .i64 0,.int .u8 2,.int .i64 2,.string ⟨#[]⟩,.slice none 0 0,.slice none 0 0,.string ⟨#[]⟩] 45))).later hb).later (zaa w1 (.cells #[.int .u8 2,.slice B 0 bp,.string ⟨#[97]⟩,.int .i64 0,.int .i64 0,.int .i64 0,.int .u8 2,.int .i64 1,.string ⟨#[]⟩,.slice BL 0 bL,.slice BO 0 bO,.string ⟨#[]⟩] 45)));have HC1:=hid (((HC0.out _).below hb (by simp)).alloc (.cells #[.int .u8 2,.slice B 0 bp,.string ⟨#[97]⟩,.int .i64 0,.int .i64 0,.int .i64 0,.int .u8 2,.int .i64 1,.string ⟨#[]⟩,.slice BL 0 bL,.slice BO 0 bO,.string ⟨#[]⟩] 45));have HX1:=hid (Whole.new w1 45 #[.int .u8 2,.slice B 0 bp,.string ⟨#[97]⟩,.int .i64 0,.int .i64 0,.int .i64 0,.int .u8 2,.int .i64 1,.string ⟨#[]⟩,.slice BL 0 bL,.slice BO 0 bO,.string ⟨#[]⟩]);clear hb;have h1:=HC1.out;simp only [World.size_alloc] at h1;obtain ⟨c0,c1,c2,c3,c4,c5,c6,c7,c8,c9,c10,c11,_⟩:=h1.tw;clear h1)
  | (go_at_call 14;(with_reducible refine (HD2.out _ HK1.out.below).mono ?_);rintro e w2 ⟨D,DL,DO,dp,dL,dO,rfl,hb⟩;have HK2:=hid ((HK1.out.later hb).later (zaa w2 (.cells #[.int .u8 3,.slice D 0 dp,.string ⟨#[97]⟩,.int .i64 0,.int .i64 0,.int .i64 0,.int .u8 0,.int .i64 0,.string ⟨#[]⟩,.slice DL 0 dL,.slice DO 0 dO,.string ⟨#[]⟩] 45)));have HC2:=hid ((HC1.out.below hb HC1.out.lt).alloc (.cells #[.int .u8 3,.slice D 0 dp,.string ⟨#[97]⟩,.int .i64 0,.int .i64 0,.int .i64 0,.int .u8 0,.int .i64 0,.string ⟨#[]⟩,.slice DL 0 dL,.slice DO 0 dO,.string ⟨#[]⟩] 45));have HX2:=hid ((HX1.out.below hb HX1.out.lt).alloc (.cells #[.int .u8 3,.slice D 0 dp,.string ⟨#[97]⟩,.int .i64 0,.int .i64 0,.int .i64 0,.int .u8 0,.int .i64 0,.string ⟨#[]⟩,.slice DL 0 dL,.slice DO 0 dO,.string ⟨#[]⟩] 45));have HY2:=hid (Whole.new w2 45 #[.int .u8 3,.slice D 0 dp,.string ⟨#[97]⟩,.int .i64 0,.int .i64 0,.int .i64 0,.int .u8 0,.int .i64 0,.string ⟨#[]⟩,.slice DL 0 dL,.slice DO 0 dO,.string ⟨#[]⟩]);clear hb c0 c1 c2 c3 c4 c5 c6 c7 c8 c9 c10 c11;have h1:=HC2.out;simp only [World.size_alloc] at h1;obtain ⟨c0,c1,c2,c3,c4,c5,c6,c7,c8,c9,c10,c11,_⟩:=h1.tw;clear h1;obtain ⟨v0,v1,v2,v3,v4,_⟩:=HK2.out.box.five)
  | (go_at_call 9;have hS:=Whole.new (w2.alloc (.cells #[.int .u8 3,.slice D 0 dp,.string ⟨#[97]⟩,.int .i64 0,.int .i64 0,.int .i64 0,.int .u8 0,.int .i64 0,.string ⟨#[]⟩,.slice DL 0 dL,.slice DO 0 dO,.string ⟨#[]⟩] 45)) 45 #[.int .u8 2,.slice none 0 0,.string ⟨#[97]⟩,.int .i64 0,.int .i64 0,.int .i64 0,.int .u8 2,.int .i64 2,.string ⟨#[]⟩,.slice none 0 0,.slice none 0 0,.string ⟨#[]⟩];rw [World.size_alloc] at hS;(with_reducible refine (HD3.out _ _ (HK2.out.later (zaa _ (.cells #[.int .u8 2,.slice none 0 0,.string ⟨#[97]⟩,.int .i64 0,.int .i64 0,.int .i64 0,.int .u8 2,.int .i64 2,.string ⟨#[]⟩,.slice none 0 0,.slice none 0 0,.string ⟨#[]⟩] 45))) hS).mono ?_);rintro e w3 ⟨b,cp,rfl,hb⟩;have HK3:=hid ((HK2.out.later (zaa _ (.cells #[.int .u8 2,.slice none 0 0,.string ⟨#[97]⟩,.int .i64 0,.int .i64 0,.int .i64 0,.int .u8 2,.int .i64 2,.string ⟨#[]⟩,.slice none 0 0,.slice none 0 0,.string ⟨#[]⟩] 45))).later hb);clear hS c0 c1 c2 c3 c4 c5 c6 c7 c8 c9 c10 c11 v0 v1 v2 v3 v4;obtain ⟨x0,x1,x2,x3,x4,x5,x6,x7,x8,x9,x10,x11,_⟩:=((HX2.out.alloc (.cells #[.int .u8 2,.slice none 0 0,.string ⟨#[97]⟩,.int .i64 0,.int .i64 0,.int .i64 0,.int .u8 2,.int .i64 2,.string ⟨#[]⟩,.slice none 0 0,.slice none 0 0,.string ⟨#[]⟩] 45)).below hb (HX2.out.alloc _).lt).tw;obtain ⟨y0,y1,y2,y3,y4,y5,y6,y7,y8,y9,y10,y11,_⟩:=((HY2.out.alloc (.cells #[.int .u8 2,.slice none 0 0,.string ⟨#[97]⟩,.int .i64 0,.int .i64 0,.int .i64 0,.int .u8 2,.int .i64 2,.string ⟨#[]⟩,.slice none 0 0,.slice none 0 0,.string ⟨#[]⟩] 45)).below hb (HY2.out.alloc _).lt).tw;clear hb))
 go_ret
 exact ⟨rfl,HK3.out.below⟩
end Go.Proofs.YtmmgdkpkcoopgaaGreatDoor
namespace Go.Proofs.YtmmgdkpkcoopgaaGreatDoor
open Go.Lib(hid)
open Go Go.RowKit
open Go.Sort (grow)
set_option linter.unusedVariables false
set_option linter.unusedSimpArgs false
structure AB1 (w W:World) (ca:Array Value):Prop where
 a:Whole W w.heap.size 42 ca
 below:Below w.heap.size w W
theorem AB1.new (w:World) (ca:Array Value):AB1 w (w.alloc (.cells ca 42)) ca:=
 ⟨Whole.new w _ ca,zaa w _⟩
theorem AB1.step {w W W':World} {ca:Array Value} (h:AB1 w W ca) (hb:Below W.heap.size W W'):AB1 w W' ca:=
 ⟨h.a.below hb h.a.lt,h.below.trans (hb.mono h.below.size)⟩
theorem AB1.alloc {w W:World} {ca:Array Value} (h:AB1 w W ca) (o:Obj):AB1 w (W.alloc o) ca:=h.step (zaa W o)
theorem znc {g c m} (h:OneG g c m) (hm:¬ m=0):OneG g c 1:=
 ⟨h.len,h.clean,h.v,h.key,h.s,by
  rcases h.fits with e | e
  ·exact absurd e hm
  ·exact .inr ⟨rfl,e.2⟩,h.own⟩
theorem zmj (g GL GO gl go) (x:GAct) (AP ap AD ad w) (hv:Vl w g GL GO gl go) (hg:VOk g) (hx:ActOk w x AP ap AD ad):Calls Tryz.prog 12 #[(vG g GL gl GO go),.agg #[.slice AP x.path.length ap,.int .u8 x.kq,.int .i64 x.i,.int .i64 x.j,.int .i64 x.n,.string x.s,.slice AD x.v.length ad]] w (OneIs g w):=zk2 g GL GO gl go x AP ap AD ad w hv hg.1 (Nat.le_trans hg.2.2.1 (by decide)) hx
end Go.Proofs.YtmmgdkpkcoopgaaGreatDoor
namespace Go.Proofs.YtmmgdkpkcoopgaaGreatDoor
open Go.Lib(hid)
open Go Go.RowKit
open Go.Sort (grow)
set_option linter.unusedVariables false
set_option linter.unusedSimpArgs false
structure CBx (W:World) (b:Nat) (c:GC) (A AL AO:Option Addr) (cp cL cO:Nat):Prop where
 whole:Whole W b 45 #[.int .u8 c.kq,.slice A c.path.length cp,.string c.key,.int .i64 c.i,.int .i64 c.j,.int .i64 c.n,.int .u8 c.v.kq,.int .i64 c.v.num,.string c.v.str,.slice AL c.v.il.length cL,.slice AO c.v.vz.length cO,.string c.s]
 cc:Cc W c A AL AO cp cL cO
theorem CBx.later {W W':World} {b c A AL AO cp cL cO} (h:CBx W b c A AL AO cp cL cO) (hb:Below W.heap.size W W'):CBx W' b c A AL AO cp cL cO:=⟨h.whole.below hb h.whole.lt,h.cc.later hb⟩
theorem CBx.new {W c A AL AO cp cL cO} (h:Cc W c A AL AO cp cL cO):CBx (W.alloc (oC c A cp AL cL AO cO)) W.heap.size c A AL AO cp cL cO:=⟨Whole.new W _ _,h.later (zaa W _)⟩
theorem zmd (W:World) (y:GAct) (AP:Option Addr) (ap:Nat) (AD:Option Addr) (ad:Nat):ActsAt (W.alloc (.cells #[.slice AP y.path.length ap,.int .u8 y.kq,.int .i64 y.i,.int .i64 y.j,.int .i64 y.n,.string y.s,.slice AD y.v.length ad] 42)) W.heap.size [⟨y,AP,ap,AD,ad⟩]:=fun i e he=>by
 match i,he with
 | 0,he=>simp at he;subst he;exact ⟨(Whole.new W _ _).cell 0,(Whole.new W _ _).cell 5,(Whole.new W _ _).cell 6⟩
 | i+1,he=>simp at he
theorem zil {w hi L} {lc:Nat} {ts:List GTok} {y:GAct} {AP ap AD ad} (hT:Toks hi w L ts) (hhi:hi<=w.heap.size) (hcap:ts.length<=lc) (hm:lc<=maxLen) (hy:ActOk w y AP ap AD ad) (W:World) (S:Nat) (h:Below w.heap.size w W) (hS:W.heap.size=S):
  Calls Tryz.prog 5 #[.slice L ts.length lc,.slice (some ⟨S,0,none⟩) 1 1] (W.alloc (.cells #[.slice AP y.path.length ap,.int .u8 y.kq,.int .i64 y.i,.int .i64 y.j,.int .i64 y.n,.string y.s,.slice AD y.v.length ad] 42)) (AnyBool (W.alloc (.cells #[.slice AP y.path.length ap,.int .u8 y.kq,.int .i64 y.i,.int .i64 y.j,.int .i64 y.n,.string y.s,.slice AD y.v.length ad] 42))):=by
 subst hS;exact ziH hi L lc ts [⟨y,AP,ap,AD,ad⟩] W.heap.size 1 _ (hT.keep ((h.alloc h.size _).mono hhi) (Nat.le_refl _)) (Nat.le_trans hhi (h.alloc h.size _).size) hcap hm (zmd W y AP ap AD ad) (by simp) (fun e he=>by
  simp only [List.mem_cons,List.mem_nil_iff,or_false] at he;subst he;exact hy.later (h.alloc h.size _)) (by simp) (by simp)
theorem zlL {g c m} (h:OneG g c m):∀ s∈c.path,s.key.size<=281474976710656:=fun s hs=>by have:=(h.clean s hs).1;omega
theorem zj0 {g c m} (h:OneG g c m):c.v.Pos:=zg2 _ h.v.1
end Go.Proofs.YtmmgdkpkcoopgaaGreatDoor
namespace Go.Proofs.YtmmgdkpkcoopgaaGreatDoor
open Go.Lib(hid)
open Go Go.RowKit
set_option linter.unusedVariables false
set_option linter.unusedSimpArgs false
theorem zi3 {h c d} (hu:Undo h c d):d.path=c.path:=by
 rcases hu with ⟨_,rfl⟩ | ⟨_,_,rfl⟩ | ⟨_,_,_,_,rfl⟩ | ⟨_,_,_,_,rfl⟩ | ⟨_,rfl⟩ | ⟨_,_,_,_,_,rfl⟩ | ⟨_,_,_,_,_,rfl⟩ | ⟨_,rfl⟩ | ⟨_,rfl⟩ | ⟨_,_,_,rfl⟩<;>rfl
theorem zmg {h:GV} {c:GC} (hf:Fit h c):AscB c.s:=by
 have hx:∀ s:ByteArray,AscB (strX++plainB s):=fun s=>zco (fun b hb=>by
  have:b=120:=by simpa [strX] using hb
  subst this
  decide) (zeJ s)
 have he:=zbR;rcases hf with ⟨k,hk,e1,e2,e3,e4,e5⟩ | ⟨hk,e1,e2,e3,⟨k,⟨a,ea,hea⟩,e4,s,es⟩ | ⟨k,es,a,b,ea,eb,h1,h2⟩⟩ | ⟨hk,e1,e2,e3,k,i,j,ek,ei,ej,h4,h7,hchk,hj,hv⟩ | ⟨hk,e1,e2,e3,e4,hvk,hk2⟩
 ·rw [e4];exact he
 ·rw [es];exact hx s
 ·rw [es];exact he
 ·rw [e3];exact he
 ·rw [e4];exact he
theorem ziA {g y:GV} {c d n} (hg:VOk g) (hl:g.Lens) (o:OneG g c 1) (ho:Outc g c y 0) (ht:TurnsTo g c d n):
  n=60\/(n=0/\d.path=c.path/\∃ u,TurnsTo y d u 0/\Outc g u y 0/\u.path=c.path):=by
 obtain ⟨hn,⟨h0,_⟩ | ⟨_,hS,h,hget,hck,hput⟩⟩:=ho
 ·exact absurd rfl h0
 rcases ht with ⟨h0,hn',_⟩ | ⟨h',u,_,_,hget',_,hu,⟨hus,rfl,rfl⟩ | ⟨_,_,h⟩⟩
 ·exact absurd (zcg hn' hn) h0
 ·right
  rw [hget] at hget';cases hget'
  have hf:Fit h c:=by
   rcases o.fits with e | ⟨_,k,hk,hf⟩
   ·exact absurd e (by decide)
   ·rw [hget] at hk
    cases hk
    exact hf
  have hp:=zi3 hu;obtain ⟨hk,v,hv,hvk,hvd,hvs,hvp⟩:=zi8 (zbe _ _ _ hg.1 hget) (zhE (zfw _ _ _ hl hget)) (zml (zg4 _ _ _ hg.2.2.2.1 hget)) (zmg hf) hf hS hck hu;have hgy:y.get d.path=some (doH h c):=by rw [hp];exact zjE _ _ _ hput
  refine ⟨rfl,hp,v,.inr ⟨doH h c,v,.inr ⟨hus,.inr ⟨_,hgy,hk.symm⟩⟩,hus,hgy,hk,hv,.inl ⟨hvs,rfl,rfl⟩⟩,⟨.inr ⟨hvs,.inr ⟨h,by rw [hvp];exact hget,hvk.symm⟩⟩,.inr ⟨rfl,hvs,h,by rw [hvp];exact hget,hvk,by rw [hvp,hvd];exact hput⟩⟩,hvp⟩
 ·exact .inl h
theorem zdq {g y c m n} (o:OneG g c m) (ho:Outc g c y n) (hg:g.weight<=6000):y.weight<=1000000:=by
 obtain ⟨_,⟨_,rfl⟩ | ⟨_,hS,k,h1,h2,h3⟩⟩:=ho
 ·have:=zb1.2.2.1;omega
 ·have h4:=zcn _ _ _ h3
  have h5:=zas _ _ _ h1;have h6:=za8 k c;have h7:=o.v.2.2.1;have h8:=o.key;have h9:=o.s;omega
end Go.Proofs.YtmmgdkpkcoopgaaGreatDoor
namespace Go.Proofs.YtmmgdkpkcoopgaaGreatDoor
open Go.Lib(hid)
open Go Go.RowKit
open Go.Sort (grow)
set_option linter.unusedVariables false
set_option linter.unusedSimpArgs false
theorem zl6 {g c} (h:OneG g c 1) (hg:VOk g):∃ y,Outc g c y 0:=by
 obtain ⟨hS,h1,h2,h3⟩:=zmS h hg.1 hg.2.2.2.1;obtain ⟨y,n,ho⟩:=zjA g c;have h0:=zcg ho.1 (.inr ⟨hS,.inr ⟨h1,h2,h3.symm⟩⟩);rw [h0] at ho;exact ⟨y,ho⟩
end Go.Proofs.YtmmgdkpkcoopgaaGreatDoor
namespace Go.Proofs.YtmmgdkpkcoopgaaGreatDoor
open Go.Lib(hid)
open Go Go.RowKit
open Go.Sort (grow)
set_option linter.unusedVariables false
set_option linter.unusedSimpArgs false
theorem zg5 (hi L) (lc:Nat) (ts:List GTok) (y:GAct) (AP ap AD ad w) (hT:Toks hi w L ts) (hhi:hi<=w.heap.size) (hcap:ts.length<=lc) (hm:lc<=maxLen) (hr:∀ t∈ts,0<=t.k/\t.k<=255/\0<=t.m/\t.m<=255) (hss:∀ t∈ts,t.s.size<=140737488351232) (hy:ActOk w y AP ap AD ad) (hU:Tabs w):
  Calls Tryz.prog 4 #[.slice L ts.length lc,.agg #[.slice AP y.path.length ap,.int .u8 y.kq,.int .i64 y.i,.int .i64 y.j,.int .i64 y.n,.string y.s,.slice AD y.v.length ad]] w (TrueBelow w):=by
 have HHV:=hid (fun (W:World) (S:Nat) (h:Below w.heap.size w W) (hS:W.heap.size=S)=>zil hT hhi hcap hm hy W S h hS)
 have HBU:=hid (fun W (h:Below w.heap.size w W)=>zbF hi L lc ts W hcap hm (Nat.le_trans hhi h.size) (hT.keep (h.mono hhi) (Nat.le_refl _)) hr hss)
 have HKN:=hid (fun W (hb:Below w.heap.size w W)=>zhj W (hU.below hb (Nat.le_refl _)))
 have HTB:=hid (fun W (hb:Below w.heap.size w W)=>hU.below hb (Nat.le_refl _))
 have HON:=hid (fun (g:GV) (GL GO:Option Addr) (gl go:Nat) (W:World) (h:Below w.heap.size w W) (hv:Vl W g GL GO gl go) (hg:VOk g)=>zmj g GL GO gl go y AP ap AD ad W hv hg (hy.later h))
 unfold AnyBool at HHV;unfold BuildA at HBU;unfold OneIs at HON;unfold TrueBelow at HKN;have H0:=hid (AB1.new w #[.slice AP y.path.length ap,.int .u8 y.kq,.int .i64 y.i,.int .i64 y.j,.int .i64 y.n,.string y.s,.slice AD y.v.length ad]);clear hT hhi hcap hm hr hss hy hU;generalize hn:ts.length=n at *;clear hn;go_enter Tryz.func4,Tryz.ntmps4
 obtain ⟨q0,q1,q2,q3,q4,q5,q6⟩:=zal H0.out.a
 go_wp2_with (first
  | (go_at_call 5;(with_reducible refine (HHV.out _ _ H0.out.below ?hsz).mono ?_);(case hsz=>simp);rintro e w1 ⟨bh,rfl,hb⟩;have H1:=hid ((H0.out.alloc (.cells #[.slice AP y.path.length ap,.int .u8 y.kq,.int .i64 y.i,.int .i64 y.j,.int .i64 y.n,.string y.s,.slice AD y.v.length ad] 42)).step hb);clear hb;clear q0 q1 q2 q3 q4 q5 q6)
  | (go_at_call 6;refine (HKN.out _ H1.out.below).mono ?_;rintro e w3 ⟨rfl,hb⟩;have H3:=hid (H1.out.step hb);clear hb)
  | (go_at_call 7;refine (HBU.out _ H3.out.below).mono ?_;rintro e w4 ⟨g,GL,GO,gl,go,rfl,hv,hg,hb⟩;have H4:=hid ((H3.out.step hb).alloc (oV g GL gl GO go));have HG:=hid hg;have V4:=hid (Bx.new (W:=w4) (g:=g) (AL:=GL) (AO:=GO) (cL:=gl) (cO:=go) ⟨hv.1.keep (From.refl _ _) (fun _ _ _=>trivial),hv.2.keep (From.refl _ _) (fun _ _ _=>trivial)⟩);clear hv hg hb;obtain ⟨q0,q1,q2,q3,q4,q5,q6⟩:=zal H4.out.a;obtain ⟨v0,v1,v2,v3,v4⟩:=V4.out.cells)
  | (go_at_call 12;((with_reducible refine (HON.out g GL GO gl go _ H4.out.below V4.out.vl HG.out).mono ?_);rintro e w5 ⟨hb,c,A,AL,AO,cp,cL,cO,m1,rfl,hc,ho⟩;have H5:=hid ((H4.out.step hb).alloc (oC c A cp AL cL AO cO));have V5:=hid ((V4.out.later hb).later (zaa w5 (oC c A cp AL cL AO cO)));have C5:=hid (CBx.new hc);have O5:=hid ho;clear hb hc ho;clear v0 v1 v2 v3 v4 q0 q1 q2 q3 q4 q5 q6;obtain ⟨v0,v1,v2,v3,v4⟩:=V5.out.cells;obtain ⟨c0,c1,c2,c3,c4,c5,c6,c7,c8,c9,c10,c11,_⟩:=C5.out.whole.tw))
  | (go_at_call 13;have ho1:=znc O5.out (by first | assumption | (simpa using ‹(m1 == 0)=false›));obtain ⟨r,ho⟩:=zl6 ho1 HG.out;have HO:=hid ho;have O1:=hid ho1;clear ho ho1;have hgw:g.weight<=1000000:=(by have:=HG.out.2.2.1;omega);have hgs:g.Sound:=HG.out.1;((with_reducible refine (zj7 g GL GO gl go c A AL AO cp cL cO _ V5.out.vl C5.out.cc hgw (zcY O1.out) (zj0 O1.out) hgs (HTB.out _ H5.out.below) HO.out).mono ?_);clear hgw hgs;rintro e w6 ⟨RL,RO,rl,ro,rfl,hv,hb⟩;have H6:=hid ((H5.out.step hb).alloc (oV r RL rl RO ro));have V6:=hid ((V5.out.later hb).later (zaa w6 (oV r RL rl RO ro)));have C6:=hid ((C5.out.later hb).later (zaa w6 (oV r RL rl RO ro)));have R6:=hid (Bx.new hv.vl);clear hv hb;clear v0 v1 v2 v3 v4 c0 c1 c2 c3 c4 c5 c6 c7 c8 c9 c10 c11;obtain ⟨v0,v1,v2,v3,v4⟩:=V6.out.cells;obtain ⟨c0,c1,c2,c3,c4,c5,c6,c7,c8,c9,c10,c11,_⟩:=C6.out.whole.tw;obtain ⟨d,n1,ht⟩:=zeY V6.out.vl c;have T1:=hid ht;have TM:=hid (ziA HG.out (zjX V6.out.vl) O1.out HO.out ht);clear ht))
  | (go_at_call 14;have hgw:g.weight<=1000000:=(by have:=HG.out.2.2.1;omega);have hgs:g.Sound:=HG.out.1;((with_reducible refine (zd5 g GL GO gl go c d n1 A AL AO cp cL cO _ V6.out.vl C6.out.cc hgw (zcY O1.out) (HTB.out _ H6.out.below) (zj0 O1.out) hgs (zlL O1.out) T1.out).mono ?_);clear hgw hgs;rintro e w7 ⟨X,XL,XO,xp,xL,xO,rfl,hv,hb⟩;have H7:=hid ((H6.out.step hb).alloc (oC d X xp XL xL XO xO));have V7:=hid ((V6.out.later hb).later (zaa w7 (oC d X xp XL xL XO xO)));have R7:=hid ((R6.out.later hb).later (zaa w7 (oC d X xp XL xL XO xO)));have X7:=hid (CBx.new hv.cc);clear hv hb;clear v0 v1 v2 v3 v4 c0 c1 c2 c3 c4 c5 c6 c7 c8 c9 c10 c11;obtain ⟨r0,r1,r2,r3,r4⟩:=R7.out.cells;obtain ⟨x0,x1,x2,x3,x4,x5,x6,x7,x8,x9,x10,x11,_⟩:=X7.out.whole.tw))
  | (go_at_call 14;obtain ⟨_,hdp,u,hu1,hu2,hup⟩:=TM.out.resolve_left (by first | omega | (intro h;simp_all));have TU:=hid (And.intro hu1 (And.intro hu2 (And.intro hdp hup)));clear hu1 hu2 hdp hup;have hrw:r.weight<=1000000:=zdq O1.out HO.out HG.out.2.2.1;have hrs:r.Sound:=HO.out.sound HG.out.1;have hgw:g.weight<=1000000:=(by have:=HG.out.2.2.1;omega);have hsd:=zbU HG.out.1 hgw (zcY O1.out) T1.out;((with_reducible refine (zd5 r RL RO rl ro d u 0 X XL XO xp xL xO _ R7.out.vl X7.out.cc hrw hsd.s (HTB.out _ H7.out.below) hsd.pos hrs (by rw [TU.out.2.2.1];exact zlL O1.out) TU.out.1).mono ?_);clear hrw hrs hgw hsd;rintro e w8 ⟨U,UL,UO,up,uL,uO,rfl,hv,hb⟩;have H8:=hid ((H7.out.step hb).alloc (oC u U up UL uL UO uO));have V8:=hid ((V7.out.later hb).later (zaa w8 (oC u U up UL uL UO uO)));have R8:=hid ((R7.out.later hb).later (zaa w8 (oC u U up UL uL UO uO)));have U8:=hid (CBx.new hv.cc);clear hv hb;clear r0 r1 r2 r3 r4 x0 x1 x2 x3 x4 x5 x6 x7 x8 x9 x10 x11;obtain ⟨v0,v1,v2,v3,v4⟩:=V8.out.cells;obtain ⟨u0,u1,u2,u3,u4,u5,u6,u7,u8,u9,u10,u11,_⟩:=U8.out.whole.tw))
  | (go_at_call 13;have hrw:r.weight<=1000000:=zdq O1.out HO.out HG.out.2.2.1;have hrs:r.Sound:=HO.out.sound HG.out.1;have hgw:g.weight<=1000000:=(by have:=HG.out.2.2.1;omega);have hsd:=zbU HG.out.1 hgw (zcY O1.out) T1.out;have hsu:=zbU hrs hrw hsd.s TU.out.1;have hgs:g.Sound:=HG.out.1;((with_reducible refine (zj7 g GL GO gl go u U UL UO up uL uO _ V8.out.vl U8.out.cc hgw hsu.s hsu.pos hgs (HTB.out _ H8.out.below) TU.out.2.1).mono ?_);clear hrw hrs hgw hsd hsu hgs;rintro e w9 ⟨ZL,ZO,zl,zo,rfl,hv,hb⟩;have H9:=hid ((H8.out.step hb).alloc (oV r ZL zl ZO zo));have R9:=hid ((R8.out.later hb).later (zaa w9 (oV r ZL zl ZO zo)));have Z9:=hid (Bx.new hv.vl);clear hv hb;clear v0 v1 v2 v3 v4 u0 u1 u2 u3 u4 u5 u6 u7 u8 u9 u10 u11;obtain ⟨r0,r1,r2,r3,r4⟩:=R9.out.cells;obtain ⟨z0,z1,z2,z3,z4⟩:=Z9.out.cells))
  | (go_at_call 11;have hrw:r.weight<=1000000000:=(by have:=zdq O1.out HO.out HG.out.2.2.1;omega);((with_reducible refine (zmp Z9.out.vl R9.out.vl hrw).mono ?_);clear hrw;rintro e w10 ⟨rfl,hb⟩;have H10:=hid (H9.out.step hb);clear hb)))
 all_goals (go_ret;first | exact ⟨rfl,H10.out.below⟩ | exact ⟨(by have ht:=TM.out;rcases ht with h | h<;>simp_all),H7.out.below⟩ | exact ⟨rfl,H5.out.below⟩ | exact ⟨rfl,H3.out.below⟩)
end Go.Proofs.YtmmgdkpkcoopgaaGreatDoor
