/- Texts in one: InvW, InvX, LawIR. -/
import Derived.Test.YthmcfjmignlhfaaGreatDoorS33
import Derived.Test.YthmcfjmignlhfaaGreatDoorS31
import Derived.Test.YthmcfjmignlhfaaGreatDoorS20
import Derived.Test.YthmcfjmignlhfaaGreatDoorS21
import Derived.Test.YthmcfjmignlhfaaGreatDoorS26
import Derived.Test.YthmcfjmignlhfaaGreatDoorS17
import Derived.Test.YthmcfjmignlhfaaGreatDoorS13
import Derived.Lib.QuietBelow
import Derived.BigQuiet
import Derived.Deep.QuietTactic
set_option maxRecDepth 100000
set_option maxHeartbeats 16000000
namespace Go.Proofs.YthmcfjmignlhfaaGreatDoor
open Go.Lib(hid)
open Go Go.RowKit
set_option linter.unusedVariables false
set_option linter.unusedSimpArgs false
def kP (n:Int):GC:=⟨2,[],⟨#[97]⟩,0,0,0,nG n,⟨#[]⟩⟩
def kD:GC:=⟨3,[],⟨#[97]⟩,0,0,0,noG,⟨#[]⟩⟩
def kE:GV:=.mk 5 0 ⟨#[]⟩ [] [] []
theorem zb1 (n:Int):(kP n).Sound:=
 ⟨Int.le_refl _,Int.le_refl _,by show valid ⟨#[97]⟩=true;decide +kernel,zet,⟨⟨by show (1:Int)<=2;decide,by show (2:Int)<=9;decide⟩,⟨.inr (.inr rfl),.inl rfl,.inl rfl,.inr rfl,.inr rfl,.inr zaH⟩,(fun h=>by cases h),(fun h=>by cases h)⟩,⟨zgR n,by show 0+1+(nG n).deep<=16;rw [zkF];omega,by show (nG n).weight<=20000;rw [zcI];omega⟩⟩
theorem zjs:kD.Sound:=
 ⟨Int.le_refl _,Int.le_refl _,by decide +kernel,zet,⟨⟨by decide,by decide⟩,⟨.inr (.inr rfl),.inr (.inl rfl),.inr (.inr (.inr za2)),.inr rfl,.inr rfl,.inr zaH⟩,(fun h=>by cases h),(fun h=>by cases h)⟩,⟨zil,by show 0+1+noG.deep<=16;rw [zjN];omega,by show noG.weight<=20000;rw [zg8];omega⟩⟩
theorem zg7 (n:Int):(kV n).Sound:=by
 have h0:(⟨#[]⟩:ByteArray).toList=[]:=by decide +kernel
 have hk:KeysOk [(⟨#[97]⟩:ByteArray)]:=by
  intro i k hi hk
  match i with
  | 0=>simp at hk;subst hk;exact ⟨by decide +kernel,fun j y hj=>by omega⟩
  | i+1=>simp at hi
 simp [kV,GV.Sound,GV.Sounds,SelfP,h0,zgR,hk]
theorem zjF:kE.Sound:=by
 have h0:(⟨#[]⟩:ByteArray).toList=[]:=by decide +kernel
 have hk:KeysOk ([]:List ByteArray):=by
  intro i k hi hk;simp at hi
 simp [kE,GV.Sound,GV.Sounds,SelfP,h0,hk]
theorem ziO:kE.weight<=100:=by
 have h0:(⟨#[]⟩:ByteArray).size=0:=rfl;simp [kE,GV.weight,GV.weights,ksum,h0]
theorem zku (n m:Int):chkH (kV n) (kP m)=0:=by simp [chkH,kV,kP,worksOn,GV.kq]
theorem zks (m:Int):chkH kE (kP m)=0:=by simp [chkH,kE,kP,worksOn,GV.kq]
theorem zgT:TurnsTo (kV 1) (kP 2) (kP 1) 0:=
 .inr ⟨kV 1,kP 1,.inr ⟨zb1 2,.inr ⟨kV 1,rfl,(zku 1 2).symm⟩⟩,zb1 2,rfl,zku 1 2,.inr (.inr (.inl ⟨rfl,zey 1,nG 1,by rw [show place (kP 2).key (kV 1).keys=0 from zgm 1];rfl,rfl⟩)),.inl ⟨zb1 1,rfl,rfl⟩⟩
theorem zj4:TurnsTo kE (kP 2) kD 0:=
 .inr ⟨kE,kD,.inr ⟨zb1 2,.inr ⟨kE,rfl,(zks 2).symm⟩⟩,zb1 2,rfl,zks 2,.inr (.inl ⟨rfl,by show there ⟨#[97]⟩ []=false;decide +kernel,rfl⟩),.inl ⟨zjs,rfl,rfl⟩⟩
theorem zdu (n:Int):Small (kP n):=⟨by show (nG n).weight<=_;rw [zcI];decide,by show (⟨#[97]⟩:ByteArray).size<=_;decide,by show (⟨#[]⟩:ByteArray).size<=_;decide,fun s hs=>by cases hs⟩
theorem zkL {d:GC} {n:Int} (h:TurnsTo (kV 1) (kP 2) d n):n=0:=by
 rcases h with ⟨h0,hn,_⟩ | ⟨x,u,_,_,hget,_,hu,hc⟩
 ·exact absurd (zbo hn (zcQ zgT)) h0
 ·have hx:x=kV 1:=by have:=hget.symm;simpa [kP,GV.get] using this
  subst hx;rcases hc with ⟨_,_,h⟩ | ⟨hus,_,_⟩
  ·exact h
  ·exfalso
   apply hus
   rcases hu with ⟨q,_⟩ | ⟨_,ht,_⟩ | ⟨_,_,g,hg,rfl⟩ | ⟨q,_⟩ | ⟨q,_⟩ | ⟨q,_⟩ | ⟨q,_⟩ | ⟨q,_⟩ | ⟨q,_⟩ | ⟨q,_⟩
   ·exact absurd q (by decide)
   ·rw [show there (kP 2).key (kV 1).keys=true from zey 1] at ht;cases ht
   ·rw [show place (kP 2).key (kV 1).keys=0 from zgm 1] at hg
    have:g=nG 1:=by simpa [kV,GV.vz] using hg.symm
    subst this;exact zb1 1
   all_goals exact absurd q (by decide)
theorem zc7 {g z c} (h:Does1 g c z):z.weight<=3 * g.weight+c.v.weight+c.key.size+c.s.size+10:=by
 obtain ⟨_,x,hget,_,hput⟩:=h;have h1:=zc1 _ _ _ hput;have h3:=zaD _ _ _ hget;have h4:=zei x c;omega
theorem zlq {w W:World} (hK:KB w W) (hT:Tabs W):Calls Tryz.prog 18 #[.agg #[.int .u8 5,.int .i64 0,.string ⟨#[]⟩,.slice none 0 0,.slice (some ⟨w.heap.size,0,none⟩) 1 1],.agg #[.int .u8 2,.slice none 0 0,.string ⟨#[97]⟩,.int .i64 0,.int .i64 0,.int .i64 0,.int .u8 2,.int .i64 2,.string ⟨#[]⟩,.slice none 0 0,.slice none 0 0,.string ⟨#[]⟩]] W fun e w'=>∃ B BL BO bp bL bO,e=.returned (.tuple #[.agg #[.int .u8 2,.slice B 0 bp,.string ⟨#[97]⟩,.int .i64 0,.int .i64 0,.int .i64 0,.int .u8 2,.int .i64 1,.string ⟨#[]⟩,.slice BL 0 bL,.slice BO 0 bO,.string ⟨#[]⟩],.int .u16 0])/\Below W.heap.size W w':=
 (zez (kV 1) none (some ⟨w.heap.size,0,none⟩) 0 1 (kP 2) (kP 1) 0 none none none 0 0 0 W hK.vl ⟨zc9 W,⟨.inl ⟨rfl,rfl⟩,⟨rfl,.inl ⟨rfl,rfl⟩⟩⟩⟩ (by have:=zcv 1;omega) (zdu 2) hT (by simp [kP,nG,GV.Pos,GV.Poss]) (zg7 1) (fun s hs=>by cases hs) zgT).mono fun e w' ⟨B,BL,BO,bp,bL,bO,he,_,hb⟩=>⟨B,BL,BO,bp,bL,bO,he,hb⟩
theorem zlv {W:World} (hT:Tabs W):Calls Tryz.prog 18 #[.agg #[.int .u8 5,.int .i64 0,.string ⟨#[]⟩,.slice none 0 0,.slice none 0 0],.agg #[.int .u8 2,.slice none 0 0,.string ⟨#[97]⟩,.int .i64 0,.int .i64 0,.int .i64 0,.int .u8 2,.int .i64 2,.string ⟨#[]⟩,.slice none 0 0,.slice none 0 0,.string ⟨#[]⟩]] W fun e w'=>∃ B BL BO bp bL bO,e=.returned (.tuple #[.agg #[.int .u8 3,.slice B 0 bp,.string ⟨#[97]⟩,.int .i64 0,.int .i64 0,.int .i64 0,.int .u8 0,.int .i64 0,.string ⟨#[]⟩,.slice BL 0 bL,.slice BO 0 bO,.string ⟨#[]⟩],.int .u16 0])/\Below W.heap.size W w':=
 (zez kE none none 0 0 (kP 2) kD 0 none none none 0 0 0 W ⟨.inl ⟨rfl,rfl⟩,⟨rfl,.inl ⟨rfl,rfl⟩⟩⟩ ⟨zc9 W,⟨.inl ⟨rfl,rfl⟩,⟨rfl,.inl ⟨rfl,rfl⟩⟩⟩⟩ (by have:=ziO;omega) (zdu 2) hT (by simp [kP,nG,GV.Pos,GV.Poss]) zjF (fun s hs=>by cases hs) zj4).mono fun e w' ⟨B,BL,BO,bp,bL,bO,he,_,hb⟩=>⟨B,BL,BO,bp,bL,bO,he,hb⟩
theorem zlo {W S} (hS:Whole W S 48 #[.int .u8 2,.slice none 0 0,.string ⟨#[97]⟩,.int .i64 0,.int .i64 0,.int .i64 0,.int .u8 2,.int .i64 2,.string ⟨#[]⟩,.slice none 0 0,.slice none 0 0,.string ⟨#[]⟩]):Ops W (some ⟨S,0,none⟩) 1 [⟨kP 2,none,0,none,0,none,0⟩]:=
 ⟨fun _=>⟨S,0,rfl,hS.lt,fun i e he=>by
  match i with
  | 0=>
   simp at he
   subst he;obtain ⟨c0,c1,c2,c3,c4,c5,c6,c7,c8,c9,c10,c11,_⟩:=hS.tw;exact ⟨⟨c0,c1,c2,c3,c4,c5,c6,c7,c8,c9,c10,c11⟩,⟨zc9 W,⟨.inl ⟨rfl,rfl⟩,⟨rfl,.inl ⟨rfl,rfl⟩⟩⟩⟩,zdu 2⟩
  | i+1=>simp at he⟩,by simp,by decide⟩
theorem zlA:doH (kV 1) (kP 2)=kV 2:=by
 rw [ziT rfl (zey 1)];show GV.mk 5 0 ⟨#[]⟩ [] [⟨#[97]⟩] ((kV 1).vz.set (place ⟨#[97]⟩ (kV 1).keys) (nG 2))=_
 rw [zgm 1]
 rfl
theorem zlD {W:World} (hT:Tabs W):AllDo (kV 1) [⟨kP 2,none,0,none,0,none,0⟩] W:=fun k ds y E hc hE BL BO dL dO W' hb hv=>by
 match k with
 | 0=>
  obtain rfl:y=kV 1:=hc.2;have hE':(⟨kP 2,none,0,none,0,none,0⟩:EC)=E:=by simpa using hE
  subst hE';have hcv:Vl W' (kP 2).v none none 0 0:=⟨.inl ⟨rfl,rfl⟩,⟨rfl,.inl ⟨rfl,rfl⟩⟩⟩;have hh:∀ h,(kV 1).get (kP 2).path=some h->h=kV 1:=fun h hh=>by have:=hh.symm;simpa [kP,GV.get] using this
  exact zix (kV 1) BL BO dL dO (kP 2) none none none 0 0 0 W' hv ⟨zc9 W',hcv⟩ (by have:=zcv 1;omega) (by show (nG 2).weight<=1000000000;rw [zcI];omega) (zfN (by decide)) (zfN (by decide)) (fun s hs=>by cases hs) (hT.below hb (Nat.le_refl _)) (zkH (by decide))
   (fun h hg _ _=>by rw [hh h hg];exact zfb _ _ _ _ _ _ _ _ _ rfl hcv (zey 1)) (fun h hg _=>by rw [hh h hg,zlA];have:=zcv 2;omega)
 | k+1=>simp at hE
theorem zlx {w W:World} {S} (hK:KB w W) (hS:Whole W S 48 #[.int .u8 2,.slice none 0 0,.string ⟨#[97]⟩,.int .i64 0,.int .i64 0,.int .i64 0,.int .u8 2,.int .i64 2,.string ⟨#[]⟩,.slice none 0 0,.slice none 0 0,.string ⟨#[]⟩]) (hT:Tabs W):Calls Tryz.prog 13 #[.agg #[.int .u8 5,.int .i64 0,.string ⟨#[]⟩,.slice none 0 0,.slice (some ⟨w.heap.size,0,none⟩) 1 1],.slice (some ⟨S,0,none⟩) 1 1] W fun e w'=>∃ b c,e=.returned (.tuple #[.slice (some ⟨b,0,none⟩) 1 c,.int .u16 0])/\Below W.heap.size W w':=by
 refine (zg2 (kV 1) none (some ⟨w.heap.size,0,none⟩) 0 1 [⟨kP 2,none,0,none,0,none,0⟩] (some ⟨S,0,none⟩) 1 W hK.vl (zlo hS) ?_ (zg7 1) (fun e he=>?_) hT (zlD hT)).mono fun e w' ⟨hb,hc⟩=>?_
 ·intro k ds y hc
  have hw:=zcv 1
  match k with
  | 0=>rw [hc.2];omega
  | k+1=>
   obtain ⟨d,z,dr,_,h2,_,h4⟩:=(show ∃ d z dr,TurnsTo (kV 1) (kP 2) d 0/\Does1 (kV 1) (kP 2) z/\ds=d :: dr/\Came z ([].take k) dr y from hc);rw [List.take_nil] at h4;rw [h4.2];have:=zc7 h2;have h1:=(zdu 2).v;have h3:(kP 2).key.size<=1:=by decide
   have h5:(kP 2).s.size<=1:=by decide
   have h6:(kP 2).v.weight=1:=zcI 2;omega
 ·simp only [List.mem_cons,List.mem_nil_iff,or_false] at he
  subst he;exact ⟨by simp [kP,nG,GV.Pos,GV.Poss],fun s hs=>by cases hs⟩
 ·rcases hc with ⟨h,_⟩ | ⟨_,k,ds,y,E,d,n,h1,h2,h3,h4,_⟩ | ⟨_,fs,ds,y,b,cap,h1,h2,he,_⟩
  ·simp at h
  ·exfalso
   match k with
   | 0=>
    simp at h2
    subst h2;rw [h1.2] at h3;exact h4 (zkL h3)
   | k+1=>simp at h2
  ·obtain ⟨d,z,dr,_,_,h5,h6⟩:=h1
   have hl:fs.length=1:=by
    have:=congrArg List.length h2;rw [List.length_map,List.length_reverse,h5,h6.1] at this
    simpa using this
   rw [hl] at he;exact ⟨b,cap,he,hb⟩
theorem zgd (w:World) (hT:Tabs w):Calls Tryz.prog 10 #[] w (TrueBelow w):=by
 have HD1:=hid (fun W (hK:KB w W)=>zlq hK (hT.below hK.below (Nat.le_refl _)))
 have HD2:=hid (fun W (hb:Below w.heap.size w W)=>zlv (hT.below hb (Nat.le_refl _)))
 have HD3:=hid (fun W S (hK:KB w W) (hS:Whole W S 48 #[.int .u8 2,.slice none 0 0,.string ⟨#[97]⟩,.int .i64 0,.int .i64 0,.int .i64 0,.int .u8 2,.int .i64 2,.string ⟨#[]⟩,.slice none 0 0,.slice none 0 0,.string ⟨#[]⟩])=>zlx hK hS (hT.below hK.below (Nat.le_refl _)))
 have HK0:=hid (KB.start w);have HC0:=hid (fun (W:World)=>Whole.new W 48 #[.int .u8 2,.slice none 0 0,.string ⟨#[97]⟩,.int .i64 0,.int .i64 0,.int .i64 0,.int .u8 2,.int .i64 2,.string ⟨#[]⟩,.slice none 0 0,.slice none 0 0,.string ⟨#[]⟩])
 clear hT;go_enter Tryz.func10,Tryz.ntmps10
 go_wp2_with (first
  | (go_at_call 18;(with_reducible refine (HD1.out _ (HK0.out.later (zaa _ (.cells #[.int .u8 2,.slice none 0 0,.string ⟨#[97]⟩,.int .i64 0,.int .i64 0,.int .i64 0,.int .u8 2,.int .i64 2,.string ⟨#[]⟩,.slice none 0 0,.slice none 0 0,.string ⟨#[]⟩] 48)))).mono ?_);rintro e w1 ⟨B,BL,BO,bp,bL,bO,rfl,hb⟩;have HK1:=hid (((HK0.out.later (zaa _ (.cells #[.int .u8 2,.slice none 0 0,.string ⟨#[97]⟩,.int .i64 0,.int .i64 0,.int .i64 0,.int .u8 2,.int .i64 2,.string ⟨#[]⟩,.slice none 0 0,.slice none 0 0,.string ⟨#[]⟩] 48))).later hb).later (zaa w1 (.cells #[.int .u8 2,.slice B 0 bp,.string ⟨#[97]⟩,.int .i64 0,.int .i64 0,.int .i64 0,.int .u8 2,.int .i64 1,.string ⟨#[]⟩,.slice BL 0 bL,.slice BO 0 bO,.string ⟨#[]⟩] 48)));have HC1:=hid (((HC0.out _).below hb (by simp)).alloc (.cells #[.int .u8 2,.slice B 0 bp,.string ⟨#[97]⟩,.int .i64 0,.int .i64 0,.int .i64 0,.int .u8 2,.int .i64 1,.string ⟨#[]⟩,.slice BL 0 bL,.slice BO 0 bO,.string ⟨#[]⟩] 48));have HX1:=hid (Whole.new w1 48 #[.int .u8 2,.slice B 0 bp,.string ⟨#[97]⟩,.int .i64 0,.int .i64 0,.int .i64 0,.int .u8 2,.int .i64 1,.string ⟨#[]⟩,.slice BL 0 bL,.slice BO 0 bO,.string ⟨#[]⟩]);clear hb;have h1:=HC1.out;simp only [World.size_alloc] at h1;obtain ⟨c0,c1,c2,c3,c4,c5,c6,c7,c8,c9,c10,c11,_⟩:=h1.tw;clear h1)
  | (go_at_call 18;(with_reducible refine (HD2.out _ HK1.out.below).mono ?_);rintro e w2 ⟨D,DL,DO,dp,dL,dO,rfl,hb⟩;have HK2:=hid ((HK1.out.later hb).later (zaa w2 (.cells #[.int .u8 3,.slice D 0 dp,.string ⟨#[97]⟩,.int .i64 0,.int .i64 0,.int .i64 0,.int .u8 0,.int .i64 0,.string ⟨#[]⟩,.slice DL 0 dL,.slice DO 0 dO,.string ⟨#[]⟩] 48)));have HC2:=hid ((HC1.out.below hb HC1.out.lt).alloc (.cells #[.int .u8 3,.slice D 0 dp,.string ⟨#[97]⟩,.int .i64 0,.int .i64 0,.int .i64 0,.int .u8 0,.int .i64 0,.string ⟨#[]⟩,.slice DL 0 dL,.slice DO 0 dO,.string ⟨#[]⟩] 48));have HX2:=hid ((HX1.out.below hb HX1.out.lt).alloc (.cells #[.int .u8 3,.slice D 0 dp,.string ⟨#[97]⟩,.int .i64 0,.int .i64 0,.int .i64 0,.int .u8 0,.int .i64 0,.string ⟨#[]⟩,.slice DL 0 dL,.slice DO 0 dO,.string ⟨#[]⟩] 48));have HY2:=hid (Whole.new w2 48 #[.int .u8 3,.slice D 0 dp,.string ⟨#[97]⟩,.int .i64 0,.int .i64 0,.int .i64 0,.int .u8 0,.int .i64 0,.string ⟨#[]⟩,.slice DL 0 dL,.slice DO 0 dO,.string ⟨#[]⟩]);clear hb c0 c1 c2 c3 c4 c5 c6 c7 c8 c9 c10 c11;have h1:=HC2.out;simp only [World.size_alloc] at h1;obtain ⟨c0,c1,c2,c3,c4,c5,c6,c7,c8,c9,c10,c11,_⟩:=h1.tw;clear h1;obtain ⟨v0,v1,v2,v3,v4,_⟩:=HK2.out.box.five)
  | (go_at_call 13;have hS:=Whole.new (w2.alloc (.cells #[.int .u8 3,.slice D 0 dp,.string ⟨#[97]⟩,.int .i64 0,.int .i64 0,.int .i64 0,.int .u8 0,.int .i64 0,.string ⟨#[]⟩,.slice DL 0 dL,.slice DO 0 dO,.string ⟨#[]⟩] 48)) 48 #[.int .u8 2,.slice none 0 0,.string ⟨#[97]⟩,.int .i64 0,.int .i64 0,.int .i64 0,.int .u8 2,.int .i64 2,.string ⟨#[]⟩,.slice none 0 0,.slice none 0 0,.string ⟨#[]⟩];rw [World.size_alloc] at hS;(with_reducible refine (HD3.out _ _ (HK2.out.later (zaa _ (.cells #[.int .u8 2,.slice none 0 0,.string ⟨#[97]⟩,.int .i64 0,.int .i64 0,.int .i64 0,.int .u8 2,.int .i64 2,.string ⟨#[]⟩,.slice none 0 0,.slice none 0 0,.string ⟨#[]⟩] 48))) hS).mono ?_);rintro e w3 ⟨b,cp,rfl,hb⟩;have HK3:=hid ((HK2.out.later (zaa _ (.cells #[.int .u8 2,.slice none 0 0,.string ⟨#[97]⟩,.int .i64 0,.int .i64 0,.int .i64 0,.int .u8 2,.int .i64 2,.string ⟨#[]⟩,.slice none 0 0,.slice none 0 0,.string ⟨#[]⟩] 48))).later hb);clear hS c0 c1 c2 c3 c4 c5 c6 c7 c8 c9 c10 c11 v0 v1 v2 v3 v4;obtain ⟨x0,x1,x2,x3,x4,x5,x6,x7,x8,x9,x10,x11,_⟩:=((HX2.out.alloc (.cells #[.int .u8 2,.slice none 0 0,.string ⟨#[97]⟩,.int .i64 0,.int .i64 0,.int .i64 0,.int .u8 2,.int .i64 2,.string ⟨#[]⟩,.slice none 0 0,.slice none 0 0,.string ⟨#[]⟩] 48)).below hb (HX2.out.alloc _).lt).tw;obtain ⟨y0,y1,y2,y3,y4,y5,y6,y7,y8,y9,y10,y11,_⟩:=((HY2.out.alloc (.cells #[.int .u8 2,.slice none 0 0,.string ⟨#[97]⟩,.int .i64 0,.int .i64 0,.int .i64 0,.int .u8 2,.int .i64 2,.string ⟨#[]⟩,.slice none 0 0,.slice none 0 0,.string ⟨#[]⟩] 48)).below hb (HY2.out.alloc _).lt).tw;clear hb))
 go_ret
 exact ⟨rfl,HK3.out.below⟩
end Go.Proofs.YthmcfjmignlhfaaGreatDoor
namespace Go.Proofs.YthmcfjmignlhfaaGreatDoor
open Go.Lib(hid)
open Go Go.RowKit
open Go.Sort (grow)
set_option linter.unusedVariables false
set_option linter.unusedSimpArgs false
theorem zhS (ps:List GStep):samePB ps ps=true:=by
 unfold samePB;rw [Lib.allEq_all sameStep ps ps rfl (fun j _=>by simp [sameStep])]
 simp
theorem zjR (c:GC):c.Same c:=⟨rfl,rfl,rfl,rfl,rfl,rfl,zhS _,zdN _⟩
structure CBx (W:World) (b:Nat) (c:GC) (A AL AO:Option Addr) (cp cL cO:Nat):Prop where
 whole:Whole W b 48 #[.int .u8 c.kq,.slice A c.path.length cp,.string c.key,.int .i64 c.i,.int .i64 c.j,.int .i64 c.n,.int .u8 c.v.kq,.int .i64 c.v.num,.string c.v.str,.slice AL c.v.il.length cL,.slice AO c.v.vz.length cO,.string c.s]
 cc:Cc W c A AL AO cp cL cO
theorem CBx.later {W W':World} {b c A AL AO cp cL cO} (h:CBx W b c A AL AO cp cL cO) (hb:Below W.heap.size W W'):CBx W' b c A AL AO cp cL cO:=⟨h.whole.below hb h.whole.lt,h.cc.later hb⟩
theorem CBx.new {W c A AL AO cp cL cO} (h:Cc W c A AL AO cp cL cO):CBx (W.alloc (.cells #[.int .u8 c.kq,.slice A c.path.length cp,.string c.key,.int .i64 c.i,.int .i64 c.j,.int .i64 c.n,.int .u8 c.v.kq,.int .i64 c.v.num,.string c.v.str,.slice AL c.v.il.length cL,.slice AO c.v.vz.length cO,.string c.s] 48)) W.heap.size c A AL AO cp cL cO:=⟨Whole.new W _ _,h.later (zaa W _)⟩
theorem zjx {W c A AL AO A' AL' AO' cp cL cO cp' cL' cO'} (h:Cc W c A AL AO cp cL cO) (h':Cc W c A' AL' AO' cp' cL' cO') (hw:c.v.weight<=1000000000):
  Calls Tryz.prog 21 #[.agg #[.int .u8 c.kq,.slice A c.path.length cp,.string c.key,.int .i64 c.i,.int .i64 c.j,.int .i64 c.n,.int .u8 c.v.kq,.int .i64 c.v.num,.string c.v.str,.slice AL c.v.il.length cL,.slice AO c.v.vz.length cO,.string c.s],.agg #[.int .u8 c.kq,.slice A' c.path.length cp',.string c.key,.int .i64 c.i,.int .i64 c.j,.int .i64 c.n,.int .u8 c.v.kq,.int .i64 c.v.num,.string c.v.str,.slice AL' c.v.il.length cL',.slice AO' c.v.vz.length cO',.string c.s]] W fun e w'=>e=.returned (.bool true)/\Below W.heap.size W w':=
 (ziz c c A AL AO A' AL' AO' cp cL cO cp' cL' cO' W h h' hw hw).mono fun e w' ⟨b,he,hb,hw'⟩=>⟨by rw [he,hb.2 (zjR c)],hw'⟩
def CompQ (x:GB) (W:World) (e:Ending) (w':World):Prop:=
 ∃ (c:GC) (A AL AO:Option Addr) (cp cL cO:Nat),e=.returned (.agg #[.int .u8 c.kq,.slice A c.path.length cp,.string c.key,.int .i64 c.i,.int .i64 c.j,.int .i64 c.n,.int .u8 c.v.kq,.int .i64 c.v.num,.string c.v.str,.slice AL c.v.il.length cL,.slice AO c.v.vz.length cO,.string c.s])/\Cc w' c A AL AO cp cL cO/\Small c/\c.v.Pos/\(∀ s∈c.path,s.key.size<=281474976710656)/\c.key.size+c.s.size=x.key.size+x.s.size/\Below W.heap.size W w'
theorem zla (x:GB) (B bap D dap w) (hx:BareOk2 w x B bap D dap) (hs:x.key.size+x.s.size+tot x.v<=1048576):
  Calls Tryz.prog 17 #[.agg #[.int .u8 x.kq,.slice B x.path.length bap,.string x.key,.int .i64 x.i,.int .i64 x.j,.int .i64 x.n,.string x.s,.slice D x.v.length dap]] w (CompQ x w):=
 (zjM x B bap D dap w hx.path hx.toks hx.cap.1 hx.cap.2 hx.len hx.rng).mono fun e w' ⟨ga,XL,XO,xl,xo,he,hwa,hpa,hca,hb⟩=>⟨x.comp ga,B,XL,XO,bap,xl,xo,he,hca,⟨by show ga.weight<=2200000;omega,by show x.key.size<=2200000;omega,by show x.s.size<=2200000;omega,fun s hs=>by have:=hx.keys s hs;omega⟩,hpa,fun s hs=>by have:=hx.keys s hs;omega,rfl,hb⟩
end Go.Proofs.YthmcfjmignlhfaaGreatDoor
namespace Go.Proofs.YthmcfjmignlhfaaGreatDoor
open Go.Lib(hid)
open Go Go.RowKit
open Go.Sort (grow)
set_option linter.unusedVariables false
set_option linter.unusedSimpArgs false
theorem zin (w:World):Calls Tryz.prog 28 #[.slice none 0 0] w (IntBelow w):=by
 go_enter Tryz.func28,Tryz.ntmps28
 go_wp2
 go_loopw [3,4] (HARel w 0) (fun _ i _=>0 - (intOf i).toNat)
 case atStart=>exact ⟨0,0,rfl,rfl,Nat.zero_le _,Below.refl _ _⟩
 case round=>
  obtain ⟨k,z,rfl,rfl,hk,hB⟩:=hrel;obtain rfl:k=0:=by omega
  go_wp2
  go_ret
  exact ⟨_,rfl,hB⟩
theorem zhO (hi A) (cap:Nat) (ts:List GTok) (w) (hT:Toks hi w A ts) (hhi:hi<=w.heap.size) (hcap:ts.length<=cap) (hm:cap<=maxLen):
  Calls Tryz.prog 9 #[.slice A ts.length cap,.slice none 0 0] w (AnyBool w):=by
 have HTS:=hid hT;have HES:=hid (zin w);have HHI:=hid hhi;unfold maxLen at hm;clear hT hhi;generalize hnn:ts.length=n at *;have HN:=hid hnn;clear hnn;go_enter Tryz.func9,Tryz.ntmps9
 go_wp2
 go_loopw [5,6] (fun a i wr=>wr=w/\HARel w n a i wr) (fun _ i _=>n - (intOf i).toNat)
 case atStart=>exact ⟨rfl,0,0,rfl,rfl,Nat.zero_le _,Below.refl _ _⟩
 case round=>
  obtain ⟨rfl,k,z,rfl,rfl,hk,_⟩:=hrel;by_cases hlt:k<n
  ·have hke:k<ts.length:=by have:=HN.out;omega
   obtain ⟨⟨ab,ao,_⟩,rfl,rfl,hl3,hcs⟩:=HTS.out (by intro e;simp [e] at hke)
   have hc2:=(hcs k ts[k] (List.getElem?_eq_getElem hke)).2.2.1;simp only at hc2 hl3;clear hcs;generalize ts[k].s=sk at *;go_wp2
   go_roundw
   case rel=>exact ⟨by first | exact trivial | rfl,k+1,_,by go_num,rfl,by omega,Below.refl _ _⟩
   case measure=>simp [intOf];omega
  ·by_cases hz:2000<z
   ·go_wp2
    go_ret
    exact ⟨_,rfl,Below.refl _ _⟩
   ·go_wp2_with (go_at_call 28;refine HES.out.mono ?_;rintro e w1 ⟨z1,rfl,hb⟩;have H1:=hid hb;clear hb)
    go_ret
    exact ⟨_,rfl,H1.out⟩
theorem zjI {W X XL XO xp xL xO} (h:Cc W noC X XL XO xp xL xO):
  Calls Tryz.prog 21 #[.agg #[.int .u8 0,.slice X 0 xp,.string ⟨#[]⟩,.int .i64 0,.int .i64 0,.int .i64 0,.int .u8 0,.int .i64 0,.string ⟨#[]⟩,.slice XL 0 xL,.slice XO 0 xO,.string ⟨#[]⟩],.agg #[.int .u8 0,.slice none 0 0,.string ⟨#[]⟩,.int .i64 0,.int .i64 0,.int .i64 0,.int .u8 0,.int .i64 0,.string ⟨#[]⟩,.slice none 0 0,.slice none 0 0,.string ⟨#[]⟩]] W fun e w'=>e=.returned (.bool true)/\Below W.heap.size W w':=by
 have h2:=zjx h (zlf W) (by have:=zlr.2.2.1;show noG.weight<=_;omega)
 simp only [noC,noG,GV.kq,GV.num,GV.str,GV.il,GV.vz,List.length_nil] at h2;exact h2
theorem zji (va:Array Value) (A:Option Addr) (n cap:Nat) (w:World) (hv:va.size=5) (hn:200<n) (hm:n<=1000):
  Calls Tryz.prog 13 #[.agg va,.slice A n cap] w fun e w'=>e=.returned (.tuple #[.slice none 0 0,.int .u16 3])/\Below w.heap.size w w':=by
 obtain ⟨l⟩:=va
 match l,hv with
 | [a0,a1,a2,a3,a4],_=>
  go_enter_defers Tryz.func13,Tryz.ntmps13
  go_wp2
  simp [bodyPostD,Leaves,settle,results,Tryz.results13,go_sem]
  exact ((Below.refl _ _).alloc (Nat.le_refl _) _).alloc (by simp) _
theorem zk5 (g GL GO gl go) (c:GC) (A AL AO cp cL cO S w) (hg:Vl w g GL GO gl go) (hS:Whole w S 48 #[.int .u8 c.kq,.slice A c.path.length cp,.string c.key,.int .i64 c.i,.int .i64 c.j,.int .i64 c.n,.int .u8 c.v.kq,.int .i64 c.v.num,.string c.v.str,.slice AL c.v.il.length cL,.slice AO c.v.vz.length cO,.string c.s]) (hc:Cc w c A AL AO cp cL cO) (hgw:g.weight<=6000) (hm:Small c) (hpos:c.v.Pos) (hpk:∀ s∈c.path,s.key.size<=281474976710656) (hks:c.key.size+c.s.size<=500) (hgs:g.Sound) (hT:Tabs w) (m) (hmc:ChkIs g c m):
  Calls Tryz.prog 13 #[.agg #[.int .u8 g.kq,.int .i64 g.num,.string g.str,.slice GL g.il.length gl,.slice GO g.vz.length go],.slice (some ⟨S,0,none⟩) 1 1] w fun e w'=>∃ (B:Option Addr) (k bp:Nat) (n2:Int),e=.returned (.tuple #[.slice B k bp,.int .u16 n2])/\(m≠0->n2=m/\k=0)/\Below w.heap.size w w':=by
 have hops:Ops w (some ⟨S,0,none⟩) 1 [⟨c,A,cp,AL,cL,AO,cO⟩]:=⟨fun _=>⟨S,0,rfl,hS.lt,fun i e he=>by
  match i with
  | 0=>
   simp at he
   subst he;obtain ⟨c0,c1,c2,c3,c4,c5,c6,c7,c8,c9,c10,c11,_⟩:=hS.tw;exact ⟨⟨c0,c1,c2,c3,c4,c5,c6,c7,c8,c9,c10,c11⟩,hc,hm⟩
  | i+1=>simp at he⟩,by simp,by decide⟩
 refine (zkO g GL GO gl go [⟨c,A,cp,AL,cL,AO,cO⟩] (some ⟨S,0,none⟩) 1 w hg hops ?_ hgs (fun e he=>?_) hT).mono fun e w' ⟨hb,hq⟩=>?_
 ·intro k ds y hq
  match k with
  | 0=>rw [hq.2];omega
  | k+1=>
   obtain ⟨d,z,dr,_,h2,_,h4⟩:=(show ∃ d z dr,TurnsTo g c d 0/\Does1 g c z/\ds=d :: dr/\Came z ([].take k) dr y from hq);rw [List.take_nil] at h4;rw [h4.2];have h1:=zc7 h2;have h3:c.v.weight<=20000:=by
    rcases h2.1 with ⟨_,e⟩ | ⟨hS,_⟩
    ·exact absurd e (by decide)
    ·exact hS.2.2.2.2.2.2.2
   omega
 ·simp only [List.mem_cons,List.mem_nil_iff,or_false] at he
  subst he;exact ⟨hpos,hpk⟩
 ·rcases hq with ⟨h,_⟩ | ⟨_,k,ds,y,E,d,n,h1,h2,h3,h4,he⟩ | ⟨_,fs,ds,y,b,cap,h1,h2,he,_⟩
  ·simp at h
  ·refine ⟨none,0,0,n,he,fun h0=>⟨?_,rfl⟩,hb⟩
   match k with
   | 0=>
    simp at h2
    subst h2;rw [h1.2] at h3;rcases h3 with ⟨_,h5,_⟩ | ⟨_,_,h5,_⟩
    ·exact zbo h5 hmc
    ·exact absurd (zbo hmc h5) h0
   | k+1=>simp at h2
  ·obtain ⟨d,z,dr,h3,_,_,_⟩:=h1
   exact ⟨_,_,_,0,he,fun h0=>absurd (zbo hmc (zcQ h3)) h0,hb⟩
def LRel (w:World) (N:Nat) (v i:Value) (wr:World):Prop:=∃ (k:Nat) (xs:List Value),i=.int .i64 k/\k<=N/\wr.ownsRow w.heap.size 48 12 v k xs/\Below w.heap.size w wr
theorem zeA (hi L) (lc:Nat) (ts:List GTok) (x:GB) (B bap D dap) (nn:Int) (w) (hT:Toks hi w L ts) (hhi:hi<=w.heap.size) (hcap:ts.length<=lc) (hm:lc<=maxLen) (hr:∀ t∈ts,0<=t.k/\t.k<=255/\0<=t.m/\t.m<=255) (hss:∀ t∈ts,t.s.size<=140737488351232) (hx:BareOk2 w x B bap D dap) (hsz:x.key.size+x.s.size+tot x.v<=1048576) (hnn:0<=nn/\nn<=65535) (hU:Tabs w):
  Calls Tryz.prog 8 #[.slice L ts.length lc,.agg #[.int .u8 x.kq,.slice B x.path.length bap,.string x.key,.int .i64 x.i,.int .i64 x.j,.int .i64 x.n,.string x.s,.slice D x.v.length dap],.int .u16 nn] w (TrueBelow w):=by
 have HHV:=hid (fun (W:World) (h:Below w.heap.size w W)=>zhO hi L lc ts W (hT.keep (h.mono hhi) (Nat.le_refl _)) (Nat.le_trans hhi h.size) hcap hm)
 have HBU:=hid (fun W (h:Below w.heap.size w W)=>zkw hi L lc ts W hcap hm (Nat.le_trans hhi h.size) (hT.keep (h.mono hhi) (Nat.le_refl _)) hr hss)
 have HKN:=hid (fun W (hb:Below w.heap.size w W)=>zgd W (hU.below hb (Nat.le_refl _)))
 have HTB:=hid (fun W (hb:Below w.heap.size w W)=>hU.below hb (Nat.le_refl _))
 have HCO:=hid (fun (W:World) (h:Below w.heap.size w W)=>zla x B bap D dap W (hx.later h) hsz)
 unfold AnyBool at HHV;unfold BuildA at HBU;unfold CompQ at HCO;unfold TrueBelow at HKN;have hk1:x.key.size<=1048576:=by omega
 have hs1:x.s.size<=1048576:=by omega
 have hnn0:=hnn;obtain ⟨q,hq,hq50⟩:∃ q:Nat,nn.tmod 50=q/\q<50:=⟨(nn.tmod 50).toNat,by rw [Int.tmod_eq_emod_of_nonneg hnn.1];omega,by rw [Int.tmod_eq_emod_of_nonneg hnn.1];omega⟩
 have hwq:IntKind.u16.wrap (q:Int)=q:=by have:IntKind.u16.wrap (q:Int)=(q:Int) % 65536:=rfl;omega
 have hwq2:IntKind.i64.wrap (q:Int)=q:=IntWalk.i64_in _ (by omega)
 have H0:=hid (BB1.new w #[.int .u8 x.kq,.slice B x.path.length bap,.string x.key,.int .i64 x.i,.int .i64 x.j,.int .i64 x.n,.string x.s,.slice D x.v.length dap]);clear hT hhi hcap hm hr hss hx hsz hU hnn hnn0;generalize hn:ts.length=n at *;clear hn;go_enter Tryz.func8,Tryz.ntmps8
 obtain ⟨p0,p1,p2,p3,p4,p5,p6,p7⟩:=zcU H0.out.a
 go_wp2_with (first
  | (go_at_call 9;refine (HHV.out _ H0.out.below).mono ?_;rintro e w1 ⟨bh,rfl,hb⟩;have H1:=hid (H0.out.step hb);clear hb;clear p0 p1 p2 p3 p4 p5 p6 p7;obtain ⟨p0,p1,p2,p3,p4,p5,p6,p7⟩:=zcU H1.out.a)
  | (go_at_call 10;refine (HKN.out _ H1.out.below).mono ?_;rintro e w3 ⟨rfl,hb⟩;have H3:=hid (H1.out.step hb);clear hb;clear p0 p1 p2 p3 p4 p5 p6 p7)
  | (go_at_call 11;refine (HBU.out _ H3.out.below).mono ?_;rintro e w4 ⟨g,GL,GO,gl,go,rfl,hv,hg,hb⟩;have H4:=hid ((H3.out.step hb).alloc (.cells #[.int .u8 g.kq,.int .i64 g.num,.string g.str,.slice GL g.il.length gl,.slice GO g.vz.length go] 29));have HG:=hid hg;have V4:=hid (Bx.new (W:=w4) (g:=g) (AL:=GL) (AO:=GO) (cL:=gl) (cO:=go) ⟨hv.1.keep (From.refl _ _) (fun _ _ _=>trivial),hv.2.keep (From.refl _ _) (fun _ _ _=>trivial)⟩);clear hv hg hb;obtain ⟨p0,p1,p2,p3,p4,p5,p6,p7⟩:=zcU H4.out.a)
  | (go_at_call 17;have h500:x.key.size+x.s.size<=500:=(by first | omega | (simp at *;omega));((with_reducible refine (HCO.out _ H4.out.below).mono ?_);rintro e w5 ⟨c,A,AL,AO,cp,cL,cO,rfl,hc,hs,hpos,hpk,hks,hb⟩;have H5:=hid ((H4.out.step hb).alloc (.cells #[.int .u8 c.kq,.slice A c.path.length cp,.string c.key,.int .i64 c.i,.int .i64 c.j,.int .i64 c.n,.int .u8 c.v.kq,.int .i64 c.v.num,.string c.v.str,.slice AL c.v.il.length cL,.slice AO c.v.vz.length cO,.string c.s] 48));have V5:=hid ((V4.out.later hb).later (zaa w5 (.cells #[.int .u8 c.kq,.slice A c.path.length cp,.string c.key,.int .i64 c.i,.int .i64 c.j,.int .i64 c.n,.int .u8 c.v.kq,.int .i64 c.v.num,.string c.v.str,.slice AL c.v.il.length cL,.slice AO c.v.vz.length cO,.string c.s] 48)));have C5:=hid (CBx.new hc);have SC:=hid (And.intro hs (And.intro hpos (And.intro hpk (show c.key.size+c.s.size<=500 by omega))));clear hc hs hpos hpk hks hb h500;clear p0 p1 p2 p3 p4 p5 p6 p7;obtain ⟨v0,v1,v2,v3,v4⟩:=V5.out.cells;obtain ⟨c0,c1,c2,c3,c4,c5,c6,c7,c8,c9,c10,c11,_⟩:=C5.out.whole.tw;obtain ⟨d,n1,ht⟩:=zd8 V5.out.vl c;have T1:=hid ht;clear ht;obtain ⟨m,hm⟩:=zko g c;have HM:=hid hm;clear hm))
  | (go_at_call 27;have hgw:g.weight<=1000000:=(by have:=HG.out.2.2.1;omega);((with_reducible refine (dchk g GL GO gl go c A AL AO cp cL cO _ V5.out.vl C5.out.cc hgw SC.out.1 SC.out.2.1 (HTB.out _ H5.out.below) HM.out _ (Below.refl _ _)).mono ?_);clear hgw;rintro e w6 ⟨rfl,hb⟩;have H6:=hid (H5.out.step hb);have V6:=hid (V5.out.later hb);have C6:=hid (C5.out.later hb);clear hb;clear v0 v1 v2 v3 v4 c0 c1 c2 c3 c4 c5 c6 c7 c8 c9 c10 c11;obtain ⟨v0,v1,v2,v3,v4⟩:=V6.out.cells;obtain ⟨c0,c1,c2,c3,c4,c5,c6,c7,c8,c9,c10,c11,_⟩:=C6.out.whole.tw))
  | (go_at_call 18;have hgw:g.weight<=1000000:=(by have:=HG.out.2.2.1;omega);have hgs:g.Sound:=HG.out.1;((with_reducible refine (zez g GL GO gl go c d n1 A AL AO cp cL cO _ V6.out.vl C6.out.cc hgw SC.out.1 (HTB.out _ H6.out.below) SC.out.2.1 hgs SC.out.2.2.1 T1.out).mono ?_);clear hgw hgs;rintro e w7 ⟨X,XL,XO,xp,xL,xO,rfl,hv,hb⟩;have H7:=hid ((H6.out.step hb).alloc (.cells #[.int .u8 d.kq,.slice X d.path.length xp,.string d.key,.int .i64 d.i,.int .i64 d.j,.int .i64 d.n,.int .u8 d.v.kq,.int .i64 d.v.num,.string d.v.str,.slice XL d.v.il.length xL,.slice XO d.v.vz.length xO,.string d.s] 48));have V7:=hid ((V6.out.later hb).later (zaa w7 (.cells #[.int .u8 d.kq,.slice X d.path.length xp,.string d.key,.int .i64 d.i,.int .i64 d.j,.int .i64 d.n,.int .u8 d.v.kq,.int .i64 d.v.num,.string d.v.str,.slice XL d.v.il.length xL,.slice XO d.v.vz.length xO,.string d.s] 48)));have C7:=hid ((C6.out.later hb).later (zaa w7 (.cells #[.int .u8 d.kq,.slice X d.path.length xp,.string d.key,.int .i64 d.i,.int .i64 d.j,.int .i64 d.n,.int .u8 d.v.kq,.int .i64 d.v.num,.string d.v.str,.slice XL d.v.il.length xL,.slice XO d.v.vz.length xO,.string d.s] 48)));have X7:=hid (CBx.new hv.cc);clear hv hb;clear v0 v1 v2 v3 v4 c0 c1 c2 c3 c4 c5 c6 c7 c8 c9 c10 c11;obtain ⟨v0,v1,v2,v3,v4⟩:=V7.out.cells;obtain ⟨c0,c1,c2,c3,c4,c5,c6,c7,c8,c9,c10,c11,_⟩:=C7.out.whole.tw))
  | (go_at_call 13;have hgw:g.weight<=6000:=HG.out.2.2.1;have hgs:g.Sound:=HG.out.1;((with_reducible refine (zk5 g GL GO gl go c A AL AO cp cL cO _ _ (V7.out.vl.later (zaa _ _)) (zhj w7 _ _ _) (C7.out.cc.later (zaa _ _)) hgw SC.out.1 SC.out.2.1 SC.out.2.2.1 SC.out.2.2.2 hgs (HTB.out _ (H7.out.alloc _).below) m HM.out).mono ?_);clear hgw hgs;rintro e w8 ⟨Y,k2,yp,n2,rfl,h2,hb⟩;have H8:=hid ((H7.out.alloc (.cells #[.int .u8 c.kq,.slice A c.path.length cp,.string c.key,.int .i64 c.i,.int .i64 c.j,.int .i64 c.n,.int .u8 c.v.kq,.int .i64 c.v.num,.string c.v.str,.slice AL c.v.il.length cL,.slice AO c.v.vz.length cO,.string c.s] 48)).step hb);have V8:=hid ((V7.out.later (zaa _ (.cells #[.int .u8 c.kq,.slice A c.path.length cp,.string c.key,.int .i64 c.i,.int .i64 c.j,.int .i64 c.n,.int .u8 c.v.kq,.int .i64 c.v.num,.string c.v.str,.slice AL c.v.il.length cL,.slice AO c.v.vz.length cO,.string c.s] 48))).later hb);have C8:=hid ((C7.out.later (zaa _ (.cells #[.int .u8 c.kq,.slice A c.path.length cp,.string c.key,.int .i64 c.i,.int .i64 c.j,.int .i64 c.n,.int .u8 c.v.kq,.int .i64 c.v.num,.string c.v.str,.slice AL c.v.il.length cL,.slice AO c.v.vz.length cO,.string c.s] 48))).later hb);have X8:=hid ((X7.out.later (zaa _ (.cells #[.int .u8 c.kq,.slice A c.path.length cp,.string c.key,.int .i64 c.i,.int .i64 c.j,.int .i64 c.n,.int .u8 c.v.kq,.int .i64 c.v.num,.string c.v.str,.slice AL c.v.il.length cL,.slice AO c.v.vz.length cO,.string c.s] 48))).later hb);have A8:=hid h2;clear h2 hb;clear v0 v1 v2 v3 v4 c0 c1 c2 c3 c4 c5 c6 c7 c8 c9 c10 c11)))
 any_goals (go_ret;exact ⟨rfl,H3.out.below⟩)
 obtain ⟨i0,hi,hz0,hz1,hz2⟩:=info_parts infoCompG;have HI:=hid (And.intro hi (And.intro hz0 (And.intro hz1 hz2)));clear hi hz0 hz1 hz2
 go_loopw [14,15] (fun v i wr=>LRel w8 (201+q) v i wr) (fun _ i _=>201+q - (intOf i).toNat)
 case atStart=>exact ⟨0,[],rfl,Nat.zero_le _,World.ownsRow_nil _ _ _ _,Below.refl _ _⟩
 case round=>
  obtain ⟨k,xs,rfl,hk,ho,hB⟩:=hrel;have HO:=hid ho;have HB:=hid hB;clear ho hB;have C9:=hid (C8.out.later HB.out);obtain ⟨c0,c1,c2,c3,c4,c5,c6,c7,c8,c9,c10,c11,_⟩:=C9.out.whole.tw;by_cases hlt:k<201+q
  ·have hcs:∀ (j:Nat) (u:Value),(encE ⟨c,A,cp,AL,cL,AO,cO⟩)[j]? = some u->(wr.alloc (.cells #[.int .u8 c.kq,.slice A c.path.length cp,.string c.key,.int .i64 c.i,.int .i64 c.j,.int .i64 c.n,.int .u8 c.v.kq,.int .i64 c.v.num,.string c.v.str,.slice AL c.v.il.length cL,.slice AO c.v.vz.length cO,.string c.s] 48)).cell? ((⟨wr.heap.size,0,none⟩:Addr).add j)=some u:=fun j u hj=>by
    have e1:(⟨wr.heap.size,0,none⟩:Addr).add j =⟨wr.heap.size,j,none⟩:=by unfold Addr.add;split<;>simp_all
    rw [e1,(Whole.new wr 48 #[.int .u8 c.kq,.slice A c.path.length cp,.string c.key,.int .i64 c.i,.int .i64 c.j,.int .i64 c.n,.int .u8 c.v.kq,.int .i64 c.v.num,.string c.v.str,.slice AL c.v.il.length cL,.slice AO c.v.vz.length cO,.string c.s]).cell]
    simpa [encE] using hj
   have HCS:=hid hcs;clear hcs
   go_wp2_with (at_builtin;refine wpList_append_own _ rfl (.tmp 75) (.tmp 77) 31 rfl w8.heap.size 48 i0 _ 12 168 Tryz.underlying31 HI.out.1 HI.out.2.1 HI.out.2.2.1 HI.out.2.2.2 rfl (by decide) _ k xs rfl (zaB HO.out (zaa _ _)) ⟨wr.heap.size,0,none⟩ 1 1 (encE ⟨c,A,cp,AL,cL,AO,cO⟩) rfl rfl HCS.out (zeF _) (by unfold maxLen;omega) (by omega) (by have:=HB.out.size;simp;omega) ?_;intro v' w9 hown hgrow _;have H9:=hid (And.intro hown ((HB.out.alloc HB.out.size (.cells #[.int .u8 c.kq,.slice A c.path.length cp,.string c.key,.int .i64 c.i,.int .i64 c.j,.int .i64 c.n,.int .u8 c.v.kq,.int .i64 c.v.num,.string c.v.str,.slice AL c.v.il.length cL,.slice AO c.v.vz.length cO,.string c.s] 48)).grown hgrow (by have:=HB.out.size;simp;omega) (fun k hk=>(HO.out.lt k hk).1)));clear hown hgrow)
   go_roundw
   case rel=>exact ⟨k+1,_,by go_num,by omega,H9.out.1,H9.out.2⟩
   case measure=>simp [intOf];omega
  ·obtain ⟨A9,cap9,rfl⟩:=zad HO.out
   have hk2:200<k:=by omega
   have hk3:k<=1000:=by omega
   have V9:=hid (V8.out.later HB.out);have X9:=hid (X8.out.later HB.out);have H9:=hid (H8.out.step HB.out);clear c0 c1 c2 c3 c4 c5 c6 c7 c8 c9 c10 c11;obtain ⟨v0,v1,v2,v3,v4⟩:=V9.out.cells;have HAL:=hid (zji #[.int .u8 g.kq,.int .i64 g.num,.string g.str,.slice GL g.il.length gl,.slice GO g.vz.length go] A9 k cap9 wr rfl hk2 hk3);by_cases hm0:m=0
   ·subst hm0
    go_wp2_with (go_at_call 13;(with_reducible refine HAL.out.mono ?_);rintro e w10 ⟨rfl,hb⟩;have H10:=hid (H9.out.step hb);clear hb)
    go_ret
    exact ⟨rfl,H10.out.below⟩
   ·obtain ⟨hd,hn1⟩:d=noC/\m=n1:=by
     rcases T1.out with ⟨_,h1,h2⟩ | ⟨_,_,h1,_⟩
     ·exact ⟨h2,zbo HM.out h1⟩
     ·exact absurd (zbo HM.out h1) hm0
    have hn2:=(A8.out hm0).1.symm;have hk20:=(A8.out hm0).2;subst hd hn1 hn2 hk20;have hne:(m != 0)=true:=by simpa using hm0
    have hwm:IntKind.i64.wrap m=m:=IntWalk.i64_in _ (by have:=zis HM.out;omega)
    have HX:Whole wr w7.heap.size 48 #[.int .u8 0,.slice X 0 xp,.string ⟨#[]⟩,.int .i64 0,.int .i64 0,.int .i64 0,.int .u8 0,.int .i64 0,.string ⟨#[]⟩,.slice XL 0 xL,.slice XO 0 xO,.string ⟨#[]⟩]:=X9.out.whole;clear hm0
    go_wp2_with (first
     | (go_at_call 13;(with_reducible refine HAL.out.mono ?_);rintro e w10 ⟨rfl,hb⟩;have H10:=hid (H9.out.step hb);have X10:=hid (X9.out.later hb);obtain ⟨x0,x1,x2,x3,x4,x5,x6,x7,x8,x9,x10,x11,_⟩:=(HX.below hb HX.lt).tw;clear hb v0 v1 v2 v3 v4)
     | (go_at_call 21;(with_reducible refine (zjI X10.out.cc).mono ?_);rintro e w11 ⟨rfl,hb⟩;have H11:=hid (H10.out.step hb);clear hb))
    all_goals (go_ret;first | exact ⟨rfl,H11.out.below⟩ | exact ⟨by simp,H11.out.below⟩)
end Go.Proofs.YthmcfjmignlhfaaGreatDoor
