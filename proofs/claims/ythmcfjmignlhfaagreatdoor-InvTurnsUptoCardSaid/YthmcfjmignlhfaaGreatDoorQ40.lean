/- Texts in one: InvW, LawXA, InvX, LawIT. -/
import Derived.Test.YthmcfjmignlhfaaGreatDoorQ39
import Derived.Test.YthmcfjmignlhfaaGreatDoorQ36
import Derived.Test.YthmcfjmignlhfaaGreatDoorQ17
import Derived.Test.YthmcfjmignlhfaaGreatDoorQ27
import Derived.Test.YthmcfjmignlhfaaGreatDoorQ15
import Derived.Test.YthmcfjmignlhfaaGreatDoorQ13
import Derived.Lib.QuietBelow
import Derived.BigQuiet
import Derived.Deep.QuietTactic
set_option maxRecDepth 100000
set_option maxHeartbeats 16000000
namespace Go.Proofs.YthmcfjmignlhfaaGreatDoor
open Go.Lib(hid)
open Go Go.RowKit
set_option linter.unusedVariables false
set_option linter.unusedSimpArgs false
def kP (n:Int):GC:=⟨2,[],⟨#[97]⟩,0,0,0,nG n,⟨#[]⟩⟩
def kD:GC:=⟨3,[],⟨#[97]⟩,0,0,0,noG,⟨#[]⟩⟩
def kE:GV:=.mk 5 0 ⟨#[]⟩ [] [] []
theorem zb2 (n:Int):(kP n).Sound:=
 ⟨Int.le_refl _,Int.le_refl _,by show valid ⟨#[97]⟩=true;decide +kernel,zeK,⟨⟨by show (1:Int)<=2;decide,by show (2:Int)<=9;decide⟩,⟨.inr (.inr rfl),.inl rfl,.inl rfl,.inr rfl,.inr rfl,.inr zaN⟩,(fun h=>by cases h),(fun h=>by cases h)⟩,⟨zhf n,by show 0+1+(nG n).deep<=16;rw [zlb];omega,by show (nG n).weight<=20000;rw [zcp];omega⟩⟩
theorem zkh:kD.Sound:=
 ⟨Int.le_refl _,Int.le_refl _,by decide +kernel,zeK,⟨⟨by decide,by decide⟩,⟨.inr (.inr rfl),.inr (.inl rfl),.inr (.inr (.inr zbh)),.inr rfl,.inr rfl,.inr zaN⟩,(fun h=>by cases h),(fun h=>by cases h)⟩,⟨ziW,by show 0+1+noG.deep<=16;rw [zkb];omega,by show noG.weight<=20000;rw [zhO];omega⟩⟩
theorem zg3 (n:Int):(kV n).Sound:=by
 have h0:(⟨#[]⟩:ByteArray).toList=[]:=by decide +kernel
 have hk:KeysOk [(⟨#[97]⟩:ByteArray)]:=by
  intro i k hi hk
  match i with
  | 0=>simp at hk;subst hk;exact ⟨by decide +kernel,fun j y hj=>by omega⟩
  | i+1=>simp at hi
 simp [kV,GV.Sound,GV.Sounds,SelfP,h0,zhf,hk]
theorem zkH:kE.Sound:=by
 have h0:(⟨#[]⟩:ByteArray).toList=[]:=by decide +kernel
 have hk:KeysOk ([]:List ByteArray):=by
  intro i k hi hk;simp at hi
 simp [kE,GV.Sound,GV.Sounds,SelfP,h0,hk]
theorem zit:kE.weight<=100:=by
 have h0:(⟨#[]⟩:ByteArray).size=0:=rfl;simp [kE,GV.weight,GV.weights,ksum,h0]
theorem zkL (n m:Int):chkH (kV n) (kP m)=0:=by simp [chkH,kV,kP,worksOn,GV.kq]
theorem zkO (m:Int):chkH kE (kP m)=0:=by simp [chkH,kE,kP,worksOn,GV.kq]
theorem zg2:TurnsTo (kV 1) (kP 2) (kP 1) 0:=
 .inr ⟨kV 1,kP 1,.inr ⟨zb2 2,.inr ⟨kV 1,rfl,(zkL 1 2).symm⟩⟩,zb2 2,rfl,zkL 1 2,.inr (.inr (.inl ⟨rfl,zeU 1,nG 1,by rw [show place (kP 2).key (kV 1).keys=0 from zgk 1];rfl,rfl⟩)),.inl ⟨zb2 1,rfl,rfl⟩⟩
theorem zjJ:TurnsTo kE (kP 2) kD 0:=
 .inr ⟨kE,kD,.inr ⟨zb2 2,.inr ⟨kE,rfl,(zkO 2).symm⟩⟩,zb2 2,rfl,zkO 2,.inr (.inl ⟨rfl,by show there ⟨#[97]⟩ []=false;decide +kernel,rfl⟩),.inl ⟨zkh,rfl,rfl⟩⟩
theorem zdy (n:Int):Small (kP n):=⟨by show (nG n).weight<=_;rw [zcp];decide,by show (⟨#[97]⟩:ByteArray).size<=_;decide,by show (⟨#[]⟩:ByteArray).size<=_;decide,fun s hs=>by cases hs⟩
theorem zkU {d:GC} {n:Int} (h:TurnsTo (kV 1) (kP 2) d n):n=0:=by
 rcases h with ⟨h0,hn,_⟩ | ⟨x,u,_,_,hget,_,hu,hc⟩
 ·exact absurd (zdM hn (zeE zg2)) h0
 ·have hx:x=kV 1:=by have:=hget.symm;simpa [kP,GV.get] using this
  subst hx;rcases hc with ⟨_,_,h⟩ | ⟨hus,_,_⟩
  ·exact h
  ·exfalso
   apply hus
   rcases hu with ⟨q,_⟩ | ⟨_,ht,_⟩ | ⟨_,_,g,hg,rfl⟩ | ⟨q,_⟩ | ⟨q,_⟩ | ⟨q,_⟩ | ⟨q,_⟩ | ⟨q,_⟩ | ⟨q,_⟩ | ⟨q,_⟩
   ·exact absurd q (by decide)
   ·rw [show there (kP 2).key (kV 1).keys=true from zeU 1] at ht;cases ht
   ·rw [show place (kP 2).key (kV 1).keys=0 from zgk 1] at hg
    have:g=nG 1:=by simpa [kV,GV.vz] using hg.symm
    subst this;exact zb2 1
   all_goals exact absurd q (by decide)
theorem zf3 {g z c} (h:Does1 g c z):z.weight<=3 * g.weight+c.v.weight+c.key.size+c.s.size+10:=by
 obtain ⟨_,x,hget,_,hput⟩:=h;have h1:=zcW _ _ _ hput;have h3:=zaC _ _ _ hget;have h4:=zh0 x c;omega
theorem zlv {w W:World} (hK:KB w W) (hT:Tabs W):Calls Tryz.prog 18 #[.agg #[.int .u8 5,.int .i64 0,.string ⟨#[]⟩,.slice none 0 0,.slice (some ⟨w.heap.size,0,none⟩) 1 1],.agg #[.int .u8 2,.slice none 0 0,.string ⟨#[97]⟩,.int .i64 0,.int .i64 0,.int .i64 0,.int .u8 2,.int .i64 2,.string ⟨#[]⟩,.slice none 0 0,.slice none 0 0,.string ⟨#[]⟩]] W fun e w'=>∃ B BL BO bp bL bO,e=.returned (.tuple #[.agg #[.int .u8 2,.slice B 0 bp,.string ⟨#[97]⟩,.int .i64 0,.int .i64 0,.int .i64 0,.int .u8 2,.int .i64 1,.string ⟨#[]⟩,.slice BL 0 bL,.slice BO 0 bO,.string ⟨#[]⟩],.int .u16 0])/\Below W.heap.size W w':=
 (zdR (kV 1) none (some ⟨w.heap.size,0,none⟩) 0 1 (kP 2) (kP 1) 0 none none none 0 0 0 W hK.vl ⟨zdn W,⟨.inl ⟨rfl,rfl⟩,⟨rfl,.inl ⟨rfl,rfl⟩⟩⟩⟩ (by have:=zcy 1;omega) (zdy 2) hT (by simp [kP,nG,GV.Pos,GV.Poss]) (zg3 1) (fun s hs=>by cases hs) zg2).mono fun e w' ⟨B,BL,BO,bp,bL,bO,he,_,hb⟩=>⟨B,BL,BO,bp,bL,bO,he,hb⟩
theorem zlF {W:World} (hT:Tabs W):Calls Tryz.prog 18 #[.agg #[.int .u8 5,.int .i64 0,.string ⟨#[]⟩,.slice none 0 0,.slice none 0 0],.agg #[.int .u8 2,.slice none 0 0,.string ⟨#[97]⟩,.int .i64 0,.int .i64 0,.int .i64 0,.int .u8 2,.int .i64 2,.string ⟨#[]⟩,.slice none 0 0,.slice none 0 0,.string ⟨#[]⟩]] W fun e w'=>∃ B BL BO bp bL bO,e=.returned (.tuple #[.agg #[.int .u8 3,.slice B 0 bp,.string ⟨#[97]⟩,.int .i64 0,.int .i64 0,.int .i64 0,.int .u8 0,.int .i64 0,.string ⟨#[]⟩,.slice BL 0 bL,.slice BO 0 bO,.string ⟨#[]⟩],.int .u16 0])/\Below W.heap.size W w':=
 (zdR kE none none 0 0 (kP 2) kD 0 none none none 0 0 0 W ⟨.inl ⟨rfl,rfl⟩,⟨rfl,.inl ⟨rfl,rfl⟩⟩⟩ ⟨zdn W,⟨.inl ⟨rfl,rfl⟩,⟨rfl,.inl ⟨rfl,rfl⟩⟩⟩⟩ (by have:=zit;omega) (zdy 2) hT (by simp [kP,nG,GV.Pos,GV.Poss]) zkH (fun s hs=>by cases hs) zjJ).mono fun e w' ⟨B,BL,BO,bp,bL,bO,he,_,hb⟩=>⟨B,BL,BO,bp,bL,bO,he,hb⟩
theorem zlI {W S} (hS:Whole W S 48 #[.int .u8 2,.slice none 0 0,.string ⟨#[97]⟩,.int .i64 0,.int .i64 0,.int .i64 0,.int .u8 2,.int .i64 2,.string ⟨#[]⟩,.slice none 0 0,.slice none 0 0,.string ⟨#[]⟩]):Ops W (some ⟨S,0,none⟩) 1 [⟨kP 2,none,0,none,0,none,0⟩]:=
 ⟨fun _=>⟨S,0,rfl,hS.lt,fun i e he=>by
  match i with
  | 0=>
   simp at he
   subst he;obtain ⟨c0,c1,c2,c3,c4,c5,c6,c7,c8,c9,c10,c11,_⟩:=hS.tw;exact ⟨⟨c0,c1,c2,c3,c4,c5,c6,c7,c8,c9,c10,c11⟩,⟨zdn W,⟨.inl ⟨rfl,rfl⟩,⟨rfl,.inl ⟨rfl,rfl⟩⟩⟩⟩,zdy 2⟩
  | i+1=>simp at he⟩,by simp,by decide⟩
theorem zlt:doH (kV 1) (kP 2)=kV 2:=by
 rw [zju rfl (zeU 1)];show GV.mk 5 0 ⟨#[]⟩ [] [⟨#[97]⟩] ((kV 1).vz.set (place ⟨#[97]⟩ (kV 1).keys) (nG 2))=_
 rw [zgk 1]
 rfl
theorem zlL {W:World} (hT:Tabs W):AllDo (kV 1) [⟨kP 2,none,0,none,0,none,0⟩] W:=fun k ds y E hc hE BL BO dL dO W' hb hv=>by
 match k with
 | 0=>
  obtain rfl:y=kV 1:=hc.2;have hE':(⟨kP 2,none,0,none,0,none,0⟩:EC)=E:=by simpa using hE
  subst hE';have hcv:Vl W' (kP 2).v none none 0 0:=⟨.inl ⟨rfl,rfl⟩,⟨rfl,.inl ⟨rfl,rfl⟩⟩⟩;have hh:∀ h,(kV 1).get (kP 2).path=some h->h=kV 1:=fun h hh=>by have:=hh.symm;simpa [kP,GV.get] using this
  exact zld (kV 1) BL BO dL dO (kP 2) none none none 0 0 0 W' hv ⟨zdn W',hcv⟩ (by have:=zcy 1;omega) (by show (nG 2).weight<=1000000000;rw [zcp];omega) (zfO (by decide)) (zfO (by decide)) (fun s hs=>by cases hs) (hT.below hb (Nat.le_refl _)) (zk9 (by decide))
   (fun h hg _ _=>by rw [hh h hg];exact ziB _ _ _ _ _ _ _ _ _ rfl hcv (zeU 1)) (fun h hg _=>by rw [hh h hg,zlt];have:=zcy 2;omega)
 | k+1=>simp at hE
theorem zlE {w W:World} {S} (hK:KB w W) (hS:Whole W S 48 #[.int .u8 2,.slice none 0 0,.string ⟨#[97]⟩,.int .i64 0,.int .i64 0,.int .i64 0,.int .u8 2,.int .i64 2,.string ⟨#[]⟩,.slice none 0 0,.slice none 0 0,.string ⟨#[]⟩]) (hT:Tabs W):Calls Tryz.prog 13 #[.agg #[.int .u8 5,.int .i64 0,.string ⟨#[]⟩,.slice none 0 0,.slice (some ⟨w.heap.size,0,none⟩) 1 1],.slice (some ⟨S,0,none⟩) 1 1] W fun e w'=>∃ b c,e=.returned (.tuple #[.slice (some ⟨b,0,none⟩) 1 c,.int .u16 0])/\Below W.heap.size W w':=by
 refine (zjT (kV 1) none (some ⟨w.heap.size,0,none⟩) 0 1 [⟨kP 2,none,0,none,0,none,0⟩] (some ⟨S,0,none⟩) 1 W hK.vl (zlI hS) ?_ (zg3 1) (fun e he=>?_) hT (zlL hT)).mono fun e w' ⟨hb,hc⟩=>?_
 ·intro k ds y hc
  have hw:=zcy 1
  match k with
  | 0=>rw [hc.2];omega
  | k+1=>
   obtain ⟨d,z,dr,_,h2,_,h4⟩:=(show ∃ d z dr,TurnsTo (kV 1) (kP 2) d 0/\Does1 (kV 1) (kP 2) z/\ds=d :: dr/\Came z ([].take k) dr y from hc);rw [List.take_nil] at h4;rw [h4.2];have:=zf3 h2;have h1:=(zdy 2).v;have h3:(kP 2).key.size<=1:=by decide
   have h5:(kP 2).s.size<=1:=by decide
   have h6:(kP 2).v.weight=1:=zcp 2;omega
 ·simp only [List.mem_cons,List.mem_nil_iff,or_false] at he
  subst he;exact ⟨by simp [kP,nG,GV.Pos,GV.Poss],fun s hs=>by cases hs⟩
 ·rcases hc with ⟨h,_⟩ | ⟨_,k,ds,y,E,d,n,h1,h2,h3,h4,_⟩ | ⟨_,fs,ds,y,b,cap,h1,h2,he,_⟩
  ·simp at h
  ·exfalso
   match k with
   | 0=>
    simp at h2
    subst h2;rw [h1.2] at h3;exact h4 (zkU h3)
   | k+1=>simp at h2
  ·obtain ⟨d,z,dr,_,_,h5,h6⟩:=h1
   have hl:fs.length=1:=by
    have:=congrArg List.length h2;rw [List.length_map,List.length_reverse,h5,h6.1] at this
    simpa using this
   rw [hl] at he;exact ⟨b,cap,he,hb⟩
theorem zgL (w:World) (hT:Tabs w):Calls Tryz.prog 10 #[] w (TrueBelow w):=by
 have HD1:=hid (fun W (hK:KB w W)=>zlv hK (hT.below hK.below (Nat.le_refl _)))
 have HD2:=hid (fun W (hb:Below w.heap.size w W)=>zlF (hT.below hb (Nat.le_refl _)))
 have HD3:=hid (fun W S (hK:KB w W) (hS:Whole W S 48 #[.int .u8 2,.slice none 0 0,.string ⟨#[97]⟩,.int .i64 0,.int .i64 0,.int .i64 0,.int .u8 2,.int .i64 2,.string ⟨#[]⟩,.slice none 0 0,.slice none 0 0,.string ⟨#[]⟩])=>zlE hK hS (hT.below hK.below (Nat.le_refl _)))
 have HK0:=hid (KB.start w);have HC0:=hid (fun (W:World)=>Whole.new W 48 #[.int .u8 2,.slice none 0 0,.string ⟨#[97]⟩,.int .i64 0,.int .i64 0,.int .i64 0,.int .u8 2,.int .i64 2,.string ⟨#[]⟩,.slice none 0 0,.slice none 0 0,.string ⟨#[]⟩])
 clear hT;go_enter Tryz.func10,Tryz.ntmps10
 go_wp2_with (first
  | (go_at_call 18;(with_reducible refine (HD1.out _ (HK0.out.later (zab _ (.cells #[.int .u8 2,.slice none 0 0,.string ⟨#[97]⟩,.int .i64 0,.int .i64 0,.int .i64 0,.int .u8 2,.int .i64 2,.string ⟨#[]⟩,.slice none 0 0,.slice none 0 0,.string ⟨#[]⟩] 48)))).mono ?_);rintro e w1 ⟨B,BL,BO,bp,bL,bO,rfl,hb⟩;have HK1:=hid (((HK0.out.later (zab _ (.cells #[.int .u8 2,.slice none 0 0,.string ⟨#[97]⟩,.int .i64 0,.int .i64 0,.int .i64 0,.int .u8 2,.int .i64 2,.string ⟨#[]⟩,.slice none 0 0,.slice none 0 0,.string ⟨#[]⟩] 48))).later hb).later (zab w1 (.cells #[.int .u8 2,.slice B 0 bp,.string ⟨#[97]⟩,.int .i64 0,.int .i64 0,.int .i64 0,.int .u8 2,.int .i64 1,.string ⟨#[]⟩,.slice BL 0 bL,.slice BO 0 bO,.string ⟨#[]⟩] 48)));have HC1:=hid (((HC0.out _).below hb (by simp)).alloc (.cells #[.int .u8 2,.slice B 0 bp,.string ⟨#[97]⟩,.int .i64 0,.int .i64 0,.int .i64 0,.int .u8 2,.int .i64 1,.string ⟨#[]⟩,.slice BL 0 bL,.slice BO 0 bO,.string ⟨#[]⟩] 48));have HX1:=hid (Whole.new w1 48 #[.int .u8 2,.slice B 0 bp,.string ⟨#[97]⟩,.int .i64 0,.int .i64 0,.int .i64 0,.int .u8 2,.int .i64 1,.string ⟨#[]⟩,.slice BL 0 bL,.slice BO 0 bO,.string ⟨#[]⟩]);clear hb;have h1:=HC1.out;simp only [World.size_alloc] at h1;obtain ⟨c0,c1,c2,c3,c4,c5,c6,c7,c8,c9,c10,c11,_⟩:=h1.tw;clear h1)
  | (go_at_call 18;(with_reducible refine (HD2.out _ HK1.out.below).mono ?_);rintro e w2 ⟨D,DL,DO,dp,dL,dO,rfl,hb⟩;have HK2:=hid ((HK1.out.later hb).later (zab w2 (.cells #[.int .u8 3,.slice D 0 dp,.string ⟨#[97]⟩,.int .i64 0,.int .i64 0,.int .i64 0,.int .u8 0,.int .i64 0,.string ⟨#[]⟩,.slice DL 0 dL,.slice DO 0 dO,.string ⟨#[]⟩] 48)));have HC2:=hid ((HC1.out.below hb HC1.out.lt).alloc (.cells #[.int .u8 3,.slice D 0 dp,.string ⟨#[97]⟩,.int .i64 0,.int .i64 0,.int .i64 0,.int .u8 0,.int .i64 0,.string ⟨#[]⟩,.slice DL 0 dL,.slice DO 0 dO,.string ⟨#[]⟩] 48));have HX2:=hid ((HX1.out.below hb HX1.out.lt).alloc (.cells #[.int .u8 3,.slice D 0 dp,.string ⟨#[97]⟩,.int .i64 0,.int .i64 0,.int .i64 0,.int .u8 0,.int .i64 0,.string ⟨#[]⟩,.slice DL 0 dL,.slice DO 0 dO,.string ⟨#[]⟩] 48));have HY2:=hid (Whole.new w2 48 #[.int .u8 3,.slice D 0 dp,.string ⟨#[97]⟩,.int .i64 0,.int .i64 0,.int .i64 0,.int .u8 0,.int .i64 0,.string ⟨#[]⟩,.slice DL 0 dL,.slice DO 0 dO,.string ⟨#[]⟩]);clear hb c0 c1 c2 c3 c4 c5 c6 c7 c8 c9 c10 c11;have h1:=HC2.out;simp only [World.size_alloc] at h1;obtain ⟨c0,c1,c2,c3,c4,c5,c6,c7,c8,c9,c10,c11,_⟩:=h1.tw;clear h1;obtain ⟨v0,v1,v2,v3,v4,_⟩:=HK2.out.box.five)
  | (go_at_call 13;have hS:=Whole.new (w2.alloc (.cells #[.int .u8 3,.slice D 0 dp,.string ⟨#[97]⟩,.int .i64 0,.int .i64 0,.int .i64 0,.int .u8 0,.int .i64 0,.string ⟨#[]⟩,.slice DL 0 dL,.slice DO 0 dO,.string ⟨#[]⟩] 48)) 48 #[.int .u8 2,.slice none 0 0,.string ⟨#[97]⟩,.int .i64 0,.int .i64 0,.int .i64 0,.int .u8 2,.int .i64 2,.string ⟨#[]⟩,.slice none 0 0,.slice none 0 0,.string ⟨#[]⟩];rw [World.size_alloc] at hS;(with_reducible refine (HD3.out _ _ (HK2.out.later (zab _ (.cells #[.int .u8 2,.slice none 0 0,.string ⟨#[97]⟩,.int .i64 0,.int .i64 0,.int .i64 0,.int .u8 2,.int .i64 2,.string ⟨#[]⟩,.slice none 0 0,.slice none 0 0,.string ⟨#[]⟩] 48))) hS).mono ?_);rintro e w3 ⟨b,cp,rfl,hb⟩;have HK3:=hid ((HK2.out.later (zab _ (.cells #[.int .u8 2,.slice none 0 0,.string ⟨#[97]⟩,.int .i64 0,.int .i64 0,.int .i64 0,.int .u8 2,.int .i64 2,.string ⟨#[]⟩,.slice none 0 0,.slice none 0 0,.string ⟨#[]⟩] 48))).later hb);clear hS c0 c1 c2 c3 c4 c5 c6 c7 c8 c9 c10 c11 v0 v1 v2 v3 v4;obtain ⟨x0,x1,x2,x3,x4,x5,x6,x7,x8,x9,x10,x11,_⟩:=((HX2.out.alloc (.cells #[.int .u8 2,.slice none 0 0,.string ⟨#[97]⟩,.int .i64 0,.int .i64 0,.int .i64 0,.int .u8 2,.int .i64 2,.string ⟨#[]⟩,.slice none 0 0,.slice none 0 0,.string ⟨#[]⟩] 48)).below hb (HX2.out.alloc _).lt).tw;obtain ⟨y0,y1,y2,y3,y4,y5,y6,y7,y8,y9,y10,y11,_⟩:=((HY2.out.alloc (.cells #[.int .u8 2,.slice none 0 0,.string ⟨#[97]⟩,.int .i64 0,.int .i64 0,.int .i64 0,.int .u8 2,.int .i64 2,.string ⟨#[]⟩,.slice none 0 0,.slice none 0 0,.string ⟨#[]⟩] 48)).below hb (HY2.out.alloc _).lt).tw;clear hb))
 go_ret
 exact ⟨rfl,HK3.out.below⟩
end Go.Proofs.YthmcfjmignlhfaaGreatDoor
namespace Go.Proofs.YthmcfjmignlhfaaGreatDoor
open Go.Lib(hid)
open Go Go.RowKit
open Go.Sort (grow)
set_option linter.unusedVariables false
set_option linter.unusedSimpArgs false
theorem zk7 (g GL GO gl go) (x:GAct) (AP ap AD ad w) (hv:Vl w g GL GO gl go) (hg:VOk g) (hx:ActOk w x AP ap AD ad):Calls Tryz.prog 20 #[.agg #[.int .u8 g.kq,.int .i64 g.num,.string g.str,.slice GL g.il.length gl,.slice GO g.vz.length go],.agg #[.slice AP x.path.length ap,.int .u8 x.kq,.int .i64 x.i,.int .i64 x.j,.int .i64 x.n,.string x.s,.slice AD x.v.length ad]] w (OneIs g w):=zkm g GL GO gl go x AP ap AD ad w hv hg.1 hg.2.2.1 hx
end Go.Proofs.YthmcfjmignlhfaaGreatDoor
namespace Go.Proofs.YthmcfjmignlhfaaGreatDoor
open Go.Lib(hid)
open Go Go.RowKit
open Go.Sort (grow)
set_option linter.unusedVariables false
set_option linter.unusedSimpArgs false
theorem zhG (ps:List GStep):samePB ps ps=true:=by
 unfold samePB;rw [Lib.allEq_all sameStep ps ps rfl (fun j _=>by simp [sameStep])]
 simp
theorem zkn (c:GC):c.Same c:=⟨rfl,rfl,rfl,rfl,rfl,rfl,zhG _,zdN _⟩
structure CBx (W:World) (b:Nat) (c:GC) (A AL AO:Option Addr) (cp cL cO:Nat):Prop where
 whole:Whole W b 48 #[.int .u8 c.kq,.slice A c.path.length cp,.string c.key,.int .i64 c.i,.int .i64 c.j,.int .i64 c.n,.int .u8 c.v.kq,.int .i64 c.v.num,.string c.v.str,.slice AL c.v.il.length cL,.slice AO c.v.vz.length cO,.string c.s]
 cc:Cc W c A AL AO cp cL cO
theorem CBx.later {W W':World} {b c A AL AO cp cL cO} (h:CBx W b c A AL AO cp cL cO) (hb:Below W.heap.size W W'):CBx W' b c A AL AO cp cL cO:=⟨h.whole.below hb h.whole.lt,h.cc.later hb⟩
theorem CBx.new {W c A AL AO cp cL cO} (h:Cc W c A AL AO cp cL cO):CBx (W.alloc (.cells #[.int .u8 c.kq,.slice A c.path.length cp,.string c.key,.int .i64 c.i,.int .i64 c.j,.int .i64 c.n,.int .u8 c.v.kq,.int .i64 c.v.num,.string c.v.str,.slice AL c.v.il.length cL,.slice AO c.v.vz.length cO,.string c.s] 48)) W.heap.size c A AL AO cp cL cO:=⟨Whole.new W _ _,h.later (zab W _)⟩
theorem zg7 {W c A AL AO A' AL' AO' cp cL cO cp' cL' cO'} (h:Cc W c A AL AO cp cL cO) (h':Cc W c A' AL' AO' cp' cL' cO') (hw:c.v.weight<=1000000000):
  Calls Tryz.prog 21 #[.agg #[.int .u8 c.kq,.slice A c.path.length cp,.string c.key,.int .i64 c.i,.int .i64 c.j,.int .i64 c.n,.int .u8 c.v.kq,.int .i64 c.v.num,.string c.v.str,.slice AL c.v.il.length cL,.slice AO c.v.vz.length cO,.string c.s],.agg #[.int .u8 c.kq,.slice A' c.path.length cp',.string c.key,.int .i64 c.i,.int .i64 c.j,.int .i64 c.n,.int .u8 c.v.kq,.int .i64 c.v.num,.string c.v.str,.slice AL' c.v.il.length cL',.slice AO' c.v.vz.length cO',.string c.s]] W fun e w'=>e=.returned (.bool true)/\Below W.heap.size W w':=
 (zjq c c A AL AO A' AL' AO' cp cL cO cp' cL' cO' W h h' hw hw).mono fun e w' ⟨b,he,hb,hw'⟩=>⟨by rw [he,hb.2 (zkn c)],hw'⟩
def CompQ (x:GB) (W:World) (e:Ending) (w':World):Prop:=
 ∃ (c:GC) (A AL AO:Option Addr) (cp cL cO:Nat),e=.returned (.agg #[.int .u8 c.kq,.slice A c.path.length cp,.string c.key,.int .i64 c.i,.int .i64 c.j,.int .i64 c.n,.int .u8 c.v.kq,.int .i64 c.v.num,.string c.v.str,.slice AL c.v.il.length cL,.slice AO c.v.vz.length cO,.string c.s])/\Cc w' c A AL AO cp cL cO/\Small c/\c.v.Pos/\(∀ s∈c.path,s.key.size<=281474976710656)/\c.key.size+c.s.size=x.key.size+x.s.size/\Below W.heap.size W w'
theorem zlH (x:GB) (B bap D dap w) (hx:BareOk2 w x B bap D dap) (hs:x.key.size+x.s.size+tot x.v<=1048576):
  Calls Tryz.prog 17 #[.agg #[.int .u8 x.kq,.slice B x.path.length bap,.string x.key,.int .i64 x.i,.int .i64 x.j,.int .i64 x.n,.string x.s,.slice D x.v.length dap]] w (CompQ x w):=
 (zjY x B bap D dap w hx.path hx.toks hx.cap.1 hx.cap.2 hx.len hx.rng).mono fun e w' ⟨ga,XL,XO,xl,xo,he,hwa,hpa,hca,hb⟩=>⟨x.comp ga,B,XL,XO,bap,xl,xo,he,hca,⟨by show ga.weight<=2200000;omega,by show x.key.size<=2200000;omega,by show x.s.size<=2200000;omega,fun s hs=>by have:=hx.keys s hs;omega⟩,hpa,fun s hs=>by have:=hx.keys s hs;omega,rfl,hb⟩
structure BA2 (w W:World) (ca cb:Array Value):Prop where
 a:Whole W w.heap.size 43 ca
 b:Whole W (w.heap.size+1) 46 cb
 below:Below w.heap.size w W
theorem BA2.new (w:World) (ca cb:Array Value):BA2 w ((w.alloc (.cells ca 43)).alloc (.cells cb 46)) ca cb:=by
 have h2:=Whole.new (w.alloc (.cells ca 43)) 46 cb;rw [World.size_alloc] at h2;exact ⟨(Whole.new w _ ca).alloc _,h2,(zab w _).alloc (by simp) _⟩
theorem BA2.step {w W W':World} {ca cb:Array Value} (h:BA2 w W ca cb) (hb:Below W.heap.size W W'):BA2 w W' ca cb:=⟨h.a.below hb h.a.lt,h.b.below hb h.b.lt,h.below.trans (hb.mono h.below.size)⟩
theorem BA2.alloc {w W:World} {ca cb:Array Value} (h:BA2 w W ca cb) (o:Obj):BA2 w (W.alloc o) ca cb:=h.step (zab W o)
theorem zkS (W:World) (y:GAct) (AP:Option Addr) (ap:Nat) (AD:Option Addr) (ad:Nat):ActsAt (W.alloc (.cells #[.slice AP y.path.length ap,.int .u8 y.kq,.int .i64 y.i,.int .i64 y.j,.int .i64 y.n,.string y.s,.slice AD y.v.length ad] 46)) W.heap.size [⟨y,AP,ap,AD,ad⟩]:=fun i e he=>by
 match i,he with
 | 0,he=>simp at he;subst he;exact ⟨(Whole.new W _ _).cell 0,(Whole.new W _ _).cell 5,(Whole.new W _ _).cell 6⟩
 | i+1,he=>simp at he
theorem zhC {w hi L} {lc:Nat} {ts:List GTok} {y:GAct} {AP ap AD ad} (hT:Toks hi w L ts) (hhi:hi<=w.heap.size) (hcap:ts.length<=lc) (hm:lc<=maxLen) (hy:ActOk w y AP ap AD ad) (W:World) (S:Nat) (h:Below w.heap.size w W) (hS:W.heap.size=S):
  Calls Tryz.prog 9 #[.slice L ts.length lc,.slice (some ⟨S,0,none⟩) 1 1] (W.alloc (.cells #[.slice AP y.path.length ap,.int .u8 y.kq,.int .i64 y.i,.int .i64 y.j,.int .i64 y.n,.string y.s,.slice AD y.v.length ad] 46)) (AnyBool (W.alloc (.cells #[.slice AP y.path.length ap,.int .u8 y.kq,.int .i64 y.i,.int .i64 y.j,.int .i64 y.n,.string y.s,.slice AD y.v.length ad] 46))):=by
 subst hS;exact zhI hi L lc ts [⟨y,AP,ap,AD,ad⟩] W.heap.size 1 _ (hT.keep ((h.alloc h.size _).mono hhi) (Nat.le_refl _)) (Nat.le_trans hhi (h.alloc h.size _).size) hcap hm (zkS W y AP ap AD ad) (by simp) (fun e he=>by
  simp only [List.mem_cons,List.mem_nil_iff,or_false] at he;subst he;exact hy.later (h.alloc h.size _)) (by simp) (by simp)
theorem zdH {g c d n} (h:TurnsTo g c d n):0<=n/\n<=60:=by
 rcases h with ⟨_,h,_⟩ | ⟨_,_,_,_,_,_,_,⟨_,_,h⟩ | ⟨_,_,h⟩⟩
 ·exact zjt h
 ·omega
 ·omega
theorem zkP {g c m} (h:OneG g c m):∀ s∈c.path,s.key.size<=281474976710656:=fun s hs=>by have:=(h.clean s hs).1;omega
theorem ziD {g c m} (h:OneG g c m):c.v.Pos:=zgi _ h.v.1
end Go.Proofs.YthmcfjmignlhfaaGreatDoor
namespace Go.Proofs.YthmcfjmignlhfaaGreatDoor
open Go.Lib(hid)
open Go Go.RowKit
open Go.Sort (grow)
set_option linter.unusedVariables false
set_option linter.unusedSimpArgs false
theorem zgC (hi L) (lc:Nat) (ts:List GTok) (x:GB) (B bap D dap) (y:GAct) (AP ap AD ad w) (hT:Toks hi w L ts) (hhi:hi<=w.heap.size) (hcap:ts.length<=lc) (hm:lc<=maxLen) (hr:∀ t∈ts,0<=t.k/\t.k<=255/\0<=t.m/\t.m<=255) (hss:∀ t∈ts,t.s.size<=140737488351232) (hx:BareOk2 w x B bap D dap) (hsz:x.key.size+x.s.size+tot x.v<=1048576) (hy:ActOk w y AP ap AD ad) (hU:Tabs w):
  Calls Tryz.prog 4 #[.slice L ts.length lc,.agg #[.int .u8 x.kq,.slice B x.path.length bap,.string x.key,.int .i64 x.i,.int .i64 x.j,.int .i64 x.n,.string x.s,.slice D x.v.length dap],.agg #[.slice AP y.path.length ap,.int .u8 y.kq,.int .i64 y.i,.int .i64 y.j,.int .i64 y.n,.string y.s,.slice AD y.v.length ad]] w (TrueBelow w):=by
 have HHV:=hid (fun (W:World) (S:Nat) (h:Below w.heap.size w W) (hS:W.heap.size=S)=>zhC hT hhi hcap hm hy W S h hS)
 have HBU:=hid (fun W (h:Below w.heap.size w W)=>zbx hi L lc ts W hcap hm (Nat.le_trans hhi h.size) (hT.keep (h.mono hhi) (Nat.le_refl _)) hr hss)
 have HKN:=hid (fun W (hb:Below w.heap.size w W)=>zgL W (hU.below hb (Nat.le_refl _)))
 have HTB:=hid (fun W (hb:Below w.heap.size w W)=>hU.below hb (Nat.le_refl _))
 have HON:=hid (fun (g:GV) (GL GO:Option Addr) (gl go:Nat) (W:World) (h:Below w.heap.size w W) (hv:Vl W g GL GO gl go) (hg:VOk g)=>zk7 g GL GO gl go y AP ap AD ad W hv hg (hy.later h))
 unfold AnyBool at HHV;unfold BuildA at HBU;unfold OneIs at HON;unfold TrueBelow at HKN;have HCO:=hid (fun (W:World) (h:Below w.heap.size w W)=>zlH x B bap D dap W (hx.later h) hsz)
 unfold CompQ at HCO;have hk1:x.key.size<=1048576:=by omega
 have hs1:x.s.size<=1048576:=by omega
 have H0:=hid (BA2.new w #[.int .u8 x.kq,.slice B x.path.length bap,.string x.key,.int .i64 x.i,.int .i64 x.j,.int .i64 x.n,.string x.s,.slice D x.v.length dap] #[.slice AP y.path.length ap,.int .u8 y.kq,.int .i64 y.i,.int .i64 y.j,.int .i64 y.n,.string y.s,.slice AD y.v.length ad]);clear hT hhi hcap hm hr hss hx hsz hy hU;generalize hn:ts.length=n at *;clear hn;go_enter Tryz.func4,Tryz.ntmps4
 obtain ⟨q0,q1,q2,q3,q4,q5,q6⟩:=zaj H0.out.b
 go_wp2_with (first
  | (go_at_call 9;(with_reducible refine (HHV.out _ _ H0.out.below ?hsz).mono ?_);(case hsz=>simp);rintro e w1 ⟨bh,rfl,hb⟩;have H1:=hid ((H0.out.alloc (.cells #[.slice AP y.path.length ap,.int .u8 y.kq,.int .i64 y.i,.int .i64 y.j,.int .i64 y.n,.string y.s,.slice AD y.v.length ad] 46)).step hb);clear hb;clear q0 q1 q2 q3 q4 q5 q6;obtain ⟨p0,p1,p2,p3,p4,p5,p6,p7⟩:=zeA H1.out.a)
  | (go_at_call 10;refine (HKN.out _ H1.out.below).mono ?_;rintro e w3 ⟨rfl,hb⟩;have H3:=hid (H1.out.step hb);clear hb;clear p0 p1 p2 p3 p4 p5 p6 p7)
  | (go_at_call 11;refine (HBU.out _ H3.out.below).mono ?_;rintro e w4 ⟨g,GL,GO,gl,go,rfl,hv,hg,hb⟩;have H4:=hid ((H3.out.step hb).alloc (.cells #[.int .u8 g.kq,.int .i64 g.num,.string g.str,.slice GL g.il.length gl,.slice GO g.vz.length go] 29));have HG:=hid hg;have V4:=hid (Bx.new (W:=w4) (g:=g) (AL:=GL) (AO:=GO) (cL:=gl) (cO:=go) ⟨hv.1.keep (From.refl _ _) (fun _ _ _=>trivial),hv.2.keep (From.refl _ _) (fun _ _ _=>trivial)⟩);clear hv hg hb;obtain ⟨p0,p1,p2,p3,p4,p5,p6,p7⟩:=zeA H4.out.a)
  | (go_at_call 17;((with_reducible refine (HCO.out _ H4.out.below).mono ?_);rintro e w5 ⟨c,A,AL,AO,cp,cL,cO,rfl,hc,hs,hpos,hpk,hks,hb⟩;have H5:=hid ((H4.out.step hb).alloc (.cells #[.int .u8 c.kq,.slice A c.path.length cp,.string c.key,.int .i64 c.i,.int .i64 c.j,.int .i64 c.n,.int .u8 c.v.kq,.int .i64 c.v.num,.string c.v.str,.slice AL c.v.il.length cL,.slice AO c.v.vz.length cO,.string c.s] 48));have V5:=hid ((V4.out.later hb).later (zab w5 (.cells #[.int .u8 c.kq,.slice A c.path.length cp,.string c.key,.int .i64 c.i,.int .i64 c.j,.int .i64 c.n,.int .u8 c.v.kq,.int .i64 c.v.num,.string c.v.str,.slice AL c.v.il.length cL,.slice AO c.v.vz.length cO,.string c.s] 48)));have C5:=hid (CBx.new hc);have SC:=hid (And.intro hs (And.intro hpos hpk));clear hc hs hpos hpk hks hb;clear p0 p1 p2 p3 p4 p5 p6 p7;obtain ⟨v0,v1,v2,v3,v4⟩:=V5.out.cells;obtain ⟨c0,c1,c2,c3,c4,c5,c6,c7,c8,c9,c10,c11,_⟩:=C5.out.whole.tw;obtain ⟨d1,n1,ht⟩:=zdi V5.out.vl c;have T1:=hid ht;clear ht))
  | (go_at_call 18;have hgw:g.weight<=1000000:=(by have:=HG.out.2.2.1;omega);have hgs:g.Sound:=HG.out.1;((with_reducible refine (zdR g GL GO gl go c d1 n1 A AL AO cp cL cO _ V5.out.vl C5.out.cc hgw SC.out.1 (HTB.out _ H5.out.below) SC.out.2.1 hgs SC.out.2.2 T1.out).mono ?_);clear hgw hgs;rintro e w6 ⟨X,XL,XO,xp,xL,xO,rfl,hv,hb⟩;have H6:=hid ((H5.out.step hb).alloc (.cells #[.int .u8 d1.kq,.slice X d1.path.length xp,.string d1.key,.int .i64 d1.i,.int .i64 d1.j,.int .i64 d1.n,.int .u8 d1.v.kq,.int .i64 d1.v.num,.string d1.v.str,.slice XL d1.v.il.length xL,.slice XO d1.v.vz.length xO,.string d1.s] 48));have V6:=hid ((V5.out.later hb).later (zab w6 (.cells #[.int .u8 d1.kq,.slice X d1.path.length xp,.string d1.key,.int .i64 d1.i,.int .i64 d1.j,.int .i64 d1.n,.int .u8 d1.v.kq,.int .i64 d1.v.num,.string d1.v.str,.slice XL d1.v.il.length xL,.slice XO d1.v.vz.length xO,.string d1.s] 48)));have C6:=hid ((C5.out.later hb).later (zab w6 (.cells #[.int .u8 d1.kq,.slice X d1.path.length xp,.string d1.key,.int .i64 d1.i,.int .i64 d1.j,.int .i64 d1.n,.int .u8 d1.v.kq,.int .i64 d1.v.num,.string d1.v.str,.slice XL d1.v.il.length xL,.slice XO d1.v.vz.length xO,.string d1.s] 48)));have X6:=hid (CBx.new hv.cc);clear hv hb;clear v0 v1 v2 v3 v4 c0 c1 c2 c3 c4 c5 c6 c7 c8 c9 c10 c11;obtain ⟨v0,v1,v2,v3,v4⟩:=V6.out.cells;obtain ⟨c0,c1,c2,c3,c4,c5,c6,c7,c8,c9,c10,c11,_⟩:=C6.out.whole.tw))
  | (go_at_call 19;have hgw:g.weight<=1000000:=(by have:=HG.out.2.2.1;omega);have hgs:g.Sound:=HG.out.1;((with_reducible refine (zhd g GL GO gl go c d1 n1 A AL AO cp cL cO _ V6.out.vl C6.out.cc hgw SC.out.1 (HTB.out _ H6.out.below) SC.out.2.1 hgs SC.out.2.2 T1.out).mono ?_);clear hgw hgs;rintro e w7 ⟨Y,YL,YO,yp,yL,yO,rfl,hv,hb⟩;have H7:=hid ((H6.out.step hb).alloc (.cells #[.int .u8 d1.kq,.slice Y d1.path.length yp,.string d1.key,.int .i64 d1.i,.int .i64 d1.j,.int .i64 d1.n,.int .u8 d1.v.kq,.int .i64 d1.v.num,.string d1.v.str,.slice YL d1.v.il.length yL,.slice YO d1.v.vz.length yO,.string d1.s] 48));have V7:=hid ((V6.out.later hb).later (zab w7 (.cells #[.int .u8 d1.kq,.slice Y d1.path.length yp,.string d1.key,.int .i64 d1.i,.int .i64 d1.j,.int .i64 d1.n,.int .u8 d1.v.kq,.int .i64 d1.v.num,.string d1.v.str,.slice YL d1.v.il.length yL,.slice YO d1.v.vz.length yO,.string d1.s] 48)));have X7:=hid ((X6.out.later hb).later (zab w7 (.cells #[.int .u8 d1.kq,.slice Y d1.path.length yp,.string d1.key,.int .i64 d1.i,.int .i64 d1.j,.int .i64 d1.n,.int .u8 d1.v.kq,.int .i64 d1.v.num,.string d1.v.str,.slice YL d1.v.il.length yL,.slice YO d1.v.vz.length yO,.string d1.s] 48)));have Y7:=hid (CBx.new hv.cc);clear hv hb;clear v0 v1 v2 v3 v4 c0 c1 c2 c3 c4 c5 c6 c7 c8 c9 c10 c11;obtain ⟨v0,v1,v2,v3,v4⟩:=V7.out.cells;obtain ⟨q0,q1,q2,q3,q4,q5,q6⟩:=zaj H7.out.b))
  | (go_at_call 20;((with_reducible refine (HON.out g GL GO gl go _ H7.out.below V7.out.vl HG.out).mono ?_);rintro e w8 ⟨hb,d,E,EL,EO,ep,eL,eO,m1,rfl,hc,ho⟩;have H8:=hid ((H7.out.step hb).alloc (.cells #[.int .u8 d.kq,.slice E d.path.length ep,.string d.key,.int .i64 d.i,.int .i64 d.j,.int .i64 d.n,.int .u8 d.v.kq,.int .i64 d.v.num,.string d.v.str,.slice EL d.v.il.length eL,.slice EO d.v.vz.length eO,.string d.s] 48));have V8:=hid ((V7.out.later hb).later (zab w8 (.cells #[.int .u8 d.kq,.slice E d.path.length ep,.string d.key,.int .i64 d.i,.int .i64 d.j,.int .i64 d.n,.int .u8 d.v.kq,.int .i64 d.v.num,.string d.v.str,.slice EL d.v.il.length eL,.slice EO d.v.vz.length eO,.string d.s] 48)));have X8:=hid ((X7.out.later hb).later (zab w8 (.cells #[.int .u8 d.kq,.slice E d.path.length ep,.string d.key,.int .i64 d.i,.int .i64 d.j,.int .i64 d.n,.int .u8 d.v.kq,.int .i64 d.v.num,.string d.v.str,.slice EL d.v.il.length eL,.slice EO d.v.vz.length eO,.string d.s] 48)));have Y8:=hid ((Y7.out.later hb).later (zab w8 (.cells #[.int .u8 d.kq,.slice E d.path.length ep,.string d.key,.int .i64 d.i,.int .i64 d.j,.int .i64 d.n,.int .u8 d.v.kq,.int .i64 d.v.num,.string d.v.str,.slice EL d.v.il.length eL,.slice EO d.v.vz.length eO,.string d.s] 48)));have E8:=hid (CBx.new hc);have O8:=hid ho;clear hb hc ho;clear v0 v1 v2 v3 v4 q0 q1 q2 q3 q4 q5 q6;obtain ⟨v0,v1,v2,v3,v4⟩:=V8.out.cells;obtain ⟨c0,c1,c2,c3,c4,c5,c6,c7,c8,c9,c10,c11,_⟩:=E8.out.whole.tw;obtain ⟨d2,n2,ht⟩:=zdi V8.out.vl d;have T2:=hid ht;clear ht))
  | (go_at_call 18;have hgw:g.weight<=1000000:=(by have:=HG.out.2.2.1;omega);have hgs:g.Sound:=HG.out.1;((with_reducible refine (zdR g GL GO gl go d d2 n2 E EL EO ep eL eO _ V8.out.vl E8.out.cc hgw (zdG O8.out) (HTB.out _ H8.out.below) (ziD O8.out) hgs (zkP O8.out) T2.out).mono ?_);clear hgw hgs;rintro e w9 ⟨P,PL,PO,pp,pL,pO,rfl,hv,hb⟩;have H9:=hid ((H8.out.step hb).alloc (.cells #[.int .u8 d2.kq,.slice P d2.path.length pp,.string d2.key,.int .i64 d2.i,.int .i64 d2.j,.int .i64 d2.n,.int .u8 d2.v.kq,.int .i64 d2.v.num,.string d2.v.str,.slice PL d2.v.il.length pL,.slice PO d2.v.vz.length pO,.string d2.s] 48));have V9:=hid ((V8.out.later hb).later (zab w9 (.cells #[.int .u8 d2.kq,.slice P d2.path.length pp,.string d2.key,.int .i64 d2.i,.int .i64 d2.j,.int .i64 d2.n,.int .u8 d2.v.kq,.int .i64 d2.v.num,.string d2.v.str,.slice PL d2.v.il.length pL,.slice PO d2.v.vz.length pO,.string d2.s] 48)));have X9:=hid ((X8.out.later hb).later (zab w9 (.cells #[.int .u8 d2.kq,.slice P d2.path.length pp,.string d2.key,.int .i64 d2.i,.int .i64 d2.j,.int .i64 d2.n,.int .u8 d2.v.kq,.int .i64 d2.v.num,.string d2.v.str,.slice PL d2.v.il.length pL,.slice PO d2.v.vz.length pO,.string d2.s] 48)));have Y9:=hid ((Y8.out.later hb).later (zab w9 (.cells #[.int .u8 d2.kq,.slice P d2.path.length pp,.string d2.key,.int .i64 d2.i,.int .i64 d2.j,.int .i64 d2.n,.int .u8 d2.v.kq,.int .i64 d2.v.num,.string d2.v.str,.slice PL d2.v.il.length pL,.slice PO d2.v.vz.length pO,.string d2.s] 48)));have E9:=hid ((E8.out.later hb).later (zab w9 (.cells #[.int .u8 d2.kq,.slice P d2.path.length pp,.string d2.key,.int .i64 d2.i,.int .i64 d2.j,.int .i64 d2.n,.int .u8 d2.v.kq,.int .i64 d2.v.num,.string d2.v.str,.slice PL d2.v.il.length pL,.slice PO d2.v.vz.length pO,.string d2.s] 48)));have P9:=hid (CBx.new hv.cc);clear hv hb;clear v0 v1 v2 v3 v4 c0 c1 c2 c3 c4 c5 c6 c7 c8 c9 c10 c11;obtain ⟨v0,v1,v2,v3,v4⟩:=V9.out.cells;obtain ⟨c0,c1,c2,c3,c4,c5,c6,c7,c8,c9,c10,c11,_⟩:=E9.out.whole.tw))
  | (go_at_call 19;have hgw:g.weight<=1000000:=(by have:=HG.out.2.2.1;omega);have hgs:g.Sound:=HG.out.1;((with_reducible refine (zhd g GL GO gl go d d2 n2 E EL EO ep eL eO _ V9.out.vl E9.out.cc hgw (zdG O8.out) (HTB.out _ H9.out.below) (ziD O8.out) hgs (zkP O8.out) T2.out).mono ?_);clear hgw hgs;rintro e w10 ⟨Q,QL,QO,qp,qL,qO,rfl,hv,hb⟩;have H10:=hid ((H9.out.step hb).alloc (.cells #[.int .u8 d2.kq,.slice Q d2.path.length qp,.string d2.key,.int .i64 d2.i,.int .i64 d2.j,.int .i64 d2.n,.int .u8 d2.v.kq,.int .i64 d2.v.num,.string d2.v.str,.slice QL d2.v.il.length qL,.slice QO d2.v.vz.length qO,.string d2.s] 48));have V10:=hid ((V9.out.later hb).later (zab w10 (.cells #[.int .u8 d2.kq,.slice Q d2.path.length qp,.string d2.key,.int .i64 d2.i,.int .i64 d2.j,.int .i64 d2.n,.int .u8 d2.v.kq,.int .i64 d2.v.num,.string d2.v.str,.slice QL d2.v.il.length qL,.slice QO d2.v.vz.length qO,.string d2.s] 48)));have X10:=hid ((X9.out.later hb).later (zab w10 (.cells #[.int .u8 d2.kq,.slice Q d2.path.length qp,.string d2.key,.int .i64 d2.i,.int .i64 d2.j,.int .i64 d2.n,.int .u8 d2.v.kq,.int .i64 d2.v.num,.string d2.v.str,.slice QL d2.v.il.length qL,.slice QO d2.v.vz.length qO,.string d2.s] 48)));have Y10:=hid ((Y9.out.later hb).later (zab w10 (.cells #[.int .u8 d2.kq,.slice Q d2.path.length qp,.string d2.key,.int .i64 d2.i,.int .i64 d2.j,.int .i64 d2.n,.int .u8 d2.v.kq,.int .i64 d2.v.num,.string d2.v.str,.slice QL d2.v.il.length qL,.slice QO d2.v.vz.length qO,.string d2.s] 48)));have P10:=hid ((P9.out.later hb).later (zab w10 (.cells #[.int .u8 d2.kq,.slice Q d2.path.length qp,.string d2.key,.int .i64 d2.i,.int .i64 d2.j,.int .i64 d2.n,.int .u8 d2.v.kq,.int .i64 d2.v.num,.string d2.v.str,.slice QL d2.v.il.length qL,.slice QO d2.v.vz.length qO,.string d2.s] 48)));have Q10:=hid (CBx.new hv.cc);clear hv hb;clear v0 v1 v2 v3 v4 c0 c1 c2 c3 c4 c5 c6 c7 c8 c9 c10 c11;have hwm1:IntKind.i64.wrap n1=n1:=IntWalk.i64_in _ (by have:=zdH T1.out;omega);have hwm2:IntKind.i64.wrap n2=n2:=IntWalk.i64_in _ (by have:=zdH T2.out;omega);obtain ⟨a0,a1,a2,a3,a4,a5,a6,a7,a8,a9,a10,a11,_⟩:=X10.out.whole.tw;obtain ⟨b0,b1,b2,b3,b4,b5,b6,b7,b8,b9,b10,b11,_⟩:=Y10.out.whole.tw))
  | (go_at_call 21;have hx1:=(zcf HG.out.1 (by have:=HG.out.2.2.1;omega) SC.out.1 T1.out).s.v;((with_reducible refine (zg7 X10.out.cc Y10.out.cc (by omega)).mono ?_);clear hx1;rintro e w11 ⟨rfl,hb⟩;have H11:=hid (H10.out.step hb);have P11:=hid (P10.out.later hb);have Q11:=hid (Q10.out.later hb);clear hb;clear a0 a1 a2 a3 a4 a5 a6 a7 a8 a9 a10 a11 b0 b1 b2 b3 b4 b5 b6 b7 b8 b9 b10 b11;obtain ⟨a0,a1,a2,a3,a4,a5,a6,a7,a8,a9,a10,a11,_⟩:=P11.out.whole.tw;obtain ⟨b0,b1,b2,b3,b4,b5,b6,b7,b8,b9,b10,b11,_⟩:=Q11.out.whole.tw))
  | (go_at_call 21;have hx2:=(zcf HG.out.1 (by have:=HG.out.2.2.1;omega) (zdG O8.out) T2.out).s.v;((with_reducible refine (zg7 P11.out.cc Q11.out.cc (by omega)).mono ?_);clear hx2;rintro e w12 ⟨rfl,hb⟩;have H12:=hid (H11.out.step hb);clear hb)))
 all_goals (go_ret;first | exact ⟨rfl,H12.out.below⟩ | exact ⟨rfl,H11.out.below⟩ | exact ⟨rfl,H3.out.below⟩ | exact ⟨by simp,H12.out.below⟩ | exact ⟨by simp_all,H11.out.below⟩)
end Go.Proofs.YthmcfjmignlhfaaGreatDoor
