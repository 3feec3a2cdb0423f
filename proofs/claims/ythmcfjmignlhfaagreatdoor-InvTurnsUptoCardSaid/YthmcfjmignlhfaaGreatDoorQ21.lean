/- Texts in one: InvC, CompR. -/
import Derived.Test.YthmcfjmignlhfaaGreatDoorQ20
import Derived.Test.YthmcfjmignlhfaaGreatDoorQ13
import Derived.Test.YthmcfjmignlhfaaGreatDoorQ17
import Derived.Test.YthmcfjmignlhfaaGreatDoorQ15
import Derived.Laws.BytesArg
set_option maxRecDepth 100000
set_option maxHeartbeats 16000000
namespace Go.Proofs.YthmcfjmignlhfaaGreatDoor
open Go.Lib(hid)
open Go Go.RowKit Go.Shelf
set_option linter.unusedVariables false
set_option linter.unusedSimpArgs false
theorem zgu {W W':World} (hg:W.grownBy W' none):Below W.heap.size W W':=⟨hg.os,hg.tape,hg.output,hg.size,fun k hk=>hg.block k hk (by simp)⟩
theorem zhu {W:World} {base:Nat} {e:TypeId} {size n:Nat} {B:Option Addr} {d:Nat} {xs:List Value} (h:W.ownsRow base e size (.slice B n d) n xs):∀ p,B=some p->base<=p.block:=by
 intro p hp;rcases h.2 with ⟨e,_⟩ | ⟨g,_,_,e,hb,_⟩
 ·cases e;cases hp
 ·simp only [Value.slice.injEq] at e
  obtain ⟨rfl,_⟩:=e;cases hp
  exact hb
def CcNew (n:Nat) (W:World) (c:GC) (B AL AO:Option Addr) (cp cL cO:Nat):Prop:=Wy W B cp c.path/\(∀ p,B=some p->n<=p.block)/\VlNew n W c.v AL AO cL cO
theorem CcNew.cc {n W c B AL AO cp cL cO} (h:CcNew n W c B AL AO cp cL cO):Cc W c B AL AO cp cL cO:=⟨h.1,⟨h.2.2.1.keep (From.refl _ _) (fun _ _ _=>trivial),h.2.2.2.keep (From.refl _ _) (fun _ _ _=>trivial)⟩⟩
theorem CcNew.kp {n m:Nat} {W W' c B AL AO cp cL cO} (h:CcNew n W c B AL AO cp cL cO) (hm:m<=n) (hk:Kp n W W'):CcNew m W' c B AL AO cp cL cO:=
 ⟨h.1.kp h.2.1 hk,fun p hp=>Nat.le_trans hm (h.2.1 p hp),h.2.2.1.keep (fun k h1 h2=>hk.2 k h1 h2) (fun k h1 h2=>by omega),h.2.2.2.keep (fun k h1 h2=>hk.2 k h1 h2) (fun k h1 h2=>by omega)⟩
def SameNw (c:GC) (w:World) (e:Ending) (w':World):Prop:=∃ B AL AO cp cL cO,e=.returned (.agg #[.int .u8 c.kq,.slice B c.path.length cp,.string c.key,.int .i64 c.i,.int .i64 c.j,.int .i64 c.n,.int .u8 c.v.kq,.int .i64 c.v.num,.string c.v.str,.slice AL c.v.il.length cL,.slice AO c.v.vz.length cO,.string c.s])/\CcNew w.heap.size w' c B AL AO cp cL cO/\Below w.heap.size w w'
theorem zdw {W A cp ps} (h:Wy W A cp ps):(A=none->ps.length=0)/\∀ ad,A=some ad->∀ (j:Nat) (u:Value),(cellsP ps)[j]? = some u->ad.block<W.heap.size/\W.cell? (ad.add j)=some u:=by
 refine ⟨fun e=>?_,fun a e j u hj=>?_⟩
 ·by_cases hne:ps=[]
  ·rw [hne];rfl
  ·obtain ⟨a,e',_⟩:=h.steps hne
   rw [e] at e';cases e'
 ·have hne:ps≠[]:=by intro e;rw [e] at hj;simp [cellsP] at hj
  obtain ⟨⟨b,o,sp⟩,e',hs,hlt,hc⟩:=h.steps hne;rw [e] at e';cases e'
  simp only at hs;subst hs;have:=zch hc j u hj;have e:(⟨b,o,none⟩:Addr).add j =⟨b,o+j,none⟩:=by unfold Addr.add;split<;>simp_all
  rw [e];exact ⟨hlt,this⟩
theorem za4 (c A AL AO cp cL cO w) (hc:Cc w c A AL AO cp cL cO) (hw:c.v.weight<=1000000000) (hpl:c.path.length<=1000000000):
  Calls Tryz.prog 47 #[.agg #[.int .u8 c.kq,.slice A c.path.length cp,.string c.key,.int .i64 c.i,.int .i64 c.j,.int .i64 c.n,.int .u8 c.v.kq,.int .i64 c.v.num,.string c.v.str,.slice AL c.v.il.length cL,.slice AO c.v.vz.length cO,.string c.s]] w (SameNw c w):=by
 have HCP:=hid (fun W (hb:Below w.heap.size w W)=>zjb (hc.v.later hb) hw)
 obtain ⟨i0,hi,hz0,hz1,hz2⟩:=info_parts infoStep;have HI:=hid (And.intro hi (And.intro hz0 (And.intro hz1 hz2)));have HA:=hid (zdw hc.path).1;have HN:=hid (show ∀ W,Below w.heap.size w W->∀ ad,A=some ad->∀ (j:Nat) (u:Value),(cellsP c.path)[j]? = some u->W.cell? (ad.add j)=some u from fun W hb ad e j u hj=>by
  obtain ⟨hlt,h⟩:=(zdw hc.path).2 ad e j u hj;exact (hb.cell (by rw [show (ad.add j).block=ad.block by unfold Addr.add;split<;>rfl];exact hlt)).trans h)
 have HF:=hid (And.intro (zcx c.path) (zdu c.path));have HL:=hid hpl;clear hi hz0 hz1 hz2 hc hw;go_enter Tryz.func47,Tryz.ntmps47
 go_wp2_with (first
  | (at_builtin;refine zal _ rfl (.tmp 4) (.tmp 6) 41 rfl (w.heap.size+1+1) 102 i0 _ 3 32 Tryz.underlying41 HI.out.1 HI.out.2.1 HI.out.2.2.1 HI.out.2.2.2 rfl (by decide) (.slice none 0 0) 0 [] rfl (World.ownsRow_nil _ _ _ _) A c.path.length cp (cellsP c.path) rfl HA.out HF.out.1 (HN.out _ (CTwo.new w _ _).below) HF.out.2 (by unfold maxLen;omega) (by omega) (by simp) ?_;intro v' w1 hown hgrow _;rw [Nat.zero_add,List.nil_append] at hown;obtain ⟨B,d,rfl,hle,hcap,hst⟩:=zcH hown;have H1:=hid (And.intro (show CTwo w w1 #[.int .u8 c.kq,.slice A c.path.length cp,.string c.key,.int .i64 c.i,.int .i64 c.j,.int .i64 c.n,.int .u8 c.v.kq,.int .i64 c.v.num,.string c.v.str,.slice AL c.v.il.length cL,.slice AO c.v.vz.length cO,.string c.s] #[.int .u8 0,.slice none 0 0,.string ⟨#[]⟩,.int .i64 0,.int .i64 0,.int .i64 0,.int .u8 0,.int .i64 0,.string ⟨#[]⟩,.slice none 0 0,.slice none 0 0,.string ⟨#[]⟩] from (CTwo.new w _ _).step (zgu hgrow)) (And.intro (show Wy w1 B d c.path from ⟨hst,hle,hcap⟩) (zhu hown)));obtain ⟨a0,a1,a2,a3,a4,a5,a6,a7,a8,a9,a10,a11,f0,f1,f2,f3,f4,f5,f6,f7,f8,f9,f10,f11⟩:=H1.out.1.a.tw;clear hown hgrow hle hcap hst)
  | (go_at_call 22;refine (HCP.out _ (H1.out.1.putA 1 (.slice B c.path.length d)).below).mono ?_;rintro e w4 ⟨XL,XO,xL,xO,rfl,hv,hb⟩;have H4:=hid (And.intro (show CTwo w w4 #[.int .u8 c.kq,.slice B c.path.length d,.string c.key,.int .i64 c.i,.int .i64 c.j,.int .i64 c.n,.int .u8 c.v.kq,.int .i64 c.v.num,.string c.v.str,.slice AL c.v.il.length cL,.slice AO c.v.vz.length cO,.string c.s] #[.int .u8 0,.slice none 0 0,.string ⟨#[]⟩,.int .i64 0,.int .i64 0,.int .i64 0,.int .u8 0,.int .i64 0,.string ⟨#[]⟩,.slice none 0 0,.slice none 0 0,.string ⟨#[]⟩] from (H1.out.1.putA 1 (.slice B c.path.length d)).step hb) (And.intro (show Kp (w.heap.size+1+1) w1 w4 from ((Kp.refl _ w1).set (p:=⟨w.heap.size,1,none⟩) (by simp;omega) _).below hb) (And.intro hv (show w.heap.size+1<(w1.setCell ⟨w.heap.size,1,none⟩ (.slice B c.path.length d)).heap.size from by rw [zaQ];exact H1.out.1.b.lt))));clear hb hv;clear a0 a1 a2 a3 a4 a5 a6 a7 a8 a9 a10 a11 f0 f1 f2 f3 f4 f5 f6 f7 f8 f9 f10 f11;obtain ⟨a0,a1,a2,a3,a4,a5,a6,a7,a8,a9,a10,a11,f0,f1,f2,f3,f4,f5,f6,f7,f8,f9,f10,f11⟩:=H4.out.1.a.tw;obtain ⟨b0,b1,b2,b3,b4,b5,b6,b7,b8,b9,b10,b11,y0,y1,y2,y3,y4,y5,y6,y7,y8,y9,y10,y11⟩:=H4.out.1.b.tw))
 have hXb:=put12 (((((H4.out.1.b.far (p:=⟨w.heap.size,6,none⟩) (by simp) (.int .u8 c.v.kq)).far (p:=⟨w.heap.size,7,none⟩) (by simp) (.int .i64 c.v.num)).far (p:=⟨w.heap.size,8,none⟩) (by simp) (.string c.v.str)).far (p:=⟨w.heap.size,9,none⟩) (by simp) (.slice XL c.v.il.length xL)).far (p:=⟨w.heap.size,10,none⟩) (by simp) (.slice XO c.v.vz.length xO)) (.int .u8 c.kq) (.slice B c.path.length d) (.string c.key) (.int .i64 c.i) (.int .i64 c.j) (.int .i64 c.n) (.int .u8 c.v.kq) (.int .i64 c.v.num) (.string c.v.str) (.slice XL c.v.il.length xL) (.slice XO c.v.vz.length xO) (.string c.s)
 have hk:=((((((((((((((((((Kp.refl (w.heap.size+1+1) w4).set (p:=⟨w.heap.size,6,none⟩) (by simp;omega) (.int .u8 c.v.kq)).set (p:=⟨w.heap.size,7,none⟩) (by simp;omega) (.int .i64 c.v.num)).set (p:=⟨w.heap.size,8,none⟩) (by simp;omega) (.string c.v.str)).set (p:=⟨w.heap.size,9,none⟩) (by simp;omega) (.slice XL c.v.il.length xL)).set (p:=⟨w.heap.size,10,none⟩) (by simp;omega) (.slice XO c.v.vz.length xO)).set (p:=⟨w.heap.size+1,0,none⟩) (by simp) (.int .u8 c.kq)).set (p:=⟨w.heap.size+1,1,none⟩) (by simp) (.slice B c.path.length d)).set (p:=⟨w.heap.size+1,2,none⟩) (by simp) (.string c.key)).set (p:=⟨w.heap.size+1,3,none⟩) (by simp) (.int .i64 c.i)).set (p:=⟨w.heap.size+1,4,none⟩) (by simp) (.int .i64 c.j)).set (p:=⟨w.heap.size+1,5,none⟩) (by simp) (.int .i64 c.n)).set (p:=⟨w.heap.size+1,6,none⟩) (by simp) (.int .u8 c.v.kq)).set (p:=⟨w.heap.size+1,7,none⟩) (by simp) (.int .i64 c.v.num)).set (p:=⟨w.heap.size+1,8,none⟩) (by simp) (.string c.v.str)).set (p:=⟨w.heap.size+1,9,none⟩) (by simp) (.slice XL c.v.il.length xL)).set (p:=⟨w.heap.size+1,10,none⟩) (by simp) (.slice XO c.v.vz.length xO)).set (p:=⟨w.heap.size+1,11,none⟩) (by simp) (.string c.s))
 have hbel:=(((((((((((((((((H4.out.1.below.setCell (p:=⟨w.heap.size,6,none⟩) (Nat.le_refl _) (.int .u8 c.v.kq)).setCell (p:=⟨w.heap.size,7,none⟩) (Nat.le_refl _) (.int .i64 c.v.num)).setCell (p:=⟨w.heap.size,8,none⟩) (Nat.le_refl _) (.string c.v.str)).setCell (p:=⟨w.heap.size,9,none⟩) (Nat.le_refl _) (.slice XL c.v.il.length xL)).setCell (p:=⟨w.heap.size,10,none⟩) (Nat.le_refl _) (.slice XO c.v.vz.length xO)).setCell (p:=⟨w.heap.size+1,0,none⟩) (Nat.le_succ _) (.int .u8 c.kq)).setCell (p:=⟨w.heap.size+1,1,none⟩) (Nat.le_succ _) (.slice B c.path.length d)).setCell (p:=⟨w.heap.size+1,2,none⟩) (Nat.le_succ _) (.string c.key)).setCell (p:=⟨w.heap.size+1,3,none⟩) (Nat.le_succ _) (.int .i64 c.i)).setCell (p:=⟨w.heap.size+1,4,none⟩) (Nat.le_succ _) (.int .i64 c.j)).setCell (p:=⟨w.heap.size+1,5,none⟩) (Nat.le_succ _) (.int .i64 c.n)).setCell (p:=⟨w.heap.size+1,6,none⟩) (Nat.le_succ _) (.int .u8 c.v.kq)).setCell (p:=⟨w.heap.size+1,7,none⟩) (Nat.le_succ _) (.int .i64 c.v.num)).setCell (p:=⟨w.heap.size+1,8,none⟩) (Nat.le_succ _) (.string c.v.str)).setCell (p:=⟨w.heap.size+1,9,none⟩) (Nat.le_succ _) (.slice XL c.v.il.length xL)).setCell (p:=⟨w.heap.size+1,10,none⟩) (Nat.le_succ _) (.slice XO c.v.vz.length xO)).setCell (p:=⟨w.heap.size+1,11,none⟩) (Nat.le_succ _) (.string c.s));generalize (((((((((((((((((w4.setCell ⟨w.heap.size,6,none⟩ (.int .u8 c.v.kq)).setCell ⟨w.heap.size,7,none⟩ (.int .i64 c.v.num)).setCell ⟨w.heap.size,8,none⟩ (.string c.v.str)).setCell ⟨w.heap.size,9,none⟩ (.slice XL c.v.il.length xL)).setCell ⟨w.heap.size,10,none⟩ (.slice XO c.v.vz.length xO)).setCell ⟨w.heap.size+1,0,none⟩ (.int .u8 c.kq)).setCell ⟨w.heap.size+1,1,none⟩ (.slice B c.path.length d)).setCell ⟨w.heap.size+1,2,none⟩ (.string c.key)).setCell ⟨w.heap.size+1,3,none⟩ (.int .i64 c.i)).setCell ⟨w.heap.size+1,4,none⟩ (.int .i64 c.j)).setCell ⟨w.heap.size+1,5,none⟩ (.int .i64 c.n)).setCell ⟨w.heap.size+1,6,none⟩ (.int .u8 c.v.kq)).setCell ⟨w.heap.size+1,7,none⟩ (.int .i64 c.v.num)).setCell ⟨w.heap.size+1,8,none⟩ (.string c.v.str)).setCell ⟨w.heap.size+1,9,none⟩ (.slice XL c.v.il.length xL)).setCell ⟨w.heap.size+1,10,none⟩ (.slice XO c.v.vz.length xO)).setCell ⟨w.heap.size+1,11,none⟩ (.string c.s))=X at *;obtain ⟨d0,d1,d2,d3,d4,d5,d6,d7,d8,d9,d10,d11,_⟩:=hXb.tw;have hsz:=H4.out.2.2.2;have HX:=hid (And.intro hk hbel);clear hXb hk hbel;refine bodyPost_ret (v:=.agg #[.int .u8 c.kq,.slice B c.path.length d,.string c.key,.int .i64 c.i,.int .i64 c.j,.int .i64 c.n,.int .u8 c.v.kq,.int .i64 c.v.num,.string c.v.str,.slice XL c.v.il.length xL,.slice XO c.v.vz.length xO,.string c.s]) (by simp [results,Tryz.results47,go_sem,d0,d1,d2,d3,d4,d5,d6,d7,d8,d9,d10,d11]) rfl ?_
 have hvl:VlNew w.heap.size X c.v XL XO xL xO:=⟨H4.out.2.2.1.1.keep (fun k hk1 hl=>HX.out.1.2 k (by omega) hl) (fun k hk _=>by omega),H4.out.2.2.1.2.keep (fun k hk1 hl=>HX.out.1.2 k (by omega) hl) (fun k hk _=>by omega)⟩
 exact ⟨B,XL,XO,d,xL,xO,rfl,⟨H1.out.2.1.kp H1.out.2.2 (H4.out.2.1.trans HX.out.1),fun p hp=>by have:=H1.out.2.2 p hp;omega,hvl⟩,HX.out.2⟩
end Go.Proofs.YthmcfjmignlhfaaGreatDoor
namespace Go.Proofs.YthmcfjmignlhfaaGreatDoor
open Go.Lib(hid)
open Go Go.RowKit
set_option linter.unusedVariables false
set_option linter.unusedSimpArgs false
theorem zgM {ps qs:List GStep} (h:ps.length=qs.length):begins ps qs=samePB ps qs:=by
 unfold begins samePB;rw [<- h,List.take_length];simp
theorem ziw {w A B c d ps qs} (hP:Wy w A c ps) (hQ:Wy w B d qs):
  Calls Tryz.prog 46 #[.slice A ps.length c,.slice B qs.length d] w fun e w'=>e=.returned (.bool (samePB ps qs))/\Below w.heap.size w w':=by
 by_cases h:ps.length=qs.length
 ·have HB:=hid (zhN w.heap.size A B c d ps qs w hP.steps hQ.steps (Nat.le_refl _) (Nat.le_trans hP.le hP.cap) (Nat.le_trans hQ.le hQ.cap))
  rw [zgM h] at HB;have hz:(((ps.length:Int)) == (qs.length:Int))=true:=by simp [h]
  clear h hP hQ;generalize samePB ps qs=r at *;generalize ps.length=n at *;generalize qs.length=m at *;go_enter Tryz.func46,Tryz.ntmps46
  go_wp2_with (go_at_call 80;refine HB.out.mono ?_;rintro e w1 ⟨rfl,hb⟩;have H1:=hid hb;clear hb)
  go_ret
  exact ⟨rfl,H1.out⟩
 ·have hr:samePB ps qs=false:=by simp [samePB,h]
  rw [hr];have hz:(((ps.length:Int)) == (qs.length:Int))=false:=by simp;omega
  clear h hP hQ hr;generalize ps.length=n at *;generalize qs.length=m at *;go_enter Tryz.func46,Tryz.ntmps46
  go_wp2
  go_ret
  exact ⟨rfl,Below.refl _ _⟩
theorem zjq (a b A AL AO A' AL' AO' cp cL cO cp' cL' cO' w) (ha:Cc w a A AL AO cp cL cO) (hb:Cc w b A' AL' AO' cp' cL' cO') (hwa:a.v.weight<=1000000000) (hwb:b.v.weight<=1000000000):
  Calls Tryz.prog 21 #[.agg #[.int .u8 a.kq,.slice A a.path.length cp,.string a.key,.int .i64 a.i,.int .i64 a.j,.int .i64 a.n,.int .u8 a.v.kq,.int .i64 a.v.num,.string a.v.str,.slice AL a.v.il.length cL,.slice AO a.v.vz.length cO,.string a.s],.agg #[.int .u8 b.kq,.slice A' b.path.length cp',.string b.key,.int .i64 b.i,.int .i64 b.j,.int .i64 b.n,.int .u8 b.v.kq,.int .i64 b.v.num,.string b.v.str,.slice AL' b.v.il.length cL',.slice AO' b.v.vz.length cO',.string b.s]] w (EqPost (a.Same b) w):=by
 have H0:=hid (CTwo.new w #[.int .u8 a.kq,.slice A a.path.length cp,.string a.key,.int .i64 a.i,.int .i64 a.j,.int .i64 a.n,.int .u8 a.v.kq,.int .i64 a.v.num,.string a.v.str,.slice AL a.v.il.length cL,.slice AO a.v.vz.length cO,.string a.s] #[.int .u8 b.kq,.slice A' b.path.length cp',.string b.key,.int .i64 b.i,.int .i64 b.j,.int .i64 b.n,.int .u8 b.v.kq,.int .i64 b.v.num,.string b.v.str,.slice AL' b.v.il.length cL',.slice AO' b.v.vz.length cO',.string b.s]);obtain ⟨bq,hbq⟩:=zat (a.v.Same b.v);have HSS:Hid (a.Same b↔a.kq=b.kq/\a.key.toList=b.key.toList/\a.i=b.i/\a.j=b.j/\a.n=b.n/\a.s.toList=b.s.toList/\samePB a.path b.path=true/\bq=true):=hid (by rw [hbq];exact Iff.rfl)
 have HE:=hid (fun W (h:Below w.heap.size w W)=>ziw (ha.path.later h) (hb.path.later h))
 have HV:=hid (fun W (h:Below w.heap.size w W)=>zax (zbd a.v.size (fun _=>True) _ _ a.v b.v W (Nat.le_refl _) (ha.v.later h).val (hb.v.later h).val (Nat.le_trans (zac _) hwa) (Nat.le_trans (zac _) hwb)) bq hbq)
 clear ha hb hwa hwb hbq;generalize a.Same b=SS at *;generalize samePB a.path b.path=sp at *;generalize a.kq=ak at *;generalize a.path.length=ap at *;generalize a.key=aY at *;generalize a.i=ai at *;generalize a.j=aj at *;generalize a.n=an at *;generalize a.v.kq=avk at *;generalize a.v.num=avn at *;generalize a.v.str=avs at *;generalize a.v.il.length=avl at *;generalize a.v.vz.length=avo at *;generalize a.s=aS at *;generalize b.kq=bk at *;generalize b.path.length=bp at *;generalize b.key=bY at *;generalize b.i=bi at *;generalize b.j=bj at *;generalize b.n=bn at *;generalize b.v.kq=bvk at *;generalize b.v.num=bvn at *;generalize b.v.str=bvs at *;generalize b.v.il.length=bvl at *;generalize b.v.vz.length=bvo at *;generalize b.s=bS at *;by_cases q0:ak=bk
 ·subst q0
  by_cases q1:aY.toList=bY.toList
  ·have z1:(aY.toList == bY.toList)=true:=by simp [q1]
   have Q1:=hid q1;clear q1;by_cases q2:ai=bi
   ·subst q2
    by_cases q3:aj=bj
    ·subst q3
     by_cases q4:an=bn
     ·subst q4
      by_cases q5:aS.toList=bS.toList
      ·have z5:(aS.toList == bS.toList)=true:=by simp [q5]
       have Q5:=hid q5;clear q5;cases bq with
       | true=>
        go_enter Tryz.func21,Tryz.ntmps21
        go_wp2_with (first
         | (go_at_call 16;refine (HV.out _ H0.out.below).mono ?_;rintro e w1 ⟨rfl,hb1⟩;have H1:=hid (H0.out.step hb1);obtain ⟨a0,a1,a2,a3,a4,a5,a6,a7,a8,a9,a10,a11,_⟩:=H1.out.a.tw;obtain ⟨e0,e1,e2,e3,e4,e5,e6,e7,e8,e9,e10,e11,_⟩:=H1.out.b.tw;clear hb1)
         | (go_at_call 46;refine (HE.out _ H1.out.below).mono ?_;rintro e w2 ⟨rfl,hb2⟩;have H2:=hid (H1.out.step hb2);clear hb2))
        go_ret
        exact ⟨sp,rfl,by rw [HSS.out];simp [Q1.out,Q5.out],H2.out.below⟩
       | false=>
        go_enter Tryz.func21,Tryz.ntmps21
        go_wp2_with (first
         | (go_at_call 16;refine (HV.out _ H0.out.below).mono ?_;rintro e w1 ⟨rfl,hb1⟩;have H1:=hid (H0.out.step hb1);obtain ⟨a0,a1,a2,a3,a4,a5,a6,a7,a8,a9,a10,a11,_⟩:=H1.out.a.tw;obtain ⟨e0,e1,e2,e3,e4,e5,e6,e7,e8,e9,e10,e11,_⟩:=H1.out.b.tw;clear hb1)
         | (go_at_call 46;refine (HE.out _ H1.out.below).mono ?_;rintro e w2 ⟨rfl,hb2⟩;have H2:=hid (H1.out.step hb2);clear hb2))
        go_ret
        exact ⟨false,rfl,by rw [HSS.out];simp,H1.out.below⟩
      ·have z5:(aS.toList == bS.toList)=false:=by simpa using q5
       have HN:=hid (show ¬ SS from fun hs=>q5 (by have h:=HSS.out.1 hs;exact h.2.2.2.2.2.1))
       clear q5;go_enter Tryz.func21,Tryz.ntmps21
       go_wp2_with (first
        | (go_at_call 16;refine (HV.out _ H0.out.below).mono ?_;rintro e w1 ⟨rfl,hb1⟩;have H1:=hid (H0.out.step hb1);obtain ⟨a0,a1,a2,a3,a4,a5,a6,a7,a8,a9,a10,a11,_⟩:=H1.out.a.tw;obtain ⟨e0,e1,e2,e3,e4,e5,e6,e7,e8,e9,e10,e11,_⟩:=H1.out.b.tw;clear hb1)
        | (go_at_call 46;refine (HE.out _ H1.out.below).mono ?_;rintro e w2 ⟨rfl,hb2⟩;have H2:=hid (H1.out.step hb2);clear hb2))
       go_ret
       exact ⟨false,rfl,⟨(fun h=>by cases h),fun h=>absurd h HN.out⟩,H0.out.below⟩
     ·have z4:(an == bn)=false:=by simpa using q4
      have HN:=hid (show ¬ SS from fun hs=>q4 (by have h:=HSS.out.1 hs;exact h.2.2.2.2.1))
      clear q4;go_enter Tryz.func21,Tryz.ntmps21
      go_wp2_with (first
       | (go_at_call 16;refine (HV.out _ H0.out.below).mono ?_;rintro e w1 ⟨rfl,hb1⟩;have H1:=hid (H0.out.step hb1);obtain ⟨a0,a1,a2,a3,a4,a5,a6,a7,a8,a9,a10,a11,_⟩:=H1.out.a.tw;obtain ⟨e0,e1,e2,e3,e4,e5,e6,e7,e8,e9,e10,e11,_⟩:=H1.out.b.tw;clear hb1)
       | (go_at_call 46;refine (HE.out _ H1.out.below).mono ?_;rintro e w2 ⟨rfl,hb2⟩;have H2:=hid (H1.out.step hb2);clear hb2))
      go_ret
      exact ⟨false,rfl,⟨(fun h=>by cases h),fun h=>absurd h HN.out⟩,H0.out.below⟩
    ·have z3:(aj == bj)=false:=by simpa using q3
     have HN:=hid (show ¬ SS from fun hs=>q3 (by have h:=HSS.out.1 hs;exact h.2.2.2.1))
     clear q3;go_enter Tryz.func21,Tryz.ntmps21
     go_wp2_with (first
      | (go_at_call 16;refine (HV.out _ H0.out.below).mono ?_;rintro e w1 ⟨rfl,hb1⟩;have H1:=hid (H0.out.step hb1);obtain ⟨a0,a1,a2,a3,a4,a5,a6,a7,a8,a9,a10,a11,_⟩:=H1.out.a.tw;obtain ⟨e0,e1,e2,e3,e4,e5,e6,e7,e8,e9,e10,e11,_⟩:=H1.out.b.tw;clear hb1)
      | (go_at_call 46;refine (HE.out _ H1.out.below).mono ?_;rintro e w2 ⟨rfl,hb2⟩;have H2:=hid (H1.out.step hb2);clear hb2))
     go_ret
     exact ⟨false,rfl,⟨(fun h=>by cases h),fun h=>absurd h HN.out⟩,H0.out.below⟩
   ·have z2:(ai == bi)=false:=by simpa using q2
    have HN:=hid (show ¬ SS from fun hs=>q2 (by have h:=HSS.out.1 hs;exact h.2.2.1))
    clear q2;go_enter Tryz.func21,Tryz.ntmps21
    go_wp2_with (first
     | (go_at_call 16;refine (HV.out _ H0.out.below).mono ?_;rintro e w1 ⟨rfl,hb1⟩;have H1:=hid (H0.out.step hb1);obtain ⟨a0,a1,a2,a3,a4,a5,a6,a7,a8,a9,a10,a11,_⟩:=H1.out.a.tw;obtain ⟨e0,e1,e2,e3,e4,e5,e6,e7,e8,e9,e10,e11,_⟩:=H1.out.b.tw;clear hb1)
     | (go_at_call 46;refine (HE.out _ H1.out.below).mono ?_;rintro e w2 ⟨rfl,hb2⟩;have H2:=hid (H1.out.step hb2);clear hb2))
    go_ret
    exact ⟨false,rfl,⟨(fun h=>by cases h),fun h=>absurd h HN.out⟩,H0.out.below⟩
  ·have z1:(aY.toList == bY.toList)=false:=by simpa using q1
   have HN:=hid (show ¬ SS from fun hs=>q1 (by have h:=HSS.out.1 hs;exact h.2.1))
   clear q1;go_enter Tryz.func21,Tryz.ntmps21
   go_wp2_with (first
    | (go_at_call 16;refine (HV.out _ H0.out.below).mono ?_;rintro e w1 ⟨rfl,hb1⟩;have H1:=hid (H0.out.step hb1);obtain ⟨a0,a1,a2,a3,a4,a5,a6,a7,a8,a9,a10,a11,_⟩:=H1.out.a.tw;obtain ⟨e0,e1,e2,e3,e4,e5,e6,e7,e8,e9,e10,e11,_⟩:=H1.out.b.tw;clear hb1)
    | (go_at_call 46;refine (HE.out _ H1.out.below).mono ?_;rintro e w2 ⟨rfl,hb2⟩;have H2:=hid (H1.out.step hb2);clear hb2))
   go_ret
   exact ⟨false,rfl,⟨(fun h=>by cases h),fun h=>absurd h HN.out⟩,H0.out.below⟩
 ·have z0:(ak == bk)=false:=by simpa using q0
  have HN:=hid (show ¬ SS from fun hs=>q0 (by have h:=HSS.out.1 hs;exact h.1))
  clear q0;go_enter Tryz.func21,Tryz.ntmps21
  go_wp2_with (first
   | (go_at_call 16;refine (HV.out _ H0.out.below).mono ?_;rintro e w1 ⟨rfl,hb1⟩;have H1:=hid (H0.out.step hb1);obtain ⟨a0,a1,a2,a3,a4,a5,a6,a7,a8,a9,a10,a11,_⟩:=H1.out.a.tw;obtain ⟨e0,e1,e2,e3,e4,e5,e6,e7,e8,e9,e10,e11,_⟩:=H1.out.b.tw;clear hb1)
   | (go_at_call 46;refine (HE.out _ H1.out.below).mono ?_;rintro e w2 ⟨rfl,hb2⟩;have H2:=hid (H1.out.step hb2);clear hb2))
  go_ret
  exact ⟨false,rfl,⟨(fun h=>by cases h),fun h=>absurd h HN.out⟩,H0.out.below⟩
def saysB (k:Int):ByteArray:=if k=1 then ⟨#[78]⟩ else if k=2 then ⟨#[75,86]⟩ else if k=3 then ⟨#[75]⟩ else if k=4 then ⟨#[73,86]⟩ else if k=5 then ⟨#[73]⟩ else if k=6 then ⟨#[73,86]⟩ else if k=7 then ⟨#[73,74]⟩ else if k=8 then ⟨#[73,83]⟩ else if k=9 then ⟨#[73,78]⟩ else ⟨#[]⟩
theorem zbf (k:Int) (w:World):Calls Tryz.prog 73 #[.int .u8 k] w fun e w'=>e=.returned (.string (saysB k))/\w'=w:=by
 by_cases hk:1<=k/\k<=9
 ·obtain ⟨h1,h9⟩:=hk
  rcases (show k=1\/k=2\/k=3\/k=4\/k=5\/k=6\/k=7\/k=8\/k=9 by omega) with rfl | rfl | rfl | rfl | rfl | rfl | rfl | rfl | rfl
  all_goals
   go_enter Tryz.func73,Tryz.ntmps73
   go_wp2
   go_ret
   exact ⟨rfl,rfl⟩
 ·have hs:saysB k =⟨#[]⟩:=by unfold saysB;simp only [show ¬ k=1 by omega,show ¬ k=2 by omega,show ¬ k=3 by omega,show ¬ k=4 by omega,show ¬ k=5 by omega,show ¬ k=6 by omega,show ¬ k=7 by omega,show ¬ k=8 by omega,show ¬ k=9 by omega,if_false]
  rw [hs];have g1:(k == 1)=false:=by simp;omega
  have g2:(k == 2)=false:=by simp;omega
  have g3:(k == 3)=false:=by simp;omega
  have g4:(k == 4)=false:=by simp;omega
  have g5:(k == 5)=false:=by simp;omega
  have g6:(k == 6)=false:=by simp;omega
  have g7:(k == 7)=false:=by simp;omega
  have g8:(k == 8)=false:=by simp;omega
  have g9:(k == 9)=false:=by simp;omega
  clear hk hs;go_enter Tryz.func73,Tryz.ntmps73
  go_wp2
  go_ret
  exact ⟨rfl,rfl⟩
def inB (s:ByteArray) (c:Int):Bool:=s.data.toList.any fun b=>decide ((b.toNat:Int)=c)
def InRel (s:ByteArray) (c:Int) (w:World) (i:Value) (wr:World):Prop:=∃ k:Nat,i=.int .i64 k/\k<=s.size/\(∀ b∈s.data.toList.take k,(b.toNat:Int)≠c)/\wr=w
theorem zar (s:ByteArray) (c:Int) (w:World) (hs:s.size<=1000):Calls Tryz.prog 75 #[.string s,.int .u8 c] w fun e w'=>e=.returned (.bool (inB s c))/\w'=w:=by
 go_enter Tryz.func75,Tryz.ntmps75
 go_wp2
 go_loopw [5] (InRel s c w) (fun i _=>s.size - (intOf i).toNat)
 case atStart=>exact ⟨0,rfl,Nat.zero_le _,by simp,rfl⟩
 case round=>
  obtain ⟨k,rfl,hk,hno,rfl⟩:=hrel;by_cases hlt:k<s.size
  ·have hl2:k<s.data.toList.length:=by simpa using hlt
   have hb:s.data.toList[k]=s[k]:=by simp;rfl
   have HNO:=hid hno;have HT:=hid (show s.data.toList.take (k+1)=s.data.toList.take k++[s[k]] by rw [List.take_succ_eq_append_getElem hl2,hb])
   have HM:=hid (show s[k]∈s.data.toList by rw [<- hb];exact List.getElem_mem hl2)
   clear hno hb;by_cases hc:((s[k].toNat:Int))=c
   ·have HC:=hid hc
    have hz:((s[k].toNat:Int) == c)=true:=by simpa using hc
    clear hc;go_wp2
    go_ret
    exact ⟨by rw [show inB s c=true from List.any_eq_true.2 ⟨_,HM.out,by simpa using HC.out⟩]<;>rfl,rfl⟩
   ·have HC:=hid hc
    have hz:((s[k].toNat:Int) == c)=false:=by simpa using hc
    clear hc;go_wp2
    go_roundw
    case rel=>exact ⟨k+1,by go_num,by omega,by rw [HT.out];intro b hb;rcases List.mem_append.1 hb with hb | hb;exact HNO.out b hb;simp only [List.mem_singleton] at hb;subst hb;exact HC.out,rfl⟩
    case measure=>simp [intOf];omega
  ·have hk':k=s.size:=by omega
   have HF:=hid (show inB s c=false by
    unfold inB;rw [List.any_eq_false];intro b hb;have:=hno b (by rw [List.take_of_length_le (by simp;omega)];exact hb)
    simpa using this)
   clear hno;go_wp2
   go_ret
   exact ⟨by rw [HF.out]<;>rfl,rfl⟩
end Go.Proofs.YthmcfjmignlhfaaGreatDoor
