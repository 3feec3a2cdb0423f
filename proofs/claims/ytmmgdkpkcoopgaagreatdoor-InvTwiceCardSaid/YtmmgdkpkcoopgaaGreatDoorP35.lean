/- Texts in one: InvN, InvO, HeavyX, CompEx, RcE, InvP, InvQ, InvR, OpA, TieM. -/
import Derived.Test.YtmmgdkpkcoopgaaGreatDoorP34
import Derived.Test.YtmmgdkpkcoopgaaGreatDoorP23
import Derived.Test.YtmmgdkpkcoopgaaGreatDoorP13
import Derived.Test.YtmmgdkpkcoopgaaGreatDoorP5
import Derived.Test.YtmmgdkpkcoopgaaGreatDoorP1
import Derived.Test.YtmmgdkpkcoopgaaGreatDoorP12
import Derived.WalkKit
import Derived.WalkSpells
import Derived.WalkLawsBesides
import Derived.Lib.Hide
import Derived.Test.YtmmgdkpkcoopgaaGreatDoorP20
import Derived.Test.YtmmgdkpkcoopgaaGreatDoorP29
import Derived.Test.YtmmgdkpkcoopgaaGreatDoorP25
import Derived.Deep.RegionHeld3
import Derived.Test.YtmmgdkpkcoopgaaGreatDoorP11
set_option maxRecDepth 100000
set_option maxHeartbeats 16000000
namespace Go.Proofs.YtmmgdkpkcoopgaaGreatDoor
open Go.Lib(hid)
open Go Go.RowKit Go.Shelf
set_option linter.unusedVariables false
set_option linter.unusedSimpArgs false
theorem zjh (g GL GO dL dO c A AL AO cp cL cO w) (hg:Vl w g GL GO dL dO) (hc:Cc w c A AL AO cp cL cO) (hpl:c.path.length<=100000) (hky:c.key.size<=281474976710656) (hpk:∀ s∈c.path,s.key.size<=281474976710656) (hk:c.kq=8) (hs:c.s.size<=1000000000):
  Calls Tryz.prog 32 #[(vG g GL dL GO dO),(vC c A cp AL cL AO cO)] w (SameNw (⟨9,c.path,c.key,c.i,0,nChars c.s,noG,⟨#[]⟩⟩:GC) w):=by
 have HCY:=hid (fun W (hb:Below w.heap.size w W)=>(show Calls Tryz.prog 49 #[.agg #[.int .u8 0,.slice A c.path.length cp,.string c.key,.int .i64 c.i,.int .i64 0,.int .i64 0,.int .u8 0,.int .i64 0,.string ⟨#[]⟩,.slice none 0 0,.slice none 0 0,.string ⟨#[]⟩]] W (fun e w'=>∃ B BL BO bp bL bO,e=.returned (.agg #[.int .u8 0,.slice B c.path.length bp,.string c.key,.int .i64 c.i,.int .i64 0,.int .i64 0,.int .u8 0,.int .i64 0,.string ⟨#[]⟩,.slice BL 0 bL,.slice BO 0 bO,.string ⟨#[]⟩])/\CcNew W.heap.size w' (preC c) B BL BO bp bL bO/\Below W.heap.size W w') from zaV (preC c) A none none cp 0 0 W ⟨hc.path.later hb,za0 W⟩ (show (1+0+0+0+0:Nat)<=1000000000 by decide) (Nat.le_trans hpl (by decide)) hky (Nat.zero_le _) hpk))
 have HLN:=hid (fun W=>zh1 c.s W (Nat.le_trans hs (by decide)))
 have H0:=hid (UB3.new w #[.int .u8 g.kq,.int .i64 g.num,.string g.str,.slice GL g.il.length dL,.slice GO g.vz.length dO] #[.int .u8 c.kq,.slice A c.path.length cp,.string c.key,.int .i64 c.i,.int .i64 c.j,.int .i64 c.n,.int .u8 c.v.kq,.int .i64 c.v.num,.string c.v.str,.slice AL c.v.il.length cL,.slice AO c.v.vz.length cO,.string c.s] #[.int .u8 0,.slice none 0 0,.string ⟨#[]⟩,.int .i64 0,.int .i64 0,.int .i64 0,.int .u8 0,.int .i64 0,.string ⟨#[]⟩,.slice none 0 0,.slice none 0 0,.string ⟨#[]⟩]);have k1:(c.kq == 1)=false:=by simp;omega
 have k2:(c.kq == 2)=false:=by simp;omega
 have k3:(c.kq == 3)=false:=by simp;omega
 have k4:(c.kq == 4)=false:=by simp;omega
 have k5:(c.kq == 5)=false:=by simp;omega
 have k6:(c.kq == 6)=false:=by simp;omega
 have k7:(c.kq == 7)=false:=by simp;omega
 have k8:(c.kq == 8)=true:=by simp;omega
 clear hg hc hpl hky hpk hk hs;go_enter Tryz.func32,Tryz.ntmps32
 obtain ⟨c0,c1,c2,c3,c4,c5,c6,c7,c8,c9,c10,c11,_⟩:=H0.out.c.tw
 go_upto_region 2 with (go_at_call 49;refine (HCY.out _ (below3 w _ _ _)).mono ?_;rintro e w1 ⟨B,BL,BO,bp,bL,bO,rfl,hn,hb⟩;have H1:=hid (H0.out.step hb);have HN:=hid (hn.kp (m:=w.heap.size+1+1+1) (by simp) (Kp.refl _ _));clear hn hb c0 c1 c2 c3 c4 c5 c6 c7 c8 c9 c10 c11;obtain ⟨c0,c1,c2,c3,c4,c5,c6,c7,c8,c9,c10,c11,_⟩:=(H1.out.step (zaa w1 (.cells #[.int .u8 0,.slice B c.path.length bp,.string c.key,.int .i64 c.i,.int .i64 0,.int .i64 0,.int .u8 0,.int .i64 0,.string ⟨#[]⟩,.slice BL 0 bL,.slice BO 0 bO,.string ⟨#[]⟩] 45))).c.tw;obtain ⟨v0,v1,v2,v3,v4,_⟩:=(H1.out.step (zaa w1 (.cells #[.int .u8 0,.slice B c.path.length bp,.string c.key,.int .i64 c.i,.int .i64 0,.int .i64 0,.int .u8 0,.int .i64 0,.string ⟨#[]⟩,.slice BL 0 bL,.slice BO 0 bO,.string ⟨#[]⟩] 45))).g.five)
 go_upto_region 26 with (go_at_call 51;refine (HLN.out _).mono ?_;rintro e w2 ⟨rfl,hb⟩;have H3:=hid ((H1.out.step (zaa w1 (.cells #[.int .u8 0,.slice B c.path.length bp,.string c.key,.int .i64 c.i,.int .i64 0,.int .i64 0,.int .u8 0,.int .i64 0,.string ⟨#[]⟩,.slice BL 0 bL,.slice BO 0 bO,.string ⟨#[]⟩] 45))).step hb);have HT:=hid ((zaA w1 45 #[.int .u8 0,.slice B c.path.length bp,.string c.key,.int .i64 c.i,.int .i64 0,.int .i64 0,.int .u8 0,.int .i64 0,.string ⟨#[]⟩,.slice BL 0 bL,.slice BO 0 bO,.string ⟨#[]⟩]).below hb (by simp));have HK:=hid (show Kp (w.heap.size+1+1+1) w1 w2 from ((Kp.refl _ _).below (zaa w1 (.cells #[.int .u8 0,.slice B c.path.length bp,.string c.key,.int .i64 c.i,.int .i64 0,.int .i64 0,.int .u8 0,.int .i64 0,.string ⟨#[]⟩,.slice BL 0 bL,.slice BO 0 bO,.string ⟨#[]⟩] 45))).below hb);clear hb c0 c1 c2 c3 c4 c5 c6 c7 c8 c9 c10 c11 v0 v1 v2 v3 v4;obtain ⟨s0,s1,s2,s3,s4,s5,s6,s7,s8,s9,s10,s11,u0,u1,u2,u3,u4,u5,u6,u7,u8,u9,u10,u11⟩:=HT.out.tw)
 have hlo:w.heap.size+1+1+1<=w1.heap.size:=H1.out.r.lt;have H5:=(H3.out.one (b:=w1.heap.size) hlo 0 (.int .u8 9)).one (b:=w1.heap.size) hlo 5 (.int .i64 (nChars c.s));have HTa:Whole _ w1.heap.size 45 #[.int .u8 9,.slice B c.path.length bp,.string c.key,.int .i64 c.i,.int .i64 0,.int .i64 0,.int .u8 0,.int .i64 0,.string ⟨#[]⟩,.slice BL 0 bL,.slice BO 0 bO,.string ⟨#[]⟩]:=HT.out.put 0 (.int .u8 9);have HT5:Whole _ w1.heap.size 45 #[.int .u8 9,.slice B c.path.length bp,.string c.key,.int .i64 c.i,.int .i64 0,.int .i64 (nChars c.s),.int .u8 0,.int .i64 0,.string ⟨#[]⟩,.slice BL 0 bL,.slice BO 0 bO,.string ⟨#[]⟩]:=HTa.put 5 (.int .i64 (nChars c.s));have HK5:=(HK.out.hi (p:=⟨w1.heap.size,0,none⟩) (Nat.le_refl _) (.int .u8 9)).hi (p:=⟨w1.heap.size,5,none⟩) (Nat.le_refl _) (.int .i64 (nChars c.s));generalize ((w2.setCell ⟨w1.heap.size,0,none⟩ (.int .u8 9)).setCell ⟨w1.heap.size,5,none⟩ (.int .i64 (nChars c.s)))=X5 at *;have HC5:CcNew (w.heap.size+1+1+1) X5 (⟨9,c.path,c.key,c.i,0,nChars c.s,noG,⟨#[]⟩⟩:GC) B BL BO bp bL bO:=(show CcNew (w.heap.size+1+1+1) X5 (preC c) B BL BO bp bL bO from HN.out.kp (Nat.le_refl _) HK5);clear s0 s1 s2 s3 s4 s5 s6 s7 s8 s9 s10 s11 u0 u1 u2 u3 u4 u5 u6 u7 u8 u9 u10 u11;obtain ⟨r0,r1,r2,r3,r4,r5,r6,r7,r8,r9,r10,r11,y0,y1,y2,y3,y4,y5,y6,y7,y8,y9,y10,y11⟩:=H5.r.tw;obtain ⟨t0,t1,t2,t3,t4,t5,t6,t7,t8,t9,t10,t11,_⟩:=HT5.tw
 go_wp2_with fail
 have h9:=zaF H5.r (.int .u8 9) (.slice B c.path.length bp) (.string c.key) (.int .i64 c.i) (.int .i64 0) (.int .i64 (nChars c.s)) (.int .u8 0) (.int .i64 0) (.string ⟨#[]⟩) (.slice BL 0 bL) (.slice BO 0 bO) (.string ⟨#[]⟩);have hk9:=zby X5 (w.heap.size+1+1) (.int .u8 9) (.slice B c.path.length bp) (.string c.key) (.int .i64 c.i) (.int .i64 0) (.int .i64 (nChars c.s)) (.int .u8 0) (.int .i64 0) (.string ⟨#[]⟩) (.slice BL 0 bL) (.slice BO 0 bO) (.string ⟨#[]⟩);have hb9:=zaH H5.below (show w.heap.size<=w.heap.size+1+1 by omega) (.int .u8 9) (.slice B c.path.length bp) (.string c.key) (.int .i64 c.i) (.int .i64 0) (.int .i64 (nChars c.s)) (.int .u8 0) (.int .i64 0) (.string ⟨#[]⟩) (.slice BL 0 bL) (.slice BO 0 bO) (.string ⟨#[]⟩)
 unfold pt12 at h9 hk9 hb9;generalize ((((((((((((X5.setCell ⟨w.heap.size+1+1,0,none⟩ (.int .u8 9)).setCell ⟨w.heap.size+1+1,1,none⟩ (.slice B c.path.length bp)).setCell ⟨w.heap.size+1+1,2,none⟩ (.string c.key)).setCell ⟨w.heap.size+1+1,3,none⟩ (.int .i64 c.i)).setCell ⟨w.heap.size+1+1,4,none⟩ (.int .i64 0)).setCell ⟨w.heap.size+1+1,5,none⟩ (.int .i64 (nChars c.s))).setCell ⟨w.heap.size+1+1,6,none⟩ (.int .u8 0)).setCell ⟨w.heap.size+1+1,7,none⟩ (.int .i64 0)).setCell ⟨w.heap.size+1+1,8,none⟩ (.string ⟨#[]⟩)).setCell ⟨w.heap.size+1+1,9,none⟩ (.slice BL 0 bL)).setCell ⟨w.heap.size+1+1,10,none⟩ (.slice BO 0 bO)).setCell ⟨w.heap.size+1+1,11,none⟩ (.string ⟨#[]⟩))=X at *;obtain ⟨d0,d1,d2,d3,d4,d5,d6,d7,d8,d9,d10,d11,_⟩:=h9.tw;refine bodyPost_ret (v:=.agg #[.int .u8 9,.slice B c.path.length bp,.string c.key,.int .i64 c.i,.int .i64 0,.int .i64 (nChars c.s),.int .u8 0,.int .i64 0,.string ⟨#[]⟩,.slice BL 0 bL,.slice BO 0 bO,.string ⟨#[]⟩]) (by simp [results,Tryz.results32,go_sem,d0,d1,d2,d3,d4,d5,d6,d7,d8,d9,d10,d11]) rfl ?_
 exact ⟨B,BL,BO,bp,bL,bO,rfl,HC5.kp (m:=w.heap.size) (by omega) hk9,hb9⟩
theorem zjs (g GL GO dL dO c A AL AO cp cL cO) (h:GV) (w) (hg:Vl w g GL GO dL dO) (hc:Cc w c A AL AO cp cL cO) (hgw:g.weight<=1000000000) (hpl:c.path.length<=100000) (hky:c.key.size<=281474976710656) (hpk:∀ s∈c.path,s.key.size<=281474976710656) (hk:c.kq=9) (hget:g.get c.path=some h) (hs:h.str.size<=1000000000) (i0:0<=c.i) (n1:1<=c.n) (hin:c.i.toNat+c.n.toNat<=nChars h.str):
  Calls Tryz.prog 32 #[(vG g GL dL GO dO),(vC c A cp AL cL AO cO)] w (SameNw (⟨8,c.path,c.key,c.i,0,0,noG,partS h.str c.i.toNat c.n.toNat⟩:GC) w):=by
 have HCY:=hid (fun W (hb:Below w.heap.size w W)=>(show Calls Tryz.prog 49 #[.agg #[.int .u8 0,.slice A c.path.length cp,.string c.key,.int .i64 c.i,.int .i64 0,.int .i64 0,.int .u8 0,.int .i64 0,.string ⟨#[]⟩,.slice none 0 0,.slice none 0 0,.string ⟨#[]⟩]] W (fun e w'=>∃ B BL BO bp bL bO,e=.returned (.agg #[.int .u8 0,.slice B c.path.length bp,.string c.key,.int .i64 c.i,.int .i64 0,.int .i64 0,.int .u8 0,.int .i64 0,.string ⟨#[]⟩,.slice BL 0 bL,.slice BO 0 bO,.string ⟨#[]⟩])/\CcNew W.heap.size w' (preC c) B BL BO bp bL bO/\Below W.heap.size W w') from zaV (preC c) A none none cp 0 0 W ⟨hc.path.later hb,za0 W⟩ (show (1+0+0+0+0:Nat)<=1000000000 by decide) (Nat.le_trans hpl (by decide)) hky (Nat.zero_le _) hpk))
 have HG:=hid (fun W (hb:Below w.heap.size w W)=>(zdh (fun _=>True) _ g W.heap.size A cp c.path W (hg.later hb).val (hc.path.later hb).steps (Nat.le_refl _) hc.path.le hc.path.cap hgw).mono (R':=fun e w'=>Below W.heap.size W w'/\∃ XL XO xl xo,e=.returned (.tuple #[(vG h XL xl XO xo),.int .u16 0])) fun e w' ⟨hb,hq⟩=>⟨hb,by
  rcases hq with ⟨hn,_⟩ | ⟨h',v',hs,he,⟨L,O,hv,hL,hO⟩,_⟩
  ·rw [hget] at hn;cases hn
  ·rw [hget] at hs
   cases hs
   obtain ⟨BL,dL,rfl⟩:=zah hL;obtain ⟨BO,dO,rfl⟩:=zag hO;exact ⟨BL,BO,dL,dO,by rw [he,hv]⟩⟩)
 have hch:=fun W=>zeK h.str c.i.toNat c.n.toNat W (Nat.le_trans hs (by decide)) (by omega) hin
 rw [show ((c.i.toNat:Nat):Int)=c.i by omega,show ((c.n.toNat:Nat):Int)=c.n by omega] at hch
 have HCH:=hid hch;clear hch;have H0:=hid (UB3.new w #[.int .u8 g.kq,.int .i64 g.num,.string g.str,.slice GL g.il.length dL,.slice GO g.vz.length dO] #[.int .u8 c.kq,.slice A c.path.length cp,.string c.key,.int .i64 c.i,.int .i64 c.j,.int .i64 c.n,.int .u8 c.v.kq,.int .i64 c.v.num,.string c.v.str,.slice AL c.v.il.length cL,.slice AO c.v.vz.length cO,.string c.s] #[.int .u8 0,.slice none 0 0,.string ⟨#[]⟩,.int .i64 0,.int .i64 0,.int .i64 0,.int .u8 0,.int .i64 0,.string ⟨#[]⟩,.slice none 0 0,.slice none 0 0,.string ⟨#[]⟩]);have k1:(c.kq == 1)=false:=by simp;omega
 have k2:(c.kq == 2)=false:=by simp;omega
 have k3:(c.kq == 3)=false:=by simp;omega
 have k4:(c.kq == 4)=false:=by simp;omega
 have k5:(c.kq == 5)=false:=by simp;omega
 have k6:(c.kq == 6)=false:=by simp;omega
 have k7:(c.kq == 7)=false:=by simp;omega
 have k8:(c.kq == 8)=false:=by simp;omega
 have k9:(c.kq == 9)=true:=by simp;omega
 clear hg hc hpl hky hpk hk hgw hget hs i0 n1 hin;go_enter Tryz.func32,Tryz.ntmps32
 obtain ⟨c0,c1,c2,c3,c4,c5,c6,c7,c8,c9,c10,c11,_⟩:=H0.out.c.tw
 go_upto_region 2 with (go_at_call 49;refine (HCY.out _ (below3 w _ _ _)).mono ?_;rintro e w1 ⟨B,BL,BO,bp,bL,bO,rfl,hn,hb⟩;have H1:=hid (H0.out.step hb);have HN:=hid (hn.kp (m:=w.heap.size+1+1+1) (by simp) (Kp.refl _ _));clear hn hb c0 c1 c2 c3 c4 c5 c6 c7 c8 c9 c10 c11;obtain ⟨c0,c1,c2,c3,c4,c5,c6,c7,c8,c9,c10,c11,_⟩:=(H1.out.step (zaa w1 (.cells #[.int .u8 0,.slice B c.path.length bp,.string c.key,.int .i64 c.i,.int .i64 0,.int .i64 0,.int .u8 0,.int .i64 0,.string ⟨#[]⟩,.slice BL 0 bL,.slice BO 0 bO,.string ⟨#[]⟩] 45))).c.tw;obtain ⟨v0,v1,v2,v3,v4,_⟩:=(H1.out.step (zaa w1 (.cells #[.int .u8 0,.slice B c.path.length bp,.string c.key,.int .i64 c.i,.int .i64 0,.int .i64 0,.int .u8 0,.int .i64 0,.string ⟨#[]⟩,.slice BL 0 bL,.slice BO 0 bO,.string ⟨#[]⟩] 45))).g.five)
 go_upto_region 26 with (first
  | (go_at_call 52;refine (HG.out _ (H1.out.step (zaa w1 (.cells #[.int .u8 0,.slice B c.path.length bp,.string c.key,.int .i64 c.i,.int .i64 0,.int .i64 0,.int .u8 0,.int .i64 0,.string ⟨#[]⟩,.slice BL 0 bL,.slice BO 0 bO,.string ⟨#[]⟩] 45))).below).mono ?_;rintro e w2 ⟨hb,XL,XO,xl,xo,rfl⟩;have H2:=hid (((H1.out.step (zaa w1 (.cells #[.int .u8 0,.slice B c.path.length bp,.string c.key,.int .i64 c.i,.int .i64 0,.int .i64 0,.int .u8 0,.int .i64 0,.string ⟨#[]⟩,.slice BL 0 bL,.slice BO 0 bO,.string ⟨#[]⟩] 45))).step hb).step (zaa w2 (oV h XL xl XO xo)));have HT2:=hid (zaM ((zaA w1 45 #[.int .u8 0,.slice B c.path.length bp,.string c.key,.int .i64 c.i,.int .i64 0,.int .i64 0,.int .u8 0,.int .i64 0,.string ⟨#[]⟩,.slice BL 0 bL,.slice BO 0 bO,.string ⟨#[]⟩]).below hb (by simp)) (oV h XL xl XO xo));have HK2:=hid (show Kp (w.heap.size+1+1+1) w1 (w2.alloc (oV h XL xl XO xo)) from (((Kp.refl _ _).below (zaa w1 (.cells #[.int .u8 0,.slice B c.path.length bp,.string c.key,.int .i64 c.i,.int .i64 0,.int .i64 0,.int .u8 0,.int .i64 0,.string ⟨#[]⟩,.slice BL 0 bL,.slice BO 0 bO,.string ⟨#[]⟩] 45))).below hb).below (zaa _ _));clear hb c0 c1 c2 c3 c4 c5 c6 c7 c8 c9 c10 c11 v0 v1 v2 v3 v4;obtain ⟨c0,c1,c2,c3,c4,c5,c6,c7,c8,c9,c10,c11,_⟩:=H2.out.c.tw)
  | (go_at_call 53;refine (HCH.out _).mono ?_;rintro e w3 ⟨rfl,hb⟩;have H3:=hid (H2.out.step hb);have HT:=hid (HT2.out.below hb HT2.out.lt);have HK:=hid (HK2.out.below hb);clear hb c0 c1 c2 c3 c4 c5 c6 c7 c8 c9 c10 c11;obtain ⟨s0,s1,s2,s3,s4,s5,s6,s7,s8,s9,s10,s11,u0,u1,u2,u3,u4,u5,u6,u7,u8,u9,u10,u11⟩:=HT.out.tw))
 have hlo:w.heap.size+1+1+1<=w1.heap.size:=H1.out.r.lt;have H5:=(H3.out.one (b:=w1.heap.size) hlo 0 (.int .u8 8)).one (b:=w1.heap.size) hlo 11 (.string (partS h.str c.i.toNat c.n.toNat));have HTa:Whole _ w1.heap.size 45 #[.int .u8 8,.slice B c.path.length bp,.string c.key,.int .i64 c.i,.int .i64 0,.int .i64 0,.int .u8 0,.int .i64 0,.string ⟨#[]⟩,.slice BL 0 bL,.slice BO 0 bO,.string ⟨#[]⟩]:=HT.out.put 0 (.int .u8 8);have HT5:Whole _ w1.heap.size 45 #[.int .u8 8,.slice B c.path.length bp,.string c.key,.int .i64 c.i,.int .i64 0,.int .i64 0,.int .u8 0,.int .i64 0,.string ⟨#[]⟩,.slice BL 0 bL,.slice BO 0 bO,.string (partS h.str c.i.toNat c.n.toNat)]:=HTa.put 11 (.string (partS h.str c.i.toNat c.n.toNat));have HK5:=(HK.out.hi (p:=⟨w1.heap.size,0,none⟩) (Nat.le_refl _) (.int .u8 8)).hi (p:=⟨w1.heap.size,11,none⟩) (Nat.le_refl _) (.string (partS h.str c.i.toNat c.n.toNat));generalize ((w3.setCell ⟨w1.heap.size,0,none⟩ (.int .u8 8)).setCell ⟨w1.heap.size,11,none⟩ (.string (partS h.str c.i.toNat c.n.toNat)))=X5 at *;have HC5:CcNew (w.heap.size+1+1+1) X5 (⟨8,c.path,c.key,c.i,0,0,noG,partS h.str c.i.toNat c.n.toNat⟩:GC) B BL BO bp bL bO:=(show CcNew (w.heap.size+1+1+1) X5 (preC c) B BL BO bp bL bO from HN.out.kp (Nat.le_refl _) HK5);clear s0 s1 s2 s3 s4 s5 s6 s7 s8 s9 s10 s11 u0 u1 u2 u3 u4 u5 u6 u7 u8 u9 u10 u11;obtain ⟨r0,r1,r2,r3,r4,r5,r6,r7,r8,r9,r10,r11,y0,y1,y2,y3,y4,y5,y6,y7,y8,y9,y10,y11⟩:=H5.r.tw;obtain ⟨t0,t1,t2,t3,t4,t5,t6,t7,t8,t9,t10,t11,_⟩:=HT5.tw
 go_wp2_with fail
 have h9:=zaF H5.r (.int .u8 8) (.slice B c.path.length bp) (.string c.key) (.int .i64 c.i) (.int .i64 0) (.int .i64 0) (.int .u8 0) (.int .i64 0) (.string ⟨#[]⟩) (.slice BL 0 bL) (.slice BO 0 bO) (.string (partS h.str c.i.toNat c.n.toNat));have hk9:=zby X5 (w.heap.size+1+1) (.int .u8 8) (.slice B c.path.length bp) (.string c.key) (.int .i64 c.i) (.int .i64 0) (.int .i64 0) (.int .u8 0) (.int .i64 0) (.string ⟨#[]⟩) (.slice BL 0 bL) (.slice BO 0 bO) (.string (partS h.str c.i.toNat c.n.toNat));have hb9:=zaH H5.below (show w.heap.size<=w.heap.size+1+1 by omega) (.int .u8 8) (.slice B c.path.length bp) (.string c.key) (.int .i64 c.i) (.int .i64 0) (.int .i64 0) (.int .u8 0) (.int .i64 0) (.string ⟨#[]⟩) (.slice BL 0 bL) (.slice BO 0 bO) (.string (partS h.str c.i.toNat c.n.toNat))
 unfold pt12 at h9 hk9 hb9;generalize ((((((((((((X5.setCell ⟨w.heap.size+1+1,0,none⟩ (.int .u8 8)).setCell ⟨w.heap.size+1+1,1,none⟩ (.slice B c.path.length bp)).setCell ⟨w.heap.size+1+1,2,none⟩ (.string c.key)).setCell ⟨w.heap.size+1+1,3,none⟩ (.int .i64 c.i)).setCell ⟨w.heap.size+1+1,4,none⟩ (.int .i64 0)).setCell ⟨w.heap.size+1+1,5,none⟩ (.int .i64 0)).setCell ⟨w.heap.size+1+1,6,none⟩ (.int .u8 0)).setCell ⟨w.heap.size+1+1,7,none⟩ (.int .i64 0)).setCell ⟨w.heap.size+1+1,8,none⟩ (.string ⟨#[]⟩)).setCell ⟨w.heap.size+1+1,9,none⟩ (.slice BL 0 bL)).setCell ⟨w.heap.size+1+1,10,none⟩ (.slice BO 0 bO)).setCell ⟨w.heap.size+1+1,11,none⟩ (.string (partS h.str c.i.toNat c.n.toNat)))=X at *;obtain ⟨d0,d1,d2,d3,d4,d5,d6,d7,d8,d9,d10,d11,_⟩:=h9.tw;refine bodyPost_ret (v:=.agg #[.int .u8 8,.slice B c.path.length bp,.string c.key,.int .i64 c.i,.int .i64 0,.int .i64 0,.int .u8 0,.int .i64 0,.string ⟨#[]⟩,.slice BL 0 bL,.slice BO 0 bO,.string (partS h.str c.i.toNat c.n.toNat)]) (by simp [results,Tryz.results32,go_sem,d0,d1,d2,d3,d4,d5,d6,d7,d8,d9,d10,d11]) rfl ?_
 exact ⟨B,BL,BO,bp,bL,bO,rfl,HC5.kp (m:=w.heap.size) (by omega) hk9,hb9⟩
end Go.Proofs.YtmmgdkpkcoopgaaGreatDoor
namespace Go.Proofs.YtmmgdkpkcoopgaaGreatDoor
open Go.Lib(hid)
open Go Go.RowKit
set_option linter.unusedVariables false
set_option linter.unusedSimpArgs false
theorem zjg {s:GStep} {h:GV}:∀ (p:List GStep) (g:GV),g.get p=some h->g.get (p++[s])=h.inside s
 | [],g,e=>by
  simp only [GV.get,Option.some.injEq] at e;subst e;simp only [List.nil_append,GV.get];cases g.inside s<;>rfl
 | t :: r,g,e=>by
  simp only [List.cons_append,GV.get] at e ⊢;cases hi:g.inside t with
  | none=>rw [hi] at e;cases e
  | some y=>
   rw [hi] at e;simp only [Option.bind_some] at e ⊢;exact zjg r y e
theorem zjr {s:ByteArray} (h:s.toList=[]):s =⟨#[]⟩:=by
 rw [ByteArray.toList_eq] at h;cases s with
 | mk d=>
  have:d=#[]:=by simpa using h
  rw [this]
theorem zji {c:GC} (h:c.Sound):c.path.length<=16:=by
 have:=h.2.2.2.1;unfold soundP at this;simp only [Bool.and_eq_true,decide_eq_true_eq] at this;exact this.1
theorem zeb (g GL GO dL dO c A AL AO cp cL cO) (h:GV) (d w) (hg:Vl w g GL GO dL dO) (hc:Cc w c A AL AO cp cL cO) (hgw:g.weight<=1000000) (hky:c.key.size<=281474976710656) (hpk:∀ s∈c.path,s.key.size<=281474976710656) (hsz:c.s.size<=1000000000) (hS:c.Sound) (hget:g.get c.path=some h) (hu:Undo h c d) (hck:chkH h c=0):
  Calls Tryz.prog 32 #[.agg #[.int .u8 g.kq,.int .i64 g.num,.string g.str,.slice GL g.il.length dL,.slice GO g.vz.length dO],.agg #[.int .u8 c.kq,.slice A c.path.length cp,.string c.key,.int .i64 c.i,.int .i64 c.j,.int .i64 c.n,.int .u8 c.v.kq,.int .i64 c.v.num,.string c.v.str,.slice AL c.v.il.length cL,.slice AO c.v.vz.length cO,.string c.s]] w (SameNw d w):=by
 have hpl:c.path.length<=100000:=by have:=zji hS;omega
 have hgw2:g.weight<=1000000000:=by omega
 have hhw:=zas _ _ _ hget;obtain ⟨s1,s2,_,s4,s5,s6⟩:=hS.2.2.2.2.1.2.1;have hwk:=zaS hck;have key0:c.kq≠2->c.kq≠3->c.key =⟨#[]⟩:=fun h2 h3=>by
  rcases s2 with e | e | e
  ·exact absurd e h2
  ·exact absurd e h3
  ·exact zjr e
 have i0:c.kq<4->c.i=0:=fun hlt=>by
  rcases s4 with e | e
  ·omega
  ·exact e
 have hin:∀ s,g.get (c.path++[s])=h.inside s:=fun s=>zjg c.path g hget
 rcases hu with ⟨q,rfl⟩ | ⟨q,ht,rfl⟩ | ⟨q,ht,x,hx,rfl⟩ | ⟨q,ht,x,hx,rfl⟩ | ⟨q,rfl⟩ | ⟨q,i,x,hi,hx,rfl⟩ | ⟨q,i,x,hi,hx,rfl⟩ | ⟨q,rfl⟩ | ⟨q,rfl⟩ | ⟨q,_,⟨i1,n1,hinn⟩,rfl⟩
 ·have:=zjd g GL GO dL dO c A AL AO cp cL cO w hg hc hpl hky hpk q
  simp only [vC,vG] at this
  rw [key0 (by omega) (by omega),i0 (by omega)] at this
  unfold undo1;rw [q];rw [key0 (by omega) (by omega),i0 (by omega)]
  rwa [q] at this
 ·have:=ziR g GL GO dL dO c A AL AO cp cL cO w hg hc hgw2 hpl hky hpk q (by rw [hin];simp [GV.inside,ht])
  unfold undo2n
  rwa [show (⟨3,c.path,c.key,c.i,0,0,noG,⟨#[]⟩⟩:GC) =⟨3,c.path,c.key,0,0,0,noG,⟨#[]⟩⟩ by rw [i0 (by omega)]] at this
 ·have h5:h.kq=5:=by rw [hwk,q];decide
  have:=ziF g GL GO dL dO c A AL AO cp cL cO x w hg hc hgw2 hpl hky hpk q (by rw [hin];simp [GV.inside,ht,h5,hx])
  unfold undo2t
  rwa [show (⟨2,c.path,c.key,c.i,0,0,x,⟨#[]⟩⟩:GC) =⟨2,c.path,c.key,0,0,0,x,⟨#[]⟩⟩ by rw [i0 (by omega)]] at this
 ·have h5:h.kq=5:=by rw [hwk,q];decide
  have:=zij g GL GO dL dO c A AL AO cp cL cO x w hg hc hgw2 hpl hky hpk q (by rw [hin];simp [GV.inside,ht,h5,hx])
  unfold undo3t
  rwa [show (⟨2,c.path,c.key,c.i,0,0,x,⟨#[]⟩⟩:GC) =⟨2,c.path,c.key,0,0,0,x,⟨#[]⟩⟩ by rw [i0 (by omega)]] at this
 ·have:=zjB g GL GO dL dO c A AL AO cp cL cO w hg hc hpl hky hpk q
  unfold undo4
  rwa [show (⟨5,c.path,c.key,c.i,0,0,noG,⟨#[]⟩⟩:GC) =⟨5,c.path,⟨#[]⟩,c.i,0,0,noG,⟨#[]⟩⟩ by rw [key0 (by omega) (by omega)]] at this
 ·have h4:h.kq=4:=by rw [hwk,q];decide
  have:=zjD g GL GO dL dO c A AL AO cp cL cO x w hg hc hgw2 hpl hky hpk q (by rw [hin];simp [GV.inside,h4,hi,hx])
  unfold undo5
  rwa [show (⟨4,c.path,c.key,c.i,0,0,x,⟨#[]⟩⟩:GC) =⟨4,c.path,⟨#[]⟩,i,0,0,x,⟨#[]⟩⟩ by rw [key0 (by omega) (by omega),hi]] at this
 ·have h4:h.kq=4:=by rw [hwk,q];decide
  have:=zkl g GL GO dL dO c A AL AO cp cL cO x w hg hc hgw2 hpl hky hpk q (by rw [hin];simp [GV.inside,h4,hi,hx])
  unfold undo6
  rwa [show (⟨6,c.path,c.key,c.i,0,0,x,⟨#[]⟩⟩:GC) =⟨c.kq,c.path,⟨#[]⟩,i,0,0,x,⟨#[]⟩⟩ by rw [key0 (by omega) (by omega),hi,q]] at this
 ·have:=zkc g GL GO dL dO c A AL AO cp cL cO w hg hc hpl hky hpk q
  unfold undo7
  rwa [show (⟨7,c.path,c.key,c.j,c.i,0,noG,⟨#[]⟩⟩:GC) =⟨c.kq,c.path,⟨#[]⟩,c.j,c.i,0,noG,⟨#[]⟩⟩ by rw [key0 (by omega) (by omega),q]] at this
 ·have:=zjh g GL GO dL dO c A AL AO cp cL cO w hg hc hpl hky hpk q hsz
  unfold undo8
  rwa [show (⟨9,c.path,c.key,c.i,0,nChars c.s,noG,⟨#[]⟩⟩:GC) =⟨9,c.path,⟨#[]⟩,c.i,0,nChars c.s,noG,⟨#[]⟩⟩ by rw [key0 (by omega) (by omega)]] at this
 ·have:=zjs g GL GO dL dO c A AL AO cp cL cO h w hg hc hgw2 hpl hky hpk q hget (by have:=zaP h;omega) i1 n1 hinn
  unfold undo9
  rwa [show (⟨8,c.path,c.key,c.i,0,0,noG,partS h.str c.i.toNat c.n.toNat⟩:GC) =⟨8,c.path,⟨#[]⟩,c.i,0,0,noG,partS h.str c.i.toNat c.n.toNat⟩ by rw [key0 (by omega) (by omega)]] at this
end Go.Proofs.YtmmgdkpkcoopgaaGreatDoor
namespace Go.Proofs.YtmmgdkpkcoopgaaGreatDoor
open Go.Lib(hid)
open Go Go.RowKit
set_option linter.unusedVariables false
set_option linter.unusedSimpArgs false
structure EAct where
 x:GAct
 P:Option Addr
 pc:Nat
 D:Option Addr
 dc:Nat
def EAct.Ok (w:World) (e:EAct):Prop:=ActOk w e.x e.P e.pc e.D e.dc
def ActsAt (w:World) (b:Nat) (es:List EAct):Prop:=∀ i e,es[i]? = some e->w.cell? ⟨b,i * 7,none⟩=some (.slice e.P e.x.path.length e.pc)/\w.cell? ⟨b,i * 7+5,none⟩=some (.string e.x.s)/\w.cell? ⟨b,i * 7+6,none⟩=some (.slice e.D e.x.v.length e.dc)
def IntBelow (w:World) (e:Ending) (w':World):Prop:=∃ z,e=.returned (.int .i64 z)/\Below w.heap.size w w'
def AnyBool (w:World) (e:Ending) (w':World):Prop:=∃ b,e=.returned (.bool b)/\Below w.heap.size w w'
def HARel (w:World) (m:Nat) (n i:Value) (wr:World):Prop:=∃ (k:Nat) (z:Int),i=.int .i64 k/\n=.int .i64 z/\k<=m/\Below w.heap.size w wr
theorem zjq (es:List EAct) (b c:Nat) (w:World) (hrow:ActsAt w b es) (hbl:b<w.heap.size) (hok:∀ e∈es,e.Ok w) (hn:es.length<=1000) (hc:es.length<=c):Calls Tryz.prog 15 #[.slice (some ⟨b,0,none⟩) es.length c] w (IntBelow w):=by
 have HROW:=hid hrow;have HOK:=hid hok;clear hrow hok;generalize hm:es.length=m at *;have HM:=hid hm;clear hm;go_enter Tryz.func15,Tryz.ntmps15
 go_wp2
 go_loopw [3,4] (HARel w m) (fun _ i _=>m - (intOf i).toNat)
 case atStart=>exact ⟨0,0,rfl,rfl,Nat.zero_le _,Below.refl _ _⟩
 case round=>
  obtain ⟨k,z,rfl,rfl,hk,hB⟩:=hrel;have HB:=hid hB;clear hB;by_cases hlt:k<m
  ·have hke:k<es.length:=by have:=HM.out;omega
   obtain ⟨x0,x5,x6⟩:=HROW.out k es[k] (List.getElem?_eq_getElem hke);have hE:=HOK.out es[k] (List.getElem_mem hke);generalize es[k]=E at *;obtain ⟨x,P,pc,D,dc⟩:=E;simp only at x0 x5 x6;have HE:=hid (show ActOk w x P pc D dc from hE);have y0:=(HB.out.cell (p:=⟨b,k * 7,none⟩) hbl).trans x0;have y5:=(HB.out.cell (p:=⟨b,k * 7+5,none⟩) hbl).trans x5;have hvl:x.v.length<=9223372036854775807:=by have:=HE.out.cap.1;have:=HE.out.cap.2;unfold maxLen at this;omega
   have hpl:x.path.length<=9223372036854775807:=by have:=HE.out.capp.1;have:=HE.out.capp.2;unfold maxLen at this;omega
   have X6:=hid x6;clear x0 x5 x6 hE hke;generalize hvn:x.v.length=vn at *;have HVN:=hid hvn;clear hvn
   go_wp2_with fail
   go_quiet (fail)
   have HB2:=hid (HB.out.trans ((zcC wr nq).mono HB.out.size));clear y0 y5;generalize wr.drewN nq=W1 at *;go_wp2
   go_loopw [3,5] (HARel w vn) (fun _ i _=>vn - (intOf i).toNat)
   case atStart=>exact ⟨0,_,rfl,rfl,Nat.zero_le _,HB2.out⟩
   case round=>
    obtain ⟨j,y,rfl,rfl,hj,hB3⟩:=hrel;have HB3:=hid hB3;clear hB3;have y6:=(HB3.out.cell (p:=⟨b,k * 7+6,none⟩) hbl).trans X6.out;by_cases hlt2:j<vn
    ·have hje:j<x.v.length:=by have:=HVN.out;omega
     obtain ⟨⟨ab,ao,_⟩,rfl,rfl,hl3,hcs⟩:=HE.out.toks (by intro e;simp [e] at hje)
     have hc2:=(hcs j x.v[j] (List.getElem?_eq_getElem hje)).2.2.1;simp only at hc2 hl3;have hc3:=(HB3.out.cell (p:=⟨ab,ao+j * 4+2,none⟩) hl3).trans hc2;clear hc2 hcs;generalize x.v[j].s=sj at *;go_wp2
     go_roundw
     case rel=>exact ⟨j+1,_,by go_num,rfl,by omega,HB3.out⟩
     case measure=>simp [intOf];omega
    ·go_wp2
     go_roundw
     case rel=>exact ⟨k+1,_,by go_num,rfl,by omega,HB3.out⟩
     case measure=>simp [intOf];omega
  ·go_wp2
   go_ret
   exact ⟨_,rfl,HB.out⟩
end Go.Proofs.YtmmgdkpkcoopgaaGreatDoor
namespace Go.Proofs.YtmmgdkpkcoopgaaGreatDoor
open Go.Lib(hid)
open Go Go.RowKit
set_option linter.unusedVariables false
set_option linter.unusedSimpArgs false
def TrueBelow (w:World) (e:Ending) (w':World):Prop:=e=.returned (.bool true)/\Below w.heap.size w w'
def nG (n:Int):GV:=.mk 2 n ⟨#[]⟩ [] [] []
def kV (n:Int):GV:=.mk 5 0 ⟨#[]⟩ [] [⟨#[97]⟩] [nG n]
theorem zhD (n:Int):(nG n).Sound:=by
 have h0:(⟨#[]⟩:ByteArray).toList=[]:=by decide +kernel
 simp [nG,GV.Sound,GV.Sounds,SelfP,h0]
theorem zkj:noG.Sound:=by
 have h0:(⟨#[]⟩:ByteArray).toList=[]:=by decide +kernel
 simp [noG,GV.Sound,GV.Sounds,SelfP,h0]
theorem zmi (n:Int):(nG n).deep=0:=by simp [nG,GV.deep,GV.deeps]
theorem zdo (n:Int):(nG n).weight=1:=by
 have h0:(⟨#[]⟩:ByteArray).size=0:=rfl;simp [nG,GV.weight,GV.weights,h0]
theorem zko:noG.deep=0:=by simp [noG,GV.deep,GV.deeps]
theorem zia:noG.weight=1:=by
 have h0:(⟨#[]⟩:ByteArray).size=0:=rfl;simp [noG,GV.weight,GV.weights,h0]
theorem ze7:soundP []=true:=by decide +kernel
theorem zfq (n:Int):there ⟨#[97]⟩ (kV n).keys=true:=by show there ⟨#[97]⟩ [⟨#[97]⟩]=true;decide +kernel
theorem zg8 (n:Int):place ⟨#[97]⟩ (kV n).keys=0:=by show place ⟨#[97]⟩ [⟨#[97]⟩]=0;decide +kernel
theorem zdc (n:Int):(kV n).weight<=100:=by
 have h0:(⟨#[]⟩:ByteArray).size=0:=rfl;have h1:(⟨#[97]⟩:ByteArray).size=1:=rfl;simp [kV,nG,GV.weight,GV.weights,ksum,h0,h1]
theorem zmy {w:World} {c:GC} {A AL AO:Option Addr} {cp cL cO:Nat} (h:worksOn c.kq≠3):TextChecks w c A AL AO cp cL cO:=fun _ _ _ h3 _ _=>absurd h3 h
structure KB (w W:World):Prop where
 row:Whole W w.heap.size 56 #[.string ⟨#[97]⟩,.int .u8 2,.int .i64 1,.string ⟨#[]⟩,.slice none 0 0,.slice none 0 0]
 box:Whole W (w.heap.size+1) 29 #[.int .u8 5,.int .i64 0,.string ⟨#[]⟩,.slice none 0 0,.slice (some ⟨w.heap.size,0,none⟩) 1 1]
 below:Below w.heap.size w W
theorem KB.later {w W W':World} (h:KB w W) (hb:Below W.heap.size W W'):KB w W':=⟨h.row.below hb h.row.lt,h.box.below hb h.box.lt,h.below.trans (hb.mono h.below.size)⟩
theorem KB.start (w:World):KB w ((w.alloc (.cells #[.string ⟨#[97]⟩,.int .u8 2,.int .i64 1,.string ⟨#[]⟩,.slice none 0 0,.slice none 0 0] 56)).alloc (.cells #[.int .u8 5,.int .i64 0,.string ⟨#[]⟩,.slice none 0 0,.slice (some ⟨w.heap.size,0,none⟩) 1 1] 29)):=by
 have h2:=Whole.new (w.alloc (.cells #[.string ⟨#[97]⟩,.int .u8 2,.int .i64 1,.string ⟨#[]⟩,.slice none 0 0,.slice none 0 0] 56)) 29 #[.int .u8 5,.int .i64 0,.string ⟨#[]⟩,.slice none 0 0,.slice (some ⟨w.heap.size,0,none⟩) 1 1];rw [World.size_alloc] at h2;exact ⟨(Whole.new w _ _).alloc _,h2,(zaa w _).alloc (by simp) _⟩
theorem KB.vl {w W:World} (h:KB w W):Vl W (kV 1) none (some ⟨w.heap.size,0,none⟩) 0 1:=by
 have hc:∀ (j:Nat) (u:Value),(#[.string ⟨#[97]⟩,.int .u8 2,.int .i64 1,.string ⟨#[]⟩,.slice none 0 0,.slice none 0 0]:Array Value).toList[j]? = some u->W.cell? ⟨w.heap.size,0+j,none⟩=some u:=fun j u hu=>by rw [Nat.zero_add,h.row.cell];simpa using hu
 have h1:=RowO.els (ok:=fun _=>True) (W:=W) (b:=w.heap.size) (ks:=(kV 1).keys) (ov:=(kV 1).vz) (xs:=(#[.string ⟨#[97]⟩,.int .u8 2,.int .i64 1,.string ⟨#[]⟩,.slice none 0 0,.slice none 0 0]:Array Value).toList) (off:=0) ⟨_,_,_,rfl,.inl ⟨rfl,rfl⟩,⟨rfl,.inl ⟨rfl,rfl⟩⟩,rfl⟩ hc
 exact ⟨.inl ⟨rfl,rfl⟩,rfl,.inr ⟨w.heap.size,0,1,rfl,Nat.le_refl _,by decide,h.row.kq trivial,h1.1,h1.2⟩⟩
theorem zgG {s:ByteArray} (h:s.size<=10):s.size<=9223372036854775807:=by omega
end Go.Proofs.YtmmgdkpkcoopgaaGreatDoor
namespace Go.Proofs.YtmmgdkpkcoopgaaGreatDoor
open Go.Lib(hid)
open Go Go.RowKit Go.Shelf
set_option linter.unusedVariables false
set_option linter.unusedSimpArgs false
theorem zl7 (g GL GO eL eO c A AL AO cp cL cO w) (hg:Vl w g GL GO eL eO) (hc:Cc w c A AL AO cp cL cO) (hgw:g.weight<=1000000) (hs:Small c) (hpos:c.v.Pos) (hT:Tabs w) (n) (hn:ChkIs g c n) (h0:n≠0):
  Calls Tryz.prog 13 #[(vG g GL eL GO eO),(vC c A cp AL cL AO cO)] w fun e w'=>e=.returned (.tuple #[.agg #[.int .u8 0,.int .i64 0,.string ⟨#[]⟩,.slice none 0 0,.slice none 0 0],.int .i64 n])/\Below w.heap.size w w':=by
 have H0:=hid (DB.new w #[.int .u8 g.kq,.int .i64 g.num,.string g.str,.slice GL g.il.length eL,.slice GO g.vz.length eO] #[.int .u8 c.kq,.slice A c.path.length cp,.string c.key,.int .i64 c.i,.int .i64 c.j,.int .i64 c.n,.int .u8 c.v.kq,.int .i64 c.v.num,.string c.v.str,.slice AL c.v.il.length cL,.slice AO c.v.vz.length cO,.string c.s] #[.int .u8 0,.int .i64 0,.string ⟨#[]⟩,.slice none 0 0,.slice none 0 0]);have HCK:=hid (fun W (hb:Below w.heap.size w W)=>(zfc g GL GO eL eO c A AL AO cp cL cO W (hg.later hb) (hc.later hb) (by omega) hs hpos (hT.below hb (Nat.le_refl _))).mono (R':=fun e w'=>e=.returned (.int .i64 n)/\Below W.heap.size W w') fun e w' ⟨m,he,hm,hb'⟩=>⟨by rw [he,zcg hm hn],hb'⟩)
 have hne:(n != 0)=true:=by simpa using h0
 have HN0:=hid h0;clear hg hc hgw hs hpos hT hn h0;obtain ⟨g0,g1,g2,g3,g4,_⟩:=H0.out.g.five;obtain ⟨c0,c1,c2,c3,c4,c5,c6,c7,c8,c9,c10,c11,_⟩:=H0.out.c.tw;go_enter Tryz.func13,Tryz.ntmps13
 go_wp2_with (go_at_call 26;refine (HCK.out _ H0.out.below).mono ?_;rintro e w1 ⟨rfl,hb⟩;have H1:=hid (H0.out.later hb);clear hb g0 g1 g2 g3 g4 c0 c1 c2 c3 c4 c5 c6 c7 c8 c9 c10 c11;obtain ⟨r0,r1,r2,r3,r4,f0,f1,f2,f3,f4⟩:=H1.out.r.five)
 have h5:=zai H1.out.r (.int .u8 0) (.int .i64 0) (.string ⟨#[]⟩) (.slice none 0 0) (.slice none 0 0);obtain ⟨d0,d1,d2,d3,d4,_⟩:=h5.five;unfold put5 at d0 d1 d2 d3 d4;refine bodyPost_ret (v:=.tuple #[.agg #[.int .u8 0,.int .i64 0,.string ⟨#[]⟩,.slice none 0 0,.slice none 0 0],.int .i64 n]) (by simp [results,Tryz.results13,go_sem,d0,d1,d2,d3,d4]) rfl ?_
 exact ⟨rfl,zae H1.out.below (by omega) _ _ _ _ _⟩
def Outc (g:GV) (c:GC) (y:GV) (n:Int):Prop:=ChkIs g c n/\((n≠0/\y=noG)\/(n=0/\c.Sound/\∃ h,g.get c.path=some h/\chkH h c=0/\g.put (doH h c) c.path=some y))
theorem zlK (g:GV) (c:GC):∃ n,ChkIs g c n:=by
 by_cases hS:c.Sound
 ·cases hget:g.get c.path with
  | none=>exact ⟨30,.inr ⟨hS,.inl ⟨hget,rfl⟩⟩⟩
  | some h=>exact ⟨chkH h c,.inr ⟨hS,.inr ⟨h,hget,rfl⟩⟩⟩
 ·exact ⟨60,.inl ⟨hS,rfl⟩⟩
theorem zjA (g:GV) (c:GC):∃ y n,Outc g c y n:=by
 obtain ⟨n,hn⟩:=zlK g c;by_cases h0:n=0
 ·subst h0
  rcases hn with ⟨_,h⟩ | ⟨hS,⟨_,h⟩ | ⟨h,h1,h2⟩⟩
  ·cases h
  ·cases h
  ·obtain ⟨y,hy⟩:=zh4 (doH h c) h1
   exact ⟨y,0,.inr ⟨hS,.inr ⟨h,h1,h2⟩⟩,.inr ⟨rfl,hS,h,h1,h2.symm,hy⟩⟩
 ·exact ⟨noG,n,hn,.inl ⟨h0,rfl⟩⟩
theorem Outc.sound {g c y n} (h:Outc g c y n) (hg:g.Sound):y.Sound:=by
 obtain ⟨_,⟨_,rfl⟩ | ⟨_,hS,k,h1,h2,h3⟩⟩:=h
 ·exact zb1.1
 ·exact zeC (zec (zbe _ _ _ hg h1) hS h2) _ _ _ hg h3
def DoA (y:GV) (r:Value) (w:World) (e:Ending) (w':World):Prop:=∃ BL BO dB dP,e=.returned (.tuple #[(vG y BL dB BO dP),r])/\VlNew w.heap.size w' y BL BO dB dP/\Below w.heap.size w w'
theorem zlp (n:Nat) (W:World):VlNew n W noG none none 0 0:=⟨.inl ⟨rfl,rfl⟩,⟨rfl,.inl ⟨rfl,rfl⟩⟩⟩
theorem VlNew.vl {n W y BL BO dL dO} (h:VlNew n W y BL BO dL dO):Vl W y BL BO dL dO:=⟨h.1.keep (From.refl _ _) (fun _ _ _=>trivial),h.2.keep (From.refl _ _) (fun _ _ _=>trivial)⟩
theorem zj7 (g GL GO eL eO c A AL AO cp cL cO w) (hg:Vl w g GL GO eL eO) (hc:Cc w c A AL AO cp cL cO) (hgw:g.weight<=1000000) (hs:Small c) (hpos:c.v.Pos) (hgs:g.Sound) (hT:Tabs w) {y n} (ho:Outc g c y n):
  Calls Tryz.prog 13 #[(vG g GL eL GO eO),(vC c A cp AL cL AO cO)] w (DoA y (.int .i64 n) w):=by
 obtain ⟨hn,⟨h0,rfl⟩ | ⟨rfl,hS,h,h1,h2,h3⟩⟩:=ho
 ·exact (zl7 g GL GO eL eO c A AL AO cp cL cO w hg hc hgw hs hpos hT n hn h0).mono fun e w' ⟨he,hb⟩=>⟨none,none,0,0,he,zlp _ _,hb⟩
 ·have hgh:=zbe _ _ _ hgs h1
  have hk:=hS.2.2.2.2.1.1;rcases (show c.kq=1\/c.kq=2\/c.kq=3\/(4<=c.kq/\c.kq<=7)\/c.kq=8\/c.kq=9 by omega) with q | q | q | q | q | q
  ·exact zmU g GL GO eL eO c A AL AO cp cL cO w hg hc hgw hs hpos hT h y hS h1 h2 h3 hgh q
  ·exact zmt g GL GO eL eO c A AL AO cp cL cO w hg hc hgw hs hpos hT h y hS h1 h2 h3 hgh q
  ·exact zmr g GL GO eL eO c A AL AO cp cL cO w hg hc hgw hs hpos hT h y hS h1 h2 h3 hgh q
  ·exact zmL g GL GO eL eO c A AL AO cp cL cO w hg hc hgw hs hpos hT h y hS h1 h2 h3 hgh q
  ·exact zmY g GL GO eL eO c A AL AO cp cL cO w hg hc hgw hs hpos hT h y hS h1 h2 h3 hgh q
  ·exact zmT g GL GO eL eO c A AL AO cp cL cO w hg hc hgw hs hpos hT h y hS h1 h2 h3 hgh q
end Go.Proofs.YtmmgdkpkcoopgaaGreatDoor
namespace Go.Proofs.YtmmgdkpkcoopgaaGreatDoor
open Go.Lib(hid)
open Go Go.RowKit
set_option linter.unusedVariables false
set_option linter.unusedSimpArgs false
mutual
theorem zg2:∀ (g:GV),g.Sound->g.Pos
 | .mk k n s l ks ov,h=>by
  simp only [GV.Sound] at h;simp only [GV.Pos];exact ⟨by have:=h.1.1;omega,zfy l h.2.1,zfy ov h.2.2⟩
theorem zfy:∀ (l:List GV),GV.Sounds l->GV.Poss l
 | [],_=>by simp [GV.Poss]
 | x :: r,h=>by
  simp only [GV.Sounds] at h;simp only [GV.Poss];exact ⟨zg2 x h.1,zfy r h.2⟩
end
theorem zcF (g GL GO eL eO c A AL AO cp cL cO w n) (hg:Vl w g GL GO eL eO) (hc:Cc w c A AL AO cp cL cO) (hgw:g.weight<=1000000) (hs:Small c) (hT:Tabs w) (hn:ChkIs g c n):
  Calls Tryz.prog 31 #[(vG g GL eL GO eO),(vC c A cp AL cL AO cO)] w fun e w'=>e=.returned (.int .u16 n)/\Below w.heap.size w w':=
 (zim g GL GO eL eO c A AL AO cp cL cO w hg hc (by omega) (by have:=hs.v;omega) (by have:=hs.k;omega) (by have:=hs.s;omega) hs.pk hT (by
  intro h h3 hw hwk W hb;have:=(zdC h).1;exact zio h.str c A AL AO cp cL cO W (by omega) (works3 hwk))).mono fun e w' ⟨m,he,hm,hb⟩=>⟨by rw [he,zcg hm hn],hb⟩
def TurnsTo (g:GV) (c d:GC) (n:Int):Prop:=
 (n≠0/\ChkIs g c n/\d=noC)\/∃ h u,ChkIs g c 0/\c.Sound/\g.get c.path=some h/\chkH h c=0/\Undo h c u/\((u.Sound/\d=u/\n=0)\/(¬ u.Sound/\d=noC/\n=60))
theorem ziS (g:GV) (c:GC) (hl:∀ h,g.get c.path=some h->h.keys.length=h.vz.length):∃ d n,TurnsTo g c d n:=by
 obtain ⟨n,hn⟩:=zlK g c;by_cases h0:n=0
 ·subst h0
  rcases hn with ⟨_,e⟩ | ⟨hS,hr⟩
  ·exact absurd e (by decide)
  ·rcases hr with ⟨_,e⟩ | ⟨h,hg,e⟩
   ·exact absurd e (by decide)
   ·obtain ⟨u,hu⟩:=zj3 hS e.symm (hl h hg)
    by_cases hus:u.Sound
    ·exact ⟨u,0,.inr ⟨h,u,.inr ⟨hS,.inr ⟨h,hg,e⟩⟩,hS,hg,e.symm,hu,.inl ⟨hus,rfl,rfl⟩⟩⟩
    ·exact ⟨noC,60,.inr ⟨h,u,.inr ⟨hS,.inr ⟨h,hg,e⟩⟩,hS,hg,e.symm,hu,.inr ⟨hus,rfl,rfl⟩⟩⟩
 ·exact ⟨noC,n,.inl ⟨h0,hn,rfl⟩⟩
structure SmallU (d:GC):Prop where
 s:Small d
 pos:d.v.Pos
theorem zdz {g h:GV} {c u:GC} (hg:g.Sound) (hgw:g.weight<=1000000) (hget:g.get c.path=some h) (hm:Small c) (hu:Undo h c u):SmallU u:=by
 have hs:=zbe _ _ _ hg hget;have hw:=Nat.le_trans (zas _ _ _ hget) (show g.weight<=2200000 by omega)
 have hp:h.Pos:=zg2 h hs;have hpi:=(zjG h).1 hp;have hn:noG.weight<=2200000:=by show noG.weight<=_;decide +kernel
 have hnp:noG.Pos:=by simp [noG,GV.Pos,GV.Poss]
 rcases hu with ⟨q,rfl⟩ | ⟨q,ht,rfl⟩ | ⟨q,ht,x,hx,rfl⟩ | ⟨q,ht,x,hx,rfl⟩ | ⟨q,rfl⟩ | ⟨q,i,x,hi,hx,rfl⟩ | ⟨q,i,x,hi,hx,rfl⟩ | ⟨q,rfl⟩ | ⟨q,rfl⟩ | ⟨q,_,⟨i1,n1,hinn⟩,rfl⟩
 ·exact ⟨⟨hn,Nat.zero_le _,Nat.zero_le _,hm.pk⟩,hnp⟩
 ·exact ⟨⟨hn,hm.k,Nat.zero_le _,hm.pk⟩,hnp⟩
 ·exact ⟨⟨Nat.le_trans (zeP hx) hw,hm.k,Nat.zero_le _,hm.pk⟩,hpi.2.2 x (List.mem_of_getElem? hx)⟩
 ·exact ⟨⟨Nat.le_trans (zeP hx) hw,hm.k,Nat.zero_le _,hm.pk⟩,hpi.2.2 x (List.mem_of_getElem? hx)⟩
 ·exact ⟨⟨hn,Nat.zero_le _,Nat.zero_le _,hm.pk⟩,hnp⟩
 ·exact ⟨⟨Nat.le_trans (zeG hx) hw,Nat.zero_le _,Nat.zero_le _,hm.pk⟩,hpi.2.1 x (List.mem_of_getElem? hx)⟩
 ·exact ⟨⟨Nat.le_trans (zeG hx) hw,Nat.zero_le _,Nat.zero_le _,hm.pk⟩,hpi.2.1 x (List.mem_of_getElem? hx)⟩
 ·exact ⟨⟨hn,Nat.zero_le _,Nat.zero_le _,hm.pk⟩,hnp⟩
 ·exact ⟨⟨hn,Nat.zero_le _,Nat.zero_le _,hm.pk⟩,hnp⟩
 ·exact ⟨⟨hn,Nat.zero_le _,by show (partS h.str c.i.toNat c.n.toNat).size<=_;have:=zaP h;unfold partS;rw [ByteArray.size_extract];omega,hm.pk⟩,hnp⟩
def TurnedAns (d:GC) (r:Value) (w:World) (e:Ending) (w':World):Prop:=∃ B BL BO bp bL bO,e=.returned (.tuple #[(vC d B bp BL bL BO bO),r])/\CcNew w.heap.size w' d B BL BO bp bL bO/\Below w.heap.size w w'
theorem zlM (n:Nat) (W:World):CcNew n W noC none none none 0 0 0:=⟨zdD W,(fun p hp=>by cases hp),⟨.inl ⟨rfl,rfl⟩,⟨rfl,.inl ⟨rfl,rfl⟩⟩⟩⟩
end Go.Proofs.YtmmgdkpkcoopgaaGreatDoor
namespace Go.Proofs.YtmmgdkpkcoopgaaGreatDoor
open Go.Lib(hid)
open Go Go.RowKit
set_option linter.unusedVariables false
set_option linter.unusedSimpArgs false
theorem zmJ (g GL GO dL dO c A AL AO cp cL cO n w) (hg:Vl w g GL GO dL dO) (hc:Cc w c A AL AO cp cL cO) (hgw:g.weight<=1000000) (hm:Small c) (hT:Tabs w) (hn:ChkIs g c n) (h0:n≠0):
  Calls Tryz.prog 14 #[(vG g GL dL GO dO),(vC c A cp AL cL AO cO)] w (TurnedAns noC (.int .u16 n) w):=by
 have HCK:=hid (fun W (hb:Below w.heap.size w W)=>zcF g GL GO dL dO c A AL AO cp cL cO W n (hg.later hb) (hc.later hb) hgw hm (hT.below hb (Nat.le_refl _)) hn)
 have H0:=hid (UB3.new w #[.int .u8 g.kq,.int .i64 g.num,.string g.str,.slice GL g.il.length dL,.slice GO g.vz.length dO] #[.int .u8 c.kq,.slice A c.path.length cp,.string c.key,.int .i64 c.i,.int .i64 c.j,.int .i64 c.n,.int .u8 c.v.kq,.int .i64 c.v.num,.string c.v.str,.slice AL c.v.il.length cL,.slice AO c.v.vz.length cO,.string c.s] #[.int .u8 0,.slice none 0 0,.string ⟨#[]⟩,.int .i64 0,.int .i64 0,.int .i64 0,.int .u8 0,.int .i64 0,.string ⟨#[]⟩,.slice none 0 0,.slice none 0 0,.string ⟨#[]⟩]);have hne:(n != 0)=true:=by simpa using h0
 clear hg hc hgw hm hT hn h0;go_enter Tryz.func14,Tryz.ntmps14
 obtain ⟨v0,v1,v2,v3,v4,_⟩:=H0.out.g.five;obtain ⟨c0,c1,c2,c3,c4,c5,c6,c7,c8,c9,c10,c11,_⟩:=H0.out.c.tw
 go_wp2_with (go_at_call 31;refine (HCK.out _ H0.out.below).mono ?_;rintro e w1 ⟨rfl,hb⟩;have H1:=hid (H0.out.step hb);clear hb;clear v0 v1 v2 v3 v4 c0 c1 c2 c3 c4 c5 c6 c7 c8 c9 c10 c11;obtain ⟨r0,r1,r2,r3,r4,r5,r6,r7,r8,r9,r10,r11,y0,y1,y2,y3,y4,y5,y6,y7,y8,y9,y10,y11⟩:=H1.out.r.tw)
 have HH:=H1.out;have h9:=zaF HH.r (.int .u8 0) (.slice none 0 0) (.string ⟨#[]⟩) (.int .i64 0) (.int .i64 0) (.int .i64 0) (.int .u8 0) (.int .i64 0) (.string ⟨#[]⟩) (.slice none 0 0) (.slice none 0 0) (.string ⟨#[]⟩);have hb9:=zaH HH.below (show w.heap.size<=w.heap.size+1+1 by omega) (.int .u8 0) (.slice none 0 0) (.string ⟨#[]⟩) (.int .i64 0) (.int .i64 0) (.int .i64 0) (.int .u8 0) (.int .i64 0) (.string ⟨#[]⟩) (.slice none 0 0) (.slice none 0 0) (.string ⟨#[]⟩)
 unfold pt12 at h9 hb9;generalize ((((((((((((w1.setCell ⟨w.heap.size+1+1,0,none⟩ (.int .u8 0)).setCell ⟨w.heap.size+1+1,1,none⟩ (.slice none 0 0)).setCell ⟨w.heap.size+1+1,2,none⟩ (.string ⟨#[]⟩)).setCell ⟨w.heap.size+1+1,3,none⟩ (.int .i64 0)).setCell ⟨w.heap.size+1+1,4,none⟩ (.int .i64 0)).setCell ⟨w.heap.size+1+1,5,none⟩ (.int .i64 0)).setCell ⟨w.heap.size+1+1,6,none⟩ (.int .u8 0)).setCell ⟨w.heap.size+1+1,7,none⟩ (.int .i64 0)).setCell ⟨w.heap.size+1+1,8,none⟩ (.string ⟨#[]⟩)).setCell ⟨w.heap.size+1+1,9,none⟩ (.slice none 0 0)).setCell ⟨w.heap.size+1+1,10,none⟩ (.slice none 0 0)).setCell ⟨w.heap.size+1+1,11,none⟩ (.string ⟨#[]⟩))=X at *;obtain ⟨d0,d1,d2,d3,d4,d5,d6,d7,d8,d9,d10,d11,_⟩:=h9.tw;refine bodyPost_ret (v:=.tuple #[.agg #[.int .u8 0,.slice none 0 0,.string ⟨#[]⟩,.int .i64 0,.int .i64 0,.int .i64 0,.int .u8 0,.int .i64 0,.string ⟨#[]⟩,.slice none 0 0,.slice none 0 0,.string ⟨#[]⟩],.int .u16 n]) (by simp [results,Tryz.results14,go_sem,d0,d1,d2,d3,d4,d5,d6,d7,d8,d9,d10,d11]) rfl ?_
 exact ⟨none,none,none,0,0,0,rfl,zlM _ _,hb9⟩
theorem zlU (g GL GO dL dO c A AL AO cp cL cO) (h:GV) (u w) (hg:Vl w g GL GO dL dO) (hc:Cc w c A AL AO cp cL cO) (hgw:g.weight<=1000000) (hm:Small c) (hT:Tabs w) (hpos:c.v.Pos) (hgs:g.Sound) (hky:c.key.size<=281474976710656) (hpk:∀ s∈c.path,s.key.size<=281474976710656) (hS:c.Sound) (hget:g.get c.path=some h) (hck:chkH h c=0) (hu:Undo h c u) (hus:u.Sound):
  Calls Tryz.prog 14 #[(vG g GL dL GO dO),(vC c A cp AL cL AO cO)] w (TurnedAns u (.int .u16 0) w):=by
 have hn:ChkIs g c 0:=.inr ⟨hS,.inr ⟨h,hget,hck.symm⟩⟩;have hsu:=zdz hgs (by omega) hget hm hu
 have hhw:=Nat.le_trans (zas _ _ _ hget) hgw;have HCK:=hid (fun W (hb:Below w.heap.size w W)=>zcF g GL GO dL dO c A AL AO cp cL cO W 0 (hg.later hb) (hc.later hb) hgw hm (hT.below hb (Nat.le_refl _)) hn)
 have HTU:=hid (fun W (hb:Below w.heap.size w W)=>zeb g GL GO dL dO c A AL AO cp cL cO h u W (hg.later hb) (hc.later hb) (by omega) hky hpk (by have:=hm.s;omega) hS hget hu hck)
 have HSO:=hid (fun W (hb:Below w.heap.size w W) B BL BO bp bL bO (hd:Cc W u B BL BO bp bL bO)=>(zdv u B BL BO bp bL bO W hd (by have:=hsu.s.v;omega) (by have:=hsu.s.k;omega) (by have:=hsu.s.s;omega) hsu.s.pk (hT.below hb (Nat.le_refl _))).mono (R':=fun e w'=>e=.returned (.bool true)/\Below W.heap.size W w') fun e w' ⟨b,he,hb,hw⟩=>⟨by rw [he,hb.2 hus],hw⟩)
 have H0:=hid (UB3.new w #[.int .u8 g.kq,.int .i64 g.num,.string g.str,.slice GL g.il.length dL,.slice GO g.vz.length dO] #[.int .u8 c.kq,.slice A c.path.length cp,.string c.key,.int .i64 c.i,.int .i64 c.j,.int .i64 c.n,.int .u8 c.v.kq,.int .i64 c.v.num,.string c.v.str,.slice AL c.v.il.length cL,.slice AO c.v.vz.length cO,.string c.s] #[.int .u8 0,.slice none 0 0,.string ⟨#[]⟩,.int .i64 0,.int .i64 0,.int .i64 0,.int .u8 0,.int .i64 0,.string ⟨#[]⟩,.slice none 0 0,.slice none 0 0,.string ⟨#[]⟩]);clear hg hc hgw hm hT hn hpos hgs hky hpk hS hget hck hu hus hsu hhw;go_enter Tryz.func14,Tryz.ntmps14
 obtain ⟨v0,v1,v2,v3,v4,_⟩:=H0.out.g.five;obtain ⟨c0,c1,c2,c3,c4,c5,c6,c7,c8,c9,c10,c11,_⟩:=H0.out.c.tw
 go_wp2_with (first
  | (go_at_call 31;refine (HCK.out _ H0.out.below).mono ?_;rintro e w1 ⟨rfl,hb⟩;have H1:=hid (H0.out.step hb);clear hb;clear v0 v1 v2 v3 v4 c0 c1 c2 c3 c4 c5 c6 c7 c8 c9 c10 c11;obtain ⟨v0,v1,v2,v3,v4,_⟩:=H1.out.g.five;obtain ⟨c0,c1,c2,c3,c4,c5,c6,c7,c8,c9,c10,c11,_⟩:=H1.out.c.tw)
  | (go_at_call 32;refine (HTU.out _ H1.out.below).mono ?_;rintro e w2 ⟨B,BL,BO,bp,bL,bO,rfl,hu,hb⟩;have HN:=hid (hu.kp (m:=w.heap.size+1+1+1) H1.out.r.lt (Kp.refl _ _));have H2:=hid ((H1.out.step hb).step (zaa w2 (oC u B bp BL bL BO bO)));clear v0 v1 v2 v3 v4 c0 c1 c2 c3 c4 c5 c6 c7 c8 c9 c10 c11;have HB2:=hid (zaA w2 45 #[.int .u8 u.kq,.slice B u.path.length bp,.string u.key,.int .i64 u.i,.int .i64 u.j,.int .i64 u.n,.int .u8 u.v.kq,.int .i64 u.v.num,.string u.v.str,.slice BL u.v.il.length bL,.slice BO u.v.vz.length bO,.string u.s]);clear hu hb)
  | (go_at_call 33;refine (HSO.out _ H2.out.below B BL BO bp bL bO (HN.out.cc.later (zaa w2 (oC u B bp BL bL BO bO)))).mono ?_;rintro e w3 ⟨rfl,hb⟩;have H3:=hid (H2.out.step hb);have HB3:=hid (HB2.out.below hb HB2.out.lt);have HK:=hid (show Kp (w.heap.size+1+1+1) w2 w3 from ((Kp.refl _ _).below (zaa w2 (oC u B bp BL bL BO bO))).below hb);clear hb;obtain ⟨r0,r1,r2,r3,r4,r5,r6,r7,r8,r9,r10,r11,y0,y1,y2,y3,y4,y5,y6,y7,y8,y9,y10,y11⟩:=H3.out.r.tw;obtain ⟨t0,t1,t2,t3,t4,t5,t6,t7,t8,t9,t10,t11,_⟩:=HB3.out.tw))
 have HH:=H3.out;have HN3:=HN.out.kp (Nat.le_refl _) HK.out;have h9:=zaF HH.r (.int .u8 u.kq) (.slice B u.path.length bp) (.string u.key) (.int .i64 u.i) (.int .i64 u.j) (.int .i64 u.n) (.int .u8 u.v.kq) (.int .i64 u.v.num) (.string u.v.str) (.slice BL u.v.il.length bL) (.slice BO u.v.vz.length bO) (.string u.s);have hb9:=zaH HH.below (show w.heap.size<=w.heap.size+1+1 by omega) (.int .u8 u.kq) (.slice B u.path.length bp) (.string u.key) (.int .i64 u.i) (.int .i64 u.j) (.int .i64 u.n) (.int .u8 u.v.kq) (.int .i64 u.v.num) (.string u.v.str) (.slice BL u.v.il.length bL) (.slice BO u.v.vz.length bO) (.string u.s)
 have hk9:=zby w3 (w.heap.size+1+1) (.int .u8 u.kq) (.slice B u.path.length bp) (.string u.key) (.int .i64 u.i) (.int .i64 u.j) (.int .i64 u.n) (.int .u8 u.v.kq) (.int .i64 u.v.num) (.string u.v.str) (.slice BL u.v.il.length bL) (.slice BO u.v.vz.length bO) (.string u.s);unfold pt12 at h9 hb9 hk9;generalize ((((((((((((w3.setCell ⟨w.heap.size+1+1,0,none⟩ (.int .u8 u.kq)).setCell ⟨w.heap.size+1+1,1,none⟩ (.slice B u.path.length bp)).setCell ⟨w.heap.size+1+1,2,none⟩ (.string u.key)).setCell ⟨w.heap.size+1+1,3,none⟩ (.int .i64 u.i)).setCell ⟨w.heap.size+1+1,4,none⟩ (.int .i64 u.j)).setCell ⟨w.heap.size+1+1,5,none⟩ (.int .i64 u.n)).setCell ⟨w.heap.size+1+1,6,none⟩ (.int .u8 u.v.kq)).setCell ⟨w.heap.size+1+1,7,none⟩ (.int .i64 u.v.num)).setCell ⟨w.heap.size+1+1,8,none⟩ (.string u.v.str)).setCell ⟨w.heap.size+1+1,9,none⟩ (.slice BL u.v.il.length bL)).setCell ⟨w.heap.size+1+1,10,none⟩ (.slice BO u.v.vz.length bO)).setCell ⟨w.heap.size+1+1,11,none⟩ (.string u.s))=X at *;obtain ⟨d0,d1,d2,d3,d4,d5,d6,d7,d8,d9,d10,d11,_⟩:=h9.tw;refine bodyPost_ret (v:=.tuple #[(vC u B bp BL bL BO bO),.int .u16 0]) (by simp [results,Tryz.results14,go_sem,d0,d1,d2,d3,d4,d5,d6,d7,d8,d9,d10,d11]) rfl ?_
 exact ⟨B,BL,BO,bp,bL,bO,rfl,HN3.kp (m:=w.heap.size) (by omega) hk9,hb9⟩
theorem zlV (g GL GO dL dO c A AL AO cp cL cO) (h:GV) (u w) (hg:Vl w g GL GO dL dO) (hc:Cc w c A AL AO cp cL cO) (hgw:g.weight<=1000000) (hm:Small c) (hT:Tabs w) (hpos:c.v.Pos) (hgs:g.Sound) (hky:c.key.size<=281474976710656) (hpk:∀ s∈c.path,s.key.size<=281474976710656) (hS:c.Sound) (hget:g.get c.path=some h) (hck:chkH h c=0) (hu:Undo h c u) (hus:¬ u.Sound):
  Calls Tryz.prog 14 #[(vG g GL dL GO dO),(vC c A cp AL cL AO cO)] w (TurnedAns noC (.int .u16 60) w):=by
 have hn:ChkIs g c 0:=.inr ⟨hS,.inr ⟨h,hget,hck.symm⟩⟩;have hsu:=zdz hgs (by omega) hget hm hu
 have hhw:=Nat.le_trans (zas _ _ _ hget) hgw;have HCK:=hid (fun W (hb:Below w.heap.size w W)=>zcF g GL GO dL dO c A AL AO cp cL cO W 0 (hg.later hb) (hc.later hb) hgw hm (hT.below hb (Nat.le_refl _)) hn)
 have HTU:=hid (fun W (hb:Below w.heap.size w W)=>zeb g GL GO dL dO c A AL AO cp cL cO h u W (hg.later hb) (hc.later hb) (by omega) hky hpk (by have:=hm.s;omega) hS hget hu hck)
 have HSO:=hid (fun W (hb:Below w.heap.size w W) B BL BO bp bL bO (hd:Cc W u B BL BO bp bL bO)=>(zdv u B BL BO bp bL bO W hd (by have:=hsu.s.v;omega) (by have:=hsu.s.k;omega) (by have:=hsu.s.s;omega) hsu.s.pk (hT.below hb (Nat.le_refl _))).mono (R':=fun e w'=>e=.returned (.bool false)/\Below W.heap.size W w') fun e w' ⟨b,he,hb,hw⟩=>⟨by rw [he,show b=false by cases b with | false=>rfl | true=>exact absurd (hb.1 rfl) hus],hw⟩)
 have H0:=hid (UB3.new w #[.int .u8 g.kq,.int .i64 g.num,.string g.str,.slice GL g.il.length dL,.slice GO g.vz.length dO] #[.int .u8 c.kq,.slice A c.path.length cp,.string c.key,.int .i64 c.i,.int .i64 c.j,.int .i64 c.n,.int .u8 c.v.kq,.int .i64 c.v.num,.string c.v.str,.slice AL c.v.il.length cL,.slice AO c.v.vz.length cO,.string c.s] #[.int .u8 0,.slice none 0 0,.string ⟨#[]⟩,.int .i64 0,.int .i64 0,.int .i64 0,.int .u8 0,.int .i64 0,.string ⟨#[]⟩,.slice none 0 0,.slice none 0 0,.string ⟨#[]⟩]);clear hg hc hgw hm hT hn hpos hgs hky hpk hS hget hck hu hus hsu hhw;go_enter Tryz.func14,Tryz.ntmps14
 obtain ⟨v0,v1,v2,v3,v4,_⟩:=H0.out.g.five;obtain ⟨c0,c1,c2,c3,c4,c5,c6,c7,c8,c9,c10,c11,_⟩:=H0.out.c.tw
 go_wp2_with (first
  | (go_at_call 31;refine (HCK.out _ H0.out.below).mono ?_;rintro e w1 ⟨rfl,hb⟩;have H1:=hid (H0.out.step hb);clear hb;clear v0 v1 v2 v3 v4 c0 c1 c2 c3 c4 c5 c6 c7 c8 c9 c10 c11;obtain ⟨v0,v1,v2,v3,v4,_⟩:=H1.out.g.five;obtain ⟨c0,c1,c2,c3,c4,c5,c6,c7,c8,c9,c10,c11,_⟩:=H1.out.c.tw)
  | (go_at_call 32;refine (HTU.out _ H1.out.below).mono ?_;rintro e w2 ⟨B,BL,BO,bp,bL,bO,rfl,hu,hb⟩;have HN:=hid (hu.kp (m:=w.heap.size+1+1+1) H1.out.r.lt (Kp.refl _ _));have H2:=hid ((H1.out.step hb).step (zaa w2 (oC u B bp BL bL BO bO)));clear v0 v1 v2 v3 v4 c0 c1 c2 c3 c4 c5 c6 c7 c8 c9 c10 c11;have HB2:=hid (zaA w2 45 #[.int .u8 u.kq,.slice B u.path.length bp,.string u.key,.int .i64 u.i,.int .i64 u.j,.int .i64 u.n,.int .u8 u.v.kq,.int .i64 u.v.num,.string u.v.str,.slice BL u.v.il.length bL,.slice BO u.v.vz.length bO,.string u.s]);clear hu hb)
  | (go_at_call 33;refine (HSO.out _ H2.out.below B BL BO bp bL bO (HN.out.cc.later (zaa w2 (oC u B bp BL bL BO bO)))).mono ?_;rintro e w3 ⟨rfl,hb⟩;have H3:=hid (H2.out.step hb);have HB3:=hid (HB2.out.below hb HB2.out.lt);have HK:=hid (show Kp (w.heap.size+1+1+1) w2 w3 from ((Kp.refl _ _).below (zaa w2 (oC u B bp BL bL BO bO))).below hb);clear hb;obtain ⟨r0,r1,r2,r3,r4,r5,r6,r7,r8,r9,r10,r11,y0,y1,y2,y3,y4,y5,y6,y7,y8,y9,y10,y11⟩:=H3.out.r.tw;obtain ⟨t0,t1,t2,t3,t4,t5,t6,t7,t8,t9,t10,t11,_⟩:=HB3.out.tw))
 have HH:=H3.out;have h9:=zaF HH.r (.int .u8 0) (.slice none 0 0) (.string ⟨#[]⟩) (.int .i64 0) (.int .i64 0) (.int .i64 0) (.int .u8 0) (.int .i64 0) (.string ⟨#[]⟩) (.slice none 0 0) (.slice none 0 0) (.string ⟨#[]⟩);have hb9:=zaH HH.below (show w.heap.size<=w.heap.size+1+1 by omega) (.int .u8 0) (.slice none 0 0) (.string ⟨#[]⟩) (.int .i64 0) (.int .i64 0) (.int .i64 0) (.int .u8 0) (.int .i64 0) (.string ⟨#[]⟩) (.slice none 0 0) (.slice none 0 0) (.string ⟨#[]⟩)
 unfold pt12 at h9 hb9;generalize ((((((((((((w3.setCell ⟨w.heap.size+1+1,0,none⟩ (.int .u8 0)).setCell ⟨w.heap.size+1+1,1,none⟩ (.slice none 0 0)).setCell ⟨w.heap.size+1+1,2,none⟩ (.string ⟨#[]⟩)).setCell ⟨w.heap.size+1+1,3,none⟩ (.int .i64 0)).setCell ⟨w.heap.size+1+1,4,none⟩ (.int .i64 0)).setCell ⟨w.heap.size+1+1,5,none⟩ (.int .i64 0)).setCell ⟨w.heap.size+1+1,6,none⟩ (.int .u8 0)).setCell ⟨w.heap.size+1+1,7,none⟩ (.int .i64 0)).setCell ⟨w.heap.size+1+1,8,none⟩ (.string ⟨#[]⟩)).setCell ⟨w.heap.size+1+1,9,none⟩ (.slice none 0 0)).setCell ⟨w.heap.size+1+1,10,none⟩ (.slice none 0 0)).setCell ⟨w.heap.size+1+1,11,none⟩ (.string ⟨#[]⟩))=X at *;obtain ⟨d0,d1,d2,d3,d4,d5,d6,d7,d8,d9,d10,d11,_⟩:=h9.tw;refine bodyPost_ret (v:=.tuple #[.agg #[.int .u8 0,.slice none 0 0,.string ⟨#[]⟩,.int .i64 0,.int .i64 0,.int .i64 0,.int .u8 0,.int .i64 0,.string ⟨#[]⟩,.slice none 0 0,.slice none 0 0,.string ⟨#[]⟩],.int .u16 60]) (by simp [results,Tryz.results14,go_sem,d0,d1,d2,d3,d4,d5,d6,d7,d8,d9,d10,d11]) rfl ?_
 exact ⟨none,none,none,0,0,0,rfl,zlM _ _,hb9⟩
end Go.Proofs.YtmmgdkpkcoopgaaGreatDoor
namespace Go.Proofs.YtmmgdkpkcoopgaaGreatDoor
open Go.Lib(hid)
open Go Go.RowKit
set_option linter.unusedVariables false
set_option linter.unusedSimpArgs false
theorem ziH (hi A) (cap:Nat) (ts:List GTok) (es:List EAct) (b c:Nat) (w) (hT:Toks hi w A ts) (hhi:hi<=w.heap.size) (hcap:ts.length<=cap) (hm:cap<=maxLen) (hrow:ActsAt w b es) (hbl:b<w.heap.size) (hok:∀ e∈es,e.Ok w) (hn:es.length<=1000) (hc:es.length<=c):
  Calls Tryz.prog 5 #[.slice A ts.length cap,.slice (some ⟨b,0,none⟩) es.length c] w (AnyBool w):=by
 have HTS:=hid hT;have HES:=hid (zjq es b c w hrow hbl hok hn hc);have HHI:=hid hhi;unfold maxLen at hm;clear hT hrow hbl hok hc hhi;generalize hmm:es.length=m at *;clear hmm;generalize hnn:ts.length=n at *;have HN:=hid hnn;clear hnn;go_enter Tryz.func5,Tryz.ntmps5
 go_wp2
 go_loopw [5,6] (fun a i wr=>wr=w/\HARel w n a i wr) (fun _ i _=>n - (intOf i).toNat)
 case atStart=>exact ⟨rfl,0,0,rfl,rfl,Nat.zero_le _,Below.refl _ _⟩
 case round=>
  obtain ⟨rfl,k,z,rfl,rfl,hk,_⟩:=hrel;by_cases hlt:k<n
  ·have hke:k<ts.length:=by have:=HN.out;omega
   obtain ⟨⟨ab,ao,_⟩,rfl,rfl,hl3,hcs⟩:=HTS.out (by intro e;simp [e] at hke)
   have hc2:=(hcs k ts[k] (List.getElem?_eq_getElem hke)).2.2.1;simp only at hc2 hl3;clear hcs;generalize ts[k].s=sk at *;go_wp2
   go_roundw
   case rel=>exact ⟨by first | exact trivial | rfl,k+1,_,by go_num,rfl,by omega,Below.refl _ _⟩
   case measure=>simp [intOf];omega
  ·by_cases hz:2000<z
   ·go_wp2
    go_ret
    exact ⟨_,rfl,Below.refl _ _⟩
   ·by_cases h12:12<m
    ·go_wp2
     go_ret
     exact ⟨_,rfl,Below.refl _ _⟩
    ·go_wp2_with (go_at_call 15;refine HES.out.mono ?_;rintro e w1 ⟨z1,rfl,hb⟩;have H1:=hid hb;clear hb)
     go_ret
     exact ⟨_,rfl,H1.out⟩
theorem zbU {g:GV} {c d n} (hg:g.Sound) (hgw:g.weight<=1000000) (hm:Small c) (ht:TurnsTo g c d n):SmallU d:=by
 have h0:SmallU noC:=⟨⟨by show noG.weight<=_;decide +kernel,Nat.zero_le _,Nat.zero_le _,fun s hs=>by cases hs⟩,by simp [noC,noG,GV.Pos,GV.Poss]⟩
 rcases ht with ⟨_,_,rfl⟩ | ⟨h,u,_,_,hget,_,hu,⟨_,rfl,_⟩ | ⟨_,rfl,_⟩⟩
 ·exact h0
 ·exact zdz hg hgw hget hm hu
 ·exact h0
theorem zd5 (g GL GO dL dO c d n A AL AO cp cL cO w) (hg:Vl w g GL GO dL dO) (hc:Cc w c A AL AO cp cL cO) (hgw:g.weight<=1000000) (hm:Small c) (hT:Tabs w) (hpos:c.v.Pos) (hgs:g.Sound) (hpk:∀ s∈c.path,s.key.size<=281474976710656) (ht:TurnsTo g c d n):
  Calls Tryz.prog 14 #[(vG g GL dL GO dO),(vC c A cp AL cL AO cO)] w (TurnedAns d (.int .u16 n) w):=by
 have hky:c.key.size<=281474976710656:=by have:=hm.k;omega
 rcases ht with ⟨h0,hn,rfl⟩ | ⟨h,u,_,hS,hget,hck,hu,⟨hus,rfl,rfl⟩ | ⟨hus,rfl,rfl⟩⟩
 ·exact zmJ g GL GO dL dO c A AL AO cp cL cO n w hg hc hgw hm hT hn h0
 ·exact zlU g GL GO dL dO c A AL AO cp cL cO h d w hg hc hgw hm hT hpos hgs hky hpk hS hget hck hu hus
 ·exact zlV g GL GO dL dO c A AL AO cp cL cO h u w hg hc hgw hm hT hpos hgs hky hpk hS hget hck hu hus
end Go.Proofs.YtmmgdkpkcoopgaaGreatDoor
namespace Go.Proofs.YtmmgdkpkcoopgaaGreatDoor
open Go.Lib(hid)
open Go Go.RowKit
set_option linter.unusedVariables false
set_option linter.unusedSimpArgs false
structure EC where
 c:GC
 A:Option Addr
 cp:Nat
 AL:Option Addr
 cL:Nat
 AO:Option Addr
 cO:Nat
structure C12 (W:World) (b o:Nat) (e:EC):Prop where
 c0:W.cell? ⟨b,o,none⟩=some (.int .u8 e.c.kq)
 c1:W.cell? ⟨b,o+1,none⟩=some (.slice e.A e.c.path.length e.cp)
 c2:W.cell? ⟨b,o+2,none⟩=some (.string e.c.key)
 c3:W.cell? ⟨b,o+3,none⟩=some (.int .i64 e.c.i)
 c4:W.cell? ⟨b,o+4,none⟩=some (.int .i64 e.c.j)
 c5:W.cell? ⟨b,o+5,none⟩=some (.int .i64 e.c.n)
 c6:W.cell? ⟨b,o+6,none⟩=some (.int .u8 e.c.v.kq)
 c7:W.cell? ⟨b,o+7,none⟩=some (.int .i64 e.c.v.num)
 c8:W.cell? ⟨b,o+8,none⟩=some (.string e.c.v.str)
 c9:W.cell? ⟨b,o+9,none⟩=some (.slice e.AL e.c.v.il.length e.cL)
 c10:W.cell? ⟨b,o+10,none⟩=some (.slice e.AO e.c.v.vz.length e.cO)
 c11:W.cell? ⟨b,o+11,none⟩=some (.string e.c.s)
theorem C12.below {n:Nat} {W W':World} {b o:Nat} {e:EC} (h:C12 W b o e) (hb:Below n W W') (hn:b<n):C12 W' b o e:=
 ⟨(hb.cell hn).trans h.c0,(hb.cell hn).trans h.c1,(hb.cell hn).trans h.c2,(hb.cell hn).trans h.c3,(hb.cell hn).trans h.c4,(hb.cell hn).trans h.c5,(hb.cell hn).trans h.c6,(hb.cell hn).trans h.c7,(hb.cell hn).trans h.c8,(hb.cell hn).trans h.c9,(hb.cell hn).trans h.c10,(hb.cell hn).trans h.c11⟩
def EC.Ok (W:World) (e:EC):Prop:=Cc W e.c e.A e.AL e.AO e.cp e.cL e.cO/\Small e.c
structure Ops (W:World) (A:Option Addr) (cap:Nat) (es:List EC):Prop where
 here:es≠[]->∃ b o,A=some ⟨b,o,none⟩/\b<W.heap.size/\∀ i e,es[i]? = some e->C12 W b (o+i * 12) e/\e.Ok W
 le:es.length<=cap
 cap:cap<=maxLen
def Does1 (g:GV) (c:GC) (y:GV):Prop:=ChkIs g c 0/\∃ h,g.get c.path=some h/\chkH h c=0/\g.put (doH h c) c.path=some y
def VlIn (ok:Nat->Prop) (W:World) (y:GV) (BL BO:Option Addr) (dL dO:Nat):Prop:=LstV ok W (.slice BL y.il.length dL) y.il/\ObjV ok W (.slice BO y.vz.length dO) y.keys y.vz
theorem VlIn.vl {ok:Nat->Prop} {W:World} {y:GV} {BL BO:Option Addr} {dL dO:Nat} (h:VlIn ok W y BL BO dL dO):Vl W y BL BO dL dO:=
 ⟨h.1.keep (From.refl _ _) (fun _ _ _=>trivial),h.2.keep (From.refl _ _) (fun _ _ _=>trivial)⟩
theorem VlIn.later {ok:Nat->Prop} {W W':World} {y:GV} {BL BO:Option Addr} {dL dO:Nat} (h:VlIn ok W y BL BO dL dO) (hb:Below W.heap.size W W'):VlIn ok W' y BL BO dL dO:=
 ⟨h.1.keep (fun k _ hk=>hb.block k hk) (fun _ hk _=>hk),h.2.keep (fun k _ hk=>hb.block k hk) (fun _ hk _=>hk)⟩
theorem zkZ {g c} {w w':World} {e:Ending} (hc:ChkIs g c 0) (hd:DoesOut g c w e w'):∃ (z:GV) (BL BO:Option Addr) (dL dO:Nat),e=.returned (.tuple #[(vG z BL dL BO dO),.int .u16 0])/\Does1 g c z/\VlNew w.heap.size w' z BL BO dL dO/\Below w.heap.size w w':=by
 obtain ⟨hb,n,hn,⟨h0,_⟩ | ⟨_,h,z,BL,BO,dL,dO,h1,hk,h2,he,_,hv⟩⟩:=hd
 ·exact absurd (zcg hn hc) h0
 ·exact ⟨z,BL,BO,dL,dO,he,⟨hc,h,h1,hk,h2⟩,hv,hb⟩
end Go.Proofs.YtmmgdkpkcoopgaaGreatDoor
namespace Go.Proofs.YtmmgdkpkcoopgaaGreatDoor
open Go.Lib(hid)
open Go Go.RowKit
set_option linter.unusedVariables false
set_option linter.unusedSimpArgs false
structure TieV (V:GV) (k:ByteArray):Prop where
 kq:V.kq=5
 sound:V.Sound
 len:V.keys.length=V.vz.length
 key:V.keys[place k V.keys]? = some k
theorem TieV.keys {V:GV} {k:ByteArray} (h:TieV V k):KeysOk V.keys:=by
 have hk:=h.kq;have hs:=h.sound;cases V with
 | mk a n z l ks ov=>
  simp only [GV.Sound] at hs;obtain ⟨⟨_,_,_,_,p5⟩,_,_⟩:=hs;rcases p5 with p | p
  ·exact p.2
  ·exact absurd hk p.1
theorem TieV.lt {V:GV} {k:ByteArray} (h:TieV V k):place k V.keys<V.keys.length:=(List.getElem?_eq_some_iff.1 h.key).1
theorem zjk {V:GV} {k:ByteArray} (h:TieV V k):place k (remL V.keys (place k V.keys))=place k V.keys/\there k (remL V.keys (place k V.keys))=false:=by
 have hlt:=h.lt;have hl:=zhP hlt;have hno:∀ x,(remL V.keys (place k V.keys))[place k V.keys]? = some x->less k k=false->less x k=false/\(x.toList == k.toList)=false:=fun x hx _=>by
  rw [zdi hlt,if_neg (by omega)] at hx
  have h2:=(h.keys (place k V.keys+1) x (List.getElem?_eq_some_iff.1 hx).1 hx).2 _ k rfl h.key;have h3:=zdT (show Op.bytesLess k.toList x.toList=true from h2);exact ⟨h3.1,h3.2.2⟩
 have hkk:less k k=false:=by
  have:=zbM k V.keys k h.key;exact this
 have hp:place k (remL V.keys (place k V.keys))=place k V.keys:=
  zcs k _ _ (by omega) (fun i x hx hi=>by rw [zdi hlt,if_pos hi] at hx;exact zdV k _ i x hx hi) (fun x hx=>(hno x hx hkk).1)
 refine ⟨hp,?_⟩
 unfold Go.Proofs.YtmmgdkpkcoopgaaGreatDoor.there;rw [hp];cases hx:(remL V.keys (place k V.keys))[place k V.keys]? with
 | none=>rfl
 | some x=>exact (hno x hx hkk).2
end Go.Proofs.YtmmgdkpkcoopgaaGreatDoor
