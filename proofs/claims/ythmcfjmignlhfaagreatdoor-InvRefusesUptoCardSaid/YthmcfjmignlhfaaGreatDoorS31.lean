/- Texts in one: InvN, InvO, CompB, CompEx, LawXR, RcE, InvP, InvQ, InvR. -/
import Derived.Test.YthmcfjmignlhfaaGreatDoorS30
import Derived.Test.YthmcfjmignlhfaaGreatDoorS26
import Derived.Test.YthmcfjmignlhfaaGreatDoorS15
import Derived.Test.YthmcfjmignlhfaaGreatDoorS17
import Derived.Test.YthmcfjmignlhfaaGreatDoorS16
import Derived.Deep.RegionHeld3
import Derived.Test.YthmcfjmignlhfaaGreatDoorS19
import Derived.Test.YthmcfjmignlhfaaGreatDoorS21
set_option maxRecDepth 100000
set_option maxHeartbeats 16000000
namespace Go.Proofs.YthmcfjmignlhfaaGreatDoor
open Go.Lib(hid)
open Go Go.RowKit Go.Shelf
set_option linter.unusedVariables false
set_option linter.unusedSimpArgs false
theorem zh4 (g GL GO dL dO c A AL AO cp cL cO w) (hg:Vl w g GL GO dL dO) (hc:Cc w c A AL AO cp cL cO) (hpl:c.path.length<=100000) (hky:c.key.size<=281474976710656) (hpk:∀ s∈c.path,s.key.size<=281474976710656) (hk:c.kq=8) (hs:c.s.size<=1000000000):
  Calls Tryz.prog 37 #[.agg #[.int .u8 g.kq,.int .i64 g.num,.string g.str,.slice GL g.il.length dL,.slice GO g.vz.length dO],.agg #[.int .u8 c.kq,.slice A c.path.length cp,.string c.key,.int .i64 c.i,.int .i64 c.j,.int .i64 c.n,.int .u8 c.v.kq,.int .i64 c.v.num,.string c.v.str,.slice AL c.v.il.length cL,.slice AO c.v.vz.length cO,.string c.s]] w (SameNw (⟨9,c.path,c.key,c.i,0,nChars c.s,noG,⟨#[]⟩⟩:GC) w):=by
 have HCY:=hid (fun W (hb:Below w.heap.size w W)=>(show Calls Tryz.prog 60 #[.agg #[.int .u8 0,.slice A c.path.length cp,.string c.key,.int .i64 c.i,.int .i64 0,.int .i64 0,.int .u8 0,.int .i64 0,.string ⟨#[]⟩,.slice none 0 0,.slice none 0 0,.string ⟨#[]⟩]] W (fun e w'=>∃ B BL BO bp bL bO,e=.returned (.agg #[.int .u8 0,.slice B c.path.length bp,.string c.key,.int .i64 c.i,.int .i64 0,.int .i64 0,.int .u8 0,.int .i64 0,.string ⟨#[]⟩,.slice BL 0 bL,.slice BO 0 bO,.string ⟨#[]⟩])/\CcNew W.heap.size w' (preC c) B BL BO bp bL bO/\Below W.heap.size W w') from zaM (preC c) A none none cp 0 0 W ⟨hc.path.later hb,zaP W⟩ (show (1+0+0+0+0:Nat)<=1000000000 by decide) (Nat.le_trans hpl (by decide)) hky (Nat.zero_le _) hpk))
 have HLN:=hid (fun W=>zg6 c.s W (Nat.le_trans hs (by decide)))
 have H0:=hid (UB3.new w #[.int .u8 g.kq,.int .i64 g.num,.string g.str,.slice GL g.il.length dL,.slice GO g.vz.length dO] #[.int .u8 c.kq,.slice A c.path.length cp,.string c.key,.int .i64 c.i,.int .i64 c.j,.int .i64 c.n,.int .u8 c.v.kq,.int .i64 c.v.num,.string c.v.str,.slice AL c.v.il.length cL,.slice AO c.v.vz.length cO,.string c.s] #[.int .u8 0,.slice none 0 0,.string ⟨#[]⟩,.int .i64 0,.int .i64 0,.int .i64 0,.int .u8 0,.int .i64 0,.string ⟨#[]⟩,.slice none 0 0,.slice none 0 0,.string ⟨#[]⟩]);have k1:(c.kq == 1)=false:=by simp;omega
 have k2:(c.kq == 2)=false:=by simp;omega
 have k3:(c.kq == 3)=false:=by simp;omega
 have k4:(c.kq == 4)=false:=by simp;omega
 have k5:(c.kq == 5)=false:=by simp;omega
 have k6:(c.kq == 6)=false:=by simp;omega
 have k7:(c.kq == 7)=false:=by simp;omega
 have k8:(c.kq == 8)=true:=by simp;omega
 clear hg hc hpl hky hpk hk hs;go_enter Tryz.func37,Tryz.ntmps37
 obtain ⟨c0,c1,c2,c3,c4,c5,c6,c7,c8,c9,c10,c11,_⟩:=H0.out.c.tw
 go_upto_region 2 with (go_at_call 60;refine (HCY.out _ (below3 w _ _ _)).mono ?_;rintro e w1 ⟨B,BL,BO,bp,bL,bO,rfl,hn,hb⟩;have H1:=hid (H0.out.step hb);have HN:=hid (hn.kp (m:=w.heap.size+1+1+1) (by simp) (Kp.refl _ _));clear hn hb c0 c1 c2 c3 c4 c5 c6 c7 c8 c9 c10 c11;obtain ⟨c0,c1,c2,c3,c4,c5,c6,c7,c8,c9,c10,c11,_⟩:=(H1.out.step (zaa w1 (.cells #[.int .u8 0,.slice B c.path.length bp,.string c.key,.int .i64 c.i,.int .i64 0,.int .i64 0,.int .u8 0,.int .i64 0,.string ⟨#[]⟩,.slice BL 0 bL,.slice BO 0 bO,.string ⟨#[]⟩] 48))).c.tw;obtain ⟨v0,v1,v2,v3,v4,_⟩:=(H1.out.step (zaa w1 (.cells #[.int .u8 0,.slice B c.path.length bp,.string c.key,.int .i64 c.i,.int .i64 0,.int .i64 0,.int .u8 0,.int .i64 0,.string ⟨#[]⟩,.slice BL 0 bL,.slice BO 0 bO,.string ⟨#[]⟩] 48))).g.five)
 go_upto_region 26 with (go_at_call 62;refine (HLN.out _).mono ?_;rintro e w2 ⟨rfl,hb⟩;have H3:=hid ((H1.out.step (zaa w1 (.cells #[.int .u8 0,.slice B c.path.length bp,.string c.key,.int .i64 c.i,.int .i64 0,.int .i64 0,.int .u8 0,.int .i64 0,.string ⟨#[]⟩,.slice BL 0 bL,.slice BO 0 bO,.string ⟨#[]⟩] 48))).step hb);have HT:=hid ((zaw w1 48 #[.int .u8 0,.slice B c.path.length bp,.string c.key,.int .i64 c.i,.int .i64 0,.int .i64 0,.int .u8 0,.int .i64 0,.string ⟨#[]⟩,.slice BL 0 bL,.slice BO 0 bO,.string ⟨#[]⟩]).below hb (by simp));have HK:=hid (show Kp (w.heap.size+1+1+1) w1 w2 from ((Kp.refl _ _).below (zaa w1 (.cells #[.int .u8 0,.slice B c.path.length bp,.string c.key,.int .i64 c.i,.int .i64 0,.int .i64 0,.int .u8 0,.int .i64 0,.string ⟨#[]⟩,.slice BL 0 bL,.slice BO 0 bO,.string ⟨#[]⟩] 48))).below hb);clear hb c0 c1 c2 c3 c4 c5 c6 c7 c8 c9 c10 c11 v0 v1 v2 v3 v4;obtain ⟨s0,s1,s2,s3,s4,s5,s6,s7,s8,s9,s10,s11,u0,u1,u2,u3,u4,u5,u6,u7,u8,u9,u10,u11⟩:=HT.out.tw)
 have hlo:w.heap.size+1+1+1<=w1.heap.size:=H1.out.r.lt;have H5:=(H3.out.one (b:=w1.heap.size) hlo 0 (.int .u8 9)).one (b:=w1.heap.size) hlo 5 (.int .i64 (nChars c.s));have HTa:Whole _ w1.heap.size 48 #[.int .u8 9,.slice B c.path.length bp,.string c.key,.int .i64 c.i,.int .i64 0,.int .i64 0,.int .u8 0,.int .i64 0,.string ⟨#[]⟩,.slice BL 0 bL,.slice BO 0 bO,.string ⟨#[]⟩]:=HT.out.put 0 (.int .u8 9);have HT5:Whole _ w1.heap.size 48 #[.int .u8 9,.slice B c.path.length bp,.string c.key,.int .i64 c.i,.int .i64 0,.int .i64 (nChars c.s),.int .u8 0,.int .i64 0,.string ⟨#[]⟩,.slice BL 0 bL,.slice BO 0 bO,.string ⟨#[]⟩]:=HTa.put 5 (.int .i64 (nChars c.s));have HK5:=(HK.out.hi (p:=⟨w1.heap.size,0,none⟩) (Nat.le_refl _) (.int .u8 9)).hi (p:=⟨w1.heap.size,5,none⟩) (Nat.le_refl _) (.int .i64 (nChars c.s));generalize ((w2.setCell ⟨w1.heap.size,0,none⟩ (.int .u8 9)).setCell ⟨w1.heap.size,5,none⟩ (.int .i64 (nChars c.s)))=X5 at *;have HC5:CcNew (w.heap.size+1+1+1) X5 (⟨9,c.path,c.key,c.i,0,nChars c.s,noG,⟨#[]⟩⟩:GC) B BL BO bp bL bO:=(show CcNew (w.heap.size+1+1+1) X5 (preC c) B BL BO bp bL bO from HN.out.kp (Nat.le_refl _) HK5);clear s0 s1 s2 s3 s4 s5 s6 s7 s8 s9 s10 s11 u0 u1 u2 u3 u4 u5 u6 u7 u8 u9 u10 u11;obtain ⟨r0,r1,r2,r3,r4,r5,r6,r7,r8,r9,r10,r11,y0,y1,y2,y3,y4,y5,y6,y7,y8,y9,y10,y11⟩:=H5.r.tw;obtain ⟨t0,t1,t2,t3,t4,t5,t6,t7,t8,t9,t10,t11,_⟩:=HT5.tw
 go_wp2_with fail
 have h9:=zay H5.r (.int .u8 9) (.slice B c.path.length bp) (.string c.key) (.int .i64 c.i) (.int .i64 0) (.int .i64 (nChars c.s)) (.int .u8 0) (.int .i64 0) (.string ⟨#[]⟩) (.slice BL 0 bL) (.slice BO 0 bO) (.string ⟨#[]⟩);have hk9:=zbe X5 (w.heap.size+1+1) (.int .u8 9) (.slice B c.path.length bp) (.string c.key) (.int .i64 c.i) (.int .i64 0) (.int .i64 (nChars c.s)) (.int .u8 0) (.int .i64 0) (.string ⟨#[]⟩) (.slice BL 0 bL) (.slice BO 0 bO) (.string ⟨#[]⟩);have hb9:=zaz H5.below (show w.heap.size<=w.heap.size+1+1 by omega) (.int .u8 9) (.slice B c.path.length bp) (.string c.key) (.int .i64 c.i) (.int .i64 0) (.int .i64 (nChars c.s)) (.int .u8 0) (.int .i64 0) (.string ⟨#[]⟩) (.slice BL 0 bL) (.slice BO 0 bO) (.string ⟨#[]⟩)
 unfold pt12 at h9 hk9 hb9;generalize ((((((((((((X5.setCell ⟨w.heap.size+1+1,0,none⟩ (.int .u8 9)).setCell ⟨w.heap.size+1+1,1,none⟩ (.slice B c.path.length bp)).setCell ⟨w.heap.size+1+1,2,none⟩ (.string c.key)).setCell ⟨w.heap.size+1+1,3,none⟩ (.int .i64 c.i)).setCell ⟨w.heap.size+1+1,4,none⟩ (.int .i64 0)).setCell ⟨w.heap.size+1+1,5,none⟩ (.int .i64 (nChars c.s))).setCell ⟨w.heap.size+1+1,6,none⟩ (.int .u8 0)).setCell ⟨w.heap.size+1+1,7,none⟩ (.int .i64 0)).setCell ⟨w.heap.size+1+1,8,none⟩ (.string ⟨#[]⟩)).setCell ⟨w.heap.size+1+1,9,none⟩ (.slice BL 0 bL)).setCell ⟨w.heap.size+1+1,10,none⟩ (.slice BO 0 bO)).setCell ⟨w.heap.size+1+1,11,none⟩ (.string ⟨#[]⟩))=X at *;obtain ⟨d0,d1,d2,d3,d4,d5,d6,d7,d8,d9,d10,d11,_⟩:=h9.tw;refine bodyPost_ret (v:=.agg #[.int .u8 9,.slice B c.path.length bp,.string c.key,.int .i64 c.i,.int .i64 0,.int .i64 (nChars c.s),.int .u8 0,.int .i64 0,.string ⟨#[]⟩,.slice BL 0 bL,.slice BO 0 bO,.string ⟨#[]⟩]) (by simp [results,Tryz.results37,go_sem,d0,d1,d2,d3,d4,d5,d6,d7,d8,d9,d10,d11]) rfl ?_
 exact ⟨B,BL,BO,bp,bL,bO,rfl,HC5.kp (m:=w.heap.size) (by omega) hk9,hb9⟩
theorem ziV (g GL GO dL dO c A AL AO cp cL cO) (h:GV) (w) (hg:Vl w g GL GO dL dO) (hc:Cc w c A AL AO cp cL cO) (hgw:g.weight<=1000000000) (hpl:c.path.length<=100000) (hky:c.key.size<=281474976710656) (hpk:∀ s∈c.path,s.key.size<=281474976710656) (hk:c.kq=9) (hget:g.get c.path=some h) (hs:h.str.size<=1000000000) (i0:0<=c.i) (n1:1<=c.n) (hin:c.i.toNat+c.n.toNat<=nChars h.str):
  Calls Tryz.prog 37 #[.agg #[.int .u8 g.kq,.int .i64 g.num,.string g.str,.slice GL g.il.length dL,.slice GO g.vz.length dO],.agg #[.int .u8 c.kq,.slice A c.path.length cp,.string c.key,.int .i64 c.i,.int .i64 c.j,.int .i64 c.n,.int .u8 c.v.kq,.int .i64 c.v.num,.string c.v.str,.slice AL c.v.il.length cL,.slice AO c.v.vz.length cO,.string c.s]] w (SameNw (⟨8,c.path,c.key,c.i,0,0,noG,partS h.str c.i.toNat c.n.toNat⟩:GC) w):=by
 have HCY:=hid (fun W (hb:Below w.heap.size w W)=>(show Calls Tryz.prog 60 #[.agg #[.int .u8 0,.slice A c.path.length cp,.string c.key,.int .i64 c.i,.int .i64 0,.int .i64 0,.int .u8 0,.int .i64 0,.string ⟨#[]⟩,.slice none 0 0,.slice none 0 0,.string ⟨#[]⟩]] W (fun e w'=>∃ B BL BO bp bL bO,e=.returned (.agg #[.int .u8 0,.slice B c.path.length bp,.string c.key,.int .i64 c.i,.int .i64 0,.int .i64 0,.int .u8 0,.int .i64 0,.string ⟨#[]⟩,.slice BL 0 bL,.slice BO 0 bO,.string ⟨#[]⟩])/\CcNew W.heap.size w' (preC c) B BL BO bp bL bO/\Below W.heap.size W w') from zaM (preC c) A none none cp 0 0 W ⟨hc.path.later hb,zaP W⟩ (show (1+0+0+0+0:Nat)<=1000000000 by decide) (Nat.le_trans hpl (by decide)) hky (Nat.zero_le _) hpk))
 have HG:=hid (fun W (hb:Below w.heap.size w W)=>(zcu (fun _=>True) _ g W.heap.size A cp c.path W (hg.later hb).val (hc.path.later hb).steps (Nat.le_refl _) hc.path.le hc.path.cap hgw).mono (R':=fun e w'=>Below W.heap.size W w'/\∃ XL XO xl xo,e=.returned (.tuple #[.agg #[.int .u8 h.kq,.int .i64 h.num,.string h.str,.slice XL h.il.length xl,.slice XO h.vz.length xo],.int .u16 0])) fun e w' ⟨hb,hq⟩=>⟨hb,by
  rcases hq with ⟨hn,_⟩ | ⟨h',v',hs,he,⟨L,O,hv,hL,hO⟩,_⟩
  ·rw [hget] at hn;cases hn
  ·rw [hget] at hs
   cases hs
   obtain ⟨BL,dL,rfl⟩:=zaf hL;obtain ⟨BO,dO,rfl⟩:=zag hO;exact ⟨BL,BO,dL,dO,by rw [he,hv]⟩⟩)
 have hch:=fun W=>zd6 h.str c.i.toNat c.n.toNat W (Nat.le_trans hs (by decide)) (by omega) hin
 rw [show ((c.i.toNat:Nat):Int)=c.i by omega,show ((c.n.toNat:Nat):Int)=c.n by omega] at hch
 have HCH:=hid hch;clear hch;have H0:=hid (UB3.new w #[.int .u8 g.kq,.int .i64 g.num,.string g.str,.slice GL g.il.length dL,.slice GO g.vz.length dO] #[.int .u8 c.kq,.slice A c.path.length cp,.string c.key,.int .i64 c.i,.int .i64 c.j,.int .i64 c.n,.int .u8 c.v.kq,.int .i64 c.v.num,.string c.v.str,.slice AL c.v.il.length cL,.slice AO c.v.vz.length cO,.string c.s] #[.int .u8 0,.slice none 0 0,.string ⟨#[]⟩,.int .i64 0,.int .i64 0,.int .i64 0,.int .u8 0,.int .i64 0,.string ⟨#[]⟩,.slice none 0 0,.slice none 0 0,.string ⟨#[]⟩]);have k1:(c.kq == 1)=false:=by simp;omega
 have k2:(c.kq == 2)=false:=by simp;omega
 have k3:(c.kq == 3)=false:=by simp;omega
 have k4:(c.kq == 4)=false:=by simp;omega
 have k5:(c.kq == 5)=false:=by simp;omega
 have k6:(c.kq == 6)=false:=by simp;omega
 have k7:(c.kq == 7)=false:=by simp;omega
 have k8:(c.kq == 8)=false:=by simp;omega
 have k9:(c.kq == 9)=true:=by simp;omega
 clear hg hc hpl hky hpk hk hgw hget hs i0 n1 hin;go_enter Tryz.func37,Tryz.ntmps37
 obtain ⟨c0,c1,c2,c3,c4,c5,c6,c7,c8,c9,c10,c11,_⟩:=H0.out.c.tw
 go_upto_region 2 with (go_at_call 60;refine (HCY.out _ (below3 w _ _ _)).mono ?_;rintro e w1 ⟨B,BL,BO,bp,bL,bO,rfl,hn,hb⟩;have H1:=hid (H0.out.step hb);have HN:=hid (hn.kp (m:=w.heap.size+1+1+1) (by simp) (Kp.refl _ _));clear hn hb c0 c1 c2 c3 c4 c5 c6 c7 c8 c9 c10 c11;obtain ⟨c0,c1,c2,c3,c4,c5,c6,c7,c8,c9,c10,c11,_⟩:=(H1.out.step (zaa w1 (.cells #[.int .u8 0,.slice B c.path.length bp,.string c.key,.int .i64 c.i,.int .i64 0,.int .i64 0,.int .u8 0,.int .i64 0,.string ⟨#[]⟩,.slice BL 0 bL,.slice BO 0 bO,.string ⟨#[]⟩] 48))).c.tw;obtain ⟨v0,v1,v2,v3,v4,_⟩:=(H1.out.step (zaa w1 (.cells #[.int .u8 0,.slice B c.path.length bp,.string c.key,.int .i64 c.i,.int .i64 0,.int .i64 0,.int .u8 0,.int .i64 0,.string ⟨#[]⟩,.slice BL 0 bL,.slice BO 0 bO,.string ⟨#[]⟩] 48))).g.five)
 go_upto_region 26 with (first
  | (go_at_call 63;refine (HG.out _ (H1.out.step (zaa w1 (.cells #[.int .u8 0,.slice B c.path.length bp,.string c.key,.int .i64 c.i,.int .i64 0,.int .i64 0,.int .u8 0,.int .i64 0,.string ⟨#[]⟩,.slice BL 0 bL,.slice BO 0 bO,.string ⟨#[]⟩] 48))).below).mono ?_;rintro e w2 ⟨hb,XL,XO,xl,xo,rfl⟩;have H2:=hid (((H1.out.step (zaa w1 (.cells #[.int .u8 0,.slice B c.path.length bp,.string c.key,.int .i64 c.i,.int .i64 0,.int .i64 0,.int .u8 0,.int .i64 0,.string ⟨#[]⟩,.slice BL 0 bL,.slice BO 0 bO,.string ⟨#[]⟩] 48))).step hb).step (zaa w2 (.cells #[.int .u8 h.kq,.int .i64 h.num,.string h.str,.slice XL h.il.length xl,.slice XO h.vz.length xo] 29)));have HT2:=hid (zaE ((zaw w1 48 #[.int .u8 0,.slice B c.path.length bp,.string c.key,.int .i64 c.i,.int .i64 0,.int .i64 0,.int .u8 0,.int .i64 0,.string ⟨#[]⟩,.slice BL 0 bL,.slice BO 0 bO,.string ⟨#[]⟩]).below hb (by simp)) (.cells #[.int .u8 h.kq,.int .i64 h.num,.string h.str,.slice XL h.il.length xl,.slice XO h.vz.length xo] 29));have HK2:=hid (show Kp (w.heap.size+1+1+1) w1 (w2.alloc (.cells #[.int .u8 h.kq,.int .i64 h.num,.string h.str,.slice XL h.il.length xl,.slice XO h.vz.length xo] 29)) from (((Kp.refl _ _).below (zaa w1 (.cells #[.int .u8 0,.slice B c.path.length bp,.string c.key,.int .i64 c.i,.int .i64 0,.int .i64 0,.int .u8 0,.int .i64 0,.string ⟨#[]⟩,.slice BL 0 bL,.slice BO 0 bO,.string ⟨#[]⟩] 48))).below hb).below (zaa _ _));clear hb c0 c1 c2 c3 c4 c5 c6 c7 c8 c9 c10 c11 v0 v1 v2 v3 v4;obtain ⟨c0,c1,c2,c3,c4,c5,c6,c7,c8,c9,c10,c11,_⟩:=H2.out.c.tw)
  | (go_at_call 64;refine (HCH.out _).mono ?_;rintro e w3 ⟨rfl,hb⟩;have H3:=hid (H2.out.step hb);have HT:=hid (HT2.out.below hb HT2.out.lt);have HK:=hid (HK2.out.below hb);clear hb c0 c1 c2 c3 c4 c5 c6 c7 c8 c9 c10 c11;obtain ⟨s0,s1,s2,s3,s4,s5,s6,s7,s8,s9,s10,s11,u0,u1,u2,u3,u4,u5,u6,u7,u8,u9,u10,u11⟩:=HT.out.tw))
 have hlo:w.heap.size+1+1+1<=w1.heap.size:=H1.out.r.lt;have H5:=(H3.out.one (b:=w1.heap.size) hlo 0 (.int .u8 8)).one (b:=w1.heap.size) hlo 11 (.string (partS h.str c.i.toNat c.n.toNat));have HTa:Whole _ w1.heap.size 48 #[.int .u8 8,.slice B c.path.length bp,.string c.key,.int .i64 c.i,.int .i64 0,.int .i64 0,.int .u8 0,.int .i64 0,.string ⟨#[]⟩,.slice BL 0 bL,.slice BO 0 bO,.string ⟨#[]⟩]:=HT.out.put 0 (.int .u8 8);have HT5:Whole _ w1.heap.size 48 #[.int .u8 8,.slice B c.path.length bp,.string c.key,.int .i64 c.i,.int .i64 0,.int .i64 0,.int .u8 0,.int .i64 0,.string ⟨#[]⟩,.slice BL 0 bL,.slice BO 0 bO,.string (partS h.str c.i.toNat c.n.toNat)]:=HTa.put 11 (.string (partS h.str c.i.toNat c.n.toNat));have HK5:=(HK.out.hi (p:=⟨w1.heap.size,0,none⟩) (Nat.le_refl _) (.int .u8 8)).hi (p:=⟨w1.heap.size,11,none⟩) (Nat.le_refl _) (.string (partS h.str c.i.toNat c.n.toNat));generalize ((w3.setCell ⟨w1.heap.size,0,none⟩ (.int .u8 8)).setCell ⟨w1.heap.size,11,none⟩ (.string (partS h.str c.i.toNat c.n.toNat)))=X5 at *;have HC5:CcNew (w.heap.size+1+1+1) X5 (⟨8,c.path,c.key,c.i,0,0,noG,partS h.str c.i.toNat c.n.toNat⟩:GC) B BL BO bp bL bO:=(show CcNew (w.heap.size+1+1+1) X5 (preC c) B BL BO bp bL bO from HN.out.kp (Nat.le_refl _) HK5);clear s0 s1 s2 s3 s4 s5 s6 s7 s8 s9 s10 s11 u0 u1 u2 u3 u4 u5 u6 u7 u8 u9 u10 u11;obtain ⟨r0,r1,r2,r3,r4,r5,r6,r7,r8,r9,r10,r11,y0,y1,y2,y3,y4,y5,y6,y7,y8,y9,y10,y11⟩:=H5.r.tw;obtain ⟨t0,t1,t2,t3,t4,t5,t6,t7,t8,t9,t10,t11,_⟩:=HT5.tw
 go_wp2_with fail
 have h9:=zay H5.r (.int .u8 8) (.slice B c.path.length bp) (.string c.key) (.int .i64 c.i) (.int .i64 0) (.int .i64 0) (.int .u8 0) (.int .i64 0) (.string ⟨#[]⟩) (.slice BL 0 bL) (.slice BO 0 bO) (.string (partS h.str c.i.toNat c.n.toNat));have hk9:=zbe X5 (w.heap.size+1+1) (.int .u8 8) (.slice B c.path.length bp) (.string c.key) (.int .i64 c.i) (.int .i64 0) (.int .i64 0) (.int .u8 0) (.int .i64 0) (.string ⟨#[]⟩) (.slice BL 0 bL) (.slice BO 0 bO) (.string (partS h.str c.i.toNat c.n.toNat));have hb9:=zaz H5.below (show w.heap.size<=w.heap.size+1+1 by omega) (.int .u8 8) (.slice B c.path.length bp) (.string c.key) (.int .i64 c.i) (.int .i64 0) (.int .i64 0) (.int .u8 0) (.int .i64 0) (.string ⟨#[]⟩) (.slice BL 0 bL) (.slice BO 0 bO) (.string (partS h.str c.i.toNat c.n.toNat))
 unfold pt12 at h9 hk9 hb9;generalize ((((((((((((X5.setCell ⟨w.heap.size+1+1,0,none⟩ (.int .u8 8)).setCell ⟨w.heap.size+1+1,1,none⟩ (.slice B c.path.length bp)).setCell ⟨w.heap.size+1+1,2,none⟩ (.string c.key)).setCell ⟨w.heap.size+1+1,3,none⟩ (.int .i64 c.i)).setCell ⟨w.heap.size+1+1,4,none⟩ (.int .i64 0)).setCell ⟨w.heap.size+1+1,5,none⟩ (.int .i64 0)).setCell ⟨w.heap.size+1+1,6,none⟩ (.int .u8 0)).setCell ⟨w.heap.size+1+1,7,none⟩ (.int .i64 0)).setCell ⟨w.heap.size+1+1,8,none⟩ (.string ⟨#[]⟩)).setCell ⟨w.heap.size+1+1,9,none⟩ (.slice BL 0 bL)).setCell ⟨w.heap.size+1+1,10,none⟩ (.slice BO 0 bO)).setCell ⟨w.heap.size+1+1,11,none⟩ (.string (partS h.str c.i.toNat c.n.toNat)))=X at *;obtain ⟨d0,d1,d2,d3,d4,d5,d6,d7,d8,d9,d10,d11,_⟩:=h9.tw;refine bodyPost_ret (v:=.agg #[.int .u8 8,.slice B c.path.length bp,.string c.key,.int .i64 c.i,.int .i64 0,.int .i64 0,.int .u8 0,.int .i64 0,.string ⟨#[]⟩,.slice BL 0 bL,.slice BO 0 bO,.string (partS h.str c.i.toNat c.n.toNat)]) (by simp [results,Tryz.results37,go_sem,d0,d1,d2,d3,d4,d5,d6,d7,d8,d9,d10,d11]) rfl ?_
 exact ⟨B,BL,BO,bp,bL,bO,rfl,HC5.kp (m:=w.heap.size) (by omega) hk9,hb9⟩
end Go.Proofs.YthmcfjmignlhfaaGreatDoor
namespace Go.Proofs.YthmcfjmignlhfaaGreatDoor
open Go.Lib(hid)
open Go Go.RowKit
set_option linter.unusedVariables false
set_option linter.unusedSimpArgs false
theorem zh0 {s:GStep} {h:GV}:∀ (p:List GStep) (g:GV),g.get p=some h->g.get (p++[s])=h.inside s
 | [],g,e=>by
  simp only [GV.get,Option.some.injEq] at e;subst e;simp only [List.nil_append,GV.get];cases g.inside s<;>rfl
 | t :: r,g,e=>by
  simp only [List.cons_append,GV.get] at e ⊢;cases hi:g.inside t with
  | none=>rw [hi] at e;cases e
  | some y=>
   rw [hi] at e;simp only [Option.bind_some] at e ⊢;exact zh0 r y e
theorem zi3 {s:ByteArray} (h:s.toList=[]):s =⟨#[]⟩:=by
 rw [ByteArray.toList_eq] at h;cases s with
 | mk d=>
  have:d=#[]:=by simpa using h
  rw [this]
theorem zi0 {c:GC} (h:c.Sound):c.path.length<=16:=by
 have:=h.2.2.2.1;unfold soundP at this;simp only [Bool.and_eq_true,decide_eq_true_eq] at this;exact this.1
theorem zdI (g GL GO dL dO c A AL AO cp cL cO) (h:GV) (d w) (hg:Vl w g GL GO dL dO) (hc:Cc w c A AL AO cp cL cO) (hgw:g.weight<=1000000) (hky:c.key.size<=281474976710656) (hpk:∀ s∈c.path,s.key.size<=281474976710656) (hsz:c.s.size<=1000000000) (hS:c.Sound) (hget:g.get c.path=some h) (hu:Undo h c d) (hck:chkH h c=0):
  Calls Tryz.prog 37 #[.agg #[.int .u8 g.kq,.int .i64 g.num,.string g.str,.slice GL g.il.length dL,.slice GO g.vz.length dO],.agg #[.int .u8 c.kq,.slice A c.path.length cp,.string c.key,.int .i64 c.i,.int .i64 c.j,.int .i64 c.n,.int .u8 c.v.kq,.int .i64 c.v.num,.string c.v.str,.slice AL c.v.il.length cL,.slice AO c.v.vz.length cO,.string c.s]] w (SameNw d w):=by
 have hpl:c.path.length<=100000:=by have:=zi0 hS;omega
 have hgw2:g.weight<=1000000000:=by omega
 have hhw:=zaD _ _ _ hget;obtain ⟨s1,s2,_,s4,s5,s6⟩:=hS.2.2.2.2.1.2.1;have hwk:=zcG hck;have key0:c.kq≠2->c.kq≠3->c.key =⟨#[]⟩:=fun h2 h3=>by
  rcases s2 with e | e | e
  ·exact absurd e h2
  ·exact absurd e h3
  ·exact zi3 e
 have i0:c.kq<4->c.i=0:=fun hlt=>by
  rcases s4 with e | e
  ·omega
  ·exact e
 have hin:∀ s,g.get (c.path++[s])=h.inside s:=fun s=>zh0 c.path g hget
 rcases hu with ⟨q,rfl⟩ | ⟨q,ht,rfl⟩ | ⟨q,ht,x,hx,rfl⟩ | ⟨q,ht,x,hx,rfl⟩ | ⟨q,rfl⟩ | ⟨q,i,x,hi,hx,rfl⟩ | ⟨q,i,x,hi,hx,rfl⟩ | ⟨q,rfl⟩ | ⟨q,rfl⟩ | ⟨q,_,⟨i1,n1,hinn⟩,rfl⟩
 ·have:=ziG g GL GO dL dO c A AL AO cp cL cO w hg hc hpl hky hpk q
  rw [key0 (by omega) (by omega),i0 (by omega)] at this
  unfold undo1;rw [q];rw [key0 (by omega) (by omega),i0 (by omega)]
  rwa [q] at this
 ·have:=zhl g GL GO dL dO c A AL AO cp cL cO w hg hc hgw2 hpl hky hpk q (by rw [hin];simp [GV.inside,ht])
  unfold undo2n
  rwa [show (⟨3,c.path,c.key,c.i,0,0,noG,⟨#[]⟩⟩:GC) =⟨3,c.path,c.key,0,0,0,noG,⟨#[]⟩⟩ by rw [i0 (by omega)]] at this
 ·have h5:h.kq=5:=by rw [hwk,q];decide
  have:=zhT g GL GO dL dO c A AL AO cp cL cO x w hg hc hgw2 hpl hky hpk q (by rw [hin];simp [GV.inside,ht,h5,hx])
  unfold undo2t
  rwa [show (⟨2,c.path,c.key,c.i,0,0,x,⟨#[]⟩⟩:GC) =⟨2,c.path,c.key,0,0,0,x,⟨#[]⟩⟩ by rw [i0 (by omega)]] at this
 ·have h5:h.kq=5:=by rw [hwk,q];decide
  have:=zhb g GL GO dL dO c A AL AO cp cL cO x w hg hc hgw2 hpl hky hpk q (by rw [hin];simp [GV.inside,ht,h5,hx])
  unfold undo3t
  rwa [show (⟨2,c.path,c.key,c.i,0,0,x,⟨#[]⟩⟩:GC) =⟨2,c.path,c.key,0,0,0,x,⟨#[]⟩⟩ by rw [i0 (by omega)]] at this
 ·have:=zi6 g GL GO dL dO c A AL AO cp cL cO w hg hc hpl hky hpk q
  unfold undo4
  rwa [show (⟨5,c.path,c.key,c.i,0,0,noG,⟨#[]⟩⟩:GC) =⟨5,c.path,⟨#[]⟩,c.i,0,0,noG,⟨#[]⟩⟩ by rw [key0 (by omega) (by omega)]] at this
 ·have h4:h.kq=4:=by rw [hwk,q];decide
  have:=zh6 g GL GO dL dO c A AL AO cp cL cO x w hg hc hgw2 hpl hky hpk q (by rw [hin];simp [GV.inside,h4,hi,hx])
  unfold undo5
  rwa [show (⟨4,c.path,c.key,c.i,0,0,x,⟨#[]⟩⟩:GC) =⟨4,c.path,⟨#[]⟩,i,0,0,x,⟨#[]⟩⟩ by rw [key0 (by omega) (by omega),hi]] at this
 ·have h4:h.kq=4:=by rw [hwk,q];decide
  have:=ziS g GL GO dL dO c A AL AO cp cL cO x w hg hc hgw2 hpl hky hpk q (by rw [hin];simp [GV.inside,h4,hi,hx])
  unfold undo6
  rwa [show (⟨6,c.path,c.key,c.i,0,0,x,⟨#[]⟩⟩:GC) =⟨c.kq,c.path,⟨#[]⟩,i,0,0,x,⟨#[]⟩⟩ by rw [key0 (by omega) (by omega),hi,q]] at this
 ·have:=zi4 g GL GO dL dO c A AL AO cp cL cO w hg hc hpl hky hpk q
  unfold undo7
  rwa [show (⟨7,c.path,c.key,c.j,c.i,0,noG,⟨#[]⟩⟩:GC) =⟨c.kq,c.path,⟨#[]⟩,c.j,c.i,0,noG,⟨#[]⟩⟩ by rw [key0 (by omega) (by omega),q]] at this
 ·have:=zh4 g GL GO dL dO c A AL AO cp cL cO w hg hc hpl hky hpk q hsz
  unfold undo8
  rwa [show (⟨9,c.path,c.key,c.i,0,nChars c.s,noG,⟨#[]⟩⟩:GC) =⟨9,c.path,⟨#[]⟩,c.i,0,nChars c.s,noG,⟨#[]⟩⟩ by rw [key0 (by omega) (by omega)]] at this
 ·have:=ziV g GL GO dL dO c A AL AO cp cL cO h w hg hc hgw2 hpl hky hpk q hget (by have:=zbu h;omega) i1 n1 hinn
  unfold undo9
  rwa [show (⟨8,c.path,c.key,c.i,0,0,noG,partS h.str c.i.toNat c.n.toNat⟩:GC) =⟨8,c.path,⟨#[]⟩,c.i,0,0,noG,partS h.str c.i.toNat c.n.toNat⟩ by rw [key0 (by omega) (by omega)]] at this
end Go.Proofs.YthmcfjmignlhfaaGreatDoor
namespace Go.Proofs.YthmcfjmignlhfaaGreatDoor
open Go.Lib(hid)
open Go Go.RowKit
set_option linter.unusedVariables false
set_option linter.unusedSimpArgs false
def GB.comp (x:GB) (g:GV):GC:=⟨x.kq,x.path,x.key,x.i,x.j,x.n,g,x.s⟩
structure QB (w W:World) (ca cb:Array Value):Prop where
 a:Whole W w.heap.size 43 ca
 b:Whole W (w.heap.size+1) 48 cb
 below:Below w.heap.size w W
theorem QB.new (w:World) (ca cb:Array Value):QB w ((w.alloc (.cells ca 43)).alloc (.cells cb 48)) ca cb:=
 ⟨(Whole.new w _ ca).alloc _,by have:=Whole.new (w.alloc (.cells ca 43)) 48 cb;rwa [World.size_alloc] at this,((Below.refl _ _).alloc (Nat.le_refl _) _).alloc (by simp) _⟩
theorem QB.step {w W W':World} {ca cb:Array Value} (h:QB w W ca cb) (hb:Below W.heap.size W W'):QB w W' ca cb:=
 ⟨h.a.below hb h.a.lt,h.b.below hb h.b.lt,h.below.trans (hb.mono h.below.size)⟩
def CompOut (x:GB) (B:Option Addr) (bap:Nat) (w:World) (e:Ending) (w':World):Prop:=∃ (g:GV) (VL VO:Option Addr) (vl vo:Nat),e=.returned (.agg #[.int .u8 x.kq,.slice B x.path.length bap,.string x.key,.int .i64 x.i,.int .i64 x.j,.int .i64 x.n,.int .u8 g.kq,.int .i64 g.num,.string g.str,.slice VL g.il.length vl,.slice VO g.vz.length vo,.string x.s])/\g.weight<=2 * tot x.v+1/\g.Pos/\Cc w' (x.comp g) B VL VO bap vl vo/\Below w.heap.size w w'
theorem zjM (x:GB) (B bap D) (dap:Nat) (w) (hp:Wy w B bap x.path) (hT:Toks w.heap.size w D x.v) (hd1:x.v.length<=dap) (hd2:dap<=maxLen) (hl:x.v.length<=1000000) (hr:∀ t∈x.v,0<=t.k/\t.k<=255/\0<=t.m/\t.m<=255):
  Calls Tryz.prog 17 #[.agg #[.int .u8 x.kq,.slice B x.path.length bap,.string x.key,.int .i64 x.i,.int .i64 x.j,.int .i64 x.n,.string x.s,.slice D x.v.length dap]] w (CompOut x B bap w):=by
 have HRW:=hid (fun W (hb:Below w.heap.size w W)=>(zjz w.heap.size D dap x.v W hd1 hd2 hl hb.size (hT.keep hb (Nat.le_refl _)) hr).mono (R':=fun e w'=>∃ (g:GV) (VL VO:Option Addr) (vl vo:Nat),e=.returned (.agg #[.int .u8 g.kq,.int .i64 g.num,.string g.str,.slice VL g.il.length vl,.slice VO g.vz.length vo])/\(LstV (fun k=>W.heap.size<=k) w' (.slice VL g.il.length vl) g.il/\ObjV (fun k=>W.heap.size<=k) w' (.slice VO g.vz.length vo) g.keys g.vz)/\g.weight<=2 * tot x.v+1/\g.Pos/\Below W.heap.size W w') fun e w' ⟨g,v,he,hv,hw,hpos,hb'⟩=>by
  obtain ⟨L,O,rfl,hL,hO⟩:=hv;obtain ⟨VL,vl,rfl⟩:=zaf hL;obtain ⟨VO,vo,rfl⟩:=zag hO;exact ⟨g,VL,VO,vl,vo,he,⟨hL,hO⟩,hw,hpos,hb'⟩)
 have HP:=hid hp;have H0:=hid (QB.new w #[.int .u8 x.kq,.slice B x.path.length bap,.string x.key,.int .i64 x.i,.int .i64 x.j,.int .i64 x.n,.string x.s,.slice D x.v.length dap] #[.int .u8 0,.slice none 0 0,.string ⟨#[]⟩,.int .i64 0,.int .i64 0,.int .i64 0,.int .u8 0,.int .i64 0,.string ⟨#[]⟩,.slice none 0 0,.slice none 0 0,.string ⟨#[]⟩]);have HS:=hid (fun (W:World) (h:Whole W w.heap.size 43 #[.int .u8 x.kq,.slice B x.path.length bap,.string x.key,.int .i64 x.i,.int .i64 x.j,.int .i64 x.n,.string x.s,.slice D x.v.length dap])=>(show W.cell? ⟨w.heap.size,0,none⟩=some (.int .u8 x.kq)/\W.cell? ⟨w.heap.size,1,none⟩=some (.slice B x.path.length bap)/\W.cell? ⟨w.heap.size,2,none⟩=some (.string x.key)/\W.cell? ⟨w.heap.size,3,none⟩=some (.int .i64 x.i)/\W.cell? ⟨w.heap.size,4,none⟩=some (.int .i64 x.j)/\W.cell? ⟨w.heap.size,5,none⟩=some (.int .i64 x.n)/\W.cell? ⟨w.heap.size,6,none⟩=some (.string x.s)/\W.cell? ⟨w.heap.size,7,none⟩=some (.slice D x.v.length dap) from ⟨(h.cell 0).trans rfl,(h.cell 1).trans rfl,(h.cell 2).trans rfl,(h.cell 3).trans rfl,(h.cell 4).trans rfl,(h.cell 5).trans rfl,(h.cell 6).trans rfl,(h.cell 7).trans rfl⟩))
 clear hp hT hd1 hd2 hl hr;go_enter Tryz.func17,Tryz.ntmps17
 go_wp2
 have hs0:((w.alloc (.cells #[.int .u8 x.kq,.slice B x.path.length bap,.string x.key,.int .i64 x.i,.int .i64 x.j,.int .i64 x.n,.string x.s,.slice D x.v.length dap] 43)).alloc (.cells #[.int .u8 0,.slice none 0 0,.string ⟨#[]⟩,.int .i64 0,.int .i64 0,.int .i64 0,.int .u8 0,.int .i64 0,.string ⟨#[]⟩,.slice none 0 0,.slice none 0 0,.string ⟨#[]⟩] 48)).heap.size=w.heap.size+1+1:=by simp
 generalize ((w.alloc (.cells #[.int .u8 x.kq,.slice B x.path.length bap,.string x.key,.int .i64 x.i,.int .i64 x.j,.int .i64 x.n,.string x.s,.slice D x.v.length dap] 43)).alloc (.cells #[.int .u8 0,.slice none 0 0,.string ⟨#[]⟩,.int .i64 0,.int .i64 0,.int .i64 0,.int .u8 0,.int .i64 0,.string ⟨#[]⟩,.slice none 0 0,.slice none 0 0,.string ⟨#[]⟩] 48))=W0 at *;have HZ0:=hid hs0;have HA0:=hid (show Whole W0.drew w.heap.size 43 #[.int .u8 x.kq,.slice B x.path.length bap,.string x.key,.int .i64 x.i,.int .i64 x.j,.int .i64 x.n,.string x.s,.slice D x.v.length dap] from H0.out.a.of_eq rfl);clear hs0
 go_region_held3 (fun W=>W.cell? ⟨w.heap.size,0,none⟩=some (.int .u8 x.kq)/\W.cell? ⟨w.heap.size,1,none⟩=some (.slice B x.path.length bap)/\W.cell? ⟨w.heap.size,2,none⟩=some (.string x.key)/\W.cell? ⟨w.heap.size,3,none⟩=some (.int .i64 x.i)/\W.cell? ⟨w.heap.size,4,none⟩=some (.int .i64 x.j)/\W.cell? ⟨w.heap.size,5,none⟩=some (.int .i64 x.n)/\W.cell? ⟨w.heap.size,6,none⟩=some (.string x.s)/\W.cell? ⟨w.heap.size,7,none⟩=some (.slice D x.v.length dap))
  (first
   | (with_reducible exact HS.out W0.drew HA0.out)
   | (with_reducible exact HS.out W0 H0.out.a)
   | (with_reducible exact HS.out w1 H1.out.1.a)
   | exact HS.out _ (by repeat (first | (with_reducible exact H1.out.1.a) | refine Whole.far ?_ (by simp) _)))
  (first
   | (go_at_call 35;refine (HRW.out W0.drew H0.out.below.drew).mono ?_;rintro e w1 ⟨g,VL,VO,vl,vo,rfl,hv,hw,hpos,hb⟩;have H1:=hid (And.intro (H0.out.step ((Below.refl W0.heap.size W0).drew.trans hb)) (And.intro (And.intro hv (And.intro hw hpos)) (And.intro (show w.heap.size+1+1<=W0.drew.heap.size from Nat.le_of_eq HZ0.out.symm) (H0.out.below.drew.trans (hb.mono H0.out.below.size)))));obtain ⟨b0,b1,b2,b3,b4,b5,b6,b7,b8,b9,b10,b11,y0,y1,y2,y3,y4,y5,y6,y7,y8,y9,y10,y11⟩:=H1.out.1.b.tw;clear hv hw hpos hb))
 all_goals
  go_wp2
  have hXb:=put12 H1.out.1.b (.int .u8 x.kq) (.slice B x.path.length bap) (.string x.key) (.int .i64 x.i) (.int .i64 x.j) (.int .i64 x.n) (.int .u8 g.kq) (.int .i64 g.num) (.string g.str) (.slice VL g.il.length vl) (.slice VO g.vz.length vo) (.string x.s);have hk:=(((((((((((((Kp.refl (w.heap.size+1+1) w1).set (p:=⟨w.heap.size+1,0,none⟩) (by simp) (.int .u8 x.kq)).set (p:=⟨w.heap.size+1,1,none⟩) (by simp) (.slice B x.path.length bap)).set (p:=⟨w.heap.size+1,2,none⟩) (by simp) (.string x.key)).set (p:=⟨w.heap.size+1,3,none⟩) (by simp) (.int .i64 x.i)).set (p:=⟨w.heap.size+1,4,none⟩) (by simp) (.int .i64 x.j)).set (p:=⟨w.heap.size+1,5,none⟩) (by simp) (.int .i64 x.n)).set (p:=⟨w.heap.size+1,6,none⟩) (by simp) (.int .u8 g.kq)).set (p:=⟨w.heap.size+1,7,none⟩) (by simp) (.int .i64 g.num)).set (p:=⟨w.heap.size+1,8,none⟩) (by simp) (.string g.str)).set (p:=⟨w.heap.size+1,9,none⟩) (by simp) (.slice VL g.il.length vl)).set (p:=⟨w.heap.size+1,10,none⟩) (by simp) (.slice VO g.vz.length vo)).set (p:=⟨w.heap.size+1,11,none⟩) (by simp) (.string x.s))
  have hbel:=((((((((((((H1.out.2.2.2.setCell (p:=⟨w.heap.size+1,0,none⟩) (Nat.le_succ _) (.int .u8 x.kq)).setCell (p:=⟨w.heap.size+1,1,none⟩) (Nat.le_succ _) (.slice B x.path.length bap)).setCell (p:=⟨w.heap.size+1,2,none⟩) (Nat.le_succ _) (.string x.key)).setCell (p:=⟨w.heap.size+1,3,none⟩) (Nat.le_succ _) (.int .i64 x.i)).setCell (p:=⟨w.heap.size+1,4,none⟩) (Nat.le_succ _) (.int .i64 x.j)).setCell (p:=⟨w.heap.size+1,5,none⟩) (Nat.le_succ _) (.int .i64 x.n)).setCell (p:=⟨w.heap.size+1,6,none⟩) (Nat.le_succ _) (.int .u8 g.kq)).setCell (p:=⟨w.heap.size+1,7,none⟩) (Nat.le_succ _) (.int .i64 g.num)).setCell (p:=⟨w.heap.size+1,8,none⟩) (Nat.le_succ _) (.string g.str)).setCell (p:=⟨w.heap.size+1,9,none⟩) (Nat.le_succ _) (.slice VL g.il.length vl)).setCell (p:=⟨w.heap.size+1,10,none⟩) (Nat.le_succ _) (.slice VO g.vz.length vo)).setCell (p:=⟨w.heap.size+1,11,none⟩) (Nat.le_succ _) (.string x.s));generalize ((((((((((((w1.setCell ⟨w.heap.size+1,0,none⟩ (.int .u8 x.kq)).setCell ⟨w.heap.size+1,1,none⟩ (.slice B x.path.length bap)).setCell ⟨w.heap.size+1,2,none⟩ (.string x.key)).setCell ⟨w.heap.size+1,3,none⟩ (.int .i64 x.i)).setCell ⟨w.heap.size+1,4,none⟩ (.int .i64 x.j)).setCell ⟨w.heap.size+1,5,none⟩ (.int .i64 x.n)).setCell ⟨w.heap.size+1,6,none⟩ (.int .u8 g.kq)).setCell ⟨w.heap.size+1,7,none⟩ (.int .i64 g.num)).setCell ⟨w.heap.size+1,8,none⟩ (.string g.str)).setCell ⟨w.heap.size+1,9,none⟩ (.slice VL g.il.length vl)).setCell ⟨w.heap.size+1,10,none⟩ (.slice VO g.vz.length vo)).setCell ⟨w.heap.size+1,11,none⟩ (.string x.s))=X at *;obtain ⟨d0,d1,d2,d3,d4,d5,d6,d7,d8,d9,d10,d11,_⟩:=hXb.tw;have hsz:=H1.out.2.2.1;have HX:=hid (And.intro hk hbel);clear hXb hk hbel;refine bodyPost_ret (v:=.agg #[.int .u8 x.kq,.slice B x.path.length bap,.string x.key,.int .i64 x.i,.int .i64 x.j,.int .i64 x.n,.int .u8 g.kq,.int .i64 g.num,.string g.str,.slice VL g.il.length vl,.slice VO g.vz.length vo,.string x.s]) (by simp [results,Tryz.results17,go_sem,d0,d1,d2,d3,d4,d5,d6,d7,d8,d9,d10,d11]) rfl ?_
  exact ⟨g,VL,VO,vl,vo,rfl,H1.out.2.1.2.1,H1.out.2.1.2.2,⟨HP.out.later HX.out.2,⟨H1.out.2.1.1.1.keep (fun k hk1 hl=>HX.out.1.2 k (by omega) hl) (fun _ _ _=>trivial),H1.out.2.1.1.2.keep (fun k hk1 hl=>HX.out.1.2 k (by omega) hl) (fun _ _ _=>trivial)⟩⟩,HX.out.2⟩
end Go.Proofs.YthmcfjmignlhfaaGreatDoor
namespace Go.Proofs.YthmcfjmignlhfaaGreatDoor
open Go.Lib(hid)
open Go Go.RowKit
set_option linter.unusedVariables false
set_option linter.unusedSimpArgs false
def TrueBelow (w:World) (e:Ending) (w':World):Prop:=e=.returned (.bool true)/\Below w.heap.size w w'
def nG (n:Int):GV:=.mk 2 n ⟨#[]⟩ [] [] []
def kV (n:Int):GV:=.mk 5 0 ⟨#[]⟩ [] [⟨#[97]⟩] [nG n]
theorem zgR (n:Int):(nG n).Sound:=by
 have h0:(⟨#[]⟩:ByteArray).toList=[]:=by decide +kernel
 simp [nG,GV.Sound,GV.Sounds,SelfP,h0]
theorem zil:noG.Sound:=by
 have h0:(⟨#[]⟩:ByteArray).toList=[]:=by decide +kernel
 simp [noG,GV.Sound,GV.Sounds,SelfP,h0]
theorem zkF (n:Int):(nG n).deep=0:=by simp [nG,GV.deep,GV.deeps]
theorem zcI (n:Int):(nG n).weight=1:=by
 have h0:(⟨#[]⟩:ByteArray).size=0:=rfl;simp [nG,GV.weight,GV.weights,h0]
theorem zjN:noG.deep=0:=by simp [noG,GV.deep,GV.deeps]
theorem zg8:noG.weight=1:=by
 have h0:(⟨#[]⟩:ByteArray).size=0:=rfl;simp [noG,GV.weight,GV.weights,h0]
theorem zet:soundP []=true:=by decide +kernel
theorem zey (n:Int):there ⟨#[97]⟩ (kV n).keys=true:=by show there ⟨#[97]⟩ [⟨#[97]⟩]=true;decide +kernel
theorem zgm (n:Int):place ⟨#[97]⟩ (kV n).keys=0:=by show place ⟨#[97]⟩ [⟨#[97]⟩]=0;decide +kernel
theorem zcv (n:Int):(kV n).weight<=100:=by
 have h0:(⟨#[]⟩:ByteArray).size=0:=rfl;have h1:(⟨#[97]⟩:ByteArray).size=1:=rfl;simp [kV,nG,GV.weight,GV.weights,ksum,h0,h1]
theorem zkH {w:World} {c:GC} {A AL AO:Option Addr} {cp cL cO:Nat} (h:worksOn c.kq≠3):TextChecks w c A AL AO cp cL cO:=fun _ _ _ h3 _ _=>absurd h3 h
structure KB (w W:World):Prop where
 row:Whole W w.heap.size 70 #[.string ⟨#[97]⟩,.int .u8 2,.int .i64 1,.string ⟨#[]⟩,.slice none 0 0,.slice none 0 0]
 box:Whole W (w.heap.size+1) 29 #[.int .u8 5,.int .i64 0,.string ⟨#[]⟩,.slice none 0 0,.slice (some ⟨w.heap.size,0,none⟩) 1 1]
 below:Below w.heap.size w W
theorem KB.later {w W W':World} (h:KB w W) (hb:Below W.heap.size W W'):KB w W':=⟨h.row.below hb h.row.lt,h.box.below hb h.box.lt,h.below.trans (hb.mono h.below.size)⟩
theorem KB.start (w:World):KB w ((w.alloc (.cells #[.string ⟨#[97]⟩,.int .u8 2,.int .i64 1,.string ⟨#[]⟩,.slice none 0 0,.slice none 0 0] 70)).alloc (.cells #[.int .u8 5,.int .i64 0,.string ⟨#[]⟩,.slice none 0 0,.slice (some ⟨w.heap.size,0,none⟩) 1 1] 29)):=by
 have h2:=Whole.new (w.alloc (.cells #[.string ⟨#[97]⟩,.int .u8 2,.int .i64 1,.string ⟨#[]⟩,.slice none 0 0,.slice none 0 0] 70)) 29 #[.int .u8 5,.int .i64 0,.string ⟨#[]⟩,.slice none 0 0,.slice (some ⟨w.heap.size,0,none⟩) 1 1];rw [World.size_alloc] at h2;exact ⟨(Whole.new w _ _).alloc _,h2,(zaa w _).alloc (by simp) _⟩
theorem KB.vl {w W:World} (h:KB w W):Vl W (kV 1) none (some ⟨w.heap.size,0,none⟩) 0 1:=by
 have hc:∀ (j:Nat) (u:Value),(#[.string ⟨#[97]⟩,.int .u8 2,.int .i64 1,.string ⟨#[]⟩,.slice none 0 0,.slice none 0 0]:Array Value).toList[j]? = some u->W.cell? ⟨w.heap.size,0+j,none⟩=some u:=fun j u hu=>by rw [Nat.zero_add,h.row.cell];simpa using hu
 have h1:=RowO.els (ok:=fun _=>True) (W:=W) (b:=w.heap.size) (ks:=(kV 1).keys) (ov:=(kV 1).vz) (xs:=(#[.string ⟨#[97]⟩,.int .u8 2,.int .i64 1,.string ⟨#[]⟩,.slice none 0 0,.slice none 0 0]:Array Value).toList) (off:=0) ⟨_,_,_,rfl,.inl ⟨rfl,rfl⟩,⟨rfl,.inl ⟨rfl,rfl⟩⟩,rfl⟩ hc
 exact ⟨.inl ⟨rfl,rfl⟩,rfl,.inr ⟨w.heap.size,0,1,rfl,Nat.le_refl _,by decide,h.row.kq trivial,h1.1,h1.2⟩⟩
theorem zfN {s:ByteArray} (h:s.size<=10):s.size<=9223372036854775807:=by omega
theorem zhj (w:World) (a:Obj) (t:TypeId) (cs:Array Value):Whole ((w.alloc a).alloc (.cells cs t)) (w.heap.size+1) t cs:=by
 have h:=Whole.new (w.alloc a) t cs
 rwa [World.size_alloc] at h
end Go.Proofs.YthmcfjmignlhfaaGreatDoor
namespace Go.Proofs.YthmcfjmignlhfaaGreatDoor
open Go.Lib(hid)
open Go Go.RowKit
set_option linter.unusedVariables false
set_option linter.unusedSimpArgs false
structure BareOk2 (w:World) (x:GB) (B:Option Addr) (bap:Nat) (D:Option Addr) (dap:Nat):Prop where
 path:Wy w B bap x.path
 keys:∀ s∈x.path,s.key.size<=140737488351232
 toks:Toks w.heap.size w D x.v
 cap:x.v.length<=dap/\dap<=maxLen
 len:x.v.length<=1000000
 rng:∀ t∈x.v,0<=t.k/\t.k<=255/\0<=t.m/\t.m<=255
theorem BareOk2.later {w W:World} {x:GB} {B bap D dap} (h:BareOk2 w x B bap D dap) (hb:Below w.heap.size w W):BareOk2 W x B bap D dap:=⟨h.path.later hb,h.keys,h.toks.keep hb hb.size,h.cap,h.len,h.rng⟩
structure BB1 (w W:World) (ca:Array Value):Prop where
 a:Whole W w.heap.size 43 ca
 below:Below w.heap.size w W
theorem BB1.new (w:World) (ca:Array Value):BB1 w (w.alloc (.cells ca 43)) ca:=
 ⟨Whole.new w _ ca,zaa w _⟩
theorem BB1.step {w W W':World} {ca:Array Value} (h:BB1 w W ca) (hb:Below W.heap.size W W'):BB1 w W' ca:=
 ⟨h.a.below hb h.a.lt,h.below.trans (hb.mono h.below.size)⟩
theorem BB1.alloc {w W:World} {ca:Array Value} (h:BB1 w W ca) (o:Obj):BB1 w (W.alloc o) ca:=h.step (zaa W o)
theorem zcU {W b} {t:TypeId} {a0 a1 a2 a3 a4 a5 a6 a7:Value} (h:Whole W b t #[a0,a1,a2,a3,a4,a5,a6,a7]):W.cell? ⟨b,0,none⟩=some a0/\W.cell? ⟨b,1,none⟩=some a1/\W.cell? ⟨b,2,none⟩=some a2/\W.cell? ⟨b,3,none⟩=some a3/\W.cell? ⟨b,4,none⟩=some a4/\W.cell? ⟨b,5,none⟩=some a5/\W.cell? ⟨b,6,none⟩=some a6/\W.cell? ⟨b,7,none⟩=some a7:=
 ⟨h.cell 0,h.cell 1,h.cell 2,h.cell 3,h.cell 4,h.cell 5,h.cell 6,h.cell 7⟩
end Go.Proofs.YthmcfjmignlhfaaGreatDoor
namespace Go.Proofs.YthmcfjmignlhfaaGreatDoor
open Go.Lib(hid)
open Go Go.RowKit Go.Shelf
set_option linter.unusedVariables false
set_option linter.unusedSimpArgs false
theorem zko (g:GV) (c:GC):∃ n,ChkIs g c n:=by
 by_cases hS:c.Sound
 ·cases hget:g.get c.path with
  | none=>exact ⟨30,.inr ⟨hS,.inl ⟨hget,rfl⟩⟩⟩
  | some h=>exact ⟨chkH h c,.inr ⟨hS,.inr ⟨h,hget,rfl⟩⟩⟩
 ·exact ⟨60,.inl ⟨hS,rfl⟩⟩
theorem zis {g c n} (h:ChkIs g c n):0<=n/\n<=60:=by
 rcases h with ⟨_,rfl⟩ | ⟨_,⟨_,rfl⟩ | ⟨k,_,rfl⟩⟩
 ·omega
 ·omega
 ·unfold chkH chkL chkT
  repeat' split
  all_goals omega
end Go.Proofs.YthmcfjmignlhfaaGreatDoor
namespace Go.Proofs.YthmcfjmignlhfaaGreatDoor
open Go.Lib(hid)
open Go Go.RowKit
set_option linter.unusedVariables false
set_option linter.unusedSimpArgs false
mutual
theorem zir:∀ (g:GV),g.Sound->g.Pos
 | .mk k n s l ks ov,h=>by
  simp only [GV.Sound] at h;simp only [GV.Pos];exact ⟨by have:=h.1.1;omega,zeT l h.2.1,zeT ov h.2.2⟩
theorem zeT:∀ (l:List GV),GV.Sounds l->GV.Poss l
 | [],_=>by simp [GV.Poss]
 | x :: r,h=>by
  simp only [GV.Sounds] at h;simp only [GV.Poss];exact ⟨zir x h.1,zeT r h.2⟩
end
theorem zce (g GL GO eL eO c A AL AO cp cL cO w n) (hg:Vl w g GL GO eL eO) (hc:Cc w c A AL AO cp cL cO) (hgw:g.weight<=1000000) (hs:Small c) (hT:Tabs w) (hn:ChkIs g c n):
  Calls Tryz.prog 36 #[.agg #[.int .u8 g.kq,.int .i64 g.num,.string g.str,.slice GL g.il.length eL,.slice GO g.vz.length eO],.agg #[.int .u8 c.kq,.slice A c.path.length cp,.string c.key,.int .i64 c.i,.int .i64 c.j,.int .i64 c.n,.int .u8 c.v.kq,.int .i64 c.v.num,.string c.v.str,.slice AL c.v.il.length cL,.slice AO c.v.vz.length cO,.string c.s]] w fun e w'=>e=.returned (.int .u16 n)/\Below w.heap.size w w':=
 (zhM g GL GO eL eO c A AL AO cp cL cO w hg hc (by omega) (by have:=hs.v;omega) (by have:=hs.k;omega) (by have:=hs.s;omega) hs.pk hT (by
  intro h h3 hw hwk W hb;have:=(zbN h).1;exact zb5 h.str c A AL AO cp cL cO W (by omega) (works3 hwk))).mono fun e w' ⟨m,he,hm,hb⟩=>⟨by rw [he,zbo hm hn],hb⟩
def TurnsTo (g:GV) (c d:GC) (n:Int):Prop:=
 (n≠0/\ChkIs g c n/\d=noC)\/∃ h u,ChkIs g c 0/\c.Sound/\g.get c.path=some h/\chkH h c=0/\Undo h c u/\((u.Sound/\d=u/\n=0)\/(¬ u.Sound/\d=noC/\n=60))
theorem zhd (g:GV) (c:GC) (hl:∀ h,g.get c.path=some h->h.keys.length=h.vz.length):∃ d n,TurnsTo g c d n:=by
 obtain ⟨n,hn⟩:=zko g c;by_cases h0:n=0
 ·subst h0
  rcases hn with ⟨_,e⟩ | ⟨hS,hr⟩
  ·exact absurd e (by decide)
  ·rcases hr with ⟨_,e⟩ | ⟨h,hg,e⟩
   ·exact absurd e (by decide)
   ·obtain ⟨u,hu⟩:=zhX hS e.symm (hl h hg)
    by_cases hus:u.Sound
    ·exact ⟨u,0,.inr ⟨h,u,.inr ⟨hS,.inr ⟨h,hg,e⟩⟩,hS,hg,e.symm,hu,.inl ⟨hus,rfl,rfl⟩⟩⟩
    ·exact ⟨noC,60,.inr ⟨h,u,.inr ⟨hS,.inr ⟨h,hg,e⟩⟩,hS,hg,e.symm,hu,.inr ⟨hus,rfl,rfl⟩⟩⟩
 ·exact ⟨noC,n,.inl ⟨h0,hn,rfl⟩⟩
structure SmallU (d:GC):Prop where
 s:Small d
 pos:d.v.Pos
theorem zcM {g h:GV} {c u:GC} (hg:g.Sound) (hgw:g.weight<=1000000) (hget:g.get c.path=some h) (hm:Small c) (hu:Undo h c u):SmallU u:=by
 have hs:=zc2 _ _ _ hg hget;have hw:=Nat.le_trans (zaD _ _ _ hget) (show g.weight<=2200000 by omega)
 have hp:h.Pos:=zir h hs;have hpi:=(ziX h).1 hp;have hn:noG.weight<=2200000:=by show noG.weight<=_;decide +kernel
 have hnp:noG.Pos:=by simp [noG,GV.Pos,GV.Poss]
 rcases hu with ⟨q,rfl⟩ | ⟨q,ht,rfl⟩ | ⟨q,ht,x,hx,rfl⟩ | ⟨q,ht,x,hx,rfl⟩ | ⟨q,rfl⟩ | ⟨q,i,x,hi,hx,rfl⟩ | ⟨q,i,x,hi,hx,rfl⟩ | ⟨q,rfl⟩ | ⟨q,rfl⟩ | ⟨q,_,⟨i1,n1,hinn⟩,rfl⟩
 ·exact ⟨⟨hn,Nat.zero_le _,Nat.zero_le _,hm.pk⟩,hnp⟩
 ·exact ⟨⟨hn,hm.k,Nat.zero_le _,hm.pk⟩,hnp⟩
 ·exact ⟨⟨Nat.le_trans (zd9 hx) hw,hm.k,Nat.zero_le _,hm.pk⟩,hpi.2.2 x (List.mem_of_getElem? hx)⟩
 ·exact ⟨⟨Nat.le_trans (zd9 hx) hw,hm.k,Nat.zero_le _,hm.pk⟩,hpi.2.2 x (List.mem_of_getElem? hx)⟩
 ·exact ⟨⟨hn,Nat.zero_le _,Nat.zero_le _,hm.pk⟩,hnp⟩
 ·exact ⟨⟨Nat.le_trans (zdA hx) hw,Nat.zero_le _,Nat.zero_le _,hm.pk⟩,hpi.2.1 x (List.mem_of_getElem? hx)⟩
 ·exact ⟨⟨Nat.le_trans (zdA hx) hw,Nat.zero_le _,Nat.zero_le _,hm.pk⟩,hpi.2.1 x (List.mem_of_getElem? hx)⟩
 ·exact ⟨⟨hn,Nat.zero_le _,Nat.zero_le _,hm.pk⟩,hnp⟩
 ·exact ⟨⟨hn,Nat.zero_le _,Nat.zero_le _,hm.pk⟩,hnp⟩
 ·exact ⟨⟨hn,Nat.zero_le _,by show (partS h.str c.i.toNat c.n.toNat).size<=_;have:=zbu h;unfold partS;rw [ByteArray.size_extract];omega,hm.pk⟩,hnp⟩
def TurnedAns (d:GC) (r:Value) (w:World) (e:Ending) (w':World):Prop:=∃ B BL BO bp bL bO,e=.returned (.tuple #[.agg #[.int .u8 d.kq,.slice B d.path.length bp,.string d.key,.int .i64 d.i,.int .i64 d.j,.int .i64 d.n,.int .u8 d.v.kq,.int .i64 d.v.num,.string d.v.str,.slice BL d.v.il.length bL,.slice BO d.v.vz.length bO,.string d.s],r])/\CcNew w.heap.size w' d B BL BO bp bL bO/\Below w.heap.size w w'
theorem zkr (n:Nat) (W:World):CcNew n W noC none none none 0 0 0:=⟨zc9 W,(fun p hp=>by cases hp),⟨.inl ⟨rfl,rfl⟩,⟨rfl,.inl ⟨rfl,rfl⟩⟩⟩⟩
end Go.Proofs.YthmcfjmignlhfaaGreatDoor
namespace Go.Proofs.YthmcfjmignlhfaaGreatDoor
open Go.Lib(hid)
open Go Go.RowKit
set_option linter.unusedVariables false
set_option linter.unusedSimpArgs false
theorem zlj (g GL GO dL dO c A AL AO cp cL cO n w) (hg:Vl w g GL GO dL dO) (hc:Cc w c A AL AO cp cL cO) (hgw:g.weight<=1000000) (hm:Small c) (hT:Tabs w) (hn:ChkIs g c n) (h0:n≠0):
  Calls Tryz.prog 18 #[.agg #[.int .u8 g.kq,.int .i64 g.num,.string g.str,.slice GL g.il.length dL,.slice GO g.vz.length dO],.agg #[.int .u8 c.kq,.slice A c.path.length cp,.string c.key,.int .i64 c.i,.int .i64 c.j,.int .i64 c.n,.int .u8 c.v.kq,.int .i64 c.v.num,.string c.v.str,.slice AL c.v.il.length cL,.slice AO c.v.vz.length cO,.string c.s]] w (TurnedAns noC (.int .u16 n) w):=by
 have HCK:=hid (fun W (hb:Below w.heap.size w W)=>zce g GL GO dL dO c A AL AO cp cL cO W n (hg.later hb) (hc.later hb) hgw hm (hT.below hb (Nat.le_refl _)) hn)
 have H0:=hid (UB3.new w #[.int .u8 g.kq,.int .i64 g.num,.string g.str,.slice GL g.il.length dL,.slice GO g.vz.length dO] #[.int .u8 c.kq,.slice A c.path.length cp,.string c.key,.int .i64 c.i,.int .i64 c.j,.int .i64 c.n,.int .u8 c.v.kq,.int .i64 c.v.num,.string c.v.str,.slice AL c.v.il.length cL,.slice AO c.v.vz.length cO,.string c.s] #[.int .u8 0,.slice none 0 0,.string ⟨#[]⟩,.int .i64 0,.int .i64 0,.int .i64 0,.int .u8 0,.int .i64 0,.string ⟨#[]⟩,.slice none 0 0,.slice none 0 0,.string ⟨#[]⟩]);have hne:(n != 0)=true:=by simpa using h0
 clear hg hc hgw hm hT hn h0;go_enter Tryz.func18,Tryz.ntmps18
 obtain ⟨v0,v1,v2,v3,v4,_⟩:=H0.out.g.five;obtain ⟨c0,c1,c2,c3,c4,c5,c6,c7,c8,c9,c10,c11,_⟩:=H0.out.c.tw
 go_wp2_with (go_at_call 36;refine (HCK.out _ H0.out.below).mono ?_;rintro e w1 ⟨rfl,hb⟩;have H1:=hid (H0.out.step hb);clear hb;clear v0 v1 v2 v3 v4 c0 c1 c2 c3 c4 c5 c6 c7 c8 c9 c10 c11;obtain ⟨r0,r1,r2,r3,r4,r5,r6,r7,r8,r9,r10,r11,y0,y1,y2,y3,y4,y5,y6,y7,y8,y9,y10,y11⟩:=H1.out.r.tw)
 have HH:=H1.out;have h9:=zay HH.r (.int .u8 0) (.slice none 0 0) (.string ⟨#[]⟩) (.int .i64 0) (.int .i64 0) (.int .i64 0) (.int .u8 0) (.int .i64 0) (.string ⟨#[]⟩) (.slice none 0 0) (.slice none 0 0) (.string ⟨#[]⟩);have hb9:=zaz HH.below (show w.heap.size<=w.heap.size+1+1 by omega) (.int .u8 0) (.slice none 0 0) (.string ⟨#[]⟩) (.int .i64 0) (.int .i64 0) (.int .i64 0) (.int .u8 0) (.int .i64 0) (.string ⟨#[]⟩) (.slice none 0 0) (.slice none 0 0) (.string ⟨#[]⟩)
 unfold pt12 at h9 hb9;generalize ((((((((((((w1.setCell ⟨w.heap.size+1+1,0,none⟩ (.int .u8 0)).setCell ⟨w.heap.size+1+1,1,none⟩ (.slice none 0 0)).setCell ⟨w.heap.size+1+1,2,none⟩ (.string ⟨#[]⟩)).setCell ⟨w.heap.size+1+1,3,none⟩ (.int .i64 0)).setCell ⟨w.heap.size+1+1,4,none⟩ (.int .i64 0)).setCell ⟨w.heap.size+1+1,5,none⟩ (.int .i64 0)).setCell ⟨w.heap.size+1+1,6,none⟩ (.int .u8 0)).setCell ⟨w.heap.size+1+1,7,none⟩ (.int .i64 0)).setCell ⟨w.heap.size+1+1,8,none⟩ (.string ⟨#[]⟩)).setCell ⟨w.heap.size+1+1,9,none⟩ (.slice none 0 0)).setCell ⟨w.heap.size+1+1,10,none⟩ (.slice none 0 0)).setCell ⟨w.heap.size+1+1,11,none⟩ (.string ⟨#[]⟩))=X at *;obtain ⟨d0,d1,d2,d3,d4,d5,d6,d7,d8,d9,d10,d11,_⟩:=h9.tw;refine bodyPost_ret (v:=.tuple #[.agg #[.int .u8 0,.slice none 0 0,.string ⟨#[]⟩,.int .i64 0,.int .i64 0,.int .i64 0,.int .u8 0,.int .i64 0,.string ⟨#[]⟩,.slice none 0 0,.slice none 0 0,.string ⟨#[]⟩],.int .u16 n]) (by simp [results,Tryz.results18,go_sem,d0,d1,d2,d3,d4,d5,d6,d7,d8,d9,d10,d11]) rfl ?_
 exact ⟨none,none,none,0,0,0,rfl,zkr _ _,hb9⟩
theorem zkZ (g GL GO dL dO c A AL AO cp cL cO) (h:GV) (u w) (hg:Vl w g GL GO dL dO) (hc:Cc w c A AL AO cp cL cO) (hgw:g.weight<=1000000) (hm:Small c) (hT:Tabs w) (hpos:c.v.Pos) (hgs:g.Sound) (hky:c.key.size<=281474976710656) (hpk:∀ s∈c.path,s.key.size<=281474976710656) (hS:c.Sound) (hget:g.get c.path=some h) (hck:chkH h c=0) (hu:Undo h c u) (hus:u.Sound):
  Calls Tryz.prog 18 #[.agg #[.int .u8 g.kq,.int .i64 g.num,.string g.str,.slice GL g.il.length dL,.slice GO g.vz.length dO],.agg #[.int .u8 c.kq,.slice A c.path.length cp,.string c.key,.int .i64 c.i,.int .i64 c.j,.int .i64 c.n,.int .u8 c.v.kq,.int .i64 c.v.num,.string c.v.str,.slice AL c.v.il.length cL,.slice AO c.v.vz.length cO,.string c.s]] w (TurnedAns u (.int .u16 0) w):=by
 have hn:ChkIs g c 0:=.inr ⟨hS,.inr ⟨h,hget,hck.symm⟩⟩;have hsu:=zcM hgs (by omega) hget hm hu
 have hhw:=Nat.le_trans (zaD _ _ _ hget) hgw;have HCK:=hid (fun W (hb:Below w.heap.size w W)=>zce g GL GO dL dO c A AL AO cp cL cO W 0 (hg.later hb) (hc.later hb) hgw hm (hT.below hb (Nat.le_refl _)) hn)
 have HTU:=hid (fun W (hb:Below w.heap.size w W)=>zdI g GL GO dL dO c A AL AO cp cL cO h u W (hg.later hb) (hc.later hb) (by omega) hky hpk (by have:=hm.s;omega) hS hget hu hck)
 have HSO:=hid (fun W (hb:Below w.heap.size w W) B BL BO bp bL bO (hd:Cc W u B BL BO bp bL bO)=>(zcY u B BL BO bp bL bO W hd (by have:=hsu.s.v;omega) (by have:=hsu.s.k;omega) (by have:=hsu.s.s;omega) hsu.s.pk (hT.below hb (Nat.le_refl _))).mono (R':=fun e w'=>e=.returned (.bool true)/\Below W.heap.size W w') fun e w' ⟨b,he,hb,hw⟩=>⟨by rw [he,hb.2 hus],hw⟩)
 have H0:=hid (UB3.new w #[.int .u8 g.kq,.int .i64 g.num,.string g.str,.slice GL g.il.length dL,.slice GO g.vz.length dO] #[.int .u8 c.kq,.slice A c.path.length cp,.string c.key,.int .i64 c.i,.int .i64 c.j,.int .i64 c.n,.int .u8 c.v.kq,.int .i64 c.v.num,.string c.v.str,.slice AL c.v.il.length cL,.slice AO c.v.vz.length cO,.string c.s] #[.int .u8 0,.slice none 0 0,.string ⟨#[]⟩,.int .i64 0,.int .i64 0,.int .i64 0,.int .u8 0,.int .i64 0,.string ⟨#[]⟩,.slice none 0 0,.slice none 0 0,.string ⟨#[]⟩]);clear hg hc hgw hm hT hn hpos hgs hky hpk hS hget hck hu hus hsu hhw;go_enter Tryz.func18,Tryz.ntmps18
 obtain ⟨v0,v1,v2,v3,v4,_⟩:=H0.out.g.five;obtain ⟨c0,c1,c2,c3,c4,c5,c6,c7,c8,c9,c10,c11,_⟩:=H0.out.c.tw
 go_wp2_with (first
  | (go_at_call 36;refine (HCK.out _ H0.out.below).mono ?_;rintro e w1 ⟨rfl,hb⟩;have H1:=hid (H0.out.step hb);clear hb;clear v0 v1 v2 v3 v4 c0 c1 c2 c3 c4 c5 c6 c7 c8 c9 c10 c11;obtain ⟨v0,v1,v2,v3,v4,_⟩:=H1.out.g.five;obtain ⟨c0,c1,c2,c3,c4,c5,c6,c7,c8,c9,c10,c11,_⟩:=H1.out.c.tw)
  | (go_at_call 37;refine (HTU.out _ H1.out.below).mono ?_;rintro e w2 ⟨B,BL,BO,bp,bL,bO,rfl,hu,hb⟩;have HN:=hid (hu.kp (m:=w.heap.size+1+1+1) H1.out.r.lt (Kp.refl _ _));have H2:=hid ((H1.out.step hb).step (zaa w2 (.cells #[.int .u8 u.kq,.slice B u.path.length bp,.string u.key,.int .i64 u.i,.int .i64 u.j,.int .i64 u.n,.int .u8 u.v.kq,.int .i64 u.v.num,.string u.v.str,.slice BL u.v.il.length bL,.slice BO u.v.vz.length bO,.string u.s] 48)));clear v0 v1 v2 v3 v4 c0 c1 c2 c3 c4 c5 c6 c7 c8 c9 c10 c11;have HB2:=hid (zaw w2 48 #[.int .u8 u.kq,.slice B u.path.length bp,.string u.key,.int .i64 u.i,.int .i64 u.j,.int .i64 u.n,.int .u8 u.v.kq,.int .i64 u.v.num,.string u.v.str,.slice BL u.v.il.length bL,.slice BO u.v.vz.length bO,.string u.s]);clear hu hb)
  | (go_at_call 38;refine (HSO.out _ H2.out.below B BL BO bp bL bO (HN.out.cc.later (zaa w2 (.cells #[.int .u8 u.kq,.slice B u.path.length bp,.string u.key,.int .i64 u.i,.int .i64 u.j,.int .i64 u.n,.int .u8 u.v.kq,.int .i64 u.v.num,.string u.v.str,.slice BL u.v.il.length bL,.slice BO u.v.vz.length bO,.string u.s] 48)))).mono ?_;rintro e w3 ⟨rfl,hb⟩;have H3:=hid (H2.out.step hb);have HB3:=hid (HB2.out.below hb HB2.out.lt);have HK:=hid (show Kp (w.heap.size+1+1+1) w2 w3 from ((Kp.refl _ _).below (zaa w2 (.cells #[.int .u8 u.kq,.slice B u.path.length bp,.string u.key,.int .i64 u.i,.int .i64 u.j,.int .i64 u.n,.int .u8 u.v.kq,.int .i64 u.v.num,.string u.v.str,.slice BL u.v.il.length bL,.slice BO u.v.vz.length bO,.string u.s] 48))).below hb);clear hb;obtain ⟨r0,r1,r2,r3,r4,r5,r6,r7,r8,r9,r10,r11,y0,y1,y2,y3,y4,y5,y6,y7,y8,y9,y10,y11⟩:=H3.out.r.tw;obtain ⟨t0,t1,t2,t3,t4,t5,t6,t7,t8,t9,t10,t11,_⟩:=HB3.out.tw))
 have HH:=H3.out;have HN3:=HN.out.kp (Nat.le_refl _) HK.out;have h9:=zay HH.r (.int .u8 u.kq) (.slice B u.path.length bp) (.string u.key) (.int .i64 u.i) (.int .i64 u.j) (.int .i64 u.n) (.int .u8 u.v.kq) (.int .i64 u.v.num) (.string u.v.str) (.slice BL u.v.il.length bL) (.slice BO u.v.vz.length bO) (.string u.s);have hb9:=zaz HH.below (show w.heap.size<=w.heap.size+1+1 by omega) (.int .u8 u.kq) (.slice B u.path.length bp) (.string u.key) (.int .i64 u.i) (.int .i64 u.j) (.int .i64 u.n) (.int .u8 u.v.kq) (.int .i64 u.v.num) (.string u.v.str) (.slice BL u.v.il.length bL) (.slice BO u.v.vz.length bO) (.string u.s)
 have hk9:=zbe w3 (w.heap.size+1+1) (.int .u8 u.kq) (.slice B u.path.length bp) (.string u.key) (.int .i64 u.i) (.int .i64 u.j) (.int .i64 u.n) (.int .u8 u.v.kq) (.int .i64 u.v.num) (.string u.v.str) (.slice BL u.v.il.length bL) (.slice BO u.v.vz.length bO) (.string u.s);unfold pt12 at h9 hb9 hk9;generalize ((((((((((((w3.setCell ⟨w.heap.size+1+1,0,none⟩ (.int .u8 u.kq)).setCell ⟨w.heap.size+1+1,1,none⟩ (.slice B u.path.length bp)).setCell ⟨w.heap.size+1+1,2,none⟩ (.string u.key)).setCell ⟨w.heap.size+1+1,3,none⟩ (.int .i64 u.i)).setCell ⟨w.heap.size+1+1,4,none⟩ (.int .i64 u.j)).setCell ⟨w.heap.size+1+1,5,none⟩ (.int .i64 u.n)).setCell ⟨w.heap.size+1+1,6,none⟩ (.int .u8 u.v.kq)).setCell ⟨w.heap.size+1+1,7,none⟩ (.int .i64 u.v.num)).setCell ⟨w.heap.size+1+1,8,none⟩ (.string u.v.str)).setCell ⟨w.heap.size+1+1,9,none⟩ (.slice BL u.v.il.length bL)).setCell ⟨w.heap.size+1+1,10,none⟩ (.slice BO u.v.vz.length bO)).setCell ⟨w.heap.size+1+1,11,none⟩ (.string u.s))=X at *;obtain ⟨d0,d1,d2,d3,d4,d5,d6,d7,d8,d9,d10,d11,_⟩:=h9.tw;refine bodyPost_ret (v:=.tuple #[.agg #[.int .u8 u.kq,.slice B u.path.length bp,.string u.key,.int .i64 u.i,.int .i64 u.j,.int .i64 u.n,.int .u8 u.v.kq,.int .i64 u.v.num,.string u.v.str,.slice BL u.v.il.length bL,.slice BO u.v.vz.length bO,.string u.s],.int .u16 0]) (by simp [results,Tryz.results18,go_sem,d0,d1,d2,d3,d4,d5,d6,d7,d8,d9,d10,d11]) rfl ?_
 exact ⟨B,BL,BO,bp,bL,bO,rfl,HN3.kp (m:=w.heap.size) (by omega) hk9,hb9⟩
theorem zkE (g GL GO dL dO c A AL AO cp cL cO) (h:GV) (u w) (hg:Vl w g GL GO dL dO) (hc:Cc w c A AL AO cp cL cO) (hgw:g.weight<=1000000) (hm:Small c) (hT:Tabs w) (hpos:c.v.Pos) (hgs:g.Sound) (hky:c.key.size<=281474976710656) (hpk:∀ s∈c.path,s.key.size<=281474976710656) (hS:c.Sound) (hget:g.get c.path=some h) (hck:chkH h c=0) (hu:Undo h c u) (hus:¬ u.Sound):
  Calls Tryz.prog 18 #[.agg #[.int .u8 g.kq,.int .i64 g.num,.string g.str,.slice GL g.il.length dL,.slice GO g.vz.length dO],.agg #[.int .u8 c.kq,.slice A c.path.length cp,.string c.key,.int .i64 c.i,.int .i64 c.j,.int .i64 c.n,.int .u8 c.v.kq,.int .i64 c.v.num,.string c.v.str,.slice AL c.v.il.length cL,.slice AO c.v.vz.length cO,.string c.s]] w (TurnedAns noC (.int .u16 60) w):=by
 have hn:ChkIs g c 0:=.inr ⟨hS,.inr ⟨h,hget,hck.symm⟩⟩;have hsu:=zcM hgs (by omega) hget hm hu
 have hhw:=Nat.le_trans (zaD _ _ _ hget) hgw;have HCK:=hid (fun W (hb:Below w.heap.size w W)=>zce g GL GO dL dO c A AL AO cp cL cO W 0 (hg.later hb) (hc.later hb) hgw hm (hT.below hb (Nat.le_refl _)) hn)
 have HTU:=hid (fun W (hb:Below w.heap.size w W)=>zdI g GL GO dL dO c A AL AO cp cL cO h u W (hg.later hb) (hc.later hb) (by omega) hky hpk (by have:=hm.s;omega) hS hget hu hck)
 have HSO:=hid (fun W (hb:Below w.heap.size w W) B BL BO bp bL bO (hd:Cc W u B BL BO bp bL bO)=>(zcY u B BL BO bp bL bO W hd (by have:=hsu.s.v;omega) (by have:=hsu.s.k;omega) (by have:=hsu.s.s;omega) hsu.s.pk (hT.below hb (Nat.le_refl _))).mono (R':=fun e w'=>e=.returned (.bool false)/\Below W.heap.size W w') fun e w' ⟨b,he,hb,hw⟩=>⟨by rw [he,show b=false by cases b with | false=>rfl | true=>exact absurd (hb.1 rfl) hus],hw⟩)
 have H0:=hid (UB3.new w #[.int .u8 g.kq,.int .i64 g.num,.string g.str,.slice GL g.il.length dL,.slice GO g.vz.length dO] #[.int .u8 c.kq,.slice A c.path.length cp,.string c.key,.int .i64 c.i,.int .i64 c.j,.int .i64 c.n,.int .u8 c.v.kq,.int .i64 c.v.num,.string c.v.str,.slice AL c.v.il.length cL,.slice AO c.v.vz.length cO,.string c.s] #[.int .u8 0,.slice none 0 0,.string ⟨#[]⟩,.int .i64 0,.int .i64 0,.int .i64 0,.int .u8 0,.int .i64 0,.string ⟨#[]⟩,.slice none 0 0,.slice none 0 0,.string ⟨#[]⟩]);clear hg hc hgw hm hT hn hpos hgs hky hpk hS hget hck hu hus hsu hhw;go_enter Tryz.func18,Tryz.ntmps18
 obtain ⟨v0,v1,v2,v3,v4,_⟩:=H0.out.g.five;obtain ⟨c0,c1,c2,c3,c4,c5,c6,c7,c8,c9,c10,c11,_⟩:=H0.out.c.tw
 go_wp2_with (first
  | (go_at_call 36;refine (HCK.out _ H0.out.below).mono ?_;rintro e w1 ⟨rfl,hb⟩;have H1:=hid (H0.out.step hb);clear hb;clear v0 v1 v2 v3 v4 c0 c1 c2 c3 c4 c5 c6 c7 c8 c9 c10 c11;obtain ⟨v0,v1,v2,v3,v4,_⟩:=H1.out.g.five;obtain ⟨c0,c1,c2,c3,c4,c5,c6,c7,c8,c9,c10,c11,_⟩:=H1.out.c.tw)
  | (go_at_call 37;refine (HTU.out _ H1.out.below).mono ?_;rintro e w2 ⟨B,BL,BO,bp,bL,bO,rfl,hu,hb⟩;have HN:=hid (hu.kp (m:=w.heap.size+1+1+1) H1.out.r.lt (Kp.refl _ _));have H2:=hid ((H1.out.step hb).step (zaa w2 (.cells #[.int .u8 u.kq,.slice B u.path.length bp,.string u.key,.int .i64 u.i,.int .i64 u.j,.int .i64 u.n,.int .u8 u.v.kq,.int .i64 u.v.num,.string u.v.str,.slice BL u.v.il.length bL,.slice BO u.v.vz.length bO,.string u.s] 48)));clear v0 v1 v2 v3 v4 c0 c1 c2 c3 c4 c5 c6 c7 c8 c9 c10 c11;have HB2:=hid (zaw w2 48 #[.int .u8 u.kq,.slice B u.path.length bp,.string u.key,.int .i64 u.i,.int .i64 u.j,.int .i64 u.n,.int .u8 u.v.kq,.int .i64 u.v.num,.string u.v.str,.slice BL u.v.il.length bL,.slice BO u.v.vz.length bO,.string u.s]);clear hu hb)
  | (go_at_call 38;refine (HSO.out _ H2.out.below B BL BO bp bL bO (HN.out.cc.later (zaa w2 (.cells #[.int .u8 u.kq,.slice B u.path.length bp,.string u.key,.int .i64 u.i,.int .i64 u.j,.int .i64 u.n,.int .u8 u.v.kq,.int .i64 u.v.num,.string u.v.str,.slice BL u.v.il.length bL,.slice BO u.v.vz.length bO,.string u.s] 48)))).mono ?_;rintro e w3 ⟨rfl,hb⟩;have H3:=hid (H2.out.step hb);have HB3:=hid (HB2.out.below hb HB2.out.lt);have HK:=hid (show Kp (w.heap.size+1+1+1) w2 w3 from ((Kp.refl _ _).below (zaa w2 (.cells #[.int .u8 u.kq,.slice B u.path.length bp,.string u.key,.int .i64 u.i,.int .i64 u.j,.int .i64 u.n,.int .u8 u.v.kq,.int .i64 u.v.num,.string u.v.str,.slice BL u.v.il.length bL,.slice BO u.v.vz.length bO,.string u.s] 48))).below hb);clear hb;obtain ⟨r0,r1,r2,r3,r4,r5,r6,r7,r8,r9,r10,r11,y0,y1,y2,y3,y4,y5,y6,y7,y8,y9,y10,y11⟩:=H3.out.r.tw;obtain ⟨t0,t1,t2,t3,t4,t5,t6,t7,t8,t9,t10,t11,_⟩:=HB3.out.tw))
 have HH:=H3.out;have h9:=zay HH.r (.int .u8 0) (.slice none 0 0) (.string ⟨#[]⟩) (.int .i64 0) (.int .i64 0) (.int .i64 0) (.int .u8 0) (.int .i64 0) (.string ⟨#[]⟩) (.slice none 0 0) (.slice none 0 0) (.string ⟨#[]⟩);have hb9:=zaz HH.below (show w.heap.size<=w.heap.size+1+1 by omega) (.int .u8 0) (.slice none 0 0) (.string ⟨#[]⟩) (.int .i64 0) (.int .i64 0) (.int .i64 0) (.int .u8 0) (.int .i64 0) (.string ⟨#[]⟩) (.slice none 0 0) (.slice none 0 0) (.string ⟨#[]⟩)
 unfold pt12 at h9 hb9;generalize ((((((((((((w3.setCell ⟨w.heap.size+1+1,0,none⟩ (.int .u8 0)).setCell ⟨w.heap.size+1+1,1,none⟩ (.slice none 0 0)).setCell ⟨w.heap.size+1+1,2,none⟩ (.string ⟨#[]⟩)).setCell ⟨w.heap.size+1+1,3,none⟩ (.int .i64 0)).setCell ⟨w.heap.size+1+1,4,none⟩ (.int .i64 0)).setCell ⟨w.heap.size+1+1,5,none⟩ (.int .i64 0)).setCell ⟨w.heap.size+1+1,6,none⟩ (.int .u8 0)).setCell ⟨w.heap.size+1+1,7,none⟩ (.int .i64 0)).setCell ⟨w.heap.size+1+1,8,none⟩ (.string ⟨#[]⟩)).setCell ⟨w.heap.size+1+1,9,none⟩ (.slice none 0 0)).setCell ⟨w.heap.size+1+1,10,none⟩ (.slice none 0 0)).setCell ⟨w.heap.size+1+1,11,none⟩ (.string ⟨#[]⟩))=X at *;obtain ⟨d0,d1,d2,d3,d4,d5,d6,d7,d8,d9,d10,d11,_⟩:=h9.tw;refine bodyPost_ret (v:=.tuple #[.agg #[.int .u8 0,.slice none 0 0,.string ⟨#[]⟩,.int .i64 0,.int .i64 0,.int .i64 0,.int .u8 0,.int .i64 0,.string ⟨#[]⟩,.slice none 0 0,.slice none 0 0,.string ⟨#[]⟩],.int .u16 60]) (by simp [results,Tryz.results18,go_sem,d0,d1,d2,d3,d4,d5,d6,d7,d8,d9,d10,d11]) rfl ?_
 exact ⟨none,none,none,0,0,0,rfl,zkr _ _,hb9⟩
end Go.Proofs.YthmcfjmignlhfaaGreatDoor
namespace Go.Proofs.YthmcfjmignlhfaaGreatDoor
open Go.Lib(hid)
open Go Go.RowKit
set_option linter.unusedVariables false
set_option linter.unusedSimpArgs false
theorem zgk {g:GV} {c d n} (hg:g.Sound) (hgw:g.weight<=1000000) (hm:Small c) (ht:TurnsTo g c d n):SmallU d:=by
 have h0:SmallU noC:=⟨⟨by show noG.weight<=_;decide +kernel,Nat.zero_le _,Nat.zero_le _,fun s hs=>by cases hs⟩,by simp [noC,noG,GV.Pos,GV.Poss]⟩
 rcases ht with ⟨_,_,rfl⟩ | ⟨h,u,_,_,hget,_,hu,⟨_,rfl,_⟩ | ⟨_,rfl,_⟩⟩
 ·exact h0
 ·exact zcM hg hgw hget hm hu
 ·exact h0
theorem zez (g GL GO dL dO c d n A AL AO cp cL cO w) (hg:Vl w g GL GO dL dO) (hc:Cc w c A AL AO cp cL cO) (hgw:g.weight<=1000000) (hm:Small c) (hT:Tabs w) (hpos:c.v.Pos) (hgs:g.Sound) (hpk:∀ s∈c.path,s.key.size<=281474976710656) (ht:TurnsTo g c d n):
  Calls Tryz.prog 18 #[.agg #[.int .u8 g.kq,.int .i64 g.num,.string g.str,.slice GL g.il.length dL,.slice GO g.vz.length dO],.agg #[.int .u8 c.kq,.slice A c.path.length cp,.string c.key,.int .i64 c.i,.int .i64 c.j,.int .i64 c.n,.int .u8 c.v.kq,.int .i64 c.v.num,.string c.v.str,.slice AL c.v.il.length cL,.slice AO c.v.vz.length cO,.string c.s]] w (TurnedAns d (.int .u16 n) w):=by
 have hky:c.key.size<=281474976710656:=by have:=hm.k;omega
 rcases ht with ⟨h0,hn,rfl⟩ | ⟨h,u,_,hS,hget,hck,hu,⟨hus,rfl,rfl⟩ | ⟨hus,rfl,rfl⟩⟩
 ·exact zlj g GL GO dL dO c A AL AO cp cL cO n w hg hc hgw hm hT hn h0
 ·exact zkZ g GL GO dL dO c A AL AO cp cL cO h d w hg hc hgw hm hT hpos hgs hky hpk hS hget hck hu hus
 ·exact zkE g GL GO dL dO c A AL AO cp cL cO h u w hg hc hgw hm hT hpos hgs hky hpk hS hget hck hu hus
end Go.Proofs.YthmcfjmignlhfaaGreatDoor
