/- Texts in one: CompOz, RcA, TextZ, CompSd, OneC, RcD, InvD, InvE, InvF, InvG, InvH, InvI. -/
import Derived.Test.YthmcfjmignlhfaaGreatDoorS23
import Derived.Test.YthmcfjmignlhfaaGreatDoorS24
import Derived.Test.YthmcfjmignlhfaaGreatDoorS25
import Derived.Test.YthmcfjmignlhfaaGreatDoorS22
import Derived.BigQuiet
import Derived.RegionTactic
import Derived.Deep.QuietTactic
import Derived.IntWalk
import Derived.Test.YthmcfjmignlhfaaGreatDoorS21
import Derived.Test.YthmcfjmignlhfaaGreatDoorS19
import Derived.Test.YthmcfjmignlhfaaGreatDoorS8
import Derived.Test.YthmcfjmignlhfaaGreatDoorS3
import Derived.Test.YthmcfjmignlhfaaGreatDoorS7
import Derived.Test.YthmcfjmignlhfaaGreatDoorS10
import Derived.Deep.DeepCutAuto
import Derived.Deep.CutRange
import Derived.Test.YthmcfjmignlhfaaGreatDoorS11
import Derived.OwnWalk
import Derived.Test.YthmcfjmignlhfaaGreatDoorS14
import Derived.Test.YthmcfjmignlhfaaGreatDoorS9
import Derived.Test.YthmcfjmignlhfaaGreatDoorS12
import Derived.Test.YthmcfjmignlhfaaGreatDoorS20
set_option maxRecDepth 100000
set_option maxHeartbeats 40000000
namespace Go.Proofs.YthmcfjmignlhfaaGreatDoor
open Go.Lib(hid)
open Go Go.RowKit
set_option linter.unusedVariables false
set_option linter.unusedSimpArgs false
theorem zhZ (c A AL AO cp cL cO w) (hc:Cc w c A AL AO cp cL cO) (hk:¬ (1<=c.kq/\c.kq<=9)):
  Calls Tryz.prog 41 #[.agg #[.int .u8 c.kq,.slice A c.path.length cp,.string c.key,.int .i64 c.i,.int .i64 c.j,.int .i64 c.n,.int .u8 c.v.kq,.int .i64 c.v.num,.string c.v.str,.slice AL c.v.il.length cL,.slice AO c.v.vz.length cO,.string c.s]] w (BoolPost c.Sound w):=by
 have HN:=hid (show ¬ c.Sound from fun h=>hk h.2.2.2.2.1.1)
 have HB:=hid (zaa w (.cells #[.int .u8 c.kq,.slice A c.path.length cp,.string c.key,.int .i64 c.i,.int .i64 c.j,.int .i64 c.n,.int .u8 c.v.kq,.int .i64 c.v.num,.string c.v.str,.slice AL c.v.il.length cL,.slice AO c.v.vz.length cO,.string c.s] 48));have HSAY:=hid (fun W=>za3 c.kq W)
 rw [show saysB c.kq =⟨#[]⟩ by unfold saysB;simp only [show ¬ c.kq=1 by omega,show ¬ c.kq=2 by omega,show ¬ c.kq=3 by omega,show ¬ c.kq=4 by omega,show ¬ c.kq=5 by omega,show ¬ c.kq=6 by omega,show ¬ c.kq=7 by omega,show ¬ c.kq=8 by omega,show ¬ c.kq=9 by omega,if_false]] at HSAY
 have z:(⟨#[]⟩:ByteArray).toList.isEmpty=true:=by decide +kernel
 clear hc hk;generalize c.Sound=SS at *;go_enter Tryz.func41,Tryz.ntmps41
 go_wp2_with (go_at_call 73;refine (HSAY.out _).mono ?_;rintro e w' ⟨rfl,rfl⟩)
 go_ret
 exact ⟨false,rfl,⟨(fun h=>by cases h),fun h=>absurd h HN.out⟩,HB.out⟩
theorem zg9 (c A AL AO cp cL cO w) (hc:Cc w c A AL AO cp cL cO) (hw:c.v.weight<=1000000000) (hpos:c.v.Pos) (hky:c.key.size<=9223372036854775807) (hs:c.s.size<=9223372036854775807) (hpk:∀ s∈c.path,s.key.size<=9223372036854775807) (hT:Tabs w):
  Calls Tryz.prog 41 #[.agg #[.int .u8 c.kq,.slice A c.path.length cp,.string c.key,.int .i64 c.i,.int .i64 c.j,.int .i64 c.n,.int .u8 c.v.kq,.int .i64 c.v.num,.string c.v.str,.slice AL c.v.il.length cL,.slice AO c.v.vz.length cO,.string c.s]] w (BoolPost c.Sound w):=by
 by_cases h:1<=c.kq/\c.kq<=9
 ·rcases (show c.kq=1\/c.kq=2\/c.kq=3\/c.kq=4\/c.kq=5\/c.kq=6\/c.kq=7\/c.kq=8\/c.kq=9 by omega) with k | k | k | k | k | k | k | k | k
  ·exact zjb c A AL AO cp cL cO w hc hw hpos hky hs hpk hT k
  ·exact zj7 c A AL AO cp cL cO w hc hw hpos hky hs hpk hT k
  ·exact zj3 c A AL AO cp cL cO w hc hw hpos hky hs hpk hT k
  ·exact zjk c A AL AO cp cL cO w hc hw hpos hky hs hpk hT k
  ·exact zjc c A AL AO cp cL cO w hc hw hpos hky hs hpk hT k
  ·exact zjm c A AL AO cp cL cO w hc hw hpos hky hs hpk hT k
  ·exact zjp c A AL AO cp cL cO w hc hw hpos hky hs hpk hT k
  ·exact zj0 c A AL AO cp cL cO w hc hw hpos hky hs hpk hT k
  ·exact zkf c A AL AO cp cL cO w hc hw hpos hky hs hpk hT k
 ·exact zhZ c A AL AO cp cL cO w hc h
end Go.Proofs.YthmcfjmignlhfaaGreatDoor
namespace Go.Proofs.YthmcfjmignlhfaaGreatDoor
open Go.Lib(hid)
open Go Go.RowKit Go.Shelf
set_option linter.unusedVariables false
set_option linter.unusedSimpArgs false
structure KBx (w W:World) (cx cc:Array Value):Prop where
 x:Whole W w.heap.size 29 cx
 c:Whole W (w.heap.size+1) 48 cc
 below:Below w.heap.size w W
theorem KBx.new (w:World) (cx cc:Array Value):KBx w ((w.alloc (.cells cx 29)).alloc (.cells cc 48)) cx cc:=by
 have h1:=Whole.new (w.alloc (.cells cx 29)) 48 cc;rw [World.size_alloc] at h1;exact ⟨(Whole.new w _ _).alloc _,h1,((Below.refl _ w).alloc (Nat.le_refl _) _).alloc (by simp) _⟩
theorem KBx.step {w W W':World} {cx cc:Array Value} (h:KBx w W cx cc) (hb:Below W.heap.size W W'):KBx w W' cx cc:=
 ⟨h.x.below hb h.x.lt,h.c.below hb h.c.lt,h.below.trans (hb.mono h.below.size)⟩
theorem zaR {h:GV} {c:GC} (e:h.kq≠worksOn c.kq):chkH h c=31:=by simp [chkH,e]
theorem ziP (h HL HO dL dO) (c:GC) (A AL AO:Option Addr) (cp cL cO:Nat) (w) (hv:Vl w h HL HO dL dO) (hk:1<=c.kq/\c.kq<=9) (hs:h.str.size<=1000000000) (hT:Tabs w):
  Calls Tryz.prog 52 #[.agg #[.int .u8 h.kq,.int .i64 h.num,.string h.str,.slice HL h.il.length dL,.slice HO h.vz.length dO],.agg #[.int .u8 c.kq,.slice A c.path.length cp,.string c.key,.int .i64 c.i,.int .i64 c.j,.int .i64 c.n,.int .u8 c.v.kq,.int .i64 c.v.num,.string c.v.str,.slice AL c.v.il.length cL,.slice AO c.v.vz.length cO,.string c.s]] w fun e w'=>e=.returned (.int .i64 (chkH h c))/\Below w.heap.size w w':=by
 have H0:=hid (KBx.new w #[.int .u8 h.kq,.int .i64 h.num,.string h.str,.slice HL h.il.length dL,.slice HO h.vz.length dO] #[.int .u8 c.kq,.slice A c.path.length cp,.string c.key,.int .i64 c.i,.int .i64 c.j,.int .i64 c.n,.int .u8 c.v.kq,.int .i64 c.v.num,.string c.v.str,.slice AL c.v.il.length cL,.slice AO c.v.vz.length cO,.string c.s]);have HF:=hid (fun W (hb:Below w.heap.size w W)=>zdD (fun _=>True) _ h c.key W (hv.later hb).val)
 unfold FieldPost at HF;obtain ⟨b0,b1,b2,b3,b4,_⟩:=H0.out.x.five;obtain ⟨c0,c1,c2,c3,c4,c5,c6,c7,c8,c9,c10,c11,_⟩:=H0.out.c.tw;rcases (show c.kq=1\/c.kq=2\/c.kq=3\/c.kq=4\/c.kq=5\/c.kq=6\/c.kq=7\/c.kq=8\/c.kq=9 by omega) with hk | hk | hk | hk | hk | hk | hk | hk | hk
 ·have k1:(c.kq == 1)=true:=by rw [hk];rfl
  have k2:(c.kq == 2)=false:=by rw [hk];rfl
  have k3:(c.kq == 3)=false:=by rw [hk];rfl
  have k8:(c.kq == 8)=false:=by rw [hk];rfl
  have k9:(c.kq == 9)=false:=by rw [hk];rfl
  by_cases hx:h.kq=2
  ·have x1:(h.kq != 2)=false:=by rw [hx];rfl
   rw [show chkH h c=0 by simp [chkH,hk,hx,worksOn]]
   clear hk hx hv hT HF;go_enter Tryz.func52,Tryz.ntmps52
   go_wp2
   go_ret
   exact ⟨rfl,H0.out.below⟩
  ·have x1:(h.kq != 2)=true:=by simpa using hx
   rw [zaR (c:=c) (h:=h) (by rw [hk];exact hx)]
   clear hk hx hv hT;go_enter Tryz.func52,Tryz.ntmps52
   go_wp2
   go_ret
   exact ⟨rfl,H0.out.below⟩
 ·have k1:(c.kq == 1)=false:=by rw [hk];rfl
  have k2:(c.kq == 2)=true:=by rw [hk];rfl
  have k3:(c.kq == 3)=false:=by rw [hk];rfl
  have k8:(c.kq == 8)=false:=by rw [hk];rfl
  have k9:(c.kq == 9)=false:=by rw [hk];rfl
  by_cases hx:h.kq=5
  ·have x1:(h.kq != 5)=false:=by rw [hx];rfl
   rw [show chkH h c=0 by simp [chkH,hk,hx,worksOn]]
   clear hk hx hv hT;generalize there c.key h.keys=t at *;go_enter Tryz.func52,Tryz.ntmps52
   go_wp2_with (go_at_call 70;refine (HF.out _ H0.out.below).mono ?_;rintro e w1 ⟨rfl,hb⟩;have H1:=hid (H0.out.step hb);clear hb b0 b1 b2 b3 b4 c0 c1 c2 c3 c4 c5 c6 c7 c8 c9 c10 c11;obtain ⟨b0,b1,b2,b3,b4,_⟩:=H1.out.x.five;obtain ⟨c0,c1,c2,c3,c4,c5,c6,c7,c8,c9,c10,c11,_⟩:=H1.out.c.tw)
   go_ret
   exact ⟨rfl,H1.out.below⟩
  ·have x1:(h.kq != 5)=true:=by simpa using hx
   rw [zaR (c:=c) (h:=h) (by rw [hk];exact hx)]
   clear hk hx hv hT;go_enter Tryz.func52,Tryz.ntmps52
   go_wp2_with (go_at_call 70;refine (HF.out _ H0.out.below).mono ?_;rintro e w1 ⟨rfl,hb⟩;have H1:=hid (H0.out.step hb);clear hb b0 b1 b2 b3 b4 c0 c1 c2 c3 c4 c5 c6 c7 c8 c9 c10 c11;obtain ⟨b0,b1,b2,b3,b4,_⟩:=H1.out.x.five;obtain ⟨c0,c1,c2,c3,c4,c5,c6,c7,c8,c9,c10,c11,_⟩:=H1.out.c.tw)
   go_ret
   exact ⟨rfl,H1.out.below⟩
 ·have k1:(c.kq == 1)=false:=by rw [hk];rfl
  have k2:(c.kq == 2)=false:=by rw [hk];rfl
  have k3:(c.kq == 3)=true:=by rw [hk];rfl
  have k8:(c.kq == 8)=false:=by rw [hk];rfl
  have k9:(c.kq == 9)=false:=by rw [hk];rfl
  by_cases hx:h.kq=5
  ·have x1:(h.kq != 5)=false:=by rw [hx];rfl
   rw [show chkH h c=if there c.key h.keys=false then 33 else 0 by simp [chkH,hk,hx,worksOn]]
   clear hk hx hv hT;generalize there c.key h.keys=t at *;cases t
   ·go_enter Tryz.func52,Tryz.ntmps52
    go_wp2_with (go_at_call 70;refine (HF.out _ H0.out.below).mono ?_;rintro e w1 ⟨rfl,hb⟩;have H1:=hid (H0.out.step hb);clear hb b0 b1 b2 b3 b4 c0 c1 c2 c3 c4 c5 c6 c7 c8 c9 c10 c11;obtain ⟨b0,b1,b2,b3,b4,_⟩:=H1.out.x.five;obtain ⟨c0,c1,c2,c3,c4,c5,c6,c7,c8,c9,c10,c11,_⟩:=H1.out.c.tw)
    go_ret
    exact ⟨rfl,H1.out.below⟩
   ·go_enter Tryz.func52,Tryz.ntmps52
    go_wp2_with (go_at_call 70;refine (HF.out _ H0.out.below).mono ?_;rintro e w1 ⟨rfl,hb⟩;have H1:=hid (H0.out.step hb);clear hb b0 b1 b2 b3 b4 c0 c1 c2 c3 c4 c5 c6 c7 c8 c9 c10 c11;obtain ⟨b0,b1,b2,b3,b4,_⟩:=H1.out.x.five;obtain ⟨c0,c1,c2,c3,c4,c5,c6,c7,c8,c9,c10,c11,_⟩:=H1.out.c.tw)
    go_ret
    exact ⟨rfl,H1.out.below⟩
  ·have x1:(h.kq != 5)=true:=by simpa using hx
   rw [zaR (c:=c) (h:=h) (by rw [hk];exact hx)]
   clear hk hx hv hT;go_enter Tryz.func52,Tryz.ntmps52
   go_wp2_with (go_at_call 70;refine (HF.out _ H0.out.below).mono ?_;rintro e w1 ⟨rfl,hb⟩;have H1:=hid (H0.out.step hb);clear hb b0 b1 b2 b3 b4 c0 c1 c2 c3 c4 c5 c6 c7 c8 c9 c10 c11;obtain ⟨b0,b1,b2,b3,b4,_⟩:=H1.out.x.five;obtain ⟨c0,c1,c2,c3,c4,c5,c6,c7,c8,c9,c10,c11,_⟩:=H1.out.c.tw)
   go_ret
   exact ⟨rfl,H1.out.below⟩
 ·have k1:(c.kq == 1)=false:=by rw [hk];rfl
  have k2:(c.kq == 2)=false:=by rw [hk];rfl
  have k3:(c.kq == 3)=false:=by rw [hk];rfl
  have k8:(c.kq == 8)=false:=by rw [hk];rfl
  have k9:(c.kq == 9)=false:=by rw [hk];rfl
  by_cases hx:h.kq=4
  ·have x1:(h.kq != 4)=false:=by rw [hx];rfl
   rw [show chkH h c=chk h.il.length 4 c.i c.j by rw [zcn];simp [chkH,hk,hx,worksOn]]
   have HK:=hid (fun W=>zb2 h.il.length 4 c.i c.j c.v A AL AO c.path.length cp cL cO c.key c.s c.n W)
   rw [show ((4:Nat):Int)=c.kq from hk.symm] at HK;clear hk hx hv hT HF;generalize chk h.il.length 4 c.i c.j=r at *;go_enter Tryz.func52,Tryz.ntmps52
   go_wp2_with (go_at_call 83;refine (HK.out _).mono ?_;rintro e w1 ⟨rfl,hb⟩;have H1:=hid (H0.out.step hb);clear hb)
   go_ret
   exact ⟨rfl,H1.out.below⟩
  ·have x1:(h.kq != 4)=true:=by simpa using hx
   rw [zaR (c:=c) (h:=h) (by rw [hk];exact hx)]
   clear hk hx hv hT;go_enter Tryz.func52,Tryz.ntmps52
   go_wp2
   go_ret
   exact ⟨rfl,H0.out.below⟩
 ·have k1:(c.kq == 1)=false:=by rw [hk];rfl
  have k2:(c.kq == 2)=false:=by rw [hk];rfl
  have k3:(c.kq == 3)=false:=by rw [hk];rfl
  have k8:(c.kq == 8)=false:=by rw [hk];rfl
  have k9:(c.kq == 9)=false:=by rw [hk];rfl
  by_cases hx:h.kq=4
  ·have x1:(h.kq != 4)=false:=by rw [hx];rfl
   rw [show chkH h c=chk h.il.length 5 c.i c.j by rw [zcn];simp [chkH,hk,hx,worksOn]]
   have HK:=hid (fun W=>zb2 h.il.length 5 c.i c.j c.v A AL AO c.path.length cp cL cO c.key c.s c.n W)
   rw [show ((5:Nat):Int)=c.kq from hk.symm] at HK;clear hk hx hv hT HF;generalize chk h.il.length 5 c.i c.j=r at *;go_enter Tryz.func52,Tryz.ntmps52
   go_wp2_with (go_at_call 83;refine (HK.out _).mono ?_;rintro e w1 ⟨rfl,hb⟩;have H1:=hid (H0.out.step hb);clear hb)
   go_ret
   exact ⟨rfl,H1.out.below⟩
  ·have x1:(h.kq != 4)=true:=by simpa using hx
   rw [zaR (c:=c) (h:=h) (by rw [hk];exact hx)]
   clear hk hx hv hT;go_enter Tryz.func52,Tryz.ntmps52
   go_wp2
   go_ret
   exact ⟨rfl,H0.out.below⟩
 ·have k1:(c.kq == 1)=false:=by rw [hk];rfl
  have k2:(c.kq == 2)=false:=by rw [hk];rfl
  have k3:(c.kq == 3)=false:=by rw [hk];rfl
  have k8:(c.kq == 8)=false:=by rw [hk];rfl
  have k9:(c.kq == 9)=false:=by rw [hk];rfl
  by_cases hx:h.kq=4
  ·have x1:(h.kq != 4)=false:=by rw [hx];rfl
   rw [show chkH h c=chk h.il.length 6 c.i c.j by rw [zcn];simp [chkH,hk,hx,worksOn]]
   have HK:=hid (fun W=>zb2 h.il.length 6 c.i c.j c.v A AL AO c.path.length cp cL cO c.key c.s c.n W)
   rw [show ((6:Nat):Int)=c.kq from hk.symm] at HK;clear hk hx hv hT HF;generalize chk h.il.length 6 c.i c.j=r at *;go_enter Tryz.func52,Tryz.ntmps52
   go_wp2_with (go_at_call 83;refine (HK.out _).mono ?_;rintro e w1 ⟨rfl,hb⟩;have H1:=hid (H0.out.step hb);clear hb)
   go_ret
   exact ⟨rfl,H1.out.below⟩
  ·have x1:(h.kq != 4)=true:=by simpa using hx
   rw [zaR (c:=c) (h:=h) (by rw [hk];exact hx)]
   clear hk hx hv hT;go_enter Tryz.func52,Tryz.ntmps52
   go_wp2
   go_ret
   exact ⟨rfl,H0.out.below⟩
 ·have k1:(c.kq == 1)=false:=by rw [hk];rfl
  have k2:(c.kq == 2)=false:=by rw [hk];rfl
  have k3:(c.kq == 3)=false:=by rw [hk];rfl
  have k8:(c.kq == 8)=false:=by rw [hk];rfl
  have k9:(c.kq == 9)=false:=by rw [hk];rfl
  by_cases hx:h.kq=4
  ·have x1:(h.kq != 4)=false:=by rw [hx];rfl
   rw [show chkH h c=chk h.il.length 7 c.i c.j by rw [zcn];simp [chkH,hk,hx,worksOn]]
   have HK:=hid (fun W=>zb2 h.il.length 7 c.i c.j c.v A AL AO c.path.length cp cL cO c.key c.s c.n W)
   rw [show ((7:Nat):Int)=c.kq from hk.symm] at HK;clear hk hx hv hT HF;generalize chk h.il.length 7 c.i c.j=r at *;go_enter Tryz.func52,Tryz.ntmps52
   go_wp2_with (go_at_call 83;refine (HK.out _).mono ?_;rintro e w1 ⟨rfl,hb⟩;have H1:=hid (H0.out.step hb);clear hb)
   go_ret
   exact ⟨rfl,H1.out.below⟩
  ·have x1:(h.kq != 4)=true:=by simpa using hx
   rw [zaR (c:=c) (h:=h) (by rw [hk];exact hx)]
   clear hk hx hv hT;go_enter Tryz.func52,Tryz.ntmps52
   go_wp2
   go_ret
   exact ⟨rfl,H0.out.below⟩
 ·have k1:(c.kq == 1)=false:=by rw [hk];rfl
  have k2:(c.kq == 2)=false:=by rw [hk];rfl
  have k3:(c.kq == 3)=false:=by rw [hk];rfl
  have k8:(c.kq == 8)=true:=by rw [hk];rfl
  have k9:(c.kq == 9)=false:=by rw [hk];rfl
  by_cases hx:h.kq=3
  ·have x1:(h.kq != 3)=false:=by rw [hx];rfl
   rw [show chkH h c=chkT (nChars h.str) c.kq.toNat c.i c.n by simp [chkH,hk,hx,worksOn]]
   have HK:=hid (fun W (hb:Below w.heap.size w W)=>zee h.str c A AL AO cp cL cO W hs (hT.below hb (Nat.le_refl _)) (by omega))
   clear hk hx hv hT HF;generalize chkT (nChars h.str) c.kq.toNat c.i c.n=r at *;go_enter Tryz.func52,Tryz.ntmps52
   go_wp2_with (go_at_call 81;refine (HK.out _ H0.out.below).mono ?_;rintro e w1 ⟨rfl,hb⟩;have H1:=hid (H0.out.step hb);clear hb)
   go_ret
   exact ⟨rfl,H1.out.below⟩
  ·have x1:(h.kq != 3)=true:=by simpa using hx
   rw [zaR (c:=c) (h:=h) (by rw [hk];exact hx)]
   clear hk hx hv hT;go_enter Tryz.func52,Tryz.ntmps52
   go_wp2
   go_ret
   exact ⟨rfl,H0.out.below⟩
 ·have k1:(c.kq == 1)=false:=by rw [hk];rfl
  have k2:(c.kq == 2)=false:=by rw [hk];rfl
  have k3:(c.kq == 3)=false:=by rw [hk];rfl
  have k8:(c.kq == 8)=false:=by rw [hk];rfl
  have k9:(c.kq == 9)=true:=by rw [hk];rfl
  by_cases hx:h.kq=3
  ·have x1:(h.kq != 3)=false:=by rw [hx];rfl
   rw [show chkH h c=chkT (nChars h.str) c.kq.toNat c.i c.n by simp [chkH,hk,hx,worksOn]]
   have HK:=hid (fun W (hb:Below w.heap.size w W)=>zee h.str c A AL AO cp cL cO W hs (hT.below hb (Nat.le_refl _)) (by omega))
   clear hk hx hv hT HF;generalize chkT (nChars h.str) c.kq.toNat c.i c.n=r at *;go_enter Tryz.func52,Tryz.ntmps52
   go_wp2_with (go_at_call 81;refine (HK.out _ H0.out.below).mono ?_;rintro e w1 ⟨rfl,hb⟩;have H1:=hid (H0.out.step hb);clear hb)
   go_ret
   exact ⟨rfl,H1.out.below⟩
  ·have x1:(h.kq != 3)=true:=by simpa using hx
   rw [zaR (c:=c) (h:=h) (by rw [hk];exact hx)]
   clear hk hx hv hT;go_enter Tryz.func52,Tryz.ntmps52
   go_wp2
   go_ret
   exact ⟨rfl,H0.out.below⟩
theorem zhG (g GL GO eL eO c A AL AO cp cL cO w) (hg:Vl w g GL GO eL eO) (hc:Cc w c A AL AO cp cL cO) (hgw:g.weight<=100000000) (hs:Small c) (hpos:c.v.Pos) (hT:Tabs w):
  Calls Tryz.prog 27 #[.agg #[.int .u8 g.kq,.int .i64 g.num,.string g.str,.slice GL g.il.length eL,.slice GO g.vz.length eO],.agg #[.int .u8 c.kq,.slice A c.path.length cp,.string c.key,.int .i64 c.i,.int .i64 c.j,.int .i64 c.n,.int .u8 c.v.kq,.int .i64 c.v.num,.string c.v.str,.slice AL c.v.il.length cL,.slice AO c.v.vz.length cO,.string c.s]] w fun e w'=>∃ n:Int,e=.returned (.int .i64 n)/\ChkIs g c n/\Below w.heap.size w w':=by
 have H0:=hid (KBx.new w #[.int .u8 g.kq,.int .i64 g.num,.string g.str,.slice GL g.il.length eL,.slice GO g.vz.length eO] #[.int .u8 c.kq,.slice A c.path.length cp,.string c.key,.int .i64 c.i,.int .i64 c.j,.int .i64 c.n,.int .u8 c.v.kq,.int .i64 c.v.num,.string c.v.str,.slice AL c.v.il.length cL,.slice AO c.v.vz.length cO,.string c.s]);have hv:=hs.v;have hk:=hs.k;have hss:=hs.s;have HSO:=hid (fun W (hb:Below w.heap.size w W)=>zg9 c A AL AO cp cL cO W (hc.later hb) (by omega) hpos (by omega) (by omega) hs.pk (hT.below hb (Nat.le_refl _)))
 unfold BoolPost at HSO;have HGE:=hid (fun W (hb:Below w.heap.size w W)=>(zk4 (fun _=>True) _ g W.heap.size A cp c.path W (hg.later hb).val (hc.path.later hb).steps (Nat.le_refl _) hc.path.le hc.path.cap (Nat.le_trans (zac _) (by omega))))
 unfold RGet at HGE;have HKI:=hid (fun (h:GV) (HL HO:Option Addr) (dL dO:Nat) (hgh:g.get c.path=some h) (hS:c.Sound) W (hb:Below w.heap.size w W) (hvv:Vl W h HL HO dL dO)=>ziP h HL HO dL dO c A AL AO cp cL cO W hvv hS.2.2.2.2.1.1 (by have h1:=zaD c.path g h hgh;have h2:=zbu h;omega) (hT.below hb (Nat.le_refl _)))
 clear hg hc hgw hs hpos hT hv hk hss;obtain ⟨b0,b1,b2,b3,b4,_⟩:=H0.out.x.five;obtain ⟨c0,c1,c2,c3,c4,c5,c6,c7,c8,c9,c10,c11,_⟩:=H0.out.c.tw;by_cases hS:c.Sound
 ·have HS:=hid hS
  clear hS;cases hgp:g.get c.path with
  | none=>
   have HG:=hid hgp;clear hgp;go_enter Tryz.func27,Tryz.ntmps27
   go_wp2_with (first
    | (go_at_call 41;refine (HSO.out _ H0.out.below).mono ?_;rintro e w1 ⟨bb,rfl,hbb,hb⟩;obtain rfl:=hbb.2 HS.out;have H1:=hid (H0.out.step hb);clear hb hbb b0 b1 b2 b3 b4 c0 c1 c2 c3 c4 c5 c6 c7 c8 c9 c10 c11;obtain ⟨b0,b1,b2,b3,b4,_⟩:=H1.out.x.five;obtain ⟨c0,c1,c2,c3,c4,c5,c6,c7,c8,c9,c10,c11,_⟩:=H1.out.c.tw)
    | (go_at_call 39;refine (((HGE.out _ H1.out.below).mono (R':=fun e w'=>e=.returned (.tuple #[.agg #[.int .u8 0,.int .i64 0,.string ⟨#[]⟩,.slice none 0 0,.slice none 0 0],.int .i64 30])/\Below w1.heap.size w1 w') fun e w' ⟨hb,hq⟩=>by
      rcases hq with ⟨_,he⟩ | ⟨h',v',h1,_⟩
      ·exact ⟨he,hb⟩
      ·rw [HG.out] at h1;cases h1)).mono ?_;rintro e w2 ⟨rfl,hb⟩;have H2:=hid (H1.out.step hb);clear hb))
   go_ret
   exact ⟨30,rfl,.inr ⟨HS.out,.inl ⟨HG.out,rfl⟩⟩,H2.out.below.alloc H2.out.below.size _⟩
  | some h=>
   have HG:=hid hgp;clear hgp;go_enter Tryz.func27,Tryz.ntmps27
   go_wp2_with (first
    | (go_at_call 41;refine (HSO.out _ H0.out.below).mono ?_;rintro e w1 ⟨bb,rfl,hbb,hb⟩;obtain rfl:=hbb.2 HS.out;have H1:=hid (H0.out.step hb);clear hb hbb b0 b1 b2 b3 b4 c0 c1 c2 c3 c4 c5 c6 c7 c8 c9 c10 c11;obtain ⟨b0,b1,b2,b3,b4,_⟩:=H1.out.x.five;obtain ⟨c0,c1,c2,c3,c4,c5,c6,c7,c8,c9,c10,c11,_⟩:=H1.out.c.tw)
    | (go_at_call 39;refine (((HGE.out _ H1.out.below).mono (R':=fun e w'=>∃ HL HO dL dO,e=.returned (.tuple #[.agg #[.int .u8 h.kq,.int .i64 h.num,.string h.str,.slice HL h.il.length dL,.slice HO h.vz.length dO],.int .i64 0])/\Vl w' h HL HO dL dO/\Below w1.heap.size w1 w') fun e w' ⟨hb,hq⟩=>by
      rcases hq with ⟨h1,_⟩ | ⟨h',v',h1,he,hv⟩
      ·rw [HG.out] at h1;cases h1
      ·rw [HG.out] at h1;cases h1
       obtain ⟨HL,HO,dL,dO,rfl,hvl⟩:=zlp hv;exact ⟨HL,HO,dL,dO,he,hvl,hb⟩)).mono ?_;rintro e w2 ⟨HL,HO,dL,dO,rfl,hvl,hb⟩;have H2:=hid ((H1.out.step hb).step (zaa w2 (.cells #[.int .u8 h.kq,.int .i64 h.num,.string h.str,.slice HL h.il.length dL,.slice HO h.vz.length dO] 29)));have HX:=hid (Bx.new hvl);clear hb hvl b0 b1 b2 b3 b4 c0 c1 c2 c3 c4 c5 c6 c7 c8 c9 c10 c11;obtain ⟨b0,b1,b2,b3,b4⟩:=HX.out.cells;obtain ⟨c0,c1,c2,c3,c4,c5,c6,c7,c8,c9,c10,c11,_⟩:=H2.out.c.tw)
    | (go_at_call 52;refine (HKI.out h HL HO dL dO HG.out HS.out _ H2.out.below HX.out.vl).mono ?_;rintro e w3 ⟨rfl,hb⟩;have H3:=hid (H2.out.step hb);clear hb))
   go_ret
   exact ⟨_,rfl,.inr ⟨HS.out,.inr ⟨h,HG.out,rfl⟩⟩,H3.out.below⟩
 ·have HS:=hid hS
  clear hS;go_enter Tryz.func27,Tryz.ntmps27
  go_wp2_with (go_at_call 41;refine (HSO.out _ H0.out.below).mono ?_;rintro e w1 ⟨bb,rfl,hbb,hb⟩;have hbf:bb=false:=(by cases bb;rfl;exact absurd (hbb.1 rfl) HS.out);subst hbf;have H1:=hid (H0.out.step hb);clear hb hbb)
  go_ret
  exact ⟨60,rfl,.inl ⟨HS.out,rfl⟩,H1.out.below⟩
end Go.Proofs.YthmcfjmignlhfaaGreatDoor
namespace Go.Proofs.YthmcfjmignlhfaaGreatDoor
open Go.Lib(hid)
open Go Go.RowKit Go.Lib
set_option linter.unusedVariables false
set_option linter.unusedSimpArgs false
theorem zdB:∀ cs:List (List UInt8),(∀ u∈cs,IsChar u)->validD cs.flatten=true
 | [],_=>rfl
 | u :: r,h=>by
  have hu:=h u (List.mem_cons_self ..);have hp:=hu.pos;have hne:u++r.flatten≠[]:=by
   intro e;have:=congrArg List.length e;simp only [List.length_append,List.length_nil] at this;omega
  rw [List.flatten_cons,validD_step _ hne,zc4 _ hu,if_neg (fun e=>hu.1 (Prod.ext e.1 e.2)),hu.2,List.drop_left]
  exact zdB r (fun v hv=>h v (List.mem_cons_of_mem _ hv))
theorem Reads.valid {s:ByteArray} {cs:List (List UInt8)} (h:Reads s cs):Go.Proofs.YthmcfjmignlhfaaGreatDoor.valid s=true:=by
 unfold Go.Proofs.YthmcfjmignlhfaaGreatDoor.valid;rw [h.1];exact zdB cs h.2
theorem zio {s t:ByteArray} (i:Nat) (hs:valid s=true) (ht:valid t=true):valid (insS s i t)=true:=by
 obtain ⟨cs,h1⟩:=zeC hs;obtain ⟨ts,h2⟩:=zeC ht;exact (h1.ins h2 i).valid
theorem ziY {s:ByteArray} (i n:Nat) (hs:valid s=true):valid (delS s i n)=true:=by
 obtain ⟨cs,h1⟩:=zeC hs;exact (h1.del i n).valid
end Go.Proofs.YthmcfjmignlhfaaGreatDoor
namespace Go.Proofs.YthmcfjmignlhfaaGreatDoor
open Go.Lib(hid)
open Go Go.RowKit
set_option linter.unusedVariables false
set_option linter.unusedSimpArgs false
theorem zdw:∀ (a b c:List UInt8),Op.bytesLess a b=true->Op.bytesLess b c=true->Op.bytesLess a c=true
 | _,[],_,h,_=>by simp [Op.bytesLess] at h
 | _,_ :: _,[],_,h=>by simp [Op.bytesLess] at h
 | [],_ :: _,_ :: _,_,_=>by simp [Op.bytesLess]
 | x :: a,y :: b,z :: c,h1,h2=>by
  simp only [Op.bytesLess,Bool.or_eq_true,Bool.and_eq_true,decide_eq_true_eq,beq_iff_eq] at h1 h2 ⊢;rcases h1 with h1 | ⟨rfl,h1⟩
  ·rcases h2 with h2 | ⟨rfl,h2⟩
   ·exact .inl (UInt8.lt_trans h1 h2)
   ·exact .inl h1
  ·rcases h2 with h2 | ⟨rfl,h2⟩
   ·exact .inl h2
   ·exact .inr ⟨rfl,zdw a b c h1 h2⟩
theorem zha {a b c:ByteArray} (h1:less' a b=true) (h2:less' b c=true):less' a c=true:=zdw _ _ _ h1 h2
theorem zkX {ks:List ByteArray} {i:Nat} (h:KeysOk ks) (hi:i<ks.length):KeysOk (remL ks i):=by
 intro a k ha hk;have hl:=zdk hi;rw [zcF hi] at hk;by_cases h1:a<i
 ·rw [if_pos h1] at hk
  refine ⟨(h a k (by omega) hk).1,fun j p e hj=>?_⟩
  rw [zcF hi,if_pos (by omega)] at hj
  exact (h a k (by omega) hk).2 j p e hj
 ·rw [if_neg h1] at hk
  have hk2:=(List.getElem?_eq_some_iff.1 hk).1;refine ⟨(h (a+1) k hk2 hk).1,fun j p e hj=>?_⟩
  rw [zcF hi] at hj;by_cases h2:j<i
  ·rw [if_pos h2] at hj
   have hm : ks[a]? = some (ks[a]'(by omega)) := List.getElem?_eq_getElem _
   exact zha ((h a _ (by omega) hm).2 j p e hj) ((h (a+1) k hk2 hk).2 a _ rfl hm)
  ·rw [if_neg h2] at hj
   exact (h (a+1) k hk2 hk).2 (j+1) p (by omega) hj
theorem zkI {key:ByteArray} {ks:List ByteArray} (h:there key ks=false):insK key ks=insL ks (place key ks) key:=by
 unfold insK insL insN;rw [h]
 rfl
theorem zdg {α:Type} {l:List α} {i:Nat} {v x:α} (h:x∈insL l i v):x=v\/x∈l:=by
 unfold insL at h;rcases List.mem_append.1 h with h | h
 ·exact .inr (List.mem_of_mem_take h)
 ·rcases List.mem_cons.1 h with h | h
  ·exact .inl h
  ·exact .inr (List.mem_of_mem_drop h)
theorem zdt {α:Type} {l:List α} {i:Nat} {x:α} (h:x∈remL l i):x∈l:=by
 unfold remL at h;rcases List.mem_append.1 h with h | h
 ·exact List.mem_of_mem_take h
 ·exact List.mem_of_mem_drop h
theorem zkT {l:List GV} {c:Cm GV} {x:GV} (h:x∈doL l c):x=c.v\/x∈l:=by
 unfold doL at h;split at h
 ·exact zdg h
 ·split at h
  ·exact .inr (zdt h)
  ·split at h
   ·rcases zdg h with h | h
    ·exact .inl h
    ·exact .inr (zdt h)
   ·split at h
    ·rename_i y hy
     rcases zdg h with h | h
     ·subst h;exact .inr (List.mem_of_getElem? hy)
     ·exact .inr (zdt h)
    ·exact .inr h
theorem zcG {h:GV} {c:GC} (e:chkH h c=0):h.kq=worksOn c.kq:=by
 unfold chkH at e;by_cases hk:h.kq=worksOn c.kq
 ·exact hk
 ·rw [if_pos hk] at e
  cases e
theorem zfw {h:GV} {c:GC} (e:chkH h c=0) (h3:c.kq=3):there c.key h.keys=true:=by
 have hw:worksOn c.kq=5:=by rw [h3];decide
 have hk:h.kq=5:=(zcG e).trans hw;unfold chkH at e;rw [if_neg (fun hn=>hn (hk.trans hw.symm)),if_neg (by omega),if_neg (by omega)] at e
 by_cases ht:there c.key h.keys=true
 ·exact ht
 ·rw [if_pos ⟨h3,by simpa using ht⟩] at e
  cases e
theorem ziT {h:GV} {c:GC} (h2:c.kq=2) (ht:there c.key h.keys=true):doH h c=.mk h.kq h.num h.str h.il h.keys (h.vz.set (place c.key h.keys) c.v):=by
 unfold doH;rw [if_neg (by omega),if_pos h2,if_pos ht]
theorem zkC {h:GV} {c:GC} (h2:c.kq=2) (ht:¬ there c.key h.keys=true):doH h c=.mk h.kq h.num h.str h.il (insL h.keys (place c.key h.keys) c.key) (insL h.vz (place c.key h.keys) c.v):=by
 unfold doH;rw [if_neg (by omega),if_pos h2,if_neg ht]
theorem ziq {h:GV} {c:GC} (hh:h.Sound) (hc:c.Sound) (e:chkH h c=0):(doH h c).Sound:=by
 have hk:=zcG e;have hdel:=zfw e;obtain ⟨_,_,hkey,_,⟨⟨hk1,hk9⟩,_,hs8,_⟩,hv⟩:=hc;have hvs:=hv.1;cases h with
 | mk k n z l ks ov=>
  simp only [GV.Sound] at hh;obtain ⟨⟨p1,p2,p3,p4,p5⟩,hl,ho⟩:=hh;rw [zam] at hl ho;simp only [GV.kq,GV.keys] at hk hdel;unfold worksOn at hk;by_cases h2:c.kq=2
  ·rw [if_neg (by omega),if_pos (.inl h2)] at hk
   have hko:KeysOk ks:=by
    rcases p5 with p | p
    ·exact p.2
    ·exact absurd hk p.1
   by_cases ht:there c.key ks=true
   ·rw [ziT (h:=.mk k n z l ks ov) h2 ht]
    simp only [GV.kq,GV.num,GV.str,GV.il,GV.keys,GV.vz,GV.Sound];rw [zam,zam];refine ⟨⟨p1,p2,p3,p4,.inl ⟨hk,hko⟩⟩,hl,fun x hx=>?_⟩
    rcases List.mem_or_eq_of_mem_set hx with hx | hx
    ·exact ho x hx
    ·subst hx;exact hvs
   ·rw [zkC (h:=.mk k n z l ks ov) h2 ht]
    simp only [GV.kq,GV.num,GV.str,GV.il,GV.keys,GV.vz,GV.Sound];rw [zam,zam];refine ⟨⟨p1,p2,p3,p4,.inl ⟨hk,by rw [<- zkI (by simpa using ht)];exact zih hko hkey⟩⟩,hl,fun x hx=>?_⟩
    rcases zdg hx with hx | hx
    ·subst hx;exact hvs
    ·exact ho x hx
  unfold doH;rw [if_neg h2];by_cases h1:c.kq=1
  ·rw [if_pos h1] at hk ⊢
   simp only [GV.kq,GV.num,GV.str,GV.il,GV.keys,GV.vz,GV.Sound];rw [zam,zam];exact ⟨⟨p1,.inl hk,p3,p4,p5⟩,hl,ho⟩
  rw [if_neg h1] at hk ⊢;simp only [GV.kq,GV.num,GV.str,GV.il,GV.keys,GV.vz];by_cases h3:c.kq=3
  ·rw [if_pos (.inr h3)] at hk
   have hko:KeysOk ks:=by
    rcases p5 with p | p
    ·exact p.2
    ·exact absurd hk p.1
   rw [if_pos h3];simp only [GV.Sound];rw [zam,zam];exact ⟨⟨p1,p2,p3,p4,.inl ⟨hk,zkX hko (zb4 (hdel h3))⟩⟩,hl,fun x hx=>ho x (zdt hx)⟩
  rw [if_neg h3];rw [if_neg (by omega)] at hk
  by_cases h8:c.kq=8
  ·rw [if_pos (.inl h8)] at hk
   rw [if_pos h8];simp only [GV.Sound];rw [zam,zam];refine ⟨⟨p1,p2,.inl ⟨hk,zio _ ?_ (hs8 h8).2⟩,p4,p5⟩,hl,ho⟩
   rcases p3 with p | p
   ·exact p.2
   ·exact absurd hk p.1
  rw [if_neg h8];by_cases h9:c.kq=9
  ·rw [if_pos (.inr h9)] at hk
   rw [if_pos h9];simp only [GV.Sound];rw [zam,zam];refine ⟨⟨p1,p2,.inl ⟨hk,ziY _ _ ?_⟩,p4,p5⟩,hl,ho⟩
   rcases p3 with p | p
   ·exact p.2
   ·exact absurd hk p.1
  rw [if_neg h9];rw [if_neg (by omega)] at hk
  simp only [GV.Sound];rw [zam,zam];refine ⟨⟨p1,p2,p3,.inl hk,p5⟩,fun x hx=>?_,ho⟩
  rcases zkT hx with hx | hx
  ·subst hx;exact hvs
  ·exact hl x hx
end Go.Proofs.YthmcfjmignlhfaaGreatDoor
namespace Go.Proofs.YthmcfjmignlhfaaGreatDoor
open Go.Lib(hid)
open Go Go.RowKit
set_option linter.unusedVariables false
set_option linter.unusedSimpArgs false
def lenOf:Value->Nat
 | .slice _ n _=>n
 | _=>0
end Go.Proofs.YthmcfjmignlhfaaGreatDoor
namespace Go.Proofs.YthmcfjmignlhfaaGreatDoor
open Go.Lib(hid)
open Go Go.RowKit Go.Shelf
set_option linter.unusedVariables false
set_option linter.unusedSimpArgs false
theorem dchk (g GL GO eL eO c A AL AO cp cL cO w) (hg:Vl w g GL GO eL eO) (hc:Cc w c A AL AO cp cL cO) (hgw:g.weight<=1000000) (hs:Small c) (hpos:c.v.Pos) (hT:Tabs w) {n} (hchk:ChkIs g c n) (W:World) (hb:Below w.heap.size w W):
  Calls Tryz.prog 27 #[.agg #[.int .u8 g.kq,.int .i64 g.num,.string g.str,.slice GL g.il.length eL,.slice GO g.vz.length eO],.agg #[.int .u8 c.kq,.slice A c.path.length cp,.string c.key,.int .i64 c.i,.int .i64 c.j,.int .i64 c.n,.int .u8 c.v.kq,.int .i64 c.v.num,.string c.v.str,.slice AL c.v.il.length cL,.slice AO c.v.vz.length cO,.string c.s]] W fun e w'=>e=.returned (.int .i64 n)/\Below W.heap.size W w':=
 (zhG g GL GO eL eO c A AL AO cp cL cO W (hg.later hb) (hc.later hb) (by omega) hs hpos (hT.below hb (Nat.le_refl _))).mono fun e w' ⟨m,he,hm,hb'⟩=>⟨by rw [he,zbo hm hchk],hb'⟩
end Go.Proofs.YthmcfjmignlhfaaGreatDoor
namespace Go.Proofs.YthmcfjmignlhfaaGreatDoor
open Go.Lib(hid)
open Go Go.RowKit Go.Shelf
set_option linter.unusedVariables false
set_option linter.unusedSimpArgs false
def pt12 (W:World) (b:Nat) (a0 a1 a2 a3 a4 a5 a6 a7 a8 a9 a10 a11:Value):World:=((((((((((((W.setCell ⟨b,0,none⟩ a0).setCell ⟨b,1,none⟩ a1).setCell ⟨b,2,none⟩ a2).setCell ⟨b,3,none⟩ a3).setCell ⟨b,4,none⟩ a4).setCell ⟨b,5,none⟩ a5).setCell ⟨b,6,none⟩ a6).setCell ⟨b,7,none⟩ a7).setCell ⟨b,8,none⟩ a8).setCell ⟨b,9,none⟩ a9).setCell ⟨b,10,none⟩ a10).setCell ⟨b,11,none⟩ a11)
theorem zay {W b} {t:TypeId} {z0 z1 z2 z3 z4 z5 z6 z7 z8 z9 z10 z11:Value} (h:Whole W b t #[z0,z1,z2,z3,z4,z5,z6,z7,z8,z9,z10,z11]) (a0 a1 a2 a3 a4 a5 a6 a7 a8 a9 a10 a11:Value):Whole (pt12 W b a0 a1 a2 a3 a4 a5 a6 a7 a8 a9 a10 a11) b t #[a0,a1,a2,a3,a4,a5,a6,a7,a8,a9,a10,a11]:=put12 h a0 a1 a2 a3 a4 a5 a6 a7 a8 a9 a10 a11
theorem zbe (W:World) (b:Nat) (a0 a1 a2 a3 a4 a5 a6 a7 a8 a9 a10 a11:Value):Kp (b+1) W (pt12 W b a0 a1 a2 a3 a4 a5 a6 a7 a8 a9 a10 a11):=((((((((((((Kp.refl (b+1) W).set (p:=⟨b,0,none⟩) (by simp) a0).set (p:=⟨b,1,none⟩) (by simp) a1).set (p:=⟨b,2,none⟩) (by simp) a2).set (p:=⟨b,3,none⟩) (by simp) a3).set (p:=⟨b,4,none⟩) (by simp) a4).set (p:=⟨b,5,none⟩) (by simp) a5).set (p:=⟨b,6,none⟩) (by simp) a6).set (p:=⟨b,7,none⟩) (by simp) a7).set (p:=⟨b,8,none⟩) (by simp) a8).set (p:=⟨b,9,none⟩) (by simp) a9).set (p:=⟨b,10,none⟩) (by simp) a10).set (p:=⟨b,11,none⟩) (by simp) a11
theorem zaz {w W:World} {b:Nat} (hb:Below w.heap.size w W) (hn:w.heap.size<=b) (a0 a1 a2 a3 a4 a5 a6 a7 a8 a9 a10 a11:Value):Below w.heap.size w (pt12 W b a0 a1 a2 a3 a4 a5 a6 a7 a8 a9 a10 a11):=(((((((((((hb.setCell (p:=⟨b,0,none⟩) hn a0).setCell (p:=⟨b,1,none⟩) hn a1).setCell (p:=⟨b,2,none⟩) hn a2).setCell (p:=⟨b,3,none⟩) hn a3).setCell (p:=⟨b,4,none⟩) hn a4).setCell (p:=⟨b,5,none⟩) hn a5).setCell (p:=⟨b,6,none⟩) hn a6).setCell (p:=⟨b,7,none⟩) hn a7).setCell (p:=⟨b,8,none⟩) hn a8).setCell (p:=⟨b,9,none⟩) hn a9).setCell (p:=⟨b,10,none⟩) hn a10).setCell (p:=⟨b,11,none⟩) hn a11
def undo4 (h:GV) (c:GC):GC:=⟨5,c.path,⟨#[]⟩,c.i,0,0,noG,⟨#[]⟩⟩
def undo7 (h:GV) (c:GC):GC:=⟨c.kq,c.path,⟨#[]⟩,c.j,c.i,0,noG,⟨#[]⟩⟩
def undo1 (h:GV) (c:GC):GC:=⟨c.kq,c.path,⟨#[]⟩,0,0,wrap64 (-c.n),noG,⟨#[]⟩⟩
def undo8 (h:GV) (c:GC):GC:=⟨9,c.path,⟨#[]⟩,c.i,0,nChars c.s,noG,⟨#[]⟩⟩
def undo9 (h:GV) (c:GC):GC:=⟨8,c.path,⟨#[]⟩,c.i,0,0,noG,partS h.str c.i.toNat c.n.toNat⟩
end Go.Proofs.YthmcfjmignlhfaaGreatDoor
namespace Go.Proofs.YthmcfjmignlhfaaGreatDoor
open Go.Lib(hid)
open Go Go.RowKit Go.Shelf
set_option linter.unusedVariables false
set_option linter.unusedSimpArgs false
def undo5 (c:GC) (i:Nat) (g:GV):GC:=⟨4,c.path,⟨#[]⟩,i,0,0,g,⟨#[]⟩⟩
def undo6 (c:GC) (i:Nat) (g:GV):GC:=⟨c.kq,c.path,⟨#[]⟩,i,0,0,g,⟨#[]⟩⟩
end Go.Proofs.YthmcfjmignlhfaaGreatDoor
namespace Go.Proofs.YthmcfjmignlhfaaGreatDoor
open Go.Lib(hid)
open Go Go.RowKit Go.Shelf
set_option linter.unusedVariables false
set_option linter.unusedSimpArgs false
def undo2n (c:GC):GC:=⟨3,c.path,c.key,0,0,0,noG,⟨#[]⟩⟩
def undo2t (c:GC) (g:GV):GC:=⟨2,c.path,c.key,0,0,0,g,⟨#[]⟩⟩
def undo3t (c:GC) (g:GV):GC:=⟨2,c.path,c.key,0,0,0,g,⟨#[]⟩⟩
end Go.Proofs.YthmcfjmignlhfaaGreatDoor
namespace Go.Proofs.YthmcfjmignlhfaaGreatDoor
open Go.Lib(hid)
open Go Go.RowKit
set_option linter.unusedVariables false
set_option linter.unusedSimpArgs false
def Undo (h:GV) (c d:GC):Prop:=
 (c.kq=1/\d=undo1 h c)\/(c.kq=2/\there c.key h.keys=false/\d=undo2n c) \/
 (c.kq=2/\there c.key h.keys=true/\∃ g,h.vz[place c.key h.keys]? = some g/\d=undo2t c g) \/
 (c.kq=3/\there c.key h.keys=true/\∃ g,h.vz[place c.key h.keys]? = some g/\d=undo3t c g) \/
 (c.kq=4/\d=undo4 h c)\/(c.kq=5/\∃ (i:Nat) (g:GV),c.i=i/\h.il[i]? = some g/\d=undo5 c i g) \/
 (c.kq=6/\∃ (i:Nat) (g:GV),c.i=i/\h.il[i]? = some g/\d=undo6 c i g)\/(c.kq=7/\d=undo7 h c) \/
 (c.kq=8/\d=undo8 h c)\/(c.kq=9/\h.kq=3/\(0<=c.i/\1<=c.n/\c.i.toNat+c.n.toNat<=nChars h.str)/\d=undo9 h c)
theorem zgL {h:GV} {c:GC} (hk:c.kq=5\/c.kq=6) (e:chkH h c=0):∃ (i:Nat) (g:GV),c.i=i/\h.il[i]? = some g:=by
 have hw:worksOn c.kq=4:=by unfold worksOn;(repeat' split)<;>omega
 have h4:h.kq=4:=(zcG e).trans hw;unfold chkH at e;rw [if_neg (fun hn=>hn (h4.trans hw.symm)),if_pos h4] at e
 unfold chkL at e;rw [if_neg (by omega),if_pos hk] at e
 by_cases hi:0<=c.i/\c.i<h.il.length
 ·exact ⟨c.i.toNat, h.il[c.i.toNat]'(by omega), by omega, List.getElem?_eq_getElem _⟩
 ·rw [if_neg hi] at e
  cases e
theorem ziK {h:GV} {c:GC} (hk:c.kq=9) (e:chkH h c=0):h.kq=3/\0<=c.i/\1<=c.n/\c.i.toNat+c.n.toNat<=nChars h.str:=by
 have hw:worksOn c.kq=3:=by rw [hk];decide
 have h3:h.kq=3:=(zcG e).trans hw;unfold chkH at e;rw [if_neg (fun hn=>hn (h3.trans hw.symm)),if_neg (by omega),if_pos h3,hk] at e
 obtain ⟨i,hi,hic,h8 | ⟨_,n,hn,h1,h2⟩⟩:=ziW (k:=9) e
 ·cases h8
 ·exact ⟨h3,by omega,by omega,by omega⟩
theorem zhX {h:GV} {c:GC} (hs:c.Sound) (e:chkH h c=0) (hl:h.keys.length=h.vz.length):∃ d,Undo h c d:=by
 obtain ⟨_,_,_,_,⟨⟨k1,k9⟩,_⟩,_⟩:=hs;have hv:there c.key h.keys=true->∃ g,h.vz[place c.key h.keys]? = some g:=fun ht=>⟨_,List.getElem?_eq_getElem (by rw [<- hl];exact zb4 ht)⟩
 rcases (show c.kq=1\/c.kq=2\/c.kq=3\/c.kq=4\/c.kq=5\/c.kq=6\/c.kq=7\/c.kq=8\/c.kq=9 by omega) with q | q | q | q | q | q | q | q | q
 ·exact ⟨_,.inl ⟨q,rfl⟩⟩
 ·cases ht:there c.key h.keys with
  | false=>exact ⟨_,.inr (.inl ⟨q,ht,rfl⟩)⟩
  | true=>
   obtain ⟨g,hg⟩:=hv ht;exact ⟨_,.inr (.inr (.inl ⟨q,ht,g,hg,rfl⟩))⟩
 ·have ht:=zfw e q
  obtain ⟨g,hg⟩:=hv ht;exact ⟨_,.inr (.inr (.inr (.inl ⟨q,ht,g,hg,rfl⟩)))⟩
 ·exact ⟨_,.inr (.inr (.inr (.inr (.inl ⟨q,rfl⟩))))⟩
 ·obtain ⟨i,g,hi,hg⟩:=zgL (.inl q) e
  exact ⟨_,.inr (.inr (.inr (.inr (.inr (.inl ⟨q,i,g,hi,hg,rfl⟩)))))⟩
 ·obtain ⟨i,g,hi,hg⟩:=zgL (.inr q) e
  exact ⟨_,.inr (.inr (.inr (.inr (.inr (.inr (.inl ⟨q,i,g,hi,hg,rfl⟩))))))⟩
 ·exact ⟨_,.inr (.inr (.inr (.inr (.inr (.inr (.inr (.inl ⟨q,rfl⟩)))))))⟩
 ·exact ⟨_,.inr (.inr (.inr (.inr (.inr (.inr (.inr (.inr (.inl ⟨q,rfl⟩))))))))⟩
 ·have h9:=ziK q e
  exact ⟨_,.inr (.inr (.inr (.inr (.inr (.inr (.inr (.inr (.inr ⟨q,h9.1,h9.2,rfl⟩))))))))⟩
theorem zd9 {h g:GV} {k:Nat} (hg:h.vz[k]? = some g):g.weight<=h.weight:=by
 have:=zbu h;have:=zcW h.vz k g hg;omega
theorem zdA {h g:GV} {k:Nat} (hg:h.il[k]? = some g):g.weight<=h.weight:=by
 have:=zbu h;have:=zcW h.il k g hg;omega
end Go.Proofs.YthmcfjmignlhfaaGreatDoor
namespace Go.Proofs.YthmcfjmignlhfaaGreatDoor
open Go.Lib(hid)
open Go Go.RowKit Go.Shelf
set_option linter.unusedVariables false
set_option linter.unusedSimpArgs false
section
variable {P:Program} (w:World)
theorem zeI (t tx ty e:TypeId) (i:TypeInfo) (z:Value) (ht:P.underlying t=some (.slice e)) (hu:P.underlying tx=some (.int .i64)) (hi:P.info? e=some i) (hz:i.zero=some z)
  (n:Nat) (hp:0<n * i.size) (h63:(n:Int)<=9223372036854775807) (hb:(n:Int) * i.bytes<=281474976710656) (hfit:Builtin.nextslicecap (0+n) 0 * i.bytes<=281474976710656):
  (Builtin.append_ #[t,tx] ty #[.slice none 0 0,.int .i64 n]).run P w =
   .ok (.slice (some ⟨w.heap.size,0,none⟩) n (grownCap w (0+n) 0 e))
    (w.drew.alloc (.cells (Builtin.zeroCells z.cells n++Builtin.zeroCells z.cells (grownCap w (0+n) 0 e - n)) e)):=by
 have hn:¬ (n<=0):=fun h=>by rw [Nat.le_zero.1 h,Nat.zero_mul] at hp;omega
 have h63':¬ (9223372036854775807<(n:Int)):=by omega
 have h48':¬ (281474976710656<Builtin.nextslicecap (0+n) 0 * i.bytes):=by omega
 have hw:IntKind.i64.wrap (n:Int)=n:=IntWalk.i64_in _ (by omega)
 have hn0:¬ ((n:Int)<0):=by omega
 have hnb:¬ (281474976710656<(n:Int) * i.bytes):=by omega
 have hnz:¬ (n * i.size=0):=by omega
 have hai:(asIntOf (.int .i64 (n:Int))).run P w=.ok (.i64,(n:Int)) w:=rfl;have hmax:¬ (9223372036854775807<max (n:Int) 0):=by omega
 simp only [Nat.zero_add] at h48' ⊢;simp [Builtin.append_,Builtin.firstCells,run_underlying ht,run_underlying hu,asInt,hai,hmax,hw,hn0,hnb,hnz,sizeOf,typeInfo,zeroValue,hi,hz,hn,h63',h48',Question.forced,newRow,grownCap]
 omega
end
theorem ziv (n:Nat) (h0:0<n) (hn:n<=1000000) (w:World):∃ (c:Nat) (W1:World),n<=c/\c<=maxLen/\(∀ ty,(Builtin.append_ #[41,3] ty #[.slice none 0 0,.int .i64 n]).run Tryz.prog w=.ok (.slice (some ⟨w.heap.size,0,none⟩) n c) W1) /\
  W1.ownsRow w.heap.size 102 3 (.slice (some ⟨w.heap.size,0,none⟩) 0 c) 0 []/\Below w.heap.size w W1:=by
 obtain ⟨i0,hi0,hz0,hz1,hz2⟩:=info_parts infoStep;have hfit:=growslice_fits (need:=0+n) (old:=0) (bytes:=32) (by omega) (by omega)
 have hA:=fun ty=>zeI (P:=Tryz.prog) w 41 3 ty 102 i0 _ Tryz.underlying41 Tryz.underlying3 hi0 hz0 n (by rw [hz1];omega) (by omega) (by rw [hz2];omega) (by rw [hz2];exact hfit)
 have hge:=grownCap_ge w (0+n) 0 102;have hle:=grownCap_le_maxLen w (0+n) 0 102 (by unfold maxLen;omega)
 generalize grownCap w (0+n) 0 102=c at *;refine ⟨c,_,by omega,hle,hA,⟨rfl,.inr ⟨w.heap.size,c,_,rfl,Nat.le_refl _,heap_alloc_new w.drew _,Nat.zero_le _,hle,?_,?_⟩⟩,(Below.refl _ _).drew.alloc (Nat.le_refl _) _⟩
 ·rw [Array.size_append,size_zeroCells,size_zeroCells]
  show n * 3+(c - n) * 3=c * 3
  omega
 ·simp
theorem zjr (n:Nat) (h0:0<n) (hn:n<=1000000) (w:World):Calls Tryz.prog 126 #[.slice none 0 0,.int .i64 n] w fun e w'=>∃ (g c:Nat),e=.returned (.slice (some ⟨g,0,none⟩) 0 c)/\w'.ownsRow w.heap.size 102 3 (.slice (some ⟨g,0,none⟩) 0 c) 0 []/\Below w.heap.size w w':=by
 obtain ⟨c,W1,hge,hle,hA,hown,hb⟩:=ziv n h0 hn w;have HA:=hid hA;have H1:=hid (And.intro hown hb);unfold maxLen at hle;have hw1:IntKind.i64.wrap (n:Int)=n:=IntWalk.i64_in _ (by omega)
 clear hA hown hb;go_enter Tryz.func126,Tryz.ntmps126
 go_wp2_with (at_builtin;refine zbl rfl (.tmp 20) (.tmp 21) 41 3 rfl _ _ _ _ rfl rfl (HA.out _) ?_)
 go_ret
 exact ⟨_,_,rfl,H1.out.1,H1.out.2⟩
end Go.Proofs.YthmcfjmignlhfaaGreatDoor
namespace Go.Proofs.YthmcfjmignlhfaaGreatDoor
open Go.Lib(hid)
open Go Go.RowKit Go.Shelf
set_option linter.unusedVariables false
set_option linter.unusedSimpArgs false
def SumRel (w:World) (n:Nat) (t i:Value) (W:World)  :Prop:=w=W/\((i=.int .i64 0/\t=.int .i64 0)\/(i=.int .i64 1/\t=.int .i64 n)\/(i=.int .i64 2/\t=.int .i64 (n+1:Nat)))
def LayRel (w:World) (p:List GStep) (s:GStep) (v i:Value) (W:World):Prop:=∃ (k:Nat) (q:List GStep),i=.int .i64 k/\((k=0/\q=[])\/(k=1/\q=p)\/(k=2/\q=p++[s]))/\W.ownsRow w.heap.size 102 3 v q.length (cellsP q)/\Below w.heap.size w W
theorem zer (p A cp) (s:GStep) (b d:Nat) (t:TypeId) (w) (hp:Wy w A cp p) (hl:p.length<=100000) (hb:Whole w b t #[.slice A p.length cp,.slice (some ⟨d,0,none⟩) 1 1]) (hd:Whole w d 102 #[.bool s.list,.int .i64 s.i,.string s.key]):
  Calls Tryz.prog 97 #[.slice (some ⟨b,0,none⟩) 2 2] w fun e w'=>∃ (B:Option Addr) (c:Nat),e=.returned (.slice B (p.length+1) c)/\Wy w' B c (p++[s])/\Below w.heap.size w w':=by
 obtain ⟨i0,hi,hz0,hz1,hz2⟩:=info_parts infoStep;have HI:=hid (And.intro hi (And.intro hz0 (And.intro hz1 hz2)));have HA:=hid (zgI hp).1;have HN:=hid (show ∀ W,Below w.heap.size w W->∀ ad,A=some ad->∀ (j:Nat) (u:Value),(cellsP p)[j]? = some u->W.cell? (ad.add j)=some u from fun W hb ad e j u hj=>by
  obtain ⟨hlt,h⟩:=(zgI hp).2 ad e j u hj;exact (hb.cell (by rw [show (ad.add j).block=ad.block by unfold Addr.add;split<;>rfl];exact hlt)).trans h)
 have HD:=hid (show ∀ W,Below w.heap.size w W->∀ ad,some (⟨d,0,none⟩:Addr)=some ad->∀ (j:Nat) (u:Value),(cellsP [s])[j]? = some u->W.cell? (ad.add j)=some u from fun W hb ad e j u hj=>by
  cases e
  have h:=hd.below hb hd.lt;have e2:(⟨d,0,none⟩:Addr).add j =⟨d,j,none⟩:=by unfold Addr.add;split<;>simp_all
  rw [e2,h.cell j,<- Array.getElem?_toList]
  simpa [cellsP,encG] using hj)
 have HF:=hid (And.intro (zde p) (And.intro (zeW p) (And.intro (zde [s]) (zeW [s]))));have HG:=hid (zjr (p.length+1) (by omega) (by omega) w)
 have HB:=hid hb;clear hp hi hz0 hz1 hz2 hd hb;go_enter Tryz.func97,Tryz.ntmps97
 go_wp2
 go_loopw [3,11] (SumRel w p.length) (fun _ i _=>2 - (intOf i).toNat)
 case atStart=>exact ⟨rfl,.inl ⟨rfl,rfl⟩⟩
 case round=>
  obtain ⟨hw0,h⟩:=hrel;subst hw0;have b0:=(HB.out.cell 0).trans rfl;have b1:=(HB.out.cell 1).trans rfl;rcases h with ⟨rfl,rfl⟩ | ⟨rfl,rfl⟩ | ⟨rfl,rfl⟩
  ·go_wp2
   go_roundw
   case rel=>exact ⟨rfl,.inr (.inl ⟨by go_num,by go_num⟩)⟩
   case measure=>simp [intOf]
  ·go_wp2
   go_roundw
   case rel=>exact ⟨rfl,.inr (.inr ⟨by go_num,by go_num⟩)⟩
   case measure=>simp [intOf]
  ·clear b0 b1
   go_wp2_with (go_at_call 126;refine HG.out.mono ?_;rintro e w1 ⟨g,c,rfl,ho,hb⟩;have H1:=hid (And.intro ho hb);clear ho hb)
   go_loopw [6,27] (LayRel w p s) (fun _ i _=>2 - (intOf i).toNat)
   case atStart=>exact ⟨0,[],rfl,.inl ⟨rfl,rfl⟩,H1.out.1,H1.out.2⟩
   case round=>
    obtain ⟨k,q,rfl,hq,ho,hb⟩:=hrel;have HO:=hid (And.intro ho hb);have HB2:=HB.out.below hb HB.out.lt;have b0:=(HB2.cell 0).trans rfl;have b1:=(HB2.cell 1).trans rfl;obtain ⟨QA,qc,rfl⟩:=zad ho;clear ho hb HB2;rcases hq with ⟨rfl,rfl⟩ | ⟨rfl,rfl⟩ | ⟨rfl,rfl⟩
    ·go_wp2_with (at_builtin;refine zak _ rfl (.tmp 31) (.tmp 32) 41 rfl w.heap.size 102 i0 _ 3 32 Tryz.underlying41 HI.out.1 HI.out.2.1 HI.out.2.2.1 HI.out.2.2.2 rfl (by decide) _ 0 [] rfl HO.out.1 A p.length cp (cellsP p) rfl HA.out HF.out.1 (HN.out _ HO.out.2) HF.out.2.1 (by unfold maxLen;omega) (by omega) HO.out.2.size ?_;intro v' w2 hown hgrow _;have H2:=hid (And.intro hown (HO.out.2.grown hgrow HO.out.2.size (fun k hk=>(HO.out.1.lt k hk).1)));clear hown hgrow)
     go_roundw
     case rel=>exact ⟨1,p,by go_num,.inr (.inl ⟨rfl,rfl⟩),by have:=H2.out.1;rwa [Nat.zero_add,List.nil_append] at this,H2.out.2⟩
     case measure=>simp [intOf]
    ·go_wp2_with (at_builtin;refine zak _ rfl (.tmp 31) (.tmp 32) 41 rfl w.heap.size 102 i0 _ 3 32 Tryz.underlying41 HI.out.1 HI.out.2.1 HI.out.2.2.1 HI.out.2.2.2 rfl (by decide) _ q.length (cellsP q) rfl HO.out.1 (some ⟨d,0,none⟩) 1 1 (cellsP [s]) rfl (fun h=>by cases h) HF.out.2.2.1 (HD.out _ HO.out.2) HF.out.2.2.2 (by unfold maxLen;omega) (by omega) HO.out.2.size ?_;intro v' w2 hown hgrow _;have H2:=hid (And.intro hown (HO.out.2.grown hgrow HO.out.2.size (fun k hk=>(HO.out.1.lt k hk).1)));clear hown hgrow)
     go_roundw
     case rel=>exact ⟨2,q++[s],by go_num,.inr (.inr ⟨rfl,rfl⟩),by have:=H2.out.1;rw [zga,List.length_append];simpa [cellsP] using this,H2.out.2⟩
     case measure=>simp [intOf]
    ·obtain ⟨B,c',he,hle,hcm,hst⟩:=zim HO.out.1
     have HS:=hid (And.intro hle (And.intro hcm hst));cases he
     clear b0 b1 hle hcm hst;go_wp2
     go_ret
     exact ⟨_,_,by rw [List.length_append];rfl,⟨HS.out.2.2,HS.out.1,HS.out.2.1⟩,HO.out.2⟩
end Go.Proofs.YthmcfjmignlhfaaGreatDoor
