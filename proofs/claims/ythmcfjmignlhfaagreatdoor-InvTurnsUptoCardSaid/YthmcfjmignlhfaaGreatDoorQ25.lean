/- Texts in one: CompOz, RcA, TextZ, CompSd. -/
import Derived.Test.YthmcfjmignlhfaaGreatDoorQ22
import Derived.Test.YthmcfjmignlhfaaGreatDoorQ23
import Derived.Test.YthmcfjmignlhfaaGreatDoorQ24
import Derived.Test.YthmcfjmignlhfaaGreatDoorQ20
import Derived.Test.YthmcfjmignlhfaaGreatDoorQ17
import Derived.Test.YthmcfjmignlhfaaGreatDoorQ8
import Derived.Test.YthmcfjmignlhfaaGreatDoorQ3
import Derived.Test.YthmcfjmignlhfaaGreatDoorQ7
import Derived.Test.YthmcfjmignlhfaaGreatDoorQ10
set_option maxRecDepth 100000
set_option maxHeartbeats 40000000
namespace Go.Proofs.YthmcfjmignlhfaaGreatDoor
open Go.Lib(hid)
open Go Go.RowKit
set_option linter.unusedVariables false
set_option linter.unusedSimpArgs false
theorem zi4 (c A AL AO cp cL cO w) (hc:Cc w c A AL AO cp cL cO) (hk:¬ (1<=c.kq/\c.kq<=9)):
  Calls Tryz.prog 41 #[.agg #[.int .u8 c.kq,.slice A c.path.length cp,.string c.key,.int .i64 c.i,.int .i64 c.j,.int .i64 c.n,.int .u8 c.v.kq,.int .i64 c.v.num,.string c.v.str,.slice AL c.v.il.length cL,.slice AO c.v.vz.length cO,.string c.s]] w (BoolPost c.Sound w):=by
 have HN:=hid (show ¬ c.Sound from fun h=>hk h.2.2.2.2.1.1)
 have HB:=hid (zab w (.cells #[.int .u8 c.kq,.slice A c.path.length cp,.string c.key,.int .i64 c.i,.int .i64 c.j,.int .i64 c.n,.int .u8 c.v.kq,.int .i64 c.v.num,.string c.v.str,.slice AL c.v.il.length cL,.slice AO c.v.vz.length cO,.string c.s] 48));have HSAY:=hid (fun W=>zbf c.kq W)
 rw [show saysB c.kq =⟨#[]⟩ by unfold saysB;simp only [show ¬ c.kq=1 by omega,show ¬ c.kq=2 by omega,show ¬ c.kq=3 by omega,show ¬ c.kq=4 by omega,show ¬ c.kq=5 by omega,show ¬ c.kq=6 by omega,show ¬ c.kq=7 by omega,show ¬ c.kq=8 by omega,show ¬ c.kq=9 by omega,if_false]] at HSAY
 have z:(⟨#[]⟩:ByteArray).toList.isEmpty=true:=by decide +kernel
 clear hc hk;generalize c.Sound=SS at *;go_enter Tryz.func41,Tryz.ntmps41
 go_wp2_with (go_at_call 73;refine (HSAY.out _).mono ?_;rintro e w' ⟨rfl,rfl⟩)
 go_ret
 exact ⟨false,rfl,⟨(fun h=>by cases h),fun h=>absurd h HN.out⟩,HB.out⟩
theorem zdf (c A AL AO cp cL cO w) (hc:Cc w c A AL AO cp cL cO) (hw:c.v.weight<=1000000000) (hpos:c.v.Pos) (hky:c.key.size<=9223372036854775807) (hs:c.s.size<=9223372036854775807) (hpk:∀ s∈c.path,s.key.size<=9223372036854775807) (hT:Tabs w):
  Calls Tryz.prog 41 #[.agg #[.int .u8 c.kq,.slice A c.path.length cp,.string c.key,.int .i64 c.i,.int .i64 c.j,.int .i64 c.n,.int .u8 c.v.kq,.int .i64 c.v.num,.string c.v.str,.slice AL c.v.il.length cL,.slice AO c.v.vz.length cO,.string c.s]] w (BoolPost c.Sound w):=by
 by_cases h:1<=c.kq/\c.kq<=9
 ·rcases (show c.kq=1\/c.kq=2\/c.kq=3\/c.kq=4\/c.kq=5\/c.kq=6\/c.kq=7\/c.kq=8\/c.kq=9 by omega) with k | k | k | k | k | k | k | k | k
  ·exact zjz c A AL AO cp cL cO w hc hw hpos hky hs hpk hT k
  ·exact zjE c A AL AO cp cL cO w hc hw hpos hky hs hpk hT k
  ·exact zkr c A AL AO cp cL cO w hc hw hpos hky hs hpk hT k
  ·exact zki c A AL AO cp cL cO w hc hw hpos hky hs hpk hT k
  ·exact zke c A AL AO cp cL cO w hc hw hpos hky hs hpk hT k
  ·exact zjU c A AL AO cp cL cO w hc hw hpos hky hs hpk hT k
  ·exact zjV c A AL AO cp cL cO w hc hw hpos hky hs hpk hT k
  ·exact zko c A AL AO cp cL cO w hc hw hpos hky hs hpk hT k
  ·exact zjK c A AL AO cp cL cO w hc hw hpos hky hs hpk hT k
 ·exact zi4 c A AL AO cp cL cO w hc h
end Go.Proofs.YthmcfjmignlhfaaGreatDoor
namespace Go.Proofs.YthmcfjmignlhfaaGreatDoor
open Go.Lib(hid)
open Go Go.RowKit Go.Shelf
set_option linter.unusedVariables false
set_option linter.unusedSimpArgs false
structure KBx (w W:World) (cx cc:Array Value):Prop where
 x:Whole W w.heap.size 29 cx
 c:Whole W (w.heap.size+1) 48 cc
 below:Below w.heap.size w W
theorem KBx.new (w:World) (cx cc:Array Value):KBx w ((w.alloc (.cells cx 29)).alloc (.cells cc 48)) cx cc:=by
 have h1:=Whole.new (w.alloc (.cells cx 29)) 48 cc;rw [World.size_alloc] at h1;exact ⟨(Whole.new w _ _).alloc _,h1,((Below.refl _ w).alloc (Nat.le_refl _) _).alloc (by simp) _⟩
theorem KBx.step {w W W':World} {cx cc:Array Value} (h:KBx w W cx cc) (hb:Below W.heap.size W W'):KBx w W' cx cc:=
 ⟨h.x.below hb h.x.lt,h.c.below hb h.c.lt,h.below.trans (hb.mono h.below.size)⟩
theorem za1 {h:GV} {c:GC} (e:h.kq≠worksOn c.kq):chkH h c=31:=by simp [chkH,e]
theorem ziY (h HL HO dL dO) (c:GC) (A AL AO:Option Addr) (cp cL cO:Nat) (w) (hv:Vl w h HL HO dL dO) (hk:1<=c.kq/\c.kq<=9) (hs:h.str.size<=1000000000) (hT:Tabs w):
  Calls Tryz.prog 52 #[.agg #[.int .u8 h.kq,.int .i64 h.num,.string h.str,.slice HL h.il.length dL,.slice HO h.vz.length dO],.agg #[.int .u8 c.kq,.slice A c.path.length cp,.string c.key,.int .i64 c.i,.int .i64 c.j,.int .i64 c.n,.int .u8 c.v.kq,.int .i64 c.v.num,.string c.v.str,.slice AL c.v.il.length cL,.slice AO c.v.vz.length cO,.string c.s]] w fun e w'=>e=.returned (.int .i64 (chkH h c))/\Below w.heap.size w w':=by
 have H0:=hid (KBx.new w #[.int .u8 h.kq,.int .i64 h.num,.string h.str,.slice HL h.il.length dL,.slice HO h.vz.length dO] #[.int .u8 c.kq,.slice A c.path.length cp,.string c.key,.int .i64 c.i,.int .i64 c.j,.int .i64 c.n,.int .u8 c.v.kq,.int .i64 c.v.num,.string c.v.str,.slice AL c.v.il.length cL,.slice AO c.v.vz.length cO,.string c.s]);have HF:=hid (fun W (hb:Below w.heap.size w W)=>zaF (fun _=>True) _ h c.key W (hv.later hb).val)
 unfold FieldPost at HF;obtain ⟨b0,b1,b2,b3,b4,_⟩:=H0.out.x.five;obtain ⟨c0,c1,c2,c3,c4,c5,c6,c7,c8,c9,c10,c11,_⟩:=H0.out.c.tw;rcases (show c.kq=1\/c.kq=2\/c.kq=3\/c.kq=4\/c.kq=5\/c.kq=6\/c.kq=7\/c.kq=8\/c.kq=9 by omega) with hk | hk | hk | hk | hk | hk | hk | hk | hk
 ·have k1:(c.kq == 1)=true:=by rw [hk];rfl
  have k2:(c.kq == 2)=false:=by rw [hk];rfl
  have k3:(c.kq == 3)=false:=by rw [hk];rfl
  have k8:(c.kq == 8)=false:=by rw [hk];rfl
  have k9:(c.kq == 9)=false:=by rw [hk];rfl
  by_cases hx:h.kq=2
  ·have x1:(h.kq != 2)=false:=by rw [hx];rfl
   rw [show chkH h c=0 by simp [chkH,hk,hx,worksOn]]
   clear hk hx hv hT HF;go_enter Tryz.func52,Tryz.ntmps52
   go_wp2
   go_ret
   exact ⟨rfl,H0.out.below⟩
  ·have x1:(h.kq != 2)=true:=by simpa using hx
   rw [za1 (c:=c) (h:=h) (by rw [hk];exact hx)]
   clear hk hx hv hT;go_enter Tryz.func52,Tryz.ntmps52
   go_wp2
   go_ret
   exact ⟨rfl,H0.out.below⟩
 ·have k1:(c.kq == 1)=false:=by rw [hk];rfl
  have k2:(c.kq == 2)=true:=by rw [hk];rfl
  have k3:(c.kq == 3)=false:=by rw [hk];rfl
  have k8:(c.kq == 8)=false:=by rw [hk];rfl
  have k9:(c.kq == 9)=false:=by rw [hk];rfl
  by_cases hx:h.kq=5
  ·have x1:(h.kq != 5)=false:=by rw [hx];rfl
   rw [show chkH h c=0 by simp [chkH,hk,hx,worksOn]]
   clear hk hx hv hT;generalize there c.key h.keys=t at *;go_enter Tryz.func52,Tryz.ntmps52
   go_wp2_with (go_at_call 70;refine (HF.out _ H0.out.below).mono ?_;rintro e w1 ⟨rfl,hb⟩;have H1:=hid (H0.out.step hb);clear hb b0 b1 b2 b3 b4 c0 c1 c2 c3 c4 c5 c6 c7 c8 c9 c10 c11;obtain ⟨b0,b1,b2,b3,b4,_⟩:=H1.out.x.five;obtain ⟨c0,c1,c2,c3,c4,c5,c6,c7,c8,c9,c10,c11,_⟩:=H1.out.c.tw)
   go_ret
   exact ⟨rfl,H1.out.below⟩
  ·have x1:(h.kq != 5)=true:=by simpa using hx
   rw [za1 (c:=c) (h:=h) (by rw [hk];exact hx)]
   clear hk hx hv hT;go_enter Tryz.func52,Tryz.ntmps52
   go_wp2_with (go_at_call 70;refine (HF.out _ H0.out.below).mono ?_;rintro e w1 ⟨rfl,hb⟩;have H1:=hid (H0.out.step hb);clear hb b0 b1 b2 b3 b4 c0 c1 c2 c3 c4 c5 c6 c7 c8 c9 c10 c11;obtain ⟨b0,b1,b2,b3,b4,_⟩:=H1.out.x.five;obtain ⟨c0,c1,c2,c3,c4,c5,c6,c7,c8,c9,c10,c11,_⟩:=H1.out.c.tw)
   go_ret
   exact ⟨rfl,H1.out.below⟩
 ·have k1:(c.kq == 1)=false:=by rw [hk];rfl
  have k2:(c.kq == 2)=false:=by rw [hk];rfl
  have k3:(c.kq == 3)=true:=by rw [hk];rfl
  have k8:(c.kq == 8)=false:=by rw [hk];rfl
  have k9:(c.kq == 9)=false:=by rw [hk];rfl
  by_cases hx:h.kq=5
  ·have x1:(h.kq != 5)=false:=by rw [hx];rfl
   rw [show chkH h c=if there c.key h.keys=false then 33 else 0 by simp [chkH,hk,hx,worksOn]]
   clear hk hx hv hT;generalize there c.key h.keys=t at *;cases t
   ·go_enter Tryz.func52,Tryz.ntmps52
    go_wp2_with (go_at_call 70;refine (HF.out _ H0.out.below).mono ?_;rintro e w1 ⟨rfl,hb⟩;have H1:=hid (H0.out.step hb);clear hb b0 b1 b2 b3 b4 c0 c1 c2 c3 c4 c5 c6 c7 c8 c9 c10 c11;obtain ⟨b0,b1,b2,b3,b4,_⟩:=H1.out.x.five;obtain ⟨c0,c1,c2,c3,c4,c5,c6,c7,c8,c9,c10,c11,_⟩:=H1.out.c.tw)
    go_ret
    exact ⟨rfl,H1.out.below⟩
   ·go_enter Tryz.func52,Tryz.ntmps52
    go_wp2_with (go_at_call 70;refine (HF.out _ H0.out.below).mono ?_;rintro e w1 ⟨rfl,hb⟩;have H1:=hid (H0.out.step hb);clear hb b0 b1 b2 b3 b4 c0 c1 c2 c3 c4 c5 c6 c7 c8 c9 c10 c11;obtain ⟨b0,b1,b2,b3,b4,_⟩:=H1.out.x.five;obtain ⟨c0,c1,c2,c3,c4,c5,c6,c7,c8,c9,c10,c11,_⟩:=H1.out.c.tw)
    go_ret
    exact ⟨rfl,H1.out.below⟩
  ·have x1:(h.kq != 5)=true:=by simpa using hx
   rw [za1 (c:=c) (h:=h) (by rw [hk];exact hx)]
   clear hk hx hv hT;go_enter Tryz.func52,Tryz.ntmps52
   go_wp2_with (go_at_call 70;refine (HF.out _ H0.out.below).mono ?_;rintro e w1 ⟨rfl,hb⟩;have H1:=hid (H0.out.step hb);clear hb b0 b1 b2 b3 b4 c0 c1 c2 c3 c4 c5 c6 c7 c8 c9 c10 c11;obtain ⟨b0,b1,b2,b3,b4,_⟩:=H1.out.x.five;obtain ⟨c0,c1,c2,c3,c4,c5,c6,c7,c8,c9,c10,c11,_⟩:=H1.out.c.tw)
   go_ret
   exact ⟨rfl,H1.out.below⟩
 ·have k1:(c.kq == 1)=false:=by rw [hk];rfl
  have k2:(c.kq == 2)=false:=by rw [hk];rfl
  have k3:(c.kq == 3)=false:=by rw [hk];rfl
  have k8:(c.kq == 8)=false:=by rw [hk];rfl
  have k9:(c.kq == 9)=false:=by rw [hk];rfl
  by_cases hx:h.kq=4
  ·have x1:(h.kq != 4)=false:=by rw [hx];rfl
   rw [show chkH h c=chk h.il.length 4 c.i c.j by rw [zco];simp [chkH,hk,hx,worksOn]]
   have HK:=hid (fun W=>zb5 h.il.length 4 c.i c.j c.v A AL AO c.path.length cp cL cO c.key c.s c.n W)
   rw [show ((4:Nat):Int)=c.kq from hk.symm] at HK;clear hk hx hv hT HF;generalize chk h.il.length 4 c.i c.j=r at *;go_enter Tryz.func52,Tryz.ntmps52
   go_wp2_with (go_at_call 83;refine (HK.out _).mono ?_;rintro e w1 ⟨rfl,hb⟩;have H1:=hid (H0.out.step hb);clear hb)
   go_ret
   exact ⟨rfl,H1.out.below⟩
  ·have x1:(h.kq != 4)=true:=by simpa using hx
   rw [za1 (c:=c) (h:=h) (by rw [hk];exact hx)]
   clear hk hx hv hT;go_enter Tryz.func52,Tryz.ntmps52
   go_wp2
   go_ret
   exact ⟨rfl,H0.out.below⟩
 ·have k1:(c.kq == 1)=false:=by rw [hk];rfl
  have k2:(c.kq == 2)=false:=by rw [hk];rfl
  have k3:(c.kq == 3)=false:=by rw [hk];rfl
  have k8:(c.kq == 8)=false:=by rw [hk];rfl
  have k9:(c.kq == 9)=false:=by rw [hk];rfl
  by_cases hx:h.kq=4
  ·have x1:(h.kq != 4)=false:=by rw [hx];rfl
   rw [show chkH h c=chk h.il.length 5 c.i c.j by rw [zco];simp [chkH,hk,hx,worksOn]]
   have HK:=hid (fun W=>zb5 h.il.length 5 c.i c.j c.v A AL AO c.path.length cp cL cO c.key c.s c.n W)
   rw [show ((5:Nat):Int)=c.kq from hk.symm] at HK;clear hk hx hv hT HF;generalize chk h.il.length 5 c.i c.j=r at *;go_enter Tryz.func52,Tryz.ntmps52
   go_wp2_with (go_at_call 83;refine (HK.out _).mono ?_;rintro e w1 ⟨rfl,hb⟩;have H1:=hid (H0.out.step hb);clear hb)
   go_ret
   exact ⟨rfl,H1.out.below⟩
  ·have x1:(h.kq != 4)=true:=by simpa using hx
   rw [za1 (c:=c) (h:=h) (by rw [hk];exact hx)]
   clear hk hx hv hT;go_enter Tryz.func52,Tryz.ntmps52
   go_wp2
   go_ret
   exact ⟨rfl,H0.out.below⟩
 ·have k1:(c.kq == 1)=false:=by rw [hk];rfl
  have k2:(c.kq == 2)=false:=by rw [hk];rfl
  have k3:(c.kq == 3)=false:=by rw [hk];rfl
  have k8:(c.kq == 8)=false:=by rw [hk];rfl
  have k9:(c.kq == 9)=false:=by rw [hk];rfl
  by_cases hx:h.kq=4
  ·have x1:(h.kq != 4)=false:=by rw [hx];rfl
   rw [show chkH h c=chk h.il.length 6 c.i c.j by rw [zco];simp [chkH,hk,hx,worksOn]]
   have HK:=hid (fun W=>zb5 h.il.length 6 c.i c.j c.v A AL AO c.path.length cp cL cO c.key c.s c.n W)
   rw [show ((6:Nat):Int)=c.kq from hk.symm] at HK;clear hk hx hv hT HF;generalize chk h.il.length 6 c.i c.j=r at *;go_enter Tryz.func52,Tryz.ntmps52
   go_wp2_with (go_at_call 83;refine (HK.out _).mono ?_;rintro e w1 ⟨rfl,hb⟩;have H1:=hid (H0.out.step hb);clear hb)
   go_ret
   exact ⟨rfl,H1.out.below⟩
  ·have x1:(h.kq != 4)=true:=by simpa using hx
   rw [za1 (c:=c) (h:=h) (by rw [hk];exact hx)]
   clear hk hx hv hT;go_enter Tryz.func52,Tryz.ntmps52
   go_wp2
   go_ret
   exact ⟨rfl,H0.out.below⟩
 ·have k1:(c.kq == 1)=false:=by rw [hk];rfl
  have k2:(c.kq == 2)=false:=by rw [hk];rfl
  have k3:(c.kq == 3)=false:=by rw [hk];rfl
  have k8:(c.kq == 8)=false:=by rw [hk];rfl
  have k9:(c.kq == 9)=false:=by rw [hk];rfl
  by_cases hx:h.kq=4
  ·have x1:(h.kq != 4)=false:=by rw [hx];rfl
   rw [show chkH h c=chk h.il.length 7 c.i c.j by rw [zco];simp [chkH,hk,hx,worksOn]]
   have HK:=hid (fun W=>zb5 h.il.length 7 c.i c.j c.v A AL AO c.path.length cp cL cO c.key c.s c.n W)
   rw [show ((7:Nat):Int)=c.kq from hk.symm] at HK;clear hk hx hv hT HF;generalize chk h.il.length 7 c.i c.j=r at *;go_enter Tryz.func52,Tryz.ntmps52
   go_wp2_with (go_at_call 83;refine (HK.out _).mono ?_;rintro e w1 ⟨rfl,hb⟩;have H1:=hid (H0.out.step hb);clear hb)
   go_ret
   exact ⟨rfl,H1.out.below⟩
  ·have x1:(h.kq != 4)=true:=by simpa using hx
   rw [za1 (c:=c) (h:=h) (by rw [hk];exact hx)]
   clear hk hx hv hT;go_enter Tryz.func52,Tryz.ntmps52
   go_wp2
   go_ret
   exact ⟨rfl,H0.out.below⟩
 ·have k1:(c.kq == 1)=false:=by rw [hk];rfl
  have k2:(c.kq == 2)=false:=by rw [hk];rfl
  have k3:(c.kq == 3)=false:=by rw [hk];rfl
  have k8:(c.kq == 8)=true:=by rw [hk];rfl
  have k9:(c.kq == 9)=false:=by rw [hk];rfl
  by_cases hx:h.kq=3
  ·have x1:(h.kq != 3)=false:=by rw [hx];rfl
   rw [show chkH h c=chkT (nChars h.str) c.kq.toNat c.i c.n by simp [chkH,hk,hx,worksOn]]
   have HK:=hid (fun W (hb:Below w.heap.size w W)=>zcY h.str c A AL AO cp cL cO W hs (hT.below hb (Nat.le_refl _)) (by omega))
   clear hk hx hv hT HF;generalize chkT (nChars h.str) c.kq.toNat c.i c.n=r at *;go_enter Tryz.func52,Tryz.ntmps52
   go_wp2_with (go_at_call 81;refine (HK.out _ H0.out.below).mono ?_;rintro e w1 ⟨rfl,hb⟩;have H1:=hid (H0.out.step hb);clear hb)
   go_ret
   exact ⟨rfl,H1.out.below⟩
  ·have x1:(h.kq != 3)=true:=by simpa using hx
   rw [za1 (c:=c) (h:=h) (by rw [hk];exact hx)]
   clear hk hx hv hT;go_enter Tryz.func52,Tryz.ntmps52
   go_wp2
   go_ret
   exact ⟨rfl,H0.out.below⟩
 ·have k1:(c.kq == 1)=false:=by rw [hk];rfl
  have k2:(c.kq == 2)=false:=by rw [hk];rfl
  have k3:(c.kq == 3)=false:=by rw [hk];rfl
  have k8:(c.kq == 8)=false:=by rw [hk];rfl
  have k9:(c.kq == 9)=true:=by rw [hk];rfl
  by_cases hx:h.kq=3
  ·have x1:(h.kq != 3)=false:=by rw [hx];rfl
   rw [show chkH h c=chkT (nChars h.str) c.kq.toNat c.i c.n by simp [chkH,hk,hx,worksOn]]
   have HK:=hid (fun W (hb:Below w.heap.size w W)=>zcY h.str c A AL AO cp cL cO W hs (hT.below hb (Nat.le_refl _)) (by omega))
   clear hk hx hv hT HF;generalize chkT (nChars h.str) c.kq.toNat c.i c.n=r at *;go_enter Tryz.func52,Tryz.ntmps52
   go_wp2_with (go_at_call 81;refine (HK.out _ H0.out.below).mono ?_;rintro e w1 ⟨rfl,hb⟩;have H1:=hid (H0.out.step hb);clear hb)
   go_ret
   exact ⟨rfl,H1.out.below⟩
  ·have x1:(h.kq != 3)=true:=by simpa using hx
   rw [za1 (c:=c) (h:=h) (by rw [hk];exact hx)]
   clear hk hx hv hT;go_enter Tryz.func52,Tryz.ntmps52
   go_wp2
   go_ret
   exact ⟨rfl,H0.out.below⟩
theorem zhL (g GL GO eL eO c A AL AO cp cL cO w) (hg:Vl w g GL GO eL eO) (hc:Cc w c A AL AO cp cL cO) (hgw:g.weight<=100000000) (hs:Small c) (hpos:c.v.Pos) (hT:Tabs w):
  Calls Tryz.prog 27 #[.agg #[.int .u8 g.kq,.int .i64 g.num,.string g.str,.slice GL g.il.length eL,.slice GO g.vz.length eO],.agg #[.int .u8 c.kq,.slice A c.path.length cp,.string c.key,.int .i64 c.i,.int .i64 c.j,.int .i64 c.n,.int .u8 c.v.kq,.int .i64 c.v.num,.string c.v.str,.slice AL c.v.il.length cL,.slice AO c.v.vz.length cO,.string c.s]] w fun e w'=>∃ n:Int,e=.returned (.int .i64 n)/\ChkIs g c n/\Below w.heap.size w w':=by
 have H0:=hid (KBx.new w #[.int .u8 g.kq,.int .i64 g.num,.string g.str,.slice GL g.il.length eL,.slice GO g.vz.length eO] #[.int .u8 c.kq,.slice A c.path.length cp,.string c.key,.int .i64 c.i,.int .i64 c.j,.int .i64 c.n,.int .u8 c.v.kq,.int .i64 c.v.num,.string c.v.str,.slice AL c.v.il.length cL,.slice AO c.v.vz.length cO,.string c.s]);have hv:=hs.v;have hk:=hs.k;have hss:=hs.s;have HSO:=hid (fun W (hb:Below w.heap.size w W)=>zdf c A AL AO cp cL cO W (hc.later hb) (by omega) hpos (by omega) (by omega) hs.pk (hT.below hb (Nat.le_refl _)))
 unfold BoolPost at HSO;have HGE:=hid (fun W (hb:Below w.heap.size w W)=>(zgH (fun _=>True) _ g W.heap.size A cp c.path W (hg.later hb).val (hc.path.later hb).steps (Nat.le_refl _) hc.path.le hc.path.cap (Nat.le_trans (zac _) (by omega))))
 unfold RGet at HGE;have HKI:=hid (fun (h:GV) (HL HO:Option Addr) (dL dO:Nat) (hgh:g.get c.path=some h) (hS:c.Sound) W (hb:Below w.heap.size w W) (hvv:Vl W h HL HO dL dO)=>ziY h HL HO dL dO c A AL AO cp cL cO W hvv hS.2.2.2.2.1.1 (by have h1:=zaC c.path g h hgh;have h2:=zaV h;omega) (hT.below hb (Nat.le_refl _)))
 clear hg hc hgw hs hpos hT hv hk hss;obtain ⟨b0,b1,b2,b3,b4,_⟩:=H0.out.x.five;obtain ⟨c0,c1,c2,c3,c4,c5,c6,c7,c8,c9,c10,c11,_⟩:=H0.out.c.tw;by_cases hS:c.Sound
 ·have HS:=hid hS
  clear hS;cases hgp:g.get c.path with
  | none=>
   have HG:=hid hgp;clear hgp;go_enter Tryz.func27,Tryz.ntmps27
   go_wp2_with (first
    | (go_at_call 41;refine (HSO.out _ H0.out.below).mono ?_;rintro e w1 ⟨bb,rfl,hbb,hb⟩;obtain rfl:=hbb.2 HS.out;have H1:=hid (H0.out.step hb);clear hb hbb b0 b1 b2 b3 b4 c0 c1 c2 c3 c4 c5 c6 c7 c8 c9 c10 c11;obtain ⟨b0,b1,b2,b3,b4,_⟩:=H1.out.x.five;obtain ⟨c0,c1,c2,c3,c4,c5,c6,c7,c8,c9,c10,c11,_⟩:=H1.out.c.tw)
    | (go_at_call 39;refine (((HGE.out _ H1.out.below).mono (R':=fun e w'=>e=.returned (.tuple #[.agg #[.int .u8 0,.int .i64 0,.string ⟨#[]⟩,.slice none 0 0,.slice none 0 0],.int .i64 30])/\Below w1.heap.size w1 w') fun e w' ⟨hb,hq⟩=>by
      rcases hq with ⟨_,he⟩ | ⟨h',v',h1,_⟩
      ·exact ⟨he,hb⟩
      ·rw [HG.out] at h1;cases h1)).mono ?_;rintro e w2 ⟨rfl,hb⟩;have H2:=hid (H1.out.step hb);clear hb))
   go_ret
   exact ⟨30,rfl,.inr ⟨HS.out,.inl ⟨HG.out,rfl⟩⟩,H2.out.below.alloc H2.out.below.size _⟩
  | some h=>
   have HG:=hid hgp;clear hgp;go_enter Tryz.func27,Tryz.ntmps27
   go_wp2_with (first
    | (go_at_call 41;refine (HSO.out _ H0.out.below).mono ?_;rintro e w1 ⟨bb,rfl,hbb,hb⟩;obtain rfl:=hbb.2 HS.out;have H1:=hid (H0.out.step hb);clear hb hbb b0 b1 b2 b3 b4 c0 c1 c2 c3 c4 c5 c6 c7 c8 c9 c10 c11;obtain ⟨b0,b1,b2,b3,b4,_⟩:=H1.out.x.five;obtain ⟨c0,c1,c2,c3,c4,c5,c6,c7,c8,c9,c10,c11,_⟩:=H1.out.c.tw)
    | (go_at_call 39;refine (((HGE.out _ H1.out.below).mono (R':=fun e w'=>∃ HL HO dL dO,e=.returned (.tuple #[.agg #[.int .u8 h.kq,.int .i64 h.num,.string h.str,.slice HL h.il.length dL,.slice HO h.vz.length dO],.int .i64 0])/\Vl w' h HL HO dL dO/\Below w1.heap.size w1 w') fun e w' ⟨hb,hq⟩=>by
      rcases hq with ⟨h1,_⟩ | ⟨h',v',h1,he,hv⟩
      ·rw [HG.out] at h1;cases h1
      ·rw [HG.out] at h1;cases h1
       obtain ⟨HL,HO,dL,dO,rfl,hvl⟩:=zlA hv;exact ⟨HL,HO,dL,dO,he,hvl,hb⟩)).mono ?_;rintro e w2 ⟨HL,HO,dL,dO,rfl,hvl,hb⟩;have H2:=hid ((H1.out.step hb).step (zab w2 (.cells #[.int .u8 h.kq,.int .i64 h.num,.string h.str,.slice HL h.il.length dL,.slice HO h.vz.length dO] 29)));have HX:=hid (Bx.new hvl);clear hb hvl b0 b1 b2 b3 b4 c0 c1 c2 c3 c4 c5 c6 c7 c8 c9 c10 c11;obtain ⟨b0,b1,b2,b3,b4⟩:=HX.out.cells;obtain ⟨c0,c1,c2,c3,c4,c5,c6,c7,c8,c9,c10,c11,_⟩:=H2.out.c.tw)
    | (go_at_call 52;refine (HKI.out h HL HO dL dO HG.out HS.out _ H2.out.below HX.out.vl).mono ?_;rintro e w3 ⟨rfl,hb⟩;have H3:=hid (H2.out.step hb);clear hb))
   go_ret
   exact ⟨_,rfl,.inr ⟨HS.out,.inr ⟨h,HG.out,rfl⟩⟩,H3.out.below⟩
 ·have HS:=hid hS
  clear hS;go_enter Tryz.func27,Tryz.ntmps27
  go_wp2_with (go_at_call 41;refine (HSO.out _ H0.out.below).mono ?_;rintro e w1 ⟨bb,rfl,hbb,hb⟩;have hbf:bb=false:=(by cases bb;rfl;exact absurd (hbb.1 rfl) HS.out);subst hbf;have H1:=hid (H0.out.step hb);clear hb hbb)
  go_ret
  exact ⟨60,rfl,.inl ⟨HS.out,rfl⟩,H1.out.below⟩
end Go.Proofs.YthmcfjmignlhfaaGreatDoor
namespace Go.Proofs.YthmcfjmignlhfaaGreatDoor
open Go.Lib(hid)
open Go Go.RowKit Go.Lib
set_option linter.unusedVariables false
set_option linter.unusedSimpArgs false
theorem zdX:∀ cs:List (List UInt8),(∀ u∈cs,IsChar u)->validD cs.flatten=true
 | [],_=>rfl
 | u :: r,h=>by
  have hu:=h u (List.mem_cons_self ..);have hp:=hu.pos;have hne:u++r.flatten≠[]:=by
   intro e;have:=congrArg List.length e;simp only [List.length_append,List.length_nil] at this;omega
  rw [List.flatten_cons,validD_step _ hne,zdk _ hu,if_neg (fun e=>hu.1 (Prod.ext e.1 e.2)),hu.2,List.drop_left]
  exact zdX r (fun v hv=>h v (List.mem_cons_of_mem _ hv))
theorem Reads.valid {s:ByteArray} {cs:List (List UInt8)} (h:Reads s cs):Go.Proofs.YthmcfjmignlhfaaGreatDoor.valid s=true:=by
 unfold Go.Proofs.YthmcfjmignlhfaaGreatDoor.valid;rw [h.1];exact zdX cs h.2
theorem zjv {s t:ByteArray} (i:Nat) (hs:valid s=true) (ht:valid t=true):valid (insS s i t)=true:=by
 obtain ⟨cs,h1⟩:=zfc hs;obtain ⟨ts,h2⟩:=zfc ht;exact (h1.ins h2 i).valid
theorem ziZ {s:ByteArray} (i n:Nat) (hs:valid s=true):valid (delS s i n)=true:=by
 obtain ⟨cs,h1⟩:=zfc hs;exact (h1.del i n).valid
end Go.Proofs.YthmcfjmignlhfaaGreatDoor
namespace Go.Proofs.YthmcfjmignlhfaaGreatDoor
open Go.Lib(hid)
open Go Go.RowKit
set_option linter.unusedVariables false
set_option linter.unusedSimpArgs false
theorem zd2:∀ (a b c:List UInt8),Op.bytesLess a b=true->Op.bytesLess b c=true->Op.bytesLess a c=true
 | _,[],_,h,_=>by simp [Op.bytesLess] at h
 | _,_ :: _,[],_,h=>by simp [Op.bytesLess] at h
 | [],_ :: _,_ :: _,_,_=>by simp [Op.bytesLess]
 | x :: a,y :: b,z :: c,h1,h2=>by
  simp only [Op.bytesLess,Bool.or_eq_true,Bool.and_eq_true,decide_eq_true_eq,beq_iff_eq] at h1 h2 ⊢;rcases h1 with h1 | ⟨rfl,h1⟩
  ·rcases h2 with h2 | ⟨rfl,h2⟩
   ·exact .inl (UInt8.lt_trans h1 h2)
   ·exact .inl h1
  ·rcases h2 with h2 | ⟨rfl,h2⟩
   ·exact .inl h2
   ·exact .inr ⟨rfl,zd2 a b c h1 h2⟩
theorem zhD {a b c:ByteArray} (h1:less' a b=true) (h2:less' b c=true):less' a c=true:=zd2 _ _ _ h1 h2
theorem zla {ks:List ByteArray} {i:Nat} (h:KeysOk ks) (hi:i<ks.length):KeysOk (remL ks i):=by
 intro a k ha hk;have hl:=zjL hi;rw [zfa hi] at hk;by_cases h1:a<i
 ·rw [if_pos h1] at hk
  refine ⟨(h a k (by omega) hk).1,fun j p e hj=>?_⟩
  rw [zfa hi,if_pos (by omega)] at hj
  exact (h a k (by omega) hk).2 j p e hj
 ·rw [if_neg h1] at hk
  have hk2:=(List.getElem?_eq_some_iff.1 hk).1;refine ⟨(h (a+1) k hk2 hk).1,fun j p e hj=>?_⟩
  rw [zfa hi] at hj;by_cases h2:j<i
  ·rw [if_pos h2] at hj
   have hm : ks[a]? = some (ks[a]'(by omega)) := List.getElem?_eq_getElem _
   exact zhD ((h a _ (by omega) hm).2 j p e hj) ((h (a+1) k hk2 hk).2 a _ rfl hm)
  ·rw [if_neg h2] at hj
   exact (h (a+1) k hk2 hk).2 (j+1) p (by omega) hj
theorem zli {key:ByteArray} {ks:List ByteArray} (h:there key ks=false):insK key ks=insL ks (place key ks) key:=by
 unfold insK insL insN;rw [h]
 rfl
theorem zdz {α:Type} {l:List α} {i:Nat} {v x:α} (h:x∈insL l i v):x=v\/x∈l:=by
 unfold insL at h;rcases List.mem_append.1 h with h | h
 ·exact .inr (List.mem_of_mem_take h)
 ·rcases List.mem_cons.1 h with h | h
  ·exact .inl h
  ·exact .inr (List.mem_of_mem_drop h)
theorem zdv {α:Type} {l:List α} {i:Nat} {x:α} (h:x∈remL l i):x∈l:=by
 unfold remL at h;rcases List.mem_append.1 h with h | h
 ·exact List.mem_of_mem_take h
 ·exact List.mem_of_mem_drop h
theorem zkV {l:List GV} {c:Cm GV} {x:GV} (h:x∈doL l c):x=c.v\/x∈l:=by
 unfold doL at h;split at h
 ·exact zdz h
 ·split at h
  ·exact .inr (zdv h)
  ·split at h
   ·rcases zdz h with h | h
    ·exact .inl h
    ·exact .inr (zdv h)
   ·split at h
    ·rename_i y hy
     rcases zdz h with h | h
     ·subst h;exact .inr (List.mem_of_getElem? hy)
     ·exact .inr (zdv h)
    ·exact .inr h
theorem zcu {h:GV} {c:GC} (e:chkH h c=0):h.kq=worksOn c.kq:=by
 unfold chkH at e;by_cases hk:h.kq=worksOn c.kq
 ·exact hk
 ·rw [if_pos hk] at e
  cases e
theorem zf1 {h:GV} {c:GC} (e:chkH h c=0) (h3:c.kq=3):there c.key h.keys=true:=by
 have hw:worksOn c.kq=5:=by rw [h3];decide
 have hk:h.kq=5:=(zcu e).trans hw;unfold chkH at e;rw [if_neg (fun hn=>hn (hk.trans hw.symm)),if_neg (by omega),if_neg (by omega)] at e
 by_cases ht:there c.key h.keys=true
 ·exact ht
 ·rw [if_pos ⟨h3,by simpa using ht⟩] at e
  cases e
theorem zju {h:GV} {c:GC} (h2:c.kq=2) (ht:there c.key h.keys=true):doH h c=.mk h.kq h.num h.str h.il h.keys (h.vz.set (place c.key h.keys) c.v):=by
 unfold doH;rw [if_neg (by omega),if_pos h2,if_pos ht]
theorem zk2 {h:GV} {c:GC} (h2:c.kq=2) (ht:¬ there c.key h.keys=true):doH h c=.mk h.kq h.num h.str h.il (insL h.keys (place c.key h.keys) c.key) (insL h.vz (place c.key h.keys) c.v):=by
 unfold doH;rw [if_neg (by omega),if_pos h2,if_neg ht]
theorem zjk {h:GV} {c:GC} (hh:h.Sound) (hc:c.Sound) (e:chkH h c=0):(doH h c).Sound:=by
 have hk:=zcu e;have hdel:=zf1 e;obtain ⟨_,_,hkey,_,⟨⟨hk1,hk9⟩,_,hs8,_⟩,hv⟩:=hc;have hvs:=hv.1;cases h with
 | mk k n z l ks ov=>
  simp only [GV.Sound] at hh;obtain ⟨⟨p1,p2,p3,p4,p5⟩,hl,ho⟩:=hh;rw [zap] at hl ho;simp only [GV.kq,GV.keys] at hk hdel;unfold worksOn at hk;by_cases h2:c.kq=2
  ·rw [if_neg (by omega),if_pos (.inl h2)] at hk
   have hko:KeysOk ks:=by
    rcases p5 with p | p
    ·exact p.2
    ·exact absurd hk p.1
   by_cases ht:there c.key ks=true
   ·rw [zju (h:=.mk k n z l ks ov) h2 ht]
    simp only [GV.kq,GV.num,GV.str,GV.il,GV.keys,GV.vz,GV.Sound];rw [zap,zap];refine ⟨⟨p1,p2,p3,p4,.inl ⟨hk,hko⟩⟩,hl,fun x hx=>?_⟩
    rcases List.mem_or_eq_of_mem_set hx with hx | hx
    ·exact ho x hx
    ·subst hx;exact hvs
   ·rw [zk2 (h:=.mk k n z l ks ov) h2 ht]
    simp only [GV.kq,GV.num,GV.str,GV.il,GV.keys,GV.vz,GV.Sound];rw [zap,zap];refine ⟨⟨p1,p2,p3,p4,.inl ⟨hk,by rw [<- zli (by simpa using ht)];exact zjo hko hkey⟩⟩,hl,fun x hx=>?_⟩
    rcases zdz hx with hx | hx
    ·subst hx;exact hvs
    ·exact ho x hx
  unfold doH;rw [if_neg h2];by_cases h1:c.kq=1
  ·rw [if_pos h1] at hk ⊢
   simp only [GV.kq,GV.num,GV.str,GV.il,GV.keys,GV.vz,GV.Sound];rw [zap,zap];exact ⟨⟨p1,.inl hk,p3,p4,p5⟩,hl,ho⟩
  rw [if_neg h1] at hk ⊢;simp only [GV.kq,GV.num,GV.str,GV.il,GV.keys,GV.vz];by_cases h3:c.kq=3
  ·rw [if_pos (.inr h3)] at hk
   have hko:KeysOk ks:=by
    rcases p5 with p | p
    ·exact p.2
    ·exact absurd hk p.1
   rw [if_pos h3];simp only [GV.Sound];rw [zap,zap];exact ⟨⟨p1,p2,p3,p4,.inl ⟨hk,zla hko (zcv (hdel h3))⟩⟩,hl,fun x hx=>ho x (zdv hx)⟩
  rw [if_neg h3];rw [if_neg (by omega)] at hk
  by_cases h8:c.kq=8
  ·rw [if_pos (.inl h8)] at hk
   rw [if_pos h8];simp only [GV.Sound];rw [zap,zap];refine ⟨⟨p1,p2,.inl ⟨hk,zjv _ ?_ (hs8 h8).2⟩,p4,p5⟩,hl,ho⟩
   rcases p3 with p | p
   ·exact p.2
   ·exact absurd hk p.1
  rw [if_neg h8];by_cases h9:c.kq=9
  ·rw [if_pos (.inr h9)] at hk
   rw [if_pos h9];simp only [GV.Sound];rw [zap,zap];refine ⟨⟨p1,p2,.inl ⟨hk,ziZ _ _ ?_⟩,p4,p5⟩,hl,ho⟩
   rcases p3 with p | p
   ·exact p.2
   ·exact absurd hk p.1
  rw [if_neg h9];rw [if_neg (by omega)] at hk
  simp only [GV.Sound];rw [zap,zap];refine ⟨⟨p1,p2,p3,.inl hk,p5⟩,fun x hx=>?_,ho⟩
  rcases zkV hx with hx | hx
  ·subst hx;exact hvs
  ·exact hl x hx
end Go.Proofs.YthmcfjmignlhfaaGreatDoor
