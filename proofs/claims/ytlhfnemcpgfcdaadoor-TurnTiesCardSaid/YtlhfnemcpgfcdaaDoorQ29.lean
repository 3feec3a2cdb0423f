/- The document's own kinds and Check of a component. -/
import Derived.Test.YtlhfnemcpgfcdaaDoorQ23
import Derived.Test.YtlhfnemcpgfcdaaDoorQ24
import Derived.Test.YtlhfnemcpgfcdaaDoorQ28
import Derived.Test.YtlhfnemcpgfcdaaDoorQ21
import Derived.Test.YtlhfnemcpgfcdaaDoorQ19
import Derived.Test.YtlhfnemcpgfcdaaDoorQ20
set_option maxRecDepth 100000
set_option maxHeartbeats 40000000
namespace Go.Proofs.YtlhfnemcpgfcdaaDoor
open Go Go.RowKit Go.Shelf
set_option linter.unusedVariables false
set_option linter.unusedSimpArgs false
structure KBx (w W:World) (cx cc:Array Value):Prop where
 x:Whole W w.heap.size 31 cx
 c:Whole W (w.heap.size+1) 36 cc
 below:Below w.heap.size w W
theorem KBx.new (w:World) (cx cc:Array Value):KBx w ((w.alloc (.cells cx 31)).alloc (.cells cc 36)) cx cc:=by
 have h1:=Whole.new (w.alloc (.cells cx 31)) 36 cc
 rw [World.size_alloc] at h1
 exact ⟨(Whole.new w _ _).alloc _,h1,((Below.refl _ w).alloc (Nat.le_refl _) _).alloc (by simp) _⟩
theorem KBx.step {w W W':World} {cx cc:Array Value} (h:KBx w W cx cc) (hb:Below W.heap.size W W'):KBx w W' cx cc:=
 ⟨h.x.below hb h.x.lt,h.c.below hb h.c.lt,h.below.trans (hb.mono h.below.size)⟩
theorem chkH_works {h:GV} {c:GC} (e:h.kind≠worksOn c.kind):chkH h c=31:=by simp [chkH,e]
theorem ref_kinds (h:GV) (HL HO:Option Addr) (dL dO:Nat) (c:GC) (A AL AO:Option Addr) (cp cL cO:Nat) (w:World) (hv:Vl w h HL HO dL dO) (hk:1≤c.kind∧c.kind≤9) (hs:h.str.size≤1000000000) (hT:Tabs w):
  Calls Tryd.prog 33 #[.agg #[.int .u8 h.kind,.int .i64 h.num,.string h.str,.slice HL h.items.length dL,.slice HO h.vals.length dO],.agg #[.int .u8 c.kind,.slice A c.path.length cp,.string c.key,.int .i64 c.i,.int .i64 c.j,.int .i64 c.n,.int .u8 c.v.kind,.int .i64 c.v.num,.string c.v.str,.slice AL c.v.items.length cL,.slice AO c.v.vals.length cO,.string c.s]] w fun e w'=>e=.returned (.int .i64 (chkH h c))∧Below w.heap.size w w':=by
 have H0:=Lib.hid (KBx.new w #[.int .u8 h.kind,.int .i64 h.num,.string h.str,.slice HL h.items.length dL,.slice HO h.vals.length dO] #[.int .u8 c.kind,.slice A c.path.length cp,.string c.key,.int .i64 c.i,.int .i64 c.j,.int .i64 c.n,.int .u8 c.v.kind,.int .i64 c.v.num,.string c.v.str,.slice AL c.v.items.length cL,.slice AO c.v.vals.length cO,.string c.s])
 have HF:=Lib.hid (fun W (hb:Below w.heap.size w W)=>ref_Field (fun _=>True) _ h c.key W (hv.later hb).val)
 unfold FieldPost at HF
 obtain ⟨b0,b1,b2,b3,b4,_⟩:=H0.out.x.five
 obtain ⟨c0,c1,c2,c3,c4,c5,c6,c7,c8,c9,c10,c11,_⟩:=H0.out.c.tw
 rcases (show c.kind=1∨c.kind=2∨c.kind=3∨c.kind=4∨c.kind=5∨c.kind=6∨c.kind=7∨c.kind=8∨c.kind=9 by omega) with hk | hk | hk | hk | hk | hk | hk | hk | hk
 ·have k1:(c.kind == 1)=true:=by rw [hk];rfl
  have k2:(c.kind == 2)=false:=by rw [hk];rfl
  have k3:(c.kind == 3)=false:=by rw [hk];rfl
  have k8:(c.kind == 8)=false:=by rw [hk];rfl
  have k9:(c.kind == 9)=false:=by rw [hk];rfl
  by_cases hx:h.kind=2
  ·have x1:(h.kind != 2)=false:=by rw [hx];rfl
   rw [show chkH h c=0 by simp [chkH,hk,hx,worksOn]]
   clear hk hx hv hT HF
   go_enter Tryd.func33,Tryd.ntmps33
   go_wp2
   go_ret
   exact ⟨rfl,H0.out.below⟩
  ·have x1:(h.kind != 2)=true:=by simpa using hx
   rw [chkH_works (c:=c) (h:=h) (by rw [hk];exact hx)]
   clear hk hx hv hT
   go_enter Tryd.func33,Tryd.ntmps33
   go_wp2
   go_ret
   exact ⟨rfl,H0.out.below⟩
 ·have k1:(c.kind == 1)=false:=by rw [hk];rfl
  have k2:(c.kind == 2)=true:=by rw [hk];rfl
  have k3:(c.kind == 3)=false:=by rw [hk];rfl
  have k8:(c.kind == 8)=false:=by rw [hk];rfl
  have k9:(c.kind == 9)=false:=by rw [hk];rfl
  by_cases hx:h.kind=5
  ·have x1:(h.kind != 5)=false:=by rw [hx];rfl
   rw [show chkH h c=0 by simp [chkH,hk,hx,worksOn]]
   clear hk hx hv hT
   generalize there c.key h.keys=t at *
   go_enter Tryd.func33,Tryd.ntmps33
   go_wp2_with (go_at_call 14;refine (HF.out _ H0.out.below).mono ?_;rintro e w1 ⟨rfl,hb⟩;have H1:=Lib.hid (H0.out.step hb);clear hb b0 b1 b2 b3 b4 c0 c1 c2 c3 c4 c5 c6 c7 c8 c9 c10 c11;obtain ⟨b0,b1,b2,b3,b4,_⟩:=H1.out.x.five;obtain ⟨c0,c1,c2,c3,c4,c5,c6,c7,c8,c9,c10,c11,_⟩:=H1.out.c.tw)
   go_ret
   exact ⟨rfl,H1.out.below⟩
  ·have x1:(h.kind != 5)=true:=by simpa using hx
   rw [chkH_works (c:=c) (h:=h) (by rw [hk];exact hx)]
   clear hk hx hv hT
   go_enter Tryd.func33,Tryd.ntmps33
   go_wp2_with (go_at_call 14;refine (HF.out _ H0.out.below).mono ?_;rintro e w1 ⟨rfl,hb⟩;have H1:=Lib.hid (H0.out.step hb);clear hb b0 b1 b2 b3 b4 c0 c1 c2 c3 c4 c5 c6 c7 c8 c9 c10 c11;obtain ⟨b0,b1,b2,b3,b4,_⟩:=H1.out.x.five;obtain ⟨c0,c1,c2,c3,c4,c5,c6,c7,c8,c9,c10,c11,_⟩:=H1.out.c.tw)
   go_ret
   exact ⟨rfl,H1.out.below⟩
 ·have k1:(c.kind == 1)=false:=by rw [hk];rfl
  have k2:(c.kind == 2)=false:=by rw [hk];rfl
  have k3:(c.kind == 3)=true:=by rw [hk];rfl
  have k8:(c.kind == 8)=false:=by rw [hk];rfl
  have k9:(c.kind == 9)=false:=by rw [hk];rfl
  by_cases hx:h.kind=5
  ·have x1:(h.kind != 5)=false:=by rw [hx];rfl
   rw [show chkH h c=if there c.key h.keys=false then 33 else 0 by simp [chkH,hk,hx,worksOn]]
   clear hk hx hv hT
   generalize there c.key h.keys=t at *
   cases t
   ·go_enter Tryd.func33,Tryd.ntmps33
    go_wp2_with (go_at_call 14;refine (HF.out _ H0.out.below).mono ?_;rintro e w1 ⟨rfl,hb⟩;have H1:=Lib.hid (H0.out.step hb);clear hb b0 b1 b2 b3 b4 c0 c1 c2 c3 c4 c5 c6 c7 c8 c9 c10 c11;obtain ⟨b0,b1,b2,b3,b4,_⟩:=H1.out.x.five;obtain ⟨c0,c1,c2,c3,c4,c5,c6,c7,c8,c9,c10,c11,_⟩:=H1.out.c.tw)
    go_ret
    exact ⟨rfl,H1.out.below⟩
   ·go_enter Tryd.func33,Tryd.ntmps33
    go_wp2_with (go_at_call 14;refine (HF.out _ H0.out.below).mono ?_;rintro e w1 ⟨rfl,hb⟩;have H1:=Lib.hid (H0.out.step hb);clear hb b0 b1 b2 b3 b4 c0 c1 c2 c3 c4 c5 c6 c7 c8 c9 c10 c11;obtain ⟨b0,b1,b2,b3,b4,_⟩:=H1.out.x.five;obtain ⟨c0,c1,c2,c3,c4,c5,c6,c7,c8,c9,c10,c11,_⟩:=H1.out.c.tw)
    go_ret
    exact ⟨rfl,H1.out.below⟩
  ·have x1:(h.kind != 5)=true:=by simpa using hx
   rw [chkH_works (c:=c) (h:=h) (by rw [hk];exact hx)]
   clear hk hx hv hT
   go_enter Tryd.func33,Tryd.ntmps33
   go_wp2_with (go_at_call 14;refine (HF.out _ H0.out.below).mono ?_;rintro e w1 ⟨rfl,hb⟩;have H1:=Lib.hid (H0.out.step hb);clear hb b0 b1 b2 b3 b4 c0 c1 c2 c3 c4 c5 c6 c7 c8 c9 c10 c11;obtain ⟨b0,b1,b2,b3,b4,_⟩:=H1.out.x.five;obtain ⟨c0,c1,c2,c3,c4,c5,c6,c7,c8,c9,c10,c11,_⟩:=H1.out.c.tw)
   go_ret
   exact ⟨rfl,H1.out.below⟩
 ·have k1:(c.kind == 1)=false:=by rw [hk];rfl
  have k2:(c.kind == 2)=false:=by rw [hk];rfl
  have k3:(c.kind == 3)=false:=by rw [hk];rfl
  have k8:(c.kind == 8)=false:=by rw [hk];rfl
  have k9:(c.kind == 9)=false:=by rw [hk];rfl
  by_cases hx:h.kind=4
  ·have x1:(h.kind != 4)=false:=by rw [hx];rfl
   rw [show chkH h c=chk h.items.length 4 c.i c.j by rw [chk_chkL];simp [chkH,hk,hx,worksOn]]
   have HK:=Lib.hid (fun W=>gcheck_any h.items.length 4 c.i c.j c.v A AL AO c.path.length cp cL cO c.key c.s c.n W)
   rw [show ((4:Nat):Int)=c.kind from hk.symm] at HK
   clear hk hx hv hT HF
   generalize chk h.items.length 4 c.i c.j=r at *
   go_enter Tryd.func33,Tryd.ntmps33
   go_wp2_with (go_at_call 38;refine (HK.out _).mono ?_;rintro e w1 ⟨rfl,hb⟩;have H1:=Lib.hid (H0.out.step hb);clear hb)
   go_ret
   exact ⟨rfl,H1.out.below⟩
  ·have x1:(h.kind != 4)=true:=by simpa using hx
   rw [chkH_works (c:=c) (h:=h) (by rw [hk];exact hx)]
   clear hk hx hv hT
   go_enter Tryd.func33,Tryd.ntmps33
   go_wp2
   go_ret
   exact ⟨rfl,H0.out.below⟩
 ·have k1:(c.kind == 1)=false:=by rw [hk];rfl
  have k2:(c.kind == 2)=false:=by rw [hk];rfl
  have k3:(c.kind == 3)=false:=by rw [hk];rfl
  have k8:(c.kind == 8)=false:=by rw [hk];rfl
  have k9:(c.kind == 9)=false:=by rw [hk];rfl
  by_cases hx:h.kind=4
  ·have x1:(h.kind != 4)=false:=by rw [hx];rfl
   rw [show chkH h c=chk h.items.length 5 c.i c.j by rw [chk_chkL];simp [chkH,hk,hx,worksOn]]
   have HK:=Lib.hid (fun W=>gcheck_any h.items.length 5 c.i c.j c.v A AL AO c.path.length cp cL cO c.key c.s c.n W)
   rw [show ((5:Nat):Int)=c.kind from hk.symm] at HK
   clear hk hx hv hT HF
   generalize chk h.items.length 5 c.i c.j=r at *
   go_enter Tryd.func33,Tryd.ntmps33
   go_wp2_with (go_at_call 38;refine (HK.out _).mono ?_;rintro e w1 ⟨rfl,hb⟩;have H1:=Lib.hid (H0.out.step hb);clear hb)
   go_ret
   exact ⟨rfl,H1.out.below⟩
  ·have x1:(h.kind != 4)=true:=by simpa using hx
   rw [chkH_works (c:=c) (h:=h) (by rw [hk];exact hx)]
   clear hk hx hv hT
   go_enter Tryd.func33,Tryd.ntmps33
   go_wp2
   go_ret
   exact ⟨rfl,H0.out.below⟩
 ·have k1:(c.kind == 1)=false:=by rw [hk];rfl
  have k2:(c.kind == 2)=false:=by rw [hk];rfl
  have k3:(c.kind == 3)=false:=by rw [hk];rfl
  have k8:(c.kind == 8)=false:=by rw [hk];rfl
  have k9:(c.kind == 9)=false:=by rw [hk];rfl
  by_cases hx:h.kind=4
  ·have x1:(h.kind != 4)=false:=by rw [hx];rfl
   rw [show chkH h c=chk h.items.length 6 c.i c.j by rw [chk_chkL];simp [chkH,hk,hx,worksOn]]
   have HK:=Lib.hid (fun W=>gcheck_any h.items.length 6 c.i c.j c.v A AL AO c.path.length cp cL cO c.key c.s c.n W)
   rw [show ((6:Nat):Int)=c.kind from hk.symm] at HK
   clear hk hx hv hT HF
   generalize chk h.items.length 6 c.i c.j=r at *
   go_enter Tryd.func33,Tryd.ntmps33
   go_wp2_with (go_at_call 38;refine (HK.out _).mono ?_;rintro e w1 ⟨rfl,hb⟩;have H1:=Lib.hid (H0.out.step hb);clear hb)
   go_ret
   exact ⟨rfl,H1.out.below⟩
  ·have x1:(h.kind != 4)=true:=by simpa using hx
   rw [chkH_works (c:=c) (h:=h) (by rw [hk];exact hx)]
   clear hk hx hv hT
   go_enter Tryd.func33,Tryd.ntmps33
   go_wp2
   go_ret
   exact ⟨rfl,H0.out.below⟩
 ·have k1:(c.kind == 1)=false:=by rw [hk];rfl
  have k2:(c.kind == 2)=false:=by rw [hk];rfl
  have k3:(c.kind == 3)=false:=by rw [hk];rfl
  have k8:(c.kind == 8)=false:=by rw [hk];rfl
  have k9:(c.kind == 9)=false:=by rw [hk];rfl
  by_cases hx:h.kind=4
  ·have x1:(h.kind != 4)=false:=by rw [hx];rfl
   rw [show chkH h c=chk h.items.length 7 c.i c.j by rw [chk_chkL];simp [chkH,hk,hx,worksOn]]
   have HK:=Lib.hid (fun W=>gcheck_any h.items.length 7 c.i c.j c.v A AL AO c.path.length cp cL cO c.key c.s c.n W)
   rw [show ((7:Nat):Int)=c.kind from hk.symm] at HK
   clear hk hx hv hT HF
   generalize chk h.items.length 7 c.i c.j=r at *
   go_enter Tryd.func33,Tryd.ntmps33
   go_wp2_with (go_at_call 38;refine (HK.out _).mono ?_;rintro e w1 ⟨rfl,hb⟩;have H1:=Lib.hid (H0.out.step hb);clear hb)
   go_ret
   exact ⟨rfl,H1.out.below⟩
  ·have x1:(h.kind != 4)=true:=by simpa using hx
   rw [chkH_works (c:=c) (h:=h) (by rw [hk];exact hx)]
   clear hk hx hv hT
   go_enter Tryd.func33,Tryd.ntmps33
   go_wp2
   go_ret
   exact ⟨rfl,H0.out.below⟩
 ·have k1:(c.kind == 1)=false:=by rw [hk];rfl
  have k2:(c.kind == 2)=false:=by rw [hk];rfl
  have k3:(c.kind == 3)=false:=by rw [hk];rfl
  have k8:(c.kind == 8)=true:=by rw [hk];rfl
  have k9:(c.kind == 9)=false:=by rw [hk];rfl
  by_cases hx:h.kind=3
  ·have x1:(h.kind != 3)=false:=by rw [hx];rfl
   rw [show chkH h c=chkT (nChars h.str) c.kind.toNat c.i c.n by simp [chkH,hk,hx,worksOn]]
   have HK:=Lib.hid (fun W (hb:Below w.heap.size w W)=>ref_CheckT h.str c A AL AO cp cL cO W hs (hT.below hb (Nat.le_refl _)) (by omega))
   clear hk hx hv hT HF
   generalize chkT (nChars h.str) c.kind.toNat c.i c.n=r at *
   go_enter Tryd.func33,Tryd.ntmps33
   go_wp2_with (go_at_call 36;refine (HK.out _ H0.out.below).mono ?_;rintro e w1 ⟨rfl,hb⟩;have H1:=Lib.hid (H0.out.step hb);clear hb)
   go_ret
   exact ⟨rfl,H1.out.below⟩
  ·have x1:(h.kind != 3)=true:=by simpa using hx
   rw [chkH_works (c:=c) (h:=h) (by rw [hk];exact hx)]
   clear hk hx hv hT
   go_enter Tryd.func33,Tryd.ntmps33
   go_wp2
   go_ret
   exact ⟨rfl,H0.out.below⟩
 ·have k1:(c.kind == 1)=false:=by rw [hk];rfl
  have k2:(c.kind == 2)=false:=by rw [hk];rfl
  have k3:(c.kind == 3)=false:=by rw [hk];rfl
  have k8:(c.kind == 8)=false:=by rw [hk];rfl
  have k9:(c.kind == 9)=true:=by rw [hk];rfl
  by_cases hx:h.kind=3
  ·have x1:(h.kind != 3)=false:=by rw [hx];rfl
   rw [show chkH h c=chkT (nChars h.str) c.kind.toNat c.i c.n by simp [chkH,hk,hx,worksOn]]
   have HK:=Lib.hid (fun W (hb:Below w.heap.size w W)=>ref_CheckT h.str c A AL AO cp cL cO W hs (hT.below hb (Nat.le_refl _)) (by omega))
   clear hk hx hv hT HF
   generalize chkT (nChars h.str) c.kind.toNat c.i c.n=r at *
   go_enter Tryd.func33,Tryd.ntmps33
   go_wp2_with (go_at_call 36;refine (HK.out _ H0.out.below).mono ?_;rintro e w1 ⟨rfl,hb⟩;have H1:=Lib.hid (H0.out.step hb);clear hb)
   go_ret
   exact ⟨rfl,H1.out.below⟩
  ·have x1:(h.kind != 3)=true:=by simpa using hx
   rw [chkH_works (c:=c) (h:=h) (by rw [hk];exact hx)]
   clear hk hx hv hT
   go_enter Tryd.func33,Tryd.ntmps33
   go_wp2
   go_ret
   exact ⟨rfl,H0.out.below⟩
theorem ref_CheckC (g:GV) (GL GO:Option Addr) (eL eO:Nat) (c:GC) (A AL AO:Option Addr) (cp cL cO:Nat) (w:World) (hg:Vl w g GL GO eL eO) (hc:Cc w c A AL AO cp cL cO) (hgw:g.weight≤100000000) (hs:Small c) (hpos:c.v.Pos) (hT:Tabs w):
  Calls Tryd.prog 19 #[.agg #[.int .u8 g.kind,.int .i64 g.num,.string g.str,.slice GL g.items.length eL,.slice GO g.vals.length eO],.agg #[.int .u8 c.kind,.slice A c.path.length cp,.string c.key,.int .i64 c.i,.int .i64 c.j,.int .i64 c.n,.int .u8 c.v.kind,.int .i64 c.v.num,.string c.v.str,.slice AL c.v.items.length cL,.slice AO c.v.vals.length cO,.string c.s]] w fun e w'=>∃ n:Int,e=.returned (.int .i64 n)∧ChkIs g c n∧Below w.heap.size w w':=by
 have H0:=Lib.hid (KBx.new w #[.int .u8 g.kind,.int .i64 g.num,.string g.str,.slice GL g.items.length eL,.slice GO g.vals.length eO] #[.int .u8 c.kind,.slice A c.path.length cp,.string c.key,.int .i64 c.i,.int .i64 c.j,.int .i64 c.n,.int .u8 c.v.kind,.int .i64 c.v.num,.string c.v.str,.slice AL c.v.items.length cL,.slice AO c.v.vals.length cO,.string c.s])
 have hv:=hs.v
 have hk:=hs.k
 have hss:=hs.s
 have HSO:=Lib.hid (fun W (hb:Below w.heap.size w W)=>ref_SoundC c A AL AO cp cL cO W (hc.later hb) (by omega) hpos (by omega) (by omega) hs.pk (hT.below hb (Nat.le_refl _)))
 unfold BoolPost at HSO
 have HGE:=Lib.hid (fun W (hb:Below w.heap.size w W)=>(ref_Get (fun _=>True) _ g W.heap.size A cp c.path W (hg.later hb).val (hc.path.later hb).steps (Nat.le_refl _) hc.path.le hc.path.cap (Nat.le_trans (size_le_weight _) (by omega))))
 unfold RGet at HGE
 have HKI:=Lib.hid (fun (h:GV) (HL HO:Option Addr) (dL dO:Nat) (hgh:g.get c.path=some h) (hS:c.Sound) W (hb:Below w.heap.size w W) (hvv:Vl W h HL HO dL dO)=>ref_kinds h HL HO dL dO c A AL AO cp cL cO W hvv hS.2.2.2.2.1.1 (by have h1:=get_weight c.path g h hgh;have h2:=weight_is h;omega) (hT.below hb (Nat.le_refl _)))
 clear hg hc hgw hs hpos hT hv hk hss
 obtain ⟨b0,b1,b2,b3,b4,_⟩:=H0.out.x.five
 obtain ⟨c0,c1,c2,c3,c4,c5,c6,c7,c8,c9,c10,c11,_⟩:=H0.out.c.tw
 by_cases hS:c.Sound
 ·have HS:=Lib.hid hS
  clear hS
  cases hgp:g.get c.path with
  | none=>
   have HG:=Lib.hid hgp
   clear hgp
   go_enter Tryd.func19,Tryd.ntmps19
   go_wp2_with (first
    | (go_at_call 32;refine (HSO.out _ H0.out.below).mono ?_;rintro e w1 ⟨bb,rfl,hbb,hb⟩;obtain rfl:=hbb.2 HS.out;have H1:=Lib.hid (H0.out.step hb);clear hb hbb b0 b1 b2 b3 b4 c0 c1 c2 c3 c4 c5 c6 c7 c8 c9 c10 c11;obtain ⟨b0,b1,b2,b3,b4,_⟩:=H1.out.x.five;obtain ⟨c0,c1,c2,c3,c4,c5,c6,c7,c8,c9,c10,c11,_⟩:=H1.out.c.tw)
    | (go_at_call 20;refine (((HGE.out _ H1.out.below).mono (R':=fun e w'=>e=.returned (.tuple #[.agg #[.int .u8 0,.int .i64 0,.string ⟨#[]⟩,.slice none 0 0,.slice none 0 0],.int .i64 30])∧Below w1.heap.size w1 w') fun e w' ⟨hb,hq⟩=>by
      rcases hq with ⟨_,he⟩ | ⟨h',v',h1,_⟩
      ·exact ⟨he,hb⟩
      ·rw [HG.out] at h1;cases h1)).mono ?_;rintro e w2 ⟨rfl,hb⟩;have H2:=Lib.hid (H1.out.step hb);clear hb))
   go_ret
   exact ⟨30,rfl,.inr ⟨HS.out,.inl ⟨HG.out,rfl⟩⟩,H2.out.below.alloc H2.out.below.size _⟩
  | some h=>
   have HG:=Lib.hid hgp
   clear hgp
   go_enter Tryd.func19,Tryd.ntmps19
   go_wp2_with (first
    | (go_at_call 32;refine (HSO.out _ H0.out.below).mono ?_;rintro e w1 ⟨bb,rfl,hbb,hb⟩;obtain rfl:=hbb.2 HS.out;have H1:=Lib.hid (H0.out.step hb);clear hb hbb b0 b1 b2 b3 b4 c0 c1 c2 c3 c4 c5 c6 c7 c8 c9 c10 c11;obtain ⟨b0,b1,b2,b3,b4,_⟩:=H1.out.x.five;obtain ⟨c0,c1,c2,c3,c4,c5,c6,c7,c8,c9,c10,c11,_⟩:=H1.out.c.tw)
    | (go_at_call 20;refine (((HGE.out _ H1.out.below).mono (R':=fun e w'=>∃ HL HO dL dO,e=.returned (.tuple #[.agg #[.int .u8 h.kind,.int .i64 h.num,.string h.str,.slice HL h.items.length dL,.slice HO h.vals.length dO],.int .i64 0])∧Vl w' h HL HO dL dO∧Below w1.heap.size w1 w') fun e w' ⟨hb,hq⟩=>by
      rcases hq with ⟨h1,_⟩ | ⟨h',v',h1,he,hv⟩
      ·rw [HG.out] at h1;cases h1
      ·rw [HG.out] at h1;cases h1
       obtain ⟨HL,HO,dL,dO,rfl,hvl⟩:=vl_of hv
       exact ⟨HL,HO,dL,dO,he,hvl,hb⟩)).mono ?_;rintro e w2 ⟨HL,HO,dL,dO,rfl,hvl,hb⟩;have H2:=Lib.hid ((H1.out.step hb).step (below_alloc w2 (.cells #[.int .u8 h.kind,.int .i64 h.num,.string h.str,.slice HL h.items.length dL,.slice HO h.vals.length dO] 31)));have HX:=Lib.hid (Bx.new hvl);clear hb hvl b0 b1 b2 b3 b4 c0 c1 c2 c3 c4 c5 c6 c7 c8 c9 c10 c11;obtain ⟨b0,b1,b2,b3,b4⟩:=HX.out.cells;obtain ⟨c0,c1,c2,c3,c4,c5,c6,c7,c8,c9,c10,c11,_⟩:=H2.out.c.tw)
    | (go_at_call 33;refine (HKI.out h HL HO dL dO HG.out HS.out _ H2.out.below HX.out.vl).mono ?_;rintro e w3 ⟨rfl,hb⟩;have H3:=Lib.hid (H2.out.step hb);clear hb))
   go_ret
   exact ⟨_,rfl,.inr ⟨HS.out,.inr ⟨h,HG.out,rfl⟩⟩,H3.out.below⟩
 ·have HS:=Lib.hid hS
  clear hS
  go_enter Tryd.func19,Tryd.ntmps19
  go_wp2_with (go_at_call 32;refine (HSO.out _ H0.out.below).mono ?_;rintro e w1 ⟨bb,rfl,hbb,hb⟩;have hbf:bb=false:=(by cases bb;rfl;exact absurd (hbb.1 rfl) HS.out);subst hbf;have H1:=Lib.hid (H0.out.step hb);clear hb hbb)
  go_ret
  exact ⟨60,rfl,.inl ⟨HS.out,rfl⟩,H1.out.below⟩
end Go.Proofs.YtlhfnemcpgfcdaaDoor
