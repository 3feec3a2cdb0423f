/- Texts in one: CompV, CompW, CompX, CompY, InvC, CompR. -/
import Derived.Test.YtmmgdkpkcoopgaaGreatDoorP15
import Derived.Test.YtmmgdkpkcoopgaaGreatDoorP13
import Derived.BigQuiet
import Derived.Deep.QuietTactic
import Derived.Test.YtmmgdkpkcoopgaaGreatDoorP5
import Derived.Test.YtmmgdkpkcoopgaaGreatDoorP9
import Derived.Test.YtmmgdkpkcoopgaaGreatDoorP14
import Derived.Laws.BytesArg
set_option maxRecDepth 100000
set_option maxHeartbeats 8000000
namespace Go.Proofs.YtmmgdkpkcoopgaaGreatDoor
open Go.Lib(hid)
open Go Go.RowKit
open Go.Sort (grow)
set_option linter.unusedVariables false
set_option linter.unusedSimpArgs false
theorem zi6 (k:Int) (hk:1<=k/\k<=9) (w:World):Calls Tryz.prog 88 #[.int .u8 k] w fun e w'=>e=.returned (.int .u8 (worksOn k))/\w'=w:=by
 obtain ⟨h1,h9⟩:=hk;rcases (show k=1\/k=2\/k=3\/k=4\/k=5\/k=6\/k=7\/k=8\/k=9 by omega) with rfl | rfl | rfl | rfl | rfl | rfl | rfl | rfl | rfl
 all_goals
  go_enter Tryz.func88,Tryz.ntmps88
  go_wp2
  go_ret
  exact ⟨rfl,rfl⟩
theorem zl5 (b) (h:GV) (HL HO dL dO) (key:ByteArray) (w) (hbx:Whole w b 79 #[.int .u8 h.kq,.int .i64 h.num,.string h.str,.slice HL h.il.length dL,.slice HO h.vz.length dO]) (hv:Vl w h HL HO dL dO):
  Calls Tryz.prog 91 #[.pointer (some ⟨b,0,none⟩),.string key] w fun e w'=>e=.returned (.bool (there key h.keys))/\Below w.heap.size w w':=by
 have HF:=hid ((zd9 (fun _=>True) _ h key w hv.val))
 obtain ⟨a0,a1,a2,a3,a4,_⟩:=hbx.five;clear hbx hv;go_enter Tryz.func91,Tryz.ntmps91
 go_wp2_with (go_at_call 92;refine HF.out.mono ?_;rintro e w1 hq;obtain ⟨rfl,hb⟩:=hq;have HQ:=hid hb;clear hb)
 go_ret
 exact ⟨rfl,HQ.out⟩
theorem zdf (n k:Nat) (i j:Int):chk n k i j=chkL n k i j:=by
 unfold chk chkL withinB;have e4:((k:Int)=4)=(k=4):=by simp;omega
 have e5:((k:Int)=5)=(k=5):=by simp;omega
 have e6:((k:Int)=6)=(k=6):=by simp;omega
 have e7:((k:Int)=7)=(k=7):=by simp;omega
 simp only [e4,e5,e6,e7];simp
theorem zg7 (c A AL AO cp cL cO b) (h:GV) (HL HO dL dO w) (hc:Cc w c A AL AO cp cL cO) (hbx:Whole w b 79 #[.int .u8 h.kq,.int .i64 h.num,.string h.str,.slice HL h.il.length dL,.slice HO h.vz.length dO]) (hv:Vl w h HL HO dL dO) (hk1:1<=c.kq/\c.kq<=9)
  (hx:h.kq=3->worksOn c.kq=3->∀ W,Below w.heap.size w W->Calls Tryz.prog 90 #[.string h.str,.agg #[.int .u8 c.kq,.slice A c.path.length cp,.string c.key,.int .i64 c.i,.int .i64 c.j,.int .i64 c.n,.int .u8 c.v.kq,.int .i64 c.v.num,.string c.v.str,.slice AL c.v.il.length cL,.slice AO c.v.vz.length cO,.string c.s]] W fun e w'=>e=.returned (.int .u16 (chkT (nChars h.str) c.kq.toNat c.i c.n))/\Below W.heap.size W w'):
  Calls Tryz.prog 58 #[.pointer (some ⟨b,0,none⟩),.agg #[.int .u8 c.kq,.slice A c.path.length cp,.string c.key,.int .i64 c.i,.int .i64 c.j,.int .i64 c.n,.int .u8 c.v.kq,.int .i64 c.v.num,.string c.v.str,.slice AL c.v.il.length cL,.slice AO c.v.vz.length cO,.string c.s]] w fun e w'=>e=.returned (.int .u16 (chkH h c))/\Below w.heap.size w w':=by
 have HB:=hid (zaa w (.cells #[.int .u8 c.kq,.slice A c.path.length cp,.string c.key,.int .i64 c.i,.int .i64 c.j,.int .i64 c.n,.int .u8 c.v.kq,.int .i64 c.v.num,.string c.v.str,.slice AL c.v.il.length cL,.slice AO c.v.vz.length cO,.string c.s] 45));have HCW:=hid (Whole.new w 45 #[.int .u8 c.kq,.slice A c.path.length cp,.string c.key,.int .i64 c.i,.int .i64 c.j,.int .i64 c.n,.int .u8 c.v.kq,.int .i64 c.v.num,.string c.v.str,.slice AL c.v.il.length cL,.slice AO c.v.vz.length cO,.string c.s]);have HC:=hid HCW.out.tw;have HBX:=hid (hbx.alloc (.cells #[.int .u8 c.kq,.slice A c.path.length cp,.string c.key,.int .i64 c.i,.int .i64 c.j,.int .i64 c.n,.int .u8 c.v.kq,.int .i64 c.v.num,.string c.v.str,.slice AL c.v.il.length cL,.slice AO c.v.vz.length cO,.string c.s] 45));obtain ⟨k,hkn⟩:∃ k:Nat,c.kq=k:=⟨c.kq.toNat,by omega⟩
 have D1:=hid (fun (W0:World) (d:Nat) (os:Array Obj)=>Calls.regrown_of ((zi6 c.kq hk1 (grow (redrawn W0 d) os)).mono (R':=fun e w'=>e=.returned (.int .u8 (worksOn c.kq))/\Below (grow (redrawn W0 d) os).heap.size (grow (redrawn W0 d) os) w') fun e w' ⟨he,hw⟩=>⟨he,by rw [hw];exact Below.refl _ _⟩))
 have DS:=hid (fun (W1:World) (hb:Below w.heap.size w W1) (d:Nat) (os:Array Obj)=>Calls.regrown_of (zjz h.il.length k c.i c.j A AL AO c.path.length cp c.v.il.length cL c.v.vz.length cO c.key c.v.str c.s c.n c.v.kq c.v.num (grow (redrawn W1 d) os)))
 have hT:=fun h3 w3 (W1:World) (hb:Below w.heap.size w W1) (d:Nat) (os:Array Obj)=>Calls.regrown_of (hx h3 w3 (grow (redrawn W1 d) os) (hb.trans ((below_regrown W1 d os).mono hb.size)))
 have HF:=hid (fun (W1:World) (hb:Below w.heap.size w W1)=>zl5 b h HL HO dL dO c.key W1 (hbx.below hb hbx.lt) (hv.later hb))
 rw [<- hkn] at DS;by_cases q:h.kq=worksOn c.kq
 ·by_cases q4:h.kq=4
  ·have hr:chkH h c=chk h.il.length k c.i c.j:=by
    rw [zdf,<- hkn];simp only [chkH,ne_eq,q,not_true_eq_false,if_false];rw [<- q,if_pos q4]
   rw [hr];generalize chk h.il.length k c.i c.j=r at *;have z:(h.kq == worksOn c.kq)=true:=by simpa using q
   have z4:(h.kq == 4)=true:=by simpa using q4
   clear hr q q4 hT hx hbx hv hc HF hkn;generalize worksOn c.kq=wk at *;generalize c.path.length=pn at *;generalize c.v.il.length=vl at *;generalize c.v.vz.length=vo at *;generalize c.v.kq=vk at *;generalize c.v.num=vn at *;generalize c.v.str=vs at *;generalize c.key=ky at *;generalize c.i=ci at *;generalize c.j=cj at *;generalize c.n=cn at *;generalize c.s=cs at *;generalize c.kq=ck at *;generalize h.kq=hk at *;generalize h.num=hn at *;generalize h.str=hs at *;generalize h.il.length=hl at *;generalize h.vz.length=ho at *;go_enter Tryz.func58,Tryz.ntmps58
   go_wp2
   generalize (w.alloc (.cells #[.int .u8 ck,.slice A pn cp,.string ky,.int .i64 ci,.int .i64 cj,.int .i64 cn,.int .u8 vk,.int .i64 vn,.string vs,.slice AL vl cL,.slice AO vo cO,.string cs] 45))=W0 at *;have u0:=fun d os=>cell_regrown HC.out.c0 d os
   obtain ⟨b0,b1,b2,b3,b4,_⟩:=HBX.out.five;have v0:=cell_regrown b0;refine wp_region_quiet_below (by kernel_rfl) (by kernel_rfl) ?_
   repeat (any_goals (go_big_quiet_step (with_reducible exact D1.out _ _ _)))
   refine wpQuiet_nil ?_
   intro _ hw';obtain ⟨⟨dq,osq⟩,hw''⟩:=hw';subst hw'';have hB1:=below_regrown W0 dq osq;have HC1:=hid (HCW.out.below hB1 HCW.out.lt).tw;have HX1:=hid (HBX.out.below hB1 HBX.out.lt).five;have HBB:=hid (HB.out.trans (hB1.mono HB.out.size));clear hB1 u0 v0 b0 b1 b2 b3 b4 D1;generalize grow (redrawn W0 dq) osq=W1 at *;obtain ⟨c0,c1,c2,c3,c4,c5,c6,c7,c8,c9,c10,c11,_⟩:=HC1.out;obtain ⟨b0,b1,b2,b3,b4,_⟩:=HX1.out;go_wp2
   have u0:=cell_regrown c0;have u1:=cell_regrown c1;have u2:=cell_regrown c2;have u3:=cell_regrown c3;have u4:=cell_regrown c4;have u5:=cell_regrown c5;have u6:=cell_regrown c6;have u7:=cell_regrown c7;have u8:=cell_regrown c8;have u9:=cell_regrown c9;have u10:=cell_regrown c10;have u11:=cell_regrown c11;have v2:=cell_regrown b2;have v3:=cell_regrown b3;have DX:=hid (DS.out W1 HBB.out);clear c0 c1 c2 c3 c4 c5 c6 c7 c8 c9 c10 c11 b0 b1 b2 b3 b4;refine wp_region_quiet_below (by kernel_rfl) (by kernel_rfl) ?_
   repeat (any_goals (go_big_quiet_step (with_reducible exact DX.out _ _)))
   refine wpQuiet_nil ?_
   intro _ hw';obtain ⟨⟨dq2,osq2⟩,hw''⟩:=hw';subst hw'';go_wp2
   go_ret
   exact ⟨rfl,HBB.out.trans ((below_regrown W1 dq2 osq2).mono HBB.out.size)⟩
  ·by_cases q3:h.kq=3
   ·have hr:chkH h c=chkT (nChars h.str) c.kq.toNat c.i c.n:=by
     simp only [chkH,ne_eq,q,not_true_eq_false,if_false];rw [<- q,if_neg q4,if_pos q3]
    have DT:=hid (hT q3 (q.symm.trans q3));rw [<- hr] at DT;generalize chkH h c=r at *;have z:(h.kq == worksOn c.kq)=true:=by simpa using q
    have z4:(h.kq == 4)=false:=by simpa using q4
    have z3:(h.kq == 3)=true:=by simpa using q3
    clear hr q q4 q3 hT hx hbx hv hc HF hkn DS;generalize worksOn c.kq=wk at *;generalize c.path.length=pn at *;generalize c.v.il.length=vl at *;generalize c.v.vz.length=vo at *;generalize c.v.kq=vk at *;generalize c.v.num=vn at *;generalize c.v.str=vs at *;generalize c.key=ky at *;generalize c.i=ci at *;generalize c.j=cj at *;generalize c.n=cn at *;generalize c.s=cs at *;generalize c.kq=ck at *;generalize h.kq=hk at *;generalize h.num=hn at *;generalize h.str=hs at *;generalize h.il.length=hl at *;generalize h.vz.length=ho at *;go_enter Tryz.func58,Tryz.ntmps58
    go_wp2
    generalize (w.alloc (.cells #[.int .u8 ck,.slice A pn cp,.string ky,.int .i64 ci,.int .i64 cj,.int .i64 cn,.int .u8 vk,.int .i64 vn,.string vs,.slice AL vl cL,.slice AO vo cO,.string cs] 45))=W0 at *;have u0:=fun d os=>cell_regrown HC.out.c0 d os
    obtain ⟨b0,b1,b2,b3,b4,_⟩:=HBX.out.five;have v0:=cell_regrown b0;refine wp_region_quiet_below (by kernel_rfl) (by kernel_rfl) ?_
    repeat (any_goals (go_big_quiet_step (with_reducible exact D1.out _ _ _)))
    refine wpQuiet_nil ?_
    intro _ hw';obtain ⟨⟨dq,osq⟩,hw''⟩:=hw';subst hw'';have hB1:=below_regrown W0 dq osq;have HC1:=hid (HCW.out.below hB1 HCW.out.lt).tw;have HX1:=hid (HBX.out.below hB1 HBX.out.lt).five;have HBB:=hid (HB.out.trans (hB1.mono HB.out.size));clear hB1 u0 v0 b0 b1 b2 b3 b4 D1;generalize grow (redrawn W0 dq) osq=W1 at *;obtain ⟨c0,c1,c2,c3,c4,c5,c6,c7,c8,c9,c10,c11,_⟩:=HC1.out;obtain ⟨b0,b1,b2,b3,b4,_⟩:=HX1.out;go_wp2
    have u0:=cell_regrown c0;have u1:=cell_regrown c1;have u2:=cell_regrown c2;have u3:=cell_regrown c3;have u4:=cell_regrown c4;have u5:=cell_regrown c5;have u6:=cell_regrown c6;have u7:=cell_regrown c7;have u8:=cell_regrown c8;have u9:=cell_regrown c9;have u10:=cell_regrown c10;have u11:=cell_regrown c11;have v2:=cell_regrown b2;have v3:=cell_regrown b3;have DX:=hid (DT.out W1 HBB.out);clear c0 c1 c2 c3 c4 c5 c6 c7 c8 c9 c10 c11 b0 b1 b2 b3 b4;refine wp_region_quiet_below (by kernel_rfl) (by kernel_rfl) ?_
    repeat (any_goals (go_big_quiet_step (with_reducible exact DX.out _ _)))
    refine wpQuiet_nil ?_
    intro _ hw';obtain ⟨⟨dq2,osq2⟩,hw''⟩:=hw';subst hw'';go_wp2
    go_ret
    exact ⟨rfl,HBB.out.trans ((below_regrown W1 dq2 osq2).mono HBB.out.size)⟩
   ·have z:(h.kq == worksOn c.kq)=true:=by simpa using q
    have z4:(h.kq == 4)=false:=by simpa using q4
    have z3:(h.kq == 3)=false:=by simpa using q3
    by_cases qd:c.kq=3
    ·have zd:(c.kq == 3)=true:=by simpa using qd
     cases ht:there c.key h.keys with
     | true=>
      have hr:chkH h c=0:=by
       simp only [chkH,ne_eq,q,not_true_eq_false,if_false];rw [<- q,if_neg q4,if_neg q3,if_neg (by rw [ht];simp)]
      rw [hr];rw [ht] at HF;clear hr q q4 q3 qd hT hx hbx hv hc hkn DS ht;generalize worksOn c.kq=wk at *;generalize c.path.length=pn at *;generalize c.v.il.length=vl at *;generalize c.v.vz.length=vo at *;generalize c.v.kq=vk at *;generalize c.v.num=vn at *;generalize c.v.str=vs at *;generalize c.key=ky at *;generalize c.i=ci at *;generalize c.j=cj at *;generalize c.n=cn at *;generalize c.s=cs at *;generalize c.kq=ck at *;generalize h.kq=hk at *;generalize h.num=hn at *;generalize h.str=hs at *;generalize h.il.length=hl at *;generalize h.vz.length=ho at *;go_enter Tryz.func58,Tryz.ntmps58
      go_wp2
      generalize (w.alloc (.cells #[.int .u8 ck,.slice A pn cp,.string ky,.int .i64 ci,.int .i64 cj,.int .i64 cn,.int .u8 vk,.int .i64 vn,.string vs,.slice AL vl cL,.slice AO vo cO,.string cs] 45))=W0 at *;have u0:=fun d os=>cell_regrown HC.out.c0 d os
      obtain ⟨b0,b1,b2,b3,b4,_⟩:=HBX.out.five;have v0:=cell_regrown b0;refine wp_region_quiet_below (by kernel_rfl) (by kernel_rfl) ?_
      repeat (any_goals (go_big_quiet_step (with_reducible exact D1.out _ _ _)))
      refine wpQuiet_nil ?_
      intro _ hw';obtain ⟨⟨dq,osq⟩,hw''⟩:=hw';subst hw'';have hB1:=below_regrown W0 dq osq;have HC1:=hid (HCW.out.below hB1 HCW.out.lt).tw;have HX1:=hid (HBX.out.below hB1 HBX.out.lt).five;have HBB:=hid (HB.out.trans (hB1.mono HB.out.size));clear hB1 u0 v0 b0 b1 b2 b3 b4 D1;generalize grow (redrawn W0 dq) osq=W1 at *;obtain ⟨c0,c1,c2,c3,c4,c5,c6,c7,c8,c9,c10,c11,_⟩:=HC1.out;obtain ⟨b0,b1,b2,b3,b4,_⟩:=HX1.out
      go_wp2_with (go_at_call 91;refine (HF.out _ HBB.out).mono ?_;rintro e w2 ⟨rfl,hb2⟩;have HB2:=hid (HBB.out.trans (hb2.mono HBB.out.size));clear hb2)
      go_ret
      exact ⟨rfl,HB2.out⟩
     | false=>
      have hr:chkH h c=33:=by
       simp only [chkH,ne_eq,q,not_true_eq_false,if_false];rw [<- q,if_neg q4,if_neg q3,if_pos ⟨qd,ht⟩]
      rw [hr];rw [ht] at HF;clear hr q q4 q3 qd hT hx hbx hv hc hkn DS ht;generalize worksOn c.kq=wk at *;generalize c.path.length=pn at *;generalize c.v.il.length=vl at *;generalize c.v.vz.length=vo at *;generalize c.v.kq=vk at *;generalize c.v.num=vn at *;generalize c.v.str=vs at *;generalize c.key=ky at *;generalize c.i=ci at *;generalize c.j=cj at *;generalize c.n=cn at *;generalize c.s=cs at *;generalize c.kq=ck at *;generalize h.kq=hk at *;generalize h.num=hn at *;generalize h.str=hs at *;generalize h.il.length=hl at *;generalize h.vz.length=ho at *;go_enter Tryz.func58,Tryz.ntmps58
      go_wp2
      generalize (w.alloc (.cells #[.int .u8 ck,.slice A pn cp,.string ky,.int .i64 ci,.int .i64 cj,.int .i64 cn,.int .u8 vk,.int .i64 vn,.string vs,.slice AL vl cL,.slice AO vo cO,.string cs] 45))=W0 at *;have u0:=fun d os=>cell_regrown HC.out.c0 d os
      obtain ⟨b0,b1,b2,b3,b4,_⟩:=HBX.out.five;have v0:=cell_regrown b0;refine wp_region_quiet_below (by kernel_rfl) (by kernel_rfl) ?_
      repeat (any_goals (go_big_quiet_step (with_reducible exact D1.out _ _ _)))
      refine wpQuiet_nil ?_
      intro _ hw';obtain ⟨⟨dq,osq⟩,hw''⟩:=hw';subst hw'';have hB1:=below_regrown W0 dq osq;have HC1:=hid (HCW.out.below hB1 HCW.out.lt).tw;have HX1:=hid (HBX.out.below hB1 HBX.out.lt).five;have HBB:=hid (HB.out.trans (hB1.mono HB.out.size));clear hB1 u0 v0 b0 b1 b2 b3 b4 D1;generalize grow (redrawn W0 dq) osq=W1 at *;obtain ⟨c0,c1,c2,c3,c4,c5,c6,c7,c8,c9,c10,c11,_⟩:=HC1.out;obtain ⟨b0,b1,b2,b3,b4,_⟩:=HX1.out
      go_wp2_with (go_at_call 91;refine (HF.out _ HBB.out).mono ?_;rintro e w2 ⟨rfl,hb2⟩;have HB2:=hid (HBB.out.trans (hb2.mono HBB.out.size));clear hb2)
      go_ret
      exact ⟨rfl,HB2.out⟩
    ·have zd:(c.kq == 3)=false:=by simpa using qd
     have hr:chkH h c=0:=by
      simp only [chkH,ne_eq,q,not_true_eq_false,if_false];rw [<- q,if_neg q4,if_neg q3,if_neg (fun h=>qd h.1)]
     rw [hr];clear hr q q4 q3 qd hT hx hbx hv hc hkn DS HF;generalize worksOn c.kq=wk at *;generalize c.path.length=pn at *;generalize c.v.il.length=vl at *;generalize c.v.vz.length=vo at *;generalize c.v.kq=vk at *;generalize c.v.num=vn at *;generalize c.v.str=vs at *;generalize c.key=ky at *;generalize c.i=ci at *;generalize c.j=cj at *;generalize c.n=cn at *;generalize c.s=cs at *;generalize c.kq=ck at *;generalize h.kq=hk at *;generalize h.num=hn at *;generalize h.str=hs at *;generalize h.il.length=hl at *;generalize h.vz.length=ho at *;go_enter Tryz.func58,Tryz.ntmps58
     go_wp2
     generalize (w.alloc (.cells #[.int .u8 ck,.slice A pn cp,.string ky,.int .i64 ci,.int .i64 cj,.int .i64 cn,.int .u8 vk,.int .i64 vn,.string vs,.slice AL vl cL,.slice AO vo cO,.string cs] 45))=W0 at *;have u0:=fun d os=>cell_regrown HC.out.c0 d os
     obtain ⟨b0,b1,b2,b3,b4,_⟩:=HBX.out.five;have v0:=cell_regrown b0;refine wp_region_quiet_below (by kernel_rfl) (by kernel_rfl) ?_
     repeat (any_goals (go_big_quiet_step (with_reducible exact D1.out _ _ _)))
     refine wpQuiet_nil ?_
     intro _ hw';obtain ⟨⟨dq,osq⟩,hw''⟩:=hw';subst hw'';have hB1:=below_regrown W0 dq osq;have HC1:=hid (HCW.out.below hB1 HCW.out.lt).tw;have HX1:=hid (HBX.out.below hB1 HBX.out.lt).five;have HBB:=hid (HB.out.trans (hB1.mono HB.out.size));clear hB1 u0 v0 b0 b1 b2 b3 b4 D1;generalize grow (redrawn W0 dq) osq=W1 at *;obtain ⟨c0,c1,c2,c3,c4,c5,c6,c7,c8,c9,c10,c11,_⟩:=HC1.out;obtain ⟨b0,b1,b2,b3,b4,_⟩:=HX1.out;go_wp2
     go_ret
     exact ⟨rfl,HBB.out⟩
 ·have hr:chkH h c=31:=by
   simp only [chkH,ne_eq,q,not_false_eq_true,if_true]
  rw [hr];have z:(h.kq == worksOn c.kq)=false:=by simpa using q
  clear hr q hT hx hbx hv hc hkn DS HF;generalize worksOn c.kq=wk at *;generalize c.path.length=pn at *;generalize c.v.il.length=vl at *;generalize c.v.vz.length=vo at *;generalize c.v.kq=vk at *;generalize c.v.num=vn at *;generalize c.v.str=vs at *;generalize c.key=ky at *;generalize c.i=ci at *;generalize c.j=cj at *;generalize c.n=cn at *;generalize c.s=cs at *;generalize c.kq=ck at *;generalize h.kq=hk at *;generalize h.num=hn at *;generalize h.str=hs at *;generalize h.il.length=hl at *;generalize h.vz.length=ho at *;go_enter Tryz.func58,Tryz.ntmps58
  go_wp2
  generalize (w.alloc (.cells #[.int .u8 ck,.slice A pn cp,.string ky,.int .i64 ci,.int .i64 cj,.int .i64 cn,.int .u8 vk,.int .i64 vn,.string vs,.slice AL vl cL,.slice AO vo cO,.string cs] 45))=W0 at *;have u0:=fun d os=>cell_regrown HC.out.c0 d os
  obtain ⟨b0,b1,b2,b3,b4,_⟩:=HBX.out.five;have v0:=cell_regrown b0;refine wp_region_quiet_below (by kernel_rfl) (by kernel_rfl) ?_
  repeat (any_goals (go_big_quiet_step (with_reducible exact D1.out _ _ _)))
  refine wpQuiet_nil ?_
  intro _ hw';obtain ⟨⟨dq,osq⟩,hw''⟩:=hw';subst hw'';have hB1:=below_regrown W0 dq osq;have HC1:=hid (HCW.out.below hB1 HCW.out.lt).tw;have HX1:=hid (HBX.out.below hB1 HBX.out.lt).five;have HBB:=hid (HB.out.trans (hB1.mono HB.out.size));clear hB1 u0 v0 b0 b1 b2 b3 b4 D1;generalize grow (redrawn W0 dq) osq=W1 at *;obtain ⟨c0,c1,c2,c3,c4,c5,c6,c7,c8,c9,c10,c11,_⟩:=HC1.out;obtain ⟨b0,b1,b2,b3,b4,_⟩:=HX1.out;go_wp2
  go_ret
  exact ⟨rfl,HBB.out⟩
end Go.Proofs.YtmmgdkpkcoopgaaGreatDoor
namespace Go.Proofs.YtmmgdkpkcoopgaaGreatDoor
open Go.Lib(hid)
open Go Go.RowKit
set_option linter.unusedVariables false
set_option linter.unusedSimpArgs false
def ChkIs (g:GV) (c:GC) (e:Int):Prop:=(¬ c.Sound/\e=60)\/(c.Sound/\((g.get c.path=none/\e=30)\/∃ h,g.get c.path=some h/\e=chkH h c))
theorem zcg {g c e e'} (h:ChkIs g c e) (h':ChkIs g c e'):e=e':=by
 rcases h with ⟨h1,rfl⟩ | ⟨h1,⟨h2,rfl⟩ | ⟨x,h2,rfl⟩⟩<;>rcases h' with ⟨k1,rfl⟩ | ⟨k1,⟨k2,rfl⟩ | ⟨y,k2,rfl⟩⟩<;>first | rfl | exact absurd k1 h1 | exact absurd h1 k1 | (rw [h2] at k2;cases k2) | skip
 rfl
def TextChecks (w:World) (c:GC) (A AL AO:Option Addr) (cp cL cO:Nat):Prop:=∀ (h:GV),h.kq=3->h.weight<=400000000->worksOn c.kq=3->∀ W,Below w.heap.size w W->Calls Tryz.prog 90 #[.string h.str,.agg #[.int .u8 c.kq,.slice A c.path.length cp,.string c.key,.int .i64 c.i,.int .i64 c.j,.int .i64 c.n,.int .u8 c.v.kq,.int .i64 c.v.num,.string c.v.str,.slice AL c.v.il.length cL,.slice AO c.v.vz.length cO,.string c.s]] W fun e w'=>e=.returned (.int .u16 (chkT (nChars h.str) c.kq.toNat c.i c.n))/\Below W.heap.size W w'
structure FB (w W:World) (cg cc cr:Array Value):Prop where
 g:Whole W w.heap.size 29 cg
 c:Whole W (w.heap.size+1) 45 cc
 r:Whole W (w.heap.size+1+1) 79 cr
 below:Below w.heap.size w W
theorem FB.new (w:World) (cg cc cr:Array Value):FB w (((w.alloc (.cells cg 29)).alloc (.cells cc 45)).alloc (.cells cr 79)) cg cc cr:=by
 have h1:=(Whole.new (w.alloc (.cells cg 29)) 45 cc).alloc (.cells cr 79);have h2:=Whole.new ((w.alloc (.cells cg 29)).alloc (.cells cc 45)) 79 cr;rw [World.size_alloc] at h1;rw [World.size_alloc,World.size_alloc] at h2;exact ⟨((Whole.new w _ _).alloc _).alloc _,h1,h2,(((Below.refl _ w).alloc (Nat.le_refl _) _).alloc (by simp) _).alloc (by simp;omega) _⟩
theorem FB.step {w W W':World} {cg cc cr:Array Value} (h:FB w W cg cc cr) (hb:Below W.heap.size W W'):FB w W' cg cc cr:=
 ⟨h.g.below hb h.g.lt,h.c.below hb h.c.lt,h.r.below hb h.r.lt,h.below.trans (hb.mono h.below.size)⟩
def FindOut (g:GV) (c:GC) (w:World) (e:Ending) (w':World):Prop:=Below w.heap.size w w' /\
 ((¬ c.Sound/\e=.returned (.tuple #[.agg #[.int .u8 0,.int .i64 0,.string ⟨#[]⟩,.slice none 0 0,.slice none 0 0],.int .u16 60]))\/(c.Sound/\g.get c.path=none/\e=.returned (.tuple #[.agg #[.int .u8 0,.int .i64 0,.string ⟨#[]⟩,.slice none 0 0,.slice none 0 0],.int .u16 30])) \/
  (c.Sound/\∃ h HL HO dL,g.get c.path=some h/\e=.returned (.tuple #[.agg #[.int .u8 h.kq,.int .i64 h.num,.string h.str,.slice HL h.il.length dL,.slice HO h.vz.length h.vz.length],.int .u16 (chkH h c)])/\h.val (fun k=>w.heap.size<=k) w' (.agg #[.int .u8 h.kq,.int .i64 h.num,.string h.str,.slice HL h.il.length dL,.slice HO h.vz.length h.vz.length])/\FullO w.heap.size w' h (.agg #[.int .u8 h.kq,.int .i64 h.num,.string h.str,.slice HL h.il.length dL,.slice HO h.vz.length h.vz.length])))
theorem zgP (g GL GO eL eO c A AL AO cp cL cO w) (hg:Vl w g GL GO eL eO) (hc:Cc w c A AL AO cp cL cO) (hgw:g.weight<=400000000) (hcw:c.v.weight<=1000000000) (hkey:c.key.size<=9223372036854775807) (hs:c.s.size<=9223372036854775807) (hpk:∀ s∈c.path,s.key.size<=9223372036854775807) (hT:Tabs w) (htx:TextChecks w c A AL AO cp cL cO):
  Calls Tryz.prog 36 #[.agg #[.int .u8 g.kq,.int .i64 g.num,.string g.str,.slice GL g.il.length eL,.slice GO g.vz.length eO],.agg #[.int .u8 c.kq,.slice A c.path.length cp,.string c.key,.int .i64 c.i,.int .i64 c.j,.int .i64 c.n,.int .u8 c.v.kq,.int .i64 c.v.num,.string c.v.str,.slice AL c.v.il.length cL,.slice AO c.v.vz.length cO,.string c.s]] w (FindOut g c w):=by
 have H0:=hid (FB.new w #[.int .u8 g.kq,.int .i64 g.num,.string g.str,.slice GL g.il.length eL,.slice GO g.vz.length eO] #[.int .u8 c.kq,.slice A c.path.length cp,.string c.key,.int .i64 c.i,.int .i64 c.j,.int .i64 c.n,.int .u8 c.v.kq,.int .i64 c.v.num,.string c.v.str,.slice AL c.v.il.length cL,.slice AO c.v.vz.length cO,.string c.s] #[.int .u8 0,.int .i64 0,.string ⟨#[]⟩,.slice none 0 0,.slice none 0 0]);obtain ⟨bs,hbs⟩:=zat c.Sound;have HSO:=hid (fun W (hb:Below w.heap.size w W)=>zay (zdv c A AL AO cp cL cO W (hc.later hb) hcw hkey hs hpk (hT.below hb (Nat.le_refl _))) bs hbs)
 have HGE:=hid (fun W (hb:Below w.heap.size w W)=>zdh (fun _=>True) _ g W.heap.size A cp c.path W (hg.later hb).val ((hc.path.later hb).steps) (Nat.le_refl _) hc.path.le hc.path.cap (by omega))
 cases bs with
 | false=>
  have HN:=hid (show ¬ c.Sound from fun h=>by have:=hbs.2 h;cases this)
  clear hbs hg hc hgw hcw hkey hs hpk hT htx HGE;go_enter Tryz.func36,Tryz.ntmps36
  go_wp2_with (go_at_call 33;refine (HSO.out _ (FB.new w _ _ _).below).mono ?_;rintro e w1 ⟨rfl,hb1⟩;have H1:=hid (H0.out.step hb1);obtain ⟨r0,r1,r2,r3,r4,f0,f1,f2,f3,f4⟩:=H1.out.r.five;clear hb1)
  have h5:=zai H1.out.r (.int .u8 0) (.int .i64 0) (.string ⟨#[]⟩) (.slice none 0 0) (.slice none 0 0);obtain ⟨d0,d1,d2,d3,d4,_⟩:=h5.five;unfold put5 at d0 d1 d2 d3 d4;refine bodyPost_ret (v:=.tuple #[.agg #[.int .u8 0,.int .i64 0,.string ⟨#[]⟩,.slice none 0 0,.slice none 0 0],.int .u16 60]) (by simp [results,Tryz.results36,go_sem,d0,d1,d2,d3,d4]) rfl ?_
  exact ⟨zae H1.out.below (by omega) _ _ _ _ _,.inl ⟨HN.out,rfl⟩⟩
 | true=>
  have hcs:=hbs.1 rfl;have HS1:=hid hcs;cases hgt:g.get c.path with
  | none=>
   have HGN:=hid (fun W hb=>(HGE.out W hb).mono (R':=fun e w'=>e=.returned (.tuple #[.agg #[.int .u8 0,.int .i64 0,.string ⟨#[]⟩,.slice none 0 0,.slice none 0 0],.int .u16 30])/\Below W.heap.size W w') fun e w' ⟨hb',hq⟩=>hq.elim (fun h=>⟨h.2,hb'⟩) (fun ⟨_,_,h,_⟩=>by rw [hgt] at h;cases h))
   have HG0:=hid hgt;clear hbs hg hc hgw hcw hkey hs hpk hT htx HGE hcs hgt;go_enter Tryz.func36,Tryz.ntmps36
   go_wp2_with (first
    | (go_at_call 33;refine (HSO.out _ (FB.new w _ _ _).below).mono ?_;rintro e w1 ⟨rfl,hb1⟩;have H1:=hid (H0.out.step hb1);obtain ⟨g0,g1,g2,g3,g4,_⟩:=H1.out.g.five;obtain ⟨c0,c1,c2,c3,c4,c5,c6,c7,c8,c9,c10,c11,_⟩:=H1.out.c.tw;clear hb1)
    | (go_at_call 52;refine (HGN.out _ H1.out.below).mono ?_;rintro e w2 ⟨rfl,hb2⟩;have H2:=hid (H1.out.step hb2);have r0:=fun o=>(H2.out.r.alloc o).five.c0;have r1:=fun o=>(H2.out.r.alloc o).five.c1;have r2:=fun o=>(H2.out.r.alloc o).five.c2;have r3:=fun o=>(H2.out.r.alloc o).five.c3;have r4:=fun o=>(H2.out.r.alloc o).five.c4;have f0:=fun o=>(H2.out.r.alloc o).five.f0;have f1:=fun o=>(H2.out.r.alloc o).five.f1;have f2:=fun o=>(H2.out.r.alloc o).five.f2;have f3:=fun o=>(H2.out.r.alloc o).five.f3;have f4:=fun o=>(H2.out.r.alloc o).five.f4;clear hb2))
   have h3:=H2.out.step (zaa w2 (.cells #[.int .u8 0,.int .i64 0,.string ⟨#[]⟩,.slice none 0 0,.slice none 0 0] 29));have h5:=zai h3.r (.int .u8 0) (.int .i64 0) (.string ⟨#[]⟩) (.slice none 0 0) (.slice none 0 0);obtain ⟨d0,d1,d2,d3,d4,_⟩:=h5.five;unfold put5 at d0 d1 d2 d3 d4;refine bodyPost_ret (v:=.tuple #[.agg #[.int .u8 0,.int .i64 0,.string ⟨#[]⟩,.slice none 0 0,.slice none 0 0],.int .u16 30]) (by simp [results,Tryz.results36,go_sem,d0,d1,d2,d3,d4]) rfl ?_
   exact ⟨zae h3.below (by omega) _ _ _ _ _,.inr (.inl ⟨HS1.out,HG0.out,rfl⟩)⟩
  | some h=>
   have HGS:=hid (fun W hb=>(HGE.out W hb).mono (R':=fun e w'=>∃ HL HO dL,e=.returned (.tuple #[.agg #[.int .u8 h.kq,.int .i64 h.num,.string h.str,.slice HL h.il.length dL,.slice HO h.vz.length h.vz.length],.int .u16 0])/\(h.val (fun k=>W.heap.size<=k) w' (.agg #[.int .u8 h.kq,.int .i64 h.num,.string h.str,.slice HL h.il.length dL,.slice HO h.vz.length h.vz.length])/\FullO W.heap.size w' h (.agg #[.int .u8 h.kq,.int .i64 h.num,.string h.str,.slice HL h.il.length dL,.slice HO h.vz.length h.vz.length]))/\Below W.heap.size W w') fun e w' ⟨hb',hq⟩=>hq.elim (fun h=>by rw [hgt] at h;cases h.1) (fun ⟨h',v',h1,he,hv,hf⟩=>by
    rw [hgt] at h1;cases h1
    obtain ⟨HL,HO,dL,dO,rfl,_⟩:=zm6 hv;have hf2:=hf;obtain ⟨L1,A1,e1,_⟩:=hf2;obtain ⟨rfl,rfl,rfl⟩:Value.slice HL h.il.length dL=L1/\HO=A1/\dO=h.vz.length:=by simpa using e1
    exact ⟨HL,HO,dL,he,⟨hv,hf⟩,hb'⟩))
   have hk19:1<=c.kq/\c.kq<=9:=hcs.2.2.2.2.1.1;have HG0:=hid hgt;have HCK:=hid (fun (b:Nat) (HL HO:Option Addr) (dL:Nat) (W:World) (hb:Below w.heap.size w W) (hbx:Whole W b 79 #[.int .u8 h.kq,.int .i64 h.num,.string h.str,.slice HL h.il.length dL,.slice HO h.vz.length h.vz.length]) (hv:Vl W h HL HO dL h.vz.length)=>zg7 c A AL AO cp cL cO b h HL HO dL h.vz.length W (hc.later hb) hbx hv hk19 (fun h3 w3 W' hb'=>htx h h3 (Nat.le_trans (zas _ _ _ hgt) hgw) w3 W' (hb.trans (hb'.mono hb.size))))
   clear hbs hg hc hgw hcw hkey hs hpk hT htx HGE hcs hgt hk19;go_enter Tryz.func36,Tryz.ntmps36
   go_wp2_with (first
    | (go_at_call 33;refine (HSO.out _ (FB.new w _ _ _).below).mono ?_;rintro e w1 ⟨rfl,hb1⟩;have H1:=hid (H0.out.step hb1);obtain ⟨g0,g1,g2,g3,g4,_⟩:=H1.out.g.five;obtain ⟨c0,c1,c2,c3,c4,c5,c6,c7,c8,c9,c10,c11,_⟩:=H1.out.c.tw;clear hb1)
    | (go_at_call 52;refine (HGS.out _ H1.out.below).mono ?_;rintro e w2 ⟨HL,HO,dL,rfl,hv,hb2⟩;have H2:=hid (And.intro (H1.out.step hb2) (And.intro hv hb2));clear hb2 hv))
   have hba:Below w2.heap.size w2 ((w2.alloc (.cells #[.int .u8 h.kq,.int .i64 h.num,.string h.str,.slice HL h.il.length dL,.slice HO h.vz.length h.vz.length] 29)).alloc (.cells #[.int .u8 h.kq,.int .i64 h.num,.string h.str,.slice HL h.il.length dL,.slice HO h.vz.length h.vz.length] 79)):=(zaa w2 _).alloc (by simp) _
   have hP:=Whole.new (w2.alloc (.cells #[.int .u8 h.kq,.int .i64 h.num,.string h.str,.slice HL h.il.length dL,.slice HO h.vz.length h.vz.length] 29)) 79 #[.int .u8 h.kq,.int .i64 h.num,.string h.str,.slice HL h.il.length dL,.slice HO h.vz.length h.vz.length];rw [World.size_alloc] at hP;have hF:=H2.out.1.step hba;obtain ⟨hv,hfu⟩:=H2.out.2.1;have hsz:=H2.out.2.2.size;obtain ⟨Lh,Oh,eh,hL,hO⟩:=hv;obtain ⟨rfl,rfl⟩:Value.slice HL h.il.length dL=Lh/\Value.slice HO h.vz.length h.vz.length=Oh:=by simpa using eh
   have hkp:∀ k,w1.heap.size<=k->k<w2.heap.size->((w2.alloc (.cells #[.int .u8 h.kq,.int .i64 h.num,.string h.str,.slice HL h.il.length dL,.slice HO h.vz.length h.vz.length] 29)).alloc (.cells #[.int .u8 h.kq,.int .i64 h.num,.string h.str,.slice HL h.il.length dL,.slice HO h.vz.length h.vz.length] 79)).heap[k]? = w2.heap[k]?:=fun k _ hk=>hba.block k hk
   have hL':=hL.keep (ok':=fun k=>w1.heap.size<=k) hkp (fun k hk _=>hk)
   have hO':=hO.keep (ok':=fun k=>w1.heap.size<=k) hkp (fun k hk _=>hk)
   have hfu':=hfu.keep hO hkp (Nat.le_refl _);have h1s:w.heap.size+1+1<w1.heap.size:=H1.out.r.lt;have hPl:w1.heap.size<=w2.heap.size+1:=by omega
   clear hL hO hfu hkp hba H2 eh hsz;generalize ((w2.alloc (.cells #[.int .u8 h.kq,.int .i64 h.num,.string h.str,.slice HL h.il.length dL,.slice HO h.vz.length h.vz.length] 29)).alloc (.cells #[.int .u8 h.kq,.int .i64 h.num,.string h.str,.slice HL h.il.length dL,.slice HO h.vz.length h.vz.length] 79))=Wp at *;generalize hbp:w2.heap.size+1=bp at *;clear hbp;have HF:=hid hF;have HP:=hid hP;have HVL:=hid (And.intro hL' (And.intro hO' hfu'));have HCK2:=hid (fun W (hb:Below Wp.heap.size Wp W)=>HCK.out bp HL HO dL W (HF.out.below.trans (hb.mono HF.out.below.size)) (HP.out.below hb HP.out.lt) ⟨hL'.keep (From.of_below hb) (fun _ _ _=>trivial),hO'.keep (From.of_below hb) (fun _ _ _=>trivial)⟩)
   have HSZ:=hid (And.intro h1s hPl);clear hF hP hL' hO' hfu' HCK h1s hPl g0 g1 g2 g3 g4 c0 c1 c2 c3 c4 c5 c6 c7 c8 c9 c10 c11 H1;obtain ⟨c0,c1,c2,c3,c4,c5,c6,c7,c8,c9,c10,c11,_⟩:=HF.out.c.tw;obtain ⟨p0,p1,p2,p3,p4,_⟩:=HP.out.five;obtain ⟨r0,r1,r2,r3,r4,f0,f1,f2,f3,f4⟩:=HF.out.r.five
   go_region_with (go_at_call 58;refine (HCK2.out Wp.drew (Below.refl _ Wp).drew).mono ?_;rintro e w3 ⟨rfl,hb3⟩;have H3:=hid (show Below Wp.heap.size Wp w3 from (Below.refl _ Wp).drew.trans hb3);obtain ⟨p0,p1,p2,p3,p4,_⟩:=(HP.out.below H3.out HP.out.lt).five;obtain ⟨r0,r1,r2,r3,r4,f0,f1,f2,f3,f4⟩:=(HF.out.r.below H3.out HF.out.r.lt).five;clear hb3)
   all_goals
    go_wp2
    have h5:=zai (HF.out.r.below H3.out HF.out.r.lt) (.int .u8 h.kq) (.int .i64 h.num) (.string h.str) (.slice HL h.il.length dL) (.slice HO h.vz.length h.vz.length);obtain ⟨d0,d1,d2,d3,d4,_⟩:=h5.five;unfold put5 at d0 d1 d2 d3 d4;refine bodyPost_ret (v:=.tuple #[.agg #[.int .u8 h.kq,.int .i64 h.num,.string h.str,.slice HL h.il.length dL,.slice HO h.vz.length h.vz.length],.int .u16 (chkH h c)]) (by simp [results,Tryz.results36,go_sem,d0,d1,d2,d3,d4]) rfl ?_
    have hkk:∀ k,w1.heap.size<=k->k<Wp.heap.size->(put5 w3 (w.heap.size+1+1) (.int .u8 h.kq) (.int .i64 h.num) (.string h.str) (.slice HL h.il.length dL) (.slice HO h.vz.length h.vz.length)).heap[k]? = Wp.heap[k]?:=fun k hk hl=>by
     rw [zac _ _ _ _ _ _ _ _ (by have:=HSZ.out.1;omega)]
     exact H3.out.block k hl
    have hsm:w.heap.size<=w1.heap.size:=by have:=HSZ.out.1;omega
    exact ⟨zae (HF.out.below.trans (H3.out.mono HF.out.below.size)) (by omega) _ _ _ _ _,.inr (.inr ⟨HS1.out,h,HL,HO,dL,HG0.out,rfl,⟨_,_,rfl,HVL.out.1.keep hkk (fun k hk _=>Nat.le_trans hsm hk),HVL.out.2.1.keep hkk (fun k hk _=>Nat.le_trans hsm hk)⟩,HVL.out.2.2.keep HVL.out.2.1 hkk hsm⟩)⟩
end Go.Proofs.YtmmgdkpkcoopgaaGreatDoor
namespace Go.Proofs.YtmmgdkpkcoopgaaGreatDoor
open Go.Lib(hid)
open Go Go.RowKit
set_option linter.unusedVariables false
set_option linter.unusedSimpArgs false
theorem zdy {P:Program} {w:World} {ops:Array Oper} {rest:List Oper} {o:Oper} {a:Act} {Q:Exit->Act->World->Prop} (hgd:o.guard=none) (s x:Operand) (t:TypeId) (ho:o.op=.call { callee:=.builtin .append,args:=#[s,x],argTypes:=#[t,t] })
  (v1 v2 v':Value) (w':World) (hs:a.eval s=v1) (hx:a.eval x=v2) (hrun:(Builtin.append_ #[t,t] o.type #[v1,v2]).run P w=.ok v' w') (h:wpList P ops Q rest (a.put o.dst v') w'):wpList P ops Q (o :: rest) a w:=by
 refine wpList_plain hgd fun K hK=>?_
 unfold Oper.wp execOp;simp only [ho,resolve,invoke,builtin,Sem.run_bind,Sem.run_pure,Result.andThen_ok,List.map_toArray,List.map_cons,List.map_nil,hs,hx,hrun];exact hK _ _ h
theorem zlY {lo:Nat} {W W':World} {b o n d:Nat} {ks:List ByteArray} {l:List GV} {k:Nat} {y:GV} (hO:ObjV (fun _=>True) W (.slice (some ⟨b,o,none⟩) n d) ks l) (hE:GV.els (fun k=>lo<=k/\k≠b) W b 6 (o+1) l)
  (hJ:Just b (o+k * 6+1) 5 W W') (hy:y.at (fun _=>True) W' b (o+k * 6+1)) (hne:l≠[]):ObjV (fun _=>True) W' (.slice (some ⟨b,o,none⟩) n d) ks (l.set k y):=by
 obtain ⟨hl,hO⟩:=hO;rcases hO with ⟨rfl,_⟩ | ⟨b',o',d',he,h1,h2,hK,hks,_⟩
 ·exact absurd rfl hne
 simp only [Value.slice.injEq,Option.some.injEq,Addr.mk.injEq] at he;obtain ⟨⟨rfl,rfl,_⟩,rfl,rfl⟩:=he;have hF:From (fun k=>lo<=k/\k≠b) W W':=hJ.from (by simp)
 obtain ⟨_,cs,hcs⟩:=hK;obtain ⟨cs',hw'⟩:=hJ.row _ _ hcs;refine ⟨by rw [List.length_set];exact hl,.inr ⟨b,o,d,by rw [List.length_set],by rw [List.length_set];exact h1,h2,⟨trivial,cs',hw'⟩,KeysAt.of fun i a ha=>?_,GV.els_of fun i a ha=>?_⟩⟩
 ·exact (hJ.near _ (by omega)).trans (hks.get ha)
 ·by_cases e:i=k
  ·subst e
   rw [List.getElem?_set] at ha;simp only [if_true] at ha;split at ha
   ·cases ha;rwa [show o+1+i * 6=o+i * 6+1 by omega]
   ·cases ha
  ·rw [List.getElem?_set_ne (Ne.symm e)] at ha
   obtain ⟨L,O,c0,c1,c2,c3,c4,hL,hO⟩:=GV.at_iff.1 (GV.els_get hE ha);have hn:∀ d,d<5->W'.cell? ⟨b,o+1+i * 6+d,none⟩=W.cell? ⟨b,o+1+i * 6+d,none⟩:=fun d hd=>hJ.near _ (by omega)
   have n0:=hn 0 (by omega)
   rw [Nat.add_zero] at n0;exact GV.at_iff.2 ⟨L,O,n0.trans c0,(hn 1 (by omega)).trans c1,(hn 2 (by omega)).trans c2,(hn 3 (by omega)).trans c3,(hn 4 (by omega)).trans c4,hL.keep hF (fun _ _ _=>trivial),hO.keep hF (fun _ _ _=>trivial)⟩
def PlaceIs (lo b:Nat) (g:GV) (w:World) (e:Ending) (w':World):Prop:=e=.returned (.tuple #[])/\∃ HL HO dL dO,Whole w' b 79 #[.int .u8 g.kq,.int .i64 g.num,.string g.str,.slice HL g.il.length dL,.slice HO g.vz.length dO]/\Vl w' g HL HO dL dO/\Below lo w w'
end Go.Proofs.YtmmgdkpkcoopgaaGreatDoor
namespace Go.Proofs.YtmmgdkpkcoopgaaGreatDoor
open Go.Lib(hid)
open Go Go.RowKit
set_option linter.unusedVariables false
set_option linter.unusedSimpArgs false
theorem zhF (g GL GO eL eO c A AL AO cp cL cO w) (hg:Vl w g GL GO eL eO) (hc:Cc w c A AL AO cp cL cO) (hgw:g.weight<=400000000) (hcw:c.v.weight<=1000000000) (hkey:c.key.size<=9223372036854775807) (hs:c.s.size<=9223372036854775807) (hpk:∀ s∈c.path,s.key.size<=9223372036854775807) (hT:Tabs w) (htx:TextChecks w c A AL AO cp cL cO):
  Calls Tryz.prog 36 #[.agg #[.int .u8 g.kq,.int .i64 g.num,.string g.str,.slice GL g.il.length eL,.slice GO g.vz.length eO],.agg #[.int .u8 c.kq,.slice A c.path.length cp,.string c.key,.int .i64 c.i,.int .i64 c.j,.int .i64 c.n,.int .u8 c.v.kq,.int .i64 c.v.num,.string c.v.str,.slice AL c.v.il.length cL,.slice AO c.v.vz.length cO,.string c.s]] w fun e w'=>∃ (k m:Int) (s:ByteArray) (HL HO:Option Addr) (nl dL no dO:Nat) (n:Int),e=.returned (.tuple #[.agg #[.int .u8 k,.int .i64 m,.string s,.slice HL nl dL,.slice HO no dO],.int .u16 n])/\ChkIs g c n/\Below w.heap.size w w':=
 (zgP g GL GO eL eO c A AL AO cp cL cO w hg hc hgw hcw hkey hs hpk hT htx).mono fun e w' ⟨hb,hq⟩=>by
  rcases hq with ⟨h1,he⟩ | ⟨h1,h2,he⟩ | ⟨h1,h,HL,HO,dL,h2,he,_⟩
  ·exact ⟨_,_,_,_,_,_,_,_,_,_,he,.inl ⟨h1,rfl⟩,hb⟩
  ·exact ⟨_,_,_,_,_,_,_,_,_,_,he,.inr ⟨h1,.inl ⟨h2,rfl⟩⟩,hb⟩
  ·exact ⟨_,_,_,_,_,_,_,_,_,_,he,.inr ⟨h1,.inr ⟨h,h2,rfl⟩⟩,hb⟩
theorem zim (g GL GO eL eO c A AL AO cp cL cO w) (hg:Vl w g GL GO eL eO) (hc:Cc w c A AL AO cp cL cO) (hgw:g.weight<=400000000) (hcw:c.v.weight<=1000000000) (hkey:c.key.size<=9223372036854775807) (hs:c.s.size<=9223372036854775807) (hpk:∀ s∈c.path,s.key.size<=9223372036854775807) (hT:Tabs w) (htx:TextChecks w c A AL AO cp cL cO):
  Calls Tryz.prog 31 #[.agg #[.int .u8 g.kq,.int .i64 g.num,.string g.str,.slice GL g.il.length eL,.slice GO g.vz.length eO],.agg #[.int .u8 c.kq,.slice A c.path.length cp,.string c.key,.int .i64 c.i,.int .i64 c.j,.int .i64 c.n,.int .u8 c.v.kq,.int .i64 c.v.num,.string c.v.str,.slice AL c.v.il.length cL,.slice AO c.v.vz.length cO,.string c.s]] w fun e w'=>∃ n:Int,e=.returned (.int .u16 n)/\ChkIs g c n/\Below w.heap.size w w':=by
 have HB:=hid ((zaa w (.cells #[.int .u8 g.kq,.int .i64 g.num,.string g.str,.slice GL g.il.length eL,.slice GO g.vz.length eO] 29)).alloc (by simp) (.cells #[.int .u8 c.kq,.slice A c.path.length cp,.string c.key,.int .i64 c.i,.int .i64 c.j,.int .i64 c.n,.int .u8 c.v.kq,.int .i64 c.v.num,.string c.v.str,.slice AL c.v.il.length cL,.slice AO c.v.vz.length cO,.string c.s] 45))
 have HF:=hid (fun W (hb:Below w.heap.size w W)=>zhF g GL GO eL eO c A AL AO cp cL cO W (hg.later hb) (hc.later hb) hgw hcw hkey hs hpk (hT.below hb (Nat.le_refl _)) (fun h h3 hw w3 W' hb'=>htx h h3 hw w3 W' (hb.trans (hb'.mono hb.size))))
 clear hg hc hgw hcw hkey hs hpk hT htx;go_enter Tryz.func31,Tryz.ntmps31
 go_wp2_with (go_at_call 36;refine (HF.out _ HB.out).mono ?_;rintro e w1 ⟨k,m,s,HL,HO,nl,dL,no,dO,n,rfl,hn,hb⟩;have H1:=hid (And.intro hn (HB.out.trans (hb.mono HB.out.size)));clear hn hb)
 go_ret
 exact ⟨n,rfl,H1.out.1,H1.out.2.alloc H1.out.2.size _⟩
structure DB (w W:World) (cg cc cr:Array Value):Prop where
 g:Whole W w.heap.size 29 cg
 c:Whole W (w.heap.size+1) 45 cc
 r:Whole W (w.heap.size+1+1) 29 cr
 below:Below w.heap.size w W
theorem DB.new (w:World) (cg cc cr:Array Value):DB w (((w.alloc (.cells cg 29)).alloc (.cells cc 45)).alloc (.cells cr 29)) cg cc cr:=by
 have h1:=(Whole.new (w.alloc (.cells cg 29)) 45 cc).alloc (.cells cr 29);have h2:=Whole.new ((w.alloc (.cells cg 29)).alloc (.cells cc 45)) 29 cr;rw [World.size_alloc] at h1;rw [World.size_alloc,World.size_alloc] at h2;exact ⟨((Whole.new w _ _).alloc _).alloc _,h1,h2,(((Below.refl _ w).alloc (Nat.le_refl _) _).alloc (by simp) _).alloc (by simp;omega) _⟩
theorem DB.step {w W W':World} {cg cc cr:Array Value} (h:DB w W cg cc cr) {B:Nat} (hB:w.heap.size+1+1+1<=B) (hb:Below B W W'):DB w W' cg cc cr:=
 ⟨h.g.below hb (by omega),h.c.below hb (by omega),h.r.below hb (by omega),h.below.trans (hb.mono (by omega))⟩
theorem DB.size (w:World) (cg cc cr:Array Value):(((w.alloc (.cells cg 29)).alloc (.cells cc 45)).alloc (.cells cr 29)).heap.size=w.heap.size+1+1+1:=by simp
def PlaceDoes (h:GV) (c:GC) (A AL AO:Option Addr) (cp cL cO:Nat) (w:World):Prop:=∀ (HL HO:Option Addr) (dL lo:Nat) (W:World),Below w.heap.size w W->w.heap.size<=lo->lo<=W.heap.size->h.val (fun k=>lo<=k) W (.agg #[.int .u8 h.kq,.int .i64 h.num,.string h.str,.slice HL h.il.length dL,.slice HO h.vz.length h.vz.length])->FullO lo W h (.agg #[.int .u8 h.kq,.int .i64 h.num,.string h.str,.slice HL h.il.length dL,.slice HO h.vz.length h.vz.length]) ->
 Calls Tryz.prog 37 #[.pointer (some ⟨W.heap.size,0,none⟩),.agg #[.int .u8 c.kq,.slice A c.path.length cp,.string c.key,.int .i64 c.i,.int .i64 c.j,.int .i64 c.n,.int .u8 c.v.kq,.int .i64 c.v.num,.string c.v.str,.slice AL c.v.il.length cL,.slice AO c.v.vz.length cO,.string c.s]] (W.alloc (.cells #[.int .u8 h.kq,.int .i64 h.num,.string h.str,.slice HL h.il.length dL,.slice HO h.vz.length h.vz.length] 79)) (PlaceIs lo W.heap.size (doH h c) (W.alloc (.cells #[.int .u8 h.kq,.int .i64 h.num,.string h.str,.slice HL h.il.length dL,.slice HO h.vz.length h.vz.length] 79)))
def VlNew (n:Nat) (W:World) (y:GV) (BL BO:Option Addr) (dL dO:Nat):Prop:=LstV (fun k=>n<=k) W (.slice BL y.il.length dL) y.il/\ObjV (fun k=>n<=k) W (.slice BO y.vz.length dO) y.keys y.vz
def DoesOut (g:GV) (c:GC) (w:World) (e:Ending) (w':World):Prop:=Below w.heap.size w w'/\∃ n:Int,ChkIs g c n /\
 ((n≠0/\e=.returned (.tuple #[.agg #[.int .u8 0,.int .i64 0,.string ⟨#[]⟩,.slice none 0 0,.slice none 0 0],.int .u16 n]))\/(n=0/\∃ h y BL BO dL dO,g.get c.path=some h/\chkH h c=0/\g.put (doH h c) c.path=some y/\e=.returned (.tuple #[.agg #[.int .u8 y.kq,.int .i64 y.num,.string y.str,.slice BL y.il.length dL,.slice BO y.vz.length dO],.int .u16 0])/\Vl w' y BL BO dL dO/\VlNew w.heap.size w' y BL BO dL dO))
theorem zh4 {g h:GV} {ps:List GStep} (x:GV) (e:g.get ps=some h):∃ y,g.put x ps=some y:=zhe e
theorem zmv (g GL GO eL eO c A AL AO cp cL cO w) (hg:Vl w g GL GO eL eO) (hc:Cc w c A AL AO cp cL cO) (hgw:g.weight<=400000000) (hcw:c.v.weight<=1000000000) (hkey:c.key.size<=9223372036854775807) (hs:c.s.size<=9223372036854775807) (hpk:∀ s∈c.path,s.key.size<=9223372036854775807) (hT:Tabs w) (htx:TextChecks w c A AL AO cp cL cO) (hdo:∀ h,g.get c.path=some h->chkH h c=0->c.Sound->PlaceDoes h c A AL AO cp cL cO w) (hdw:∀ h,g.get c.path=some h->chkH h c=0->(doH h c).weight<=400000000):
  Calls Tryz.prog 19 #[.agg #[.int .u8 g.kq,.int .i64 g.num,.string g.str,.slice GL g.il.length eL,.slice GO g.vz.length eO],.agg #[.int .u8 c.kq,.slice A c.path.length cp,.string c.key,.int .i64 c.i,.int .i64 c.j,.int .i64 c.n,.int .u8 c.v.kq,.int .i64 c.v.num,.string c.v.str,.slice AL c.v.il.length cL,.slice AO c.v.vz.length cO,.string c.s]] w (DoesOut g c w):=by
 have H0:=hid (DB.new w #[.int .u8 g.kq,.int .i64 g.num,.string g.str,.slice GL g.il.length eL,.slice GO g.vz.length eO] #[.int .u8 c.kq,.slice A c.path.length cp,.string c.key,.int .i64 c.i,.int .i64 c.j,.int .i64 c.n,.int .u8 c.v.kq,.int .i64 c.v.num,.string c.v.str,.slice AL c.v.il.length cL,.slice AO c.v.vz.length cO,.string c.s] #[.int .u8 0,.int .i64 0,.string ⟨#[]⟩,.slice none 0 0,.slice none 0 0]);have hex:∃ n,ChkIs g c n:=by
  by_cases hS:c.Sound
  ·cases hget:g.get c.path with
   | none=>exact ⟨30,.inr ⟨hS,.inl ⟨hget,rfl⟩⟩⟩
   | some h=>exact ⟨chkH h c,.inr ⟨hS,.inr ⟨h,hget,rfl⟩⟩⟩
  ·exact ⟨60,.inl ⟨hS,rfl⟩⟩
 obtain ⟨n,hn⟩:=hex;by_cases h0:n=0
 ·subst h0
  obtain ⟨h,hS,hget,hk⟩:∃ h,c.Sound/\g.get c.path=some h/\chkH h c=0:=by
   rcases hn with ⟨_,h⟩ | ⟨hS,⟨_,h⟩ | ⟨h,h1,h2⟩⟩
   ·cases h
   ·cases h
   ·exact ⟨h,hS,h1,h2.symm⟩
  obtain ⟨y,hput⟩:=zh4 (doH h c) hget;have HN:=hid hn;have HG:=hid (And.intro hget (And.intro hk hput));have HF:=hid (fun W (hb:Below w.heap.size w W)=>(zgP g GL GO eL eO c A AL AO cp cL cO W (hg.later hb) (hc.later hb) hgw hcw hkey hs hpk (hT.below hb (Nat.le_refl _)) (fun h h3 hw w3 W' hb'=>htx h h3 hw w3 W' (hb.trans (hb'.mono hb.size)))).mono (R':=fun e w'=>∃ HL HO dL,e=.returned (.tuple #[.agg #[.int .u8 h.kq,.int .i64 h.num,.string h.str,.slice HL h.il.length dL,.slice HO h.vz.length h.vz.length],.int .u16 0])/\(h.val (fun k=>W.heap.size<=k) w' (.agg #[.int .u8 h.kq,.int .i64 h.num,.string h.str,.slice HL h.il.length dL,.slice HO h.vz.length h.vz.length])/\FullO W.heap.size w' h (.agg #[.int .u8 h.kq,.int .i64 h.num,.string h.str,.slice HL h.il.length dL,.slice HO h.vz.length h.vz.length]))/\Below W.heap.size W w') fun e w' ⟨hb',hq⟩=>by
   rcases hq with ⟨h1,_⟩ | ⟨_,h2,_⟩ | ⟨_,h',HL,HO,dL,h2,he,hv,hf⟩
   ·exact absurd hS h1
   ·rw [hget] at h2;cases h2
   ·rw [hget] at h2
    cases h2
    rw [hk] at he;exact ⟨HL,HO,dL,he,⟨hv,hf⟩,hb'⟩)
  have HD:=hid (hdo h hget hk hS);have HP:=hid (fun W (hb:Below w.heap.size w W) (XL XO:Option Addr) (xL xO:Nat) (hx:Vl W (doH h c) XL XO xL xO)=>(zli (fun _=>True) _ _ g (doH h c) W.heap.size A cp c.path W (hg.later hb).val hx.val (hc.path.later hb).steps (Nat.le_refl _) hc.path.le hc.path.cap hgw (hdw h hget hk)).mono (R':=fun e w'=>∃ (BL BO:Option Addr) (yL yO:Nat),e=.returned (.tuple #[.agg #[.int .u8 y.kq,.int .i64 y.num,.string y.str,.slice BL y.il.length yL,.slice BO y.vz.length yO],.int .u16 0])/\(LstV (fun k=>W.heap.size<=k) w' (.slice BL y.il.length yL) y.il/\ObjV (fun k=>W.heap.size<=k) w' (.slice BO y.vz.length yO) y.keys y.vz)/\Below W.heap.size W w') fun e w' ⟨hb',hq⟩=>by
   rcases hq with ⟨h1,_⟩ | ⟨y',v',h1,he,L,O,hv,hL,hO⟩
   ·rw [hput] at h1;cases h1
   ·rw [hput] at h1
    cases h1
    subst hv;obtain ⟨BL,yL,rfl⟩:=zah hL;obtain ⟨BO,yO,rfl⟩:=zag hO;exact ⟨BL,BO,yL,yO,he,⟨hL,hO⟩,hb'⟩)
  clear hn hg hc hgw hcw hkey hs hpk hT htx hdo hdw hput hget hk hS;go_enter Tryz.func19,Tryz.ntmps19
  go_wp2_with (first
   | (go_at_call 36;refine (HF.out _ (DB.new w _ _ _).below).mono ?_;rintro e w1 ⟨HL,HO,dL,rfl,hv,hb⟩;have hz:=DB.size w #[.int .u8 g.kq,.int .i64 g.num,.string g.str,.slice GL g.il.length eL,.slice GO g.vz.length eO] #[.int .u8 c.kq,.slice A c.path.length cp,.string c.key,.int .i64 c.i,.int .i64 c.j,.int .i64 c.n,.int .u8 c.v.kq,.int .i64 c.v.num,.string c.v.str,.slice AL c.v.il.length cL,.slice AO c.v.vz.length cO,.string c.s] #[.int .u8 0,.int .i64 0,.string ⟨#[]⟩,.slice none 0 0,.slice none 0 0];rw [hz] at hv hb;have H1:=hid (And.intro (H0.out.step (Nat.le_refl _) hb) (And.intro hv (show w.heap.size+1+1+1<=w1.heap.size from by have:=hb.size;rw [hz] at this;exact this)));clear hb hv hz;have c0:=fun o=>zab o H1.out.1.c.tw.c0;have c1:=fun o=>zab o H1.out.1.c.tw.c1;have c2:=fun o=>zab o H1.out.1.c.tw.c2;have c3:=fun o=>zab o H1.out.1.c.tw.c3;have c4:=fun o=>zab o H1.out.1.c.tw.c4;have c5:=fun o=>zab o H1.out.1.c.tw.c5;have c6:=fun o=>zab o H1.out.1.c.tw.c6;have c7:=fun o=>zab o H1.out.1.c.tw.c7;have c8:=fun o=>zab o H1.out.1.c.tw.c8;have c9:=fun o=>zab o H1.out.1.c.tw.c9;have c10:=fun o=>zab o H1.out.1.c.tw.c10;have c11:=fun o=>zab o H1.out.1.c.tw.c11)
   | (go_at_call 37;refine (HD.out HL HO dL (w.heap.size+1+1+1) w1 H1.out.1.below (by omega) H1.out.2.2 H1.out.2.1.1 H1.out.2.1.2).mono ?_;rintro e w2 ⟨rfl,XL,XO,xL,xO,hwh,hvl,hb⟩;have H2:=hid (And.intro ((H1.out.1.step (B:=w1.heap.size) H1.out.2.2 (zaa w1 (.cells #[.int .u8 h.kq,.int .i64 h.num,.string h.str,.slice HL h.il.length dL,.slice HO h.vz.length h.vz.length] 79))).step (Nat.le_refl _) hb) (And.intro hwh hvl));clear hb hwh hvl c0 c1 c2 c3 c4 c5 c6 c7 c8 c9 c10 c11;obtain ⟨p0,p1,p2,p3,p4,_⟩:=H2.out.2.1.five;obtain ⟨g0,g1,g2,g3,g4,_⟩:=H2.out.1.g.five;have c1:=H2.out.1.c.tw.c1)
   | (go_at_call 38;refine (HP.out _ H2.out.1.below _ _ _ _ H2.out.2.2).mono ?_;rintro e w3 ⟨BL,BO,yL,yO,rfl,hv,hb⟩;have H3:=hid (And.intro (H2.out.1.step (Nat.succ_le_of_lt H2.out.1.r.lt) hb) (And.intro hv (And.intro H2.out.1.r.lt hb.size)));clear hb hv;obtain ⟨r0,r1,r2,r3,r4,f0,f1,f2,f3,f4⟩:=H3.out.1.r.five))
  have h5:=zai H3.out.1.r (.int .u8 y.kq) (.int .i64 y.num) (.string y.str) (.slice BL y.il.length yL) (.slice BO y.vz.length yO);obtain ⟨d0,d1,d2,d3,d4,_⟩:=h5.five;unfold put5 at d0 d1 d2 d3 d4;refine bodyPost_ret (v:=.tuple #[.agg #[.int .u8 y.kq,.int .i64 y.num,.string y.str,.slice BL y.il.length yL,.slice BO y.vz.length yO],.int .u16 0]) (by simp [results,Tryz.results19,go_sem,d0,d1,d2,d3,d4]) rfl ?_
  refine ⟨zae H3.out.1.below (by omega) _ _ _ _ _,0,HN.out,.inr ⟨rfl,h,y,BL,BO,yL,yO,HG.out.1,HG.out.2.1,HG.out.2.2,rfl,?_⟩⟩
  have hr2:=H3.out.2.2.1;have hz2:=H2.out.1.below.size;exact ⟨⟨H3.out.2.1.1.keep (fun k hk _=>zac _ _ _ _ _ _ _ _ (by omega)) (fun _ _ _=>trivial),H3.out.2.1.2.keep (fun k hk _=>zac _ _ _ _ _ _ _ _ (by omega)) (fun _ _ _=>trivial)⟩,H3.out.2.1.1.keep (fun k hk _=>zac _ _ _ _ _ _ _ _ (by omega)) (fun k hk _=>Nat.le_trans hz2 hk),H3.out.2.1.2.keep (fun k hk _=>zac _ _ _ _ _ _ _ _ (by omega)) (fun k hk _=>Nat.le_trans hz2 hk)⟩
 ·have HN:=hid hn
  have HN0:=hid h0;have hne:(n != 0)=true:=by simpa using h0
  have hnq:(n == 0)=false:=by simpa using h0
  have HF:=hid (fun W (hb:Below w.heap.size w W)=>(zhF g GL GO eL eO c A AL AO cp cL cO W (hg.later hb) (hc.later hb) hgw hcw hkey hs hpk (hT.below hb (Nat.le_refl _)) (fun h h3 hw w3 W' hb'=>htx h h3 hw w3 W' (hb.trans (hb'.mono hb.size)))).mono (R':=fun e w'=>∃ (k m:Int) (s:ByteArray) (HL HO:Option Addr) (nl dL no dO:Nat),e=.returned (.tuple #[.agg #[.int .u8 k,.int .i64 m,.string s,.slice HL nl dL,.slice HO no dO],.int .u16 n])/\Below W.heap.size W w') fun e w' ⟨k,m,s,HL,HO,nl,dL,no,dO,n',he,hn',hb'⟩=>⟨k,m,s,HL,HO,nl,dL,no,dO,by rw [he,zcg hn' hn],hb'⟩)
  clear hg hc hgw hcw hkey hs hpk hT htx hdo hdw hn h0;go_enter Tryz.func19,Tryz.ntmps19
  go_wp2_with (go_at_call 36;refine (HF.out _ (DB.new w _ _ _).below).mono ?_;rintro e w1 ⟨k,m,s,HL,HO,nl,dL,no,dO,rfl,hb⟩;have H1:=hid (H0.out.step (Nat.le_of_eq (DB.size w _ _ _).symm) hb);clear hb;have r0:=fun o=>(H1.out.r.alloc o).five.c0;have r1:=fun o=>(H1.out.r.alloc o).five.c1;have r2:=fun o=>(H1.out.r.alloc o).five.c2;have r3:=fun o=>(H1.out.r.alloc o).five.c3;have r4:=fun o=>(H1.out.r.alloc o).five.c4;have f0:=fun o=>(H1.out.r.alloc o).five.f0;have f1:=fun o=>(H1.out.r.alloc o).five.f1;have f2:=fun o=>(H1.out.r.alloc o).five.f2;have f3:=fun o=>(H1.out.r.alloc o).five.f3;have f4:=fun o=>(H1.out.r.alloc o).five.f4)
  have h1:=H1.out.r.alloc (.cells #[.int .u8 k,.int .i64 m,.string s,.slice HL nl dL,.slice HO no dO] 79);have h5:=zai h1 (.int .u8 0) (.int .i64 0) (.string ⟨#[]⟩) (.slice none 0 0) (.slice none 0 0);obtain ⟨d0,d1,d2,d3,d4,_⟩:=h5.five;unfold put5 at d0 d1 d2 d3 d4;refine bodyPost_ret (v:=.tuple #[.agg #[.int .u8 0,.int .i64 0,.string ⟨#[]⟩,.slice none 0 0,.slice none 0 0],.int .u16 n]) (by simp [results,Tryz.results19,go_sem,d0,d1,d2,d3,d4]) rfl ?_
  exact ⟨zae (H1.out.below.alloc H1.out.below.size _) (by omega) _ _ _ _ _,n,HN.out,.inl ⟨HN0.out,rfl⟩⟩
end Go.Proofs.YtmmgdkpkcoopgaaGreatDoor
namespace Go.Proofs.YtmmgdkpkcoopgaaGreatDoor
open Go.Lib(hid)
open Go Go.RowKit Go.Shelf
set_option linter.unusedVariables false
set_option linter.unusedSimpArgs false
def CcNew (n:Nat) (W:World) (c:GC) (B AL AO:Option Addr) (cp cL cO:Nat):Prop:=Wy W B cp c.path/\(∀ p,B=some p->n<=p.block)/\VlNew n W c.v AL AO cL cO
theorem CcNew.cc {n W c B AL AO cp cL cO} (h:CcNew n W c B AL AO cp cL cO):Cc W c B AL AO cp cL cO:=⟨h.1,⟨h.2.2.1.keep (From.refl _ _) (fun _ _ _=>trivial),h.2.2.2.keep (From.refl _ _) (fun _ _ _=>trivial)⟩⟩
theorem CcNew.kp {n m:Nat} {W W' c B AL AO cp cL cO} (h:CcNew n W c B AL AO cp cL cO) (hm:m<=n) (hk:Kp n W W'):CcNew m W' c B AL AO cp cL cO:=
 ⟨h.1.kp h.2.1 hk,fun p hp=>Nat.le_trans hm (h.2.1 p hp),h.2.2.1.keep (fun k h1 h2=>hk.2 k h1 h2) (fun k h1 h2=>by omega),h.2.2.2.keep (fun k h1 h2=>hk.2 k h1 h2) (fun k h1 h2=>by omega)⟩
def SameNw (c:GC) (w:World) (e:Ending) (w':World):Prop:=∃ B AL AO cp cL cO,e=.returned (.agg #[.int .u8 c.kq,.slice B c.path.length cp,.string c.key,.int .i64 c.i,.int .i64 c.j,.int .i64 c.n,.int .u8 c.v.kq,.int .i64 c.v.num,.string c.v.str,.slice AL c.v.il.length cL,.slice AO c.v.vz.length cO,.string c.s])/\CcNew w.heap.size w' c B AL AO cp cL cO/\Below w.heap.size w w'
theorem zhB {W A cp ps} (h:Wy W A cp ps):(A=none->ps.length=0)/\∀ ad,A=some ad->∀ (j:Nat) (u:Value),(cellsP ps)[j]? = some u->ad.block<W.heap.size/\W.cell? (ad.add j)=some u:=by
 refine ⟨fun e=>?_,fun a e j u hj=>?_⟩
 ·by_cases hne:ps=[]
  ·rw [hne];rfl
  ·obtain ⟨a,e',_⟩:=h.steps hne
   rw [e] at e';cases e'
 ·have hne:ps≠[]:=by intro e;rw [e] at hj;simp [cellsP] at hj
  obtain ⟨⟨b,o,sp⟩,e',hs,hlt,hc⟩:=h.steps hne;rw [e] at e';cases e'
  simp only at hs;subst hs;have:=zcD hc j u hj;have e:(⟨b,o,none⟩:Addr).add j =⟨b,o+j,none⟩:=by unfold Addr.add;split<;>simp_all
  rw [e];exact ⟨hlt,this⟩
end Go.Proofs.YtmmgdkpkcoopgaaGreatDoor
namespace Go.Proofs.YtmmgdkpkcoopgaaGreatDoor
open Go.Lib(hid)
open Go Go.RowKit
set_option linter.unusedVariables false
set_option linter.unusedSimpArgs false
def saysB (k:Int):ByteArray:=if k=1 then ⟨#[78]⟩ else if k=2 then ⟨#[75,86]⟩ else if k=3 then ⟨#[75]⟩ else if k=4 then ⟨#[73,86]⟩ else if k=5 then ⟨#[73]⟩ else if k=6 then ⟨#[73,86]⟩ else if k=7 then ⟨#[73,74]⟩ else if k=8 then ⟨#[73,83]⟩ else if k=9 then ⟨#[73,78]⟩ else ⟨#[]⟩
theorem zbj (k:Int) (w:World):Calls Tryz.prog 67 #[.int .u8 k] w fun e w'=>e=.returned (.string (saysB k))/\w'=w:=by
 by_cases hk:1<=k/\k<=9
 ·obtain ⟨h1,h9⟩:=hk
  rcases (show k=1\/k=2\/k=3\/k=4\/k=5\/k=6\/k=7\/k=8\/k=9 by omega) with rfl | rfl | rfl | rfl | rfl | rfl | rfl | rfl | rfl
  all_goals
   go_enter Tryz.func67,Tryz.ntmps67
   go_wp2
   go_ret
   exact ⟨rfl,rfl⟩
 ·have hs:saysB k =⟨#[]⟩:=by unfold saysB;simp only [show ¬ k=1 by omega,show ¬ k=2 by omega,show ¬ k=3 by omega,show ¬ k=4 by omega,show ¬ k=5 by omega,show ¬ k=6 by omega,show ¬ k=7 by omega,show ¬ k=8 by omega,show ¬ k=9 by omega,if_false]
  rw [hs];have g1:(k == 1)=false:=by simp;omega
  have g2:(k == 2)=false:=by simp;omega
  have g3:(k == 3)=false:=by simp;omega
  have g4:(k == 4)=false:=by simp;omega
  have g5:(k == 5)=false:=by simp;omega
  have g6:(k == 6)=false:=by simp;omega
  have g7:(k == 7)=false:=by simp;omega
  have g8:(k == 8)=false:=by simp;omega
  have g9:(k == 9)=false:=by simp;omega
  clear hk hs;go_enter Tryz.func67,Tryz.ntmps67
  go_wp2
  go_ret
  exact ⟨rfl,rfl⟩
def inB (s:ByteArray) (c:Int):Bool:=s.data.toList.any fun b=>decide ((b.toNat:Int)=c)
def InRel (s:ByteArray) (c:Int) (w:World) (i:Value) (wr:World):Prop:=∃ k:Nat,i=.int .i64 k/\k<=s.size/\(∀ b∈s.data.toList.take k,(b.toNat:Int)≠c)/\wr=w
theorem zar (s:ByteArray) (c:Int) (w:World) (hs:s.size<=1000):Calls Tryz.prog 69 #[.string s,.int .u8 c] w fun e w'=>e=.returned (.bool (inB s c))/\w'=w:=by
 go_enter Tryz.func69,Tryz.ntmps69
 go_wp2
 go_loopw [5] (InRel s c w) (fun i _=>s.size - (intOf i).toNat)
 case atStart=>exact ⟨0,rfl,Nat.zero_le _,by simp,rfl⟩
 case round=>
  obtain ⟨k,rfl,hk,hno,rfl⟩:=hrel;by_cases hlt:k<s.size
  ·have hl2:k<s.data.toList.length:=by simpa using hlt
   have hb:s.data.toList[k]=s[k]:=by simp;rfl
   have HNO:=hid hno;have HT:=hid (show s.data.toList.take (k+1)=s.data.toList.take k++[s[k]] by rw [List.take_succ_eq_append_getElem hl2,hb])
   have HM:=hid (show s[k]∈s.data.toList by rw [<- hb];exact List.getElem_mem hl2)
   clear hno hb;by_cases hc:((s[k].toNat:Int))=c
   ·have HC:=hid hc
    have hz:((s[k].toNat:Int) == c)=true:=by simpa using hc
    clear hc;go_wp2
    go_ret
    exact ⟨by rw [show inB s c=true from List.any_eq_true.2 ⟨_,HM.out,by simpa using HC.out⟩]<;>rfl,rfl⟩
   ·have HC:=hid hc
    have hz:((s[k].toNat:Int) == c)=false:=by simpa using hc
    clear hc;go_wp2
    go_roundw
    case rel=>exact ⟨k+1,by go_num,by omega,by rw [HT.out];intro b hb;rcases List.mem_append.1 hb with hb | hb;exact HNO.out b hb;simp only [List.mem_singleton] at hb;subst hb;exact HC.out,rfl⟩
    case measure=>simp [intOf];omega
  ·have hk':k=s.size:=by omega
   have HF:=hid (show inB s c=false by
    unfold inB;rw [List.any_eq_false];intro b hb;have:=hno b (by rw [List.take_of_length_le (by simp;omega)];exact hb)
    simpa using this)
   clear hno;go_wp2
   go_ret
   exact ⟨by rw [HF.out]<;>rfl,rfl⟩
end Go.Proofs.YtmmgdkpkcoopgaaGreatDoor
