/- Texts in one: CompV, CompW, CompX, CompY, CompZ. -/
import Derived.Test.YthmcfjmignlhfaaGreatDoorS18
import Derived.Test.YthmcfjmignlhfaaGreatDoorS14
import Derived.BigQuiet
import Derived.Deep.QuietTactic
import Derived.Test.YthmcfjmignlhfaaGreatDoorS5
import Derived.Test.YthmcfjmignlhfaaGreatDoorS9
set_option maxRecDepth 100000
set_option maxHeartbeats 8000000
namespace Go.Proofs.YthmcfjmignlhfaaGreatDoor
open Go.Lib(hid)
open Go Go.RowKit
open Go.Sort (grow)
set_option linter.unusedVariables false
set_option linter.unusedSimpArgs false
theorem ziU (k:Int) (hk:1<=k/\k<=9) (w:World):Calls Tryz.prog 109 #[.int .u8 k] w fun e w'=>e=.returned (.int .u8 (worksOn k))/\w'=w:=by
 obtain ⟨h1,h9⟩:=hk;rcases (show k=1\/k=2\/k=3\/k=4\/k=5\/k=6\/k=7\/k=8\/k=9 by omega) with rfl | rfl | rfl | rfl | rfl | rfl | rfl | rfl | rfl
 all_goals
  go_enter Tryz.func109,Tryz.ntmps109
  go_wp2
  go_ret
  exact ⟨rfl,rfl⟩
theorem zk1 (b) (h:GV) (HL HO dL dO) (key:ByteArray) (w) (hbx:Whole w b 93 #[.int .u8 h.kq,.int .i64 h.num,.string h.str,.slice HL h.il.length dL,.slice HO h.vz.length dO]) (hv:Vl w h HL HO dL dO):
  Calls Tryz.prog 112 #[.pointer (some ⟨b,0,none⟩),.string key] w fun e w'=>e=.returned (.bool (there key h.keys))/\Below w.heap.size w w':=by
 have HF:=hid ((zbx (fun _=>True) _ h key w hv.val))
 obtain ⟨a0,a1,a2,a3,a4,_⟩:=hbx.five;clear hbx hv;go_enter Tryz.func112,Tryz.ntmps112
 go_wp2_with (go_at_call 113;refine HF.out.mono ?_;rintro e w1 hq;obtain ⟨rfl,hb⟩:=hq;have HQ:=hid hb;clear hb)
 go_ret
 exact ⟨rfl,HQ.out⟩
theorem zcn (n k:Nat) (i j:Int):chk n k i j=chkL n k i j:=by
 unfold chk chkL withinB;have e4:((k:Int)=4)=(k=4):=by simp;omega
 have e5:((k:Int)=5)=(k=5):=by simp;omega
 have e6:((k:Int)=6)=(k=6):=by simp;omega
 have e7:((k:Int)=7)=(k=7):=by simp;omega
 simp only [e4,e5,e6,e7];simp
theorem zf3 (c A AL AO cp cL cO b) (h:GV) (HL HO dL dO w) (hc:Cc w c A AL AO cp cL cO) (hbx:Whole w b 93 #[.int .u8 h.kq,.int .i64 h.num,.string h.str,.slice HL h.il.length dL,.slice HO h.vz.length dO]) (hv:Vl w h HL HO dL dO) (hk1:1<=c.kq/\c.kq<=9)
  (hx:h.kq=3->worksOn c.kq=3->∀ W,Below w.heap.size w W->Calls Tryz.prog 111 #[.string h.str,.agg #[.int .u8 c.kq,.slice A c.path.length cp,.string c.key,.int .i64 c.i,.int .i64 c.j,.int .i64 c.n,.int .u8 c.v.kq,.int .i64 c.v.num,.string c.v.str,.slice AL c.v.il.length cL,.slice AO c.v.vz.length cO,.string c.s]] W fun e w'=>e=.returned (.int .u16 (chkT (nChars h.str) c.kq.toNat c.i c.n))/\Below W.heap.size W w'):
  Calls Tryz.prog 86 #[.pointer (some ⟨b,0,none⟩),.agg #[.int .u8 c.kq,.slice A c.path.length cp,.string c.key,.int .i64 c.i,.int .i64 c.j,.int .i64 c.n,.int .u8 c.v.kq,.int .i64 c.v.num,.string c.v.str,.slice AL c.v.il.length cL,.slice AO c.v.vz.length cO,.string c.s]] w fun e w'=>e=.returned (.int .u16 (chkH h c))/\Below w.heap.size w w':=by
 have HB:=hid (zaa w (.cells #[.int .u8 c.kq,.slice A c.path.length cp,.string c.key,.int .i64 c.i,.int .i64 c.j,.int .i64 c.n,.int .u8 c.v.kq,.int .i64 c.v.num,.string c.v.str,.slice AL c.v.il.length cL,.slice AO c.v.vz.length cO,.string c.s] 48));have HCW:=hid (Whole.new w 48 #[.int .u8 c.kq,.slice A c.path.length cp,.string c.key,.int .i64 c.i,.int .i64 c.j,.int .i64 c.n,.int .u8 c.v.kq,.int .i64 c.v.num,.string c.v.str,.slice AL c.v.il.length cL,.slice AO c.v.vz.length cO,.string c.s]);have HC:=hid HCW.out.tw;have HBX:=hid (hbx.alloc (.cells #[.int .u8 c.kq,.slice A c.path.length cp,.string c.key,.int .i64 c.i,.int .i64 c.j,.int .i64 c.n,.int .u8 c.v.kq,.int .i64 c.v.num,.string c.v.str,.slice AL c.v.il.length cL,.slice AO c.v.vz.length cO,.string c.s] 48));obtain ⟨k,hkn⟩:∃ k:Nat,c.kq=k:=⟨c.kq.toNat,by omega⟩
 have D1:=hid (fun (W0:World) (d:Nat) (os:Array Obj)=>Calls.regrown_of ((ziU c.kq hk1 (grow (redrawn W0 d) os)).mono (R':=fun e w'=>e=.returned (.int .u8 (worksOn c.kq))/\Below (grow (redrawn W0 d) os).heap.size (grow (redrawn W0 d) os) w') fun e w' ⟨he,hw⟩=>⟨he,by rw [hw];exact Below.refl _ _⟩))
 have DS:=hid (fun (W1:World) (hb:Below w.heap.size w W1) (d:Nat) (os:Array Obj)=>Calls.regrown_of (zfv h.il.length k c.i c.j A AL AO c.path.length cp c.v.il.length cL c.v.vz.length cO c.key c.v.str c.s c.n c.v.kq c.v.num (grow (redrawn W1 d) os)))
 have hT:=fun h3 w3 (W1:World) (hb:Below w.heap.size w W1) (d:Nat) (os:Array Obj)=>Calls.regrown_of (hx h3 w3 (grow (redrawn W1 d) os) (hb.trans ((below_regrown W1 d os).mono hb.size)))
 have HF:=hid (fun (W1:World) (hb:Below w.heap.size w W1)=>zk1 b h HL HO dL dO c.key W1 (hbx.below hb hbx.lt) (hv.later hb))
 rw [<- hkn] at DS;by_cases q:h.kq=worksOn c.kq
 ·by_cases q4:h.kq=4
  ·have hr:chkH h c=chk h.il.length k c.i c.j:=by
    rw [zcn,<- hkn];simp only [chkH,ne_eq,q,not_true_eq_false,if_false];rw [<- q,if_pos q4]
   rw [hr];generalize chk h.il.length k c.i c.j=r at *;have z:(h.kq == worksOn c.kq)=true:=by simpa using q
   have z4:(h.kq == 4)=true:=by simpa using q4
   clear hr q q4 hT hx hbx hv hc HF hkn;generalize worksOn c.kq=wk at *;generalize c.path.length=pn at *;generalize c.v.il.length=vl at *;generalize c.v.vz.length=vo at *;generalize c.v.kq=vk at *;generalize c.v.num=vn at *;generalize c.v.str=vs at *;generalize c.key=ky at *;generalize c.i=ci at *;generalize c.j=cj at *;generalize c.n=cn at *;generalize c.s=cs at *;generalize c.kq=ck at *;generalize h.kq=hk at *;generalize h.num=hn at *;generalize h.str=hs at *;generalize h.il.length=hl at *;generalize h.vz.length=ho at *;go_enter Tryz.func86,Tryz.ntmps86
   go_wp2
   generalize (w.alloc (.cells #[.int .u8 ck,.slice A pn cp,.string ky,.int .i64 ci,.int .i64 cj,.int .i64 cn,.int .u8 vk,.int .i64 vn,.string vs,.slice AL vl cL,.slice AO vo cO,.string cs] 48))=W0 at *;have u0:=fun d os=>cell_regrown HC.out.c0 d os
   obtain ⟨b0,b1,b2,b3,b4,_⟩:=HBX.out.five;have v0:=cell_regrown b0;refine wp_region_quiet_below (by kernel_rfl) (by kernel_rfl) ?_
   repeat (any_goals (go_big_quiet_step (with_reducible exact D1.out _ _ _)))
   refine wpQuiet_nil ?_
   intro _ hw';obtain ⟨⟨dq,osq⟩,hw''⟩:=hw';subst hw'';have hB1:=below_regrown W0 dq osq;have HC1:=hid (HCW.out.below hB1 HCW.out.lt).tw;have HX1:=hid (HBX.out.below hB1 HBX.out.lt).five;have HBB:=hid (HB.out.trans (hB1.mono HB.out.size));clear hB1 u0 v0 b0 b1 b2 b3 b4 D1;generalize grow (redrawn W0 dq) osq=W1 at *;obtain ⟨c0,c1,c2,c3,c4,c5,c6,c7,c8,c9,c10,c11,_⟩:=HC1.out;obtain ⟨b0,b1,b2,b3,b4,_⟩:=HX1.out;go_wp2
   have u0:=cell_regrown c0;have u1:=cell_regrown c1;have u2:=cell_regrown c2;have u3:=cell_regrown c3;have u4:=cell_regrown c4;have u5:=cell_regrown c5;have u6:=cell_regrown c6;have u7:=cell_regrown c7;have u8:=cell_regrown c8;have u9:=cell_regrown c9;have u10:=cell_regrown c10;have u11:=cell_regrown c11;have v2:=cell_regrown b2;have v3:=cell_regrown b3;have DX:=hid (DS.out W1 HBB.out);clear c0 c1 c2 c3 c4 c5 c6 c7 c8 c9 c10 c11 b0 b1 b2 b3 b4;refine wp_region_quiet_below (by kernel_rfl) (by kernel_rfl) ?_
   repeat (any_goals (go_big_quiet_step (with_reducible exact DX.out _ _)))
   refine wpQuiet_nil ?_
   intro _ hw';obtain ⟨⟨dq2,osq2⟩,hw''⟩:=hw';subst hw'';go_wp2
   go_ret
   exact ⟨rfl,HBB.out.trans ((below_regrown W1 dq2 osq2).mono HBB.out.size)⟩
  ·by_cases q3:h.kq=3
   ·have hr:chkH h c=chkT (nChars h.str) c.kq.toNat c.i c.n:=by
     simp only [chkH,ne_eq,q,not_true_eq_false,if_false];rw [<- q,if_neg q4,if_pos q3]
    have DT:=hid (hT q3 (q.symm.trans q3));rw [<- hr] at DT;generalize chkH h c=r at *;have z:(h.kq == worksOn c.kq)=true:=by simpa using q
    have z4:(h.kq == 4)=false:=by simpa using q4
    have z3:(h.kq == 3)=true:=by simpa using q3
    clear hr q q4 q3 hT hx hbx hv hc HF hkn DS;generalize worksOn c.kq=wk at *;generalize c.path.length=pn at *;generalize c.v.il.length=vl at *;generalize c.v.vz.length=vo at *;generalize c.v.kq=vk at *;generalize c.v.num=vn at *;generalize c.v.str=vs at *;generalize c.key=ky at *;generalize c.i=ci at *;generalize c.j=cj at *;generalize c.n=cn at *;generalize c.s=cs at *;generalize c.kq=ck at *;generalize h.kq=hk at *;generalize h.num=hn at *;generalize h.str=hs at *;generalize h.il.length=hl at *;generalize h.vz.length=ho at *;go_enter Tryz.func86,Tryz.ntmps86
    go_wp2
    generalize (w.alloc (.cells #[.int .u8 ck,.slice A pn cp,.string ky,.int .i64 ci,.int .i64 cj,.int .i64 cn,.int .u8 vk,.int .i64 vn,.string vs,.slice AL vl cL,.slice AO vo cO,.string cs] 48))=W0 at *;have u0:=fun d os=>cell_regrown HC.out.c0 d os
    obtain ⟨b0,b1,b2,b3,b4,_⟩:=HBX.out.five;have v0:=cell_regrown b0;refine wp_region_quiet_below (by kernel_rfl) (by kernel_rfl) ?_
    repeat (any_goals (go_big_quiet_step (with_reducible exact D1.out _ _ _)))
    refine wpQuiet_nil ?_
    intro _ hw';obtain ⟨⟨dq,osq⟩,hw''⟩:=hw';subst hw'';have hB1:=below_regrown W0 dq osq;have HC1:=hid (HCW.out.below hB1 HCW.out.lt).tw;have HX1:=hid (HBX.out.below hB1 HBX.out.lt).five;have HBB:=hid (HB.out.trans (hB1.mono HB.out.size));clear hB1 u0 v0 b0 b1 b2 b3 b4 D1;generalize grow (redrawn W0 dq) osq=W1 at *;obtain ⟨c0,c1,c2,c3,c4,c5,c6,c7,c8,c9,c10,c11,_⟩:=HC1.out;obtain ⟨b0,b1,b2,b3,b4,_⟩:=HX1.out;go_wp2
    have u0:=cell_regrown c0;have u1:=cell_regrown c1;have u2:=cell_regrown c2;have u3:=cell_regrown c3;have u4:=cell_regrown c4;have u5:=cell_regrown c5;have u6:=cell_regrown c6;have u7:=cell_regrown c7;have u8:=cell_regrown c8;have u9:=cell_regrown c9;have u10:=cell_regrown c10;have u11:=cell_regrown c11;have v2:=cell_regrown b2;have v3:=cell_regrown b3;have DX:=hid (DT.out W1 HBB.out);clear c0 c1 c2 c3 c4 c5 c6 c7 c8 c9 c10 c11 b0 b1 b2 b3 b4;refine wp_region_quiet_below (by kernel_rfl) (by kernel_rfl) ?_
    repeat (any_goals (go_big_quiet_step (with_reducible exact DX.out _ _)))
    refine wpQuiet_nil ?_
    intro _ hw';obtain ⟨⟨dq2,osq2⟩,hw''⟩:=hw';subst hw'';go_wp2
    go_ret
    exact ⟨rfl,HBB.out.trans ((below_regrown W1 dq2 osq2).mono HBB.out.size)⟩
   ·have z:(h.kq == worksOn c.kq)=true:=by simpa using q
    have z4:(h.kq == 4)=false:=by simpa using q4
    have z3:(h.kq == 3)=false:=by simpa using q3
    by_cases qd:c.kq=3
    ·have zd:(c.kq == 3)=true:=by simpa using qd
     cases ht:there c.key h.keys with
     | true=>
      have hr:chkH h c=0:=by
       simp only [chkH,ne_eq,q,not_true_eq_false,if_false];rw [<- q,if_neg q4,if_neg q3,if_neg (by rw [ht];simp)]
      rw [hr];rw [ht] at HF;clear hr q q4 q3 qd hT hx hbx hv hc hkn DS ht;generalize worksOn c.kq=wk at *;generalize c.path.length=pn at *;generalize c.v.il.length=vl at *;generalize c.v.vz.length=vo at *;generalize c.v.kq=vk at *;generalize c.v.num=vn at *;generalize c.v.str=vs at *;generalize c.key=ky at *;generalize c.i=ci at *;generalize c.j=cj at *;generalize c.n=cn at *;generalize c.s=cs at *;generalize c.kq=ck at *;generalize h.kq=hk at *;generalize h.num=hn at *;generalize h.str=hs at *;generalize h.il.length=hl at *;generalize h.vz.length=ho at *;go_enter Tryz.func86,Tryz.ntmps86
      go_wp2
      generalize (w.alloc (.cells #[.int .u8 ck,.slice A pn cp,.string ky,.int .i64 ci,.int .i64 cj,.int .i64 cn,.int .u8 vk,.int .i64 vn,.string vs,.slice AL vl cL,.slice AO vo cO,.string cs] 48))=W0 at *;have u0:=fun d os=>cell_regrown HC.out.c0 d os
      obtain ⟨b0,b1,b2,b3,b4,_⟩:=HBX.out.five;have v0:=cell_regrown b0;refine wp_region_quiet_below (by kernel_rfl) (by kernel_rfl) ?_
      repeat (any_goals (go_big_quiet_step (with_reducible exact D1.out _ _ _)))
      refine wpQuiet_nil ?_
      intro _ hw';obtain ⟨⟨dq,osq⟩,hw''⟩:=hw';subst hw'';have hB1:=below_regrown W0 dq osq;have HC1:=hid (HCW.out.below hB1 HCW.out.lt).tw;have HX1:=hid (HBX.out.below hB1 HBX.out.lt).five;have HBB:=hid (HB.out.trans (hB1.mono HB.out.size));clear hB1 u0 v0 b0 b1 b2 b3 b4 D1;generalize grow (redrawn W0 dq) osq=W1 at *;obtain ⟨c0,c1,c2,c3,c4,c5,c6,c7,c8,c9,c10,c11,_⟩:=HC1.out;obtain ⟨b0,b1,b2,b3,b4,_⟩:=HX1.out
      go_wp2_with (go_at_call 112;refine (HF.out _ HBB.out).mono ?_;rintro e w2 ⟨rfl,hb2⟩;have HB2:=hid (HBB.out.trans (hb2.mono HBB.out.size));clear hb2)
      go_ret
      exact ⟨rfl,HB2.out⟩
     | false=>
      have hr:chkH h c=33:=by
       simp only [chkH,ne_eq,q,not_true_eq_false,if_false];rw [<- q,if_neg q4,if_neg q3,if_pos ⟨qd,ht⟩]
      rw [hr];rw [ht] at HF;clear hr q q4 q3 qd hT hx hbx hv hc hkn DS ht;generalize worksOn c.kq=wk at *;generalize c.path.length=pn at *;generalize c.v.il.length=vl at *;generalize c.v.vz.length=vo at *;generalize c.v.kq=vk at *;generalize c.v.num=vn at *;generalize c.v.str=vs at *;generalize c.key=ky at *;generalize c.i=ci at *;generalize c.j=cj at *;generalize c.n=cn at *;generalize c.s=cs at *;generalize c.kq=ck at *;generalize h.kq=hk at *;generalize h.num=hn at *;generalize h.str=hs at *;generalize h.il.length=hl at *;generalize h.vz.length=ho at *;go_enter Tryz.func86,Tryz.ntmps86
      go_wp2
      generalize (w.alloc (.cells #[.int .u8 ck,.slice A pn cp,.string ky,.int .i64 ci,.int .i64 cj,.int .i64 cn,.int .u8 vk,.int .i64 vn,.string vs,.slice AL vl cL,.slice AO vo cO,.string cs] 48))=W0 at *;have u0:=fun d os=>cell_regrown HC.out.c0 d os
      obtain ⟨b0,b1,b2,b3,b4,_⟩:=HBX.out.five;have v0:=cell_regrown b0;refine wp_region_quiet_below (by kernel_rfl) (by kernel_rfl) ?_
      repeat (any_goals (go_big_quiet_step (with_reducible exact D1.out _ _ _)))
      refine wpQuiet_nil ?_
      intro _ hw';obtain ⟨⟨dq,osq⟩,hw''⟩:=hw';subst hw'';have hB1:=below_regrown W0 dq osq;have HC1:=hid (HCW.out.below hB1 HCW.out.lt).tw;have HX1:=hid (HBX.out.below hB1 HBX.out.lt).five;have HBB:=hid (HB.out.trans (hB1.mono HB.out.size));clear hB1 u0 v0 b0 b1 b2 b3 b4 D1;generalize grow (redrawn W0 dq) osq=W1 at *;obtain ⟨c0,c1,c2,c3,c4,c5,c6,c7,c8,c9,c10,c11,_⟩:=HC1.out;obtain ⟨b0,b1,b2,b3,b4,_⟩:=HX1.out
      go_wp2_with (go_at_call 112;refine (HF.out _ HBB.out).mono ?_;rintro e w2 ⟨rfl,hb2⟩;have HB2:=hid (HBB.out.trans (hb2.mono HBB.out.size));clear hb2)
      go_ret
      exact ⟨rfl,HB2.out⟩
    ·have zd:(c.kq == 3)=false:=by simpa using qd
     have hr:chkH h c=0:=by
      simp only [chkH,ne_eq,q,not_true_eq_false,if_false];rw [<- q,if_neg q4,if_neg q3,if_neg (fun h=>qd h.1)]
     rw [hr];clear hr q q4 q3 qd hT hx hbx hv hc hkn DS HF;generalize worksOn c.kq=wk at *;generalize c.path.length=pn at *;generalize c.v.il.length=vl at *;generalize c.v.vz.length=vo at *;generalize c.v.kq=vk at *;generalize c.v.num=vn at *;generalize c.v.str=vs at *;generalize c.key=ky at *;generalize c.i=ci at *;generalize c.j=cj at *;generalize c.n=cn at *;generalize c.s=cs at *;generalize c.kq=ck at *;generalize h.kq=hk at *;generalize h.num=hn at *;generalize h.str=hs at *;generalize h.il.length=hl at *;generalize h.vz.length=ho at *;go_enter Tryz.func86,Tryz.ntmps86
     go_wp2
     generalize (w.alloc (.cells #[.int .u8 ck,.slice A pn cp,.string ky,.int .i64 ci,.int .i64 cj,.int .i64 cn,.int .u8 vk,.int .i64 vn,.string vs,.slice AL vl cL,.slice AO vo cO,.string cs] 48))=W0 at *;have u0:=fun d os=>cell_regrown HC.out.c0 d os
     obtain ⟨b0,b1,b2,b3,b4,_⟩:=HBX.out.five;have v0:=cell_regrown b0;refine wp_region_quiet_below (by kernel_rfl) (by kernel_rfl) ?_
     repeat (any_goals (go_big_quiet_step (with_reducible exact D1.out _ _ _)))
     refine wpQuiet_nil ?_
     intro _ hw';obtain ⟨⟨dq,osq⟩,hw''⟩:=hw';subst hw'';have hB1:=below_regrown W0 dq osq;have HC1:=hid (HCW.out.below hB1 HCW.out.lt).tw;have HX1:=hid (HBX.out.below hB1 HBX.out.lt).five;have HBB:=hid (HB.out.trans (hB1.mono HB.out.size));clear hB1 u0 v0 b0 b1 b2 b3 b4 D1;generalize grow (redrawn W0 dq) osq=W1 at *;obtain ⟨c0,c1,c2,c3,c4,c5,c6,c7,c8,c9,c10,c11,_⟩:=HC1.out;obtain ⟨b0,b1,b2,b3,b4,_⟩:=HX1.out;go_wp2
     go_ret
     exact ⟨rfl,HBB.out⟩
 ·have hr:chkH h c=31:=by
   simp only [chkH,ne_eq,q,not_false_eq_true,if_true]
  rw [hr];have z:(h.kq == worksOn c.kq)=false:=by simpa using q
  clear hr q hT hx hbx hv hc hkn DS HF;generalize worksOn c.kq=wk at *;generalize c.path.length=pn at *;generalize c.v.il.length=vl at *;generalize c.v.vz.length=vo at *;generalize c.v.kq=vk at *;generalize c.v.num=vn at *;generalize c.v.str=vs at *;generalize c.key=ky at *;generalize c.i=ci at *;generalize c.j=cj at *;generalize c.n=cn at *;generalize c.s=cs at *;generalize c.kq=ck at *;generalize h.kq=hk at *;generalize h.num=hn at *;generalize h.str=hs at *;generalize h.il.length=hl at *;generalize h.vz.length=ho at *;go_enter Tryz.func86,Tryz.ntmps86
  go_wp2
  generalize (w.alloc (.cells #[.int .u8 ck,.slice A pn cp,.string ky,.int .i64 ci,.int .i64 cj,.int .i64 cn,.int .u8 vk,.int .i64 vn,.string vs,.slice AL vl cL,.slice AO vo cO,.string cs] 48))=W0 at *;have u0:=fun d os=>cell_regrown HC.out.c0 d os
  obtain ⟨b0,b1,b2,b3,b4,_⟩:=HBX.out.five;have v0:=cell_regrown b0;refine wp_region_quiet_below (by kernel_rfl) (by kernel_rfl) ?_
  repeat (any_goals (go_big_quiet_step (with_reducible exact D1.out _ _ _)))
  refine wpQuiet_nil ?_
  intro _ hw';obtain ⟨⟨dq,osq⟩,hw''⟩:=hw';subst hw'';have hB1:=below_regrown W0 dq osq;have HC1:=hid (HCW.out.below hB1 HCW.out.lt).tw;have HX1:=hid (HBX.out.below hB1 HBX.out.lt).five;have HBB:=hid (HB.out.trans (hB1.mono HB.out.size));clear hB1 u0 v0 b0 b1 b2 b3 b4 D1;generalize grow (redrawn W0 dq) osq=W1 at *;obtain ⟨c0,c1,c2,c3,c4,c5,c6,c7,c8,c9,c10,c11,_⟩:=HC1.out;obtain ⟨b0,b1,b2,b3,b4,_⟩:=HX1.out;go_wp2
  go_ret
  exact ⟨rfl,HBB.out⟩
end Go.Proofs.YthmcfjmignlhfaaGreatDoor
namespace Go.Proofs.YthmcfjmignlhfaaGreatDoor
open Go.Lib(hid)
open Go Go.RowKit
set_option linter.unusedVariables false
set_option linter.unusedSimpArgs false
def ChkIs (g:GV) (c:GC) (e:Int):Prop:=(¬ c.Sound/\e=60)\/(c.Sound/\((g.get c.path=none/\e=30)\/∃ h,g.get c.path=some h/\e=chkH h c))
theorem zbo {g c e e'} (h:ChkIs g c e) (h':ChkIs g c e'):e=e':=by
 rcases h with ⟨h1,rfl⟩ | ⟨h1,⟨h2,rfl⟩ | ⟨x,h2,rfl⟩⟩<;>rcases h' with ⟨k1,rfl⟩ | ⟨k1,⟨k2,rfl⟩ | ⟨y,k2,rfl⟩⟩<;>first | rfl | exact absurd k1 h1 | exact absurd h1 k1 | (rw [h2] at k2;cases k2) | skip
 rfl
def TextChecks (w:World) (c:GC) (A AL AO:Option Addr) (cp cL cO:Nat):Prop:=∀ (h:GV),h.kq=3->h.weight<=400000000->worksOn c.kq=3->∀ W,Below w.heap.size w W->Calls Tryz.prog 111 #[.string h.str,.agg #[.int .u8 c.kq,.slice A c.path.length cp,.string c.key,.int .i64 c.i,.int .i64 c.j,.int .i64 c.n,.int .u8 c.v.kq,.int .i64 c.v.num,.string c.v.str,.slice AL c.v.il.length cL,.slice AO c.v.vz.length cO,.string c.s]] W fun e w'=>e=.returned (.int .u16 (chkT (nChars h.str) c.kq.toNat c.i c.n))/\Below W.heap.size W w'
structure FB (w W:World) (cg cc cr:Array Value):Prop where
 g:Whole W w.heap.size 29 cg
 c:Whole W (w.heap.size+1) 48 cc
 r:Whole W (w.heap.size+1+1) 93 cr
 below:Below w.heap.size w W
theorem FB.new (w:World) (cg cc cr:Array Value):FB w (((w.alloc (.cells cg 29)).alloc (.cells cc 48)).alloc (.cells cr 93)) cg cc cr:=by
 have h1:=(Whole.new (w.alloc (.cells cg 29)) 48 cc).alloc (.cells cr 93);have h2:=Whole.new ((w.alloc (.cells cg 29)).alloc (.cells cc 48)) 93 cr;rw [World.size_alloc] at h1;rw [World.size_alloc,World.size_alloc] at h2;exact ⟨((Whole.new w _ _).alloc _).alloc _,h1,h2,(((Below.refl _ w).alloc (Nat.le_refl _) _).alloc (by simp) _).alloc (by simp;omega) _⟩
theorem FB.step {w W W':World} {cg cc cr:Array Value} (h:FB w W cg cc cr) (hb:Below W.heap.size W W'):FB w W' cg cc cr:=
 ⟨h.g.below hb h.g.lt,h.c.below hb h.c.lt,h.r.below hb h.r.lt,h.below.trans (hb.mono h.below.size)⟩
def FindOut (g:GV) (c:GC) (w:World) (e:Ending) (w':World):Prop:=Below w.heap.size w w' /\
 ((¬ c.Sound/\e=.returned (.tuple #[.agg #[.int .u8 0,.int .i64 0,.string ⟨#[]⟩,.slice none 0 0,.slice none 0 0],.int .u16 60]))\/(c.Sound/\g.get c.path=none/\e=.returned (.tuple #[.agg #[.int .u8 0,.int .i64 0,.string ⟨#[]⟩,.slice none 0 0,.slice none 0 0],.int .u16 30])) \/
  (c.Sound/\∃ h HL HO dL,g.get c.path=some h/\e=.returned (.tuple #[.agg #[.int .u8 h.kq,.int .i64 h.num,.string h.str,.slice HL h.il.length dL,.slice HO h.vz.length h.vz.length],.int .u16 (chkH h c)])/\h.val (fun k=>w.heap.size<=k) w' (.agg #[.int .u8 h.kq,.int .i64 h.num,.string h.str,.slice HL h.il.length dL,.slice HO h.vz.length h.vz.length])/\FullO w.heap.size w' h (.agg #[.int .u8 h.kq,.int .i64 h.num,.string h.str,.slice HL h.il.length dL,.slice HO h.vz.length h.vz.length])))
theorem zfF (g GL GO eL eO c A AL AO cp cL cO w) (hg:Vl w g GL GO eL eO) (hc:Cc w c A AL AO cp cL cO) (hgw:g.weight<=400000000) (hcw:c.v.weight<=1000000000) (hkey:c.key.size<=9223372036854775807) (hs:c.s.size<=9223372036854775807) (hpk:∀ s∈c.path,s.key.size<=9223372036854775807) (hT:Tabs w) (htx:TextChecks w c A AL AO cp cL cO):
  Calls Tryz.prog 55 #[.agg #[.int .u8 g.kq,.int .i64 g.num,.string g.str,.slice GL g.il.length eL,.slice GO g.vz.length eO],.agg #[.int .u8 c.kq,.slice A c.path.length cp,.string c.key,.int .i64 c.i,.int .i64 c.j,.int .i64 c.n,.int .u8 c.v.kq,.int .i64 c.v.num,.string c.v.str,.slice AL c.v.il.length cL,.slice AO c.v.vz.length cO,.string c.s]] w (FindOut g c w):=by
 have H0:=hid (FB.new w #[.int .u8 g.kq,.int .i64 g.num,.string g.str,.slice GL g.il.length eL,.slice GO g.vz.length eO] #[.int .u8 c.kq,.slice A c.path.length cp,.string c.key,.int .i64 c.i,.int .i64 c.j,.int .i64 c.n,.int .u8 c.v.kq,.int .i64 c.v.num,.string c.v.str,.slice AL c.v.il.length cL,.slice AO c.v.vz.length cO,.string c.s] #[.int .u8 0,.int .i64 0,.string ⟨#[]⟩,.slice none 0 0,.slice none 0 0]);obtain ⟨bs,hbs⟩:=zaq c.Sound;have HSO:=hid (fun W (hb:Below w.heap.size w W)=>zau (zcY c A AL AO cp cL cO W (hc.later hb) hcw hkey hs hpk (hT.below hb (Nat.le_refl _))) bs hbs)
 have HGE:=hid (fun W (hb:Below w.heap.size w W)=>zcu (fun _=>True) _ g W.heap.size A cp c.path W (hg.later hb).val ((hc.path.later hb).steps) (Nat.le_refl _) hc.path.le hc.path.cap (by omega))
 cases bs with
 | false=>
  have HN:=hid (show ¬ c.Sound from fun h=>by have:=hbs.2 h;cases this)
  clear hbs hg hc hgw hcw hkey hs hpk hT htx HGE;go_enter Tryz.func55,Tryz.ntmps55
  go_wp2_with (go_at_call 38;refine (HSO.out _ (FB.new w _ _ _).below).mono ?_;rintro e w1 ⟨rfl,hb1⟩;have H1:=hid (H0.out.step hb1);obtain ⟨r0,r1,r2,r3,r4,f0,f1,f2,f3,f4⟩:=H1.out.r.five;clear hb1)
  have h5:=zao H1.out.r (.int .u8 0) (.int .i64 0) (.string ⟨#[]⟩) (.slice none 0 0) (.slice none 0 0);obtain ⟨d0,d1,d2,d3,d4,_⟩:=h5.five;unfold put5 at d0 d1 d2 d3 d4;refine bodyPost_ret (v:=.tuple #[.agg #[.int .u8 0,.int .i64 0,.string ⟨#[]⟩,.slice none 0 0,.slice none 0 0],.int .u16 60]) (by simp [results,Tryz.results55,go_sem,d0,d1,d2,d3,d4]) rfl ?_
  exact ⟨zai H1.out.below (by omega) _ _ _ _ _,.inl ⟨HN.out,rfl⟩⟩
 | true=>
  have hcs:=hbs.1 rfl;have HS1:=hid hcs;cases hgt:g.get c.path with
  | none=>
   have HGN:=hid (fun W hb=>(HGE.out W hb).mono (R':=fun e w'=>e=.returned (.tuple #[.agg #[.int .u8 0,.int .i64 0,.string ⟨#[]⟩,.slice none 0 0,.slice none 0 0],.int .u16 30])/\Below W.heap.size W w') fun e w' ⟨hb',hq⟩=>hq.elim (fun h=>⟨h.2,hb'⟩) (fun ⟨_,_,h,_⟩=>by rw [hgt] at h;cases h))
   have HG0:=hid hgt;clear hbs hg hc hgw hcw hkey hs hpk hT htx HGE hcs hgt;go_enter Tryz.func55,Tryz.ntmps55
   go_wp2_with (first
    | (go_at_call 38;refine (HSO.out _ (FB.new w _ _ _).below).mono ?_;rintro e w1 ⟨rfl,hb1⟩;have H1:=hid (H0.out.step hb1);obtain ⟨g0,g1,g2,g3,g4,_⟩:=H1.out.g.five;obtain ⟨c0,c1,c2,c3,c4,c5,c6,c7,c8,c9,c10,c11,_⟩:=H1.out.c.tw;clear hb1)
    | (go_at_call 63;refine (HGN.out _ H1.out.below).mono ?_;rintro e w2 ⟨rfl,hb2⟩;have H2:=hid (H1.out.step hb2);have r0:=fun o=>(H2.out.r.alloc o).five.c0;have r1:=fun o=>(H2.out.r.alloc o).five.c1;have r2:=fun o=>(H2.out.r.alloc o).five.c2;have r3:=fun o=>(H2.out.r.alloc o).five.c3;have r4:=fun o=>(H2.out.r.alloc o).five.c4;have f0:=fun o=>(H2.out.r.alloc o).five.f0;have f1:=fun o=>(H2.out.r.alloc o).five.f1;have f2:=fun o=>(H2.out.r.alloc o).five.f2;have f3:=fun o=>(H2.out.r.alloc o).five.f3;have f4:=fun o=>(H2.out.r.alloc o).five.f4;clear hb2))
   have h3:=H2.out.step (zaa w2 (.cells #[.int .u8 0,.int .i64 0,.string ⟨#[]⟩,.slice none 0 0,.slice none 0 0] 29));have h5:=zao h3.r (.int .u8 0) (.int .i64 0) (.string ⟨#[]⟩) (.slice none 0 0) (.slice none 0 0);obtain ⟨d0,d1,d2,d3,d4,_⟩:=h5.five;unfold put5 at d0 d1 d2 d3 d4;refine bodyPost_ret (v:=.tuple #[.agg #[.int .u8 0,.int .i64 0,.string ⟨#[]⟩,.slice none 0 0,.slice none 0 0],.int .u16 30]) (by simp [results,Tryz.results55,go_sem,d0,d1,d2,d3,d4]) rfl ?_
   exact ⟨zai h3.below (by omega) _ _ _ _ _,.inr (.inl ⟨HS1.out,HG0.out,rfl⟩)⟩
  | some h=>
   have HGS:=hid (fun W hb=>(HGE.out W hb).mono (R':=fun e w'=>∃ HL HO dL,e=.returned (.tuple #[.agg #[.int .u8 h.kq,.int .i64 h.num,.string h.str,.slice HL h.il.length dL,.slice HO h.vz.length h.vz.length],.int .u16 0])/\(h.val (fun k=>W.heap.size<=k) w' (.agg #[.int .u8 h.kq,.int .i64 h.num,.string h.str,.slice HL h.il.length dL,.slice HO h.vz.length h.vz.length])/\FullO W.heap.size w' h (.agg #[.int .u8 h.kq,.int .i64 h.num,.string h.str,.slice HL h.il.length dL,.slice HO h.vz.length h.vz.length]))/\Below W.heap.size W w') fun e w' ⟨hb',hq⟩=>hq.elim (fun h=>by rw [hgt] at h;cases h.1) (fun ⟨h',v',h1,he,hv,hf⟩=>by
    rw [hgt] at h1;cases h1
    obtain ⟨HL,HO,dL,dO,rfl,_⟩:=zlp hv;have hf2:=hf;obtain ⟨L1,A1,e1,_⟩:=hf2;obtain ⟨rfl,rfl,rfl⟩:Value.slice HL h.il.length dL=L1/\HO=A1/\dO=h.vz.length:=by simpa using e1
    exact ⟨HL,HO,dL,he,⟨hv,hf⟩,hb'⟩))
   have hk19:1<=c.kq/\c.kq<=9:=hcs.2.2.2.2.1.1;have HG0:=hid hgt;have HCK:=hid (fun (b:Nat) (HL HO:Option Addr) (dL:Nat) (W:World) (hb:Below w.heap.size w W) (hbx:Whole W b 93 #[.int .u8 h.kq,.int .i64 h.num,.string h.str,.slice HL h.il.length dL,.slice HO h.vz.length h.vz.length]) (hv:Vl W h HL HO dL h.vz.length)=>zf3 c A AL AO cp cL cO b h HL HO dL h.vz.length W (hc.later hb) hbx hv hk19 (fun h3 w3 W' hb'=>htx h h3 (Nat.le_trans (zaD _ _ _ hgt) hgw) w3 W' (hb.trans (hb'.mono hb.size))))
   clear hbs hg hc hgw hcw hkey hs hpk hT htx HGE hcs hgt hk19;go_enter Tryz.func55,Tryz.ntmps55
   go_wp2_with (first
    | (go_at_call 38;refine (HSO.out _ (FB.new w _ _ _).below).mono ?_;rintro e w1 ⟨rfl,hb1⟩;have H1:=hid (H0.out.step hb1);obtain ⟨g0,g1,g2,g3,g4,_⟩:=H1.out.g.five;obtain ⟨c0,c1,c2,c3,c4,c5,c6,c7,c8,c9,c10,c11,_⟩:=H1.out.c.tw;clear hb1)
    | (go_at_call 63;refine (HGS.out _ H1.out.below).mono ?_;rintro e w2 ⟨HL,HO,dL,rfl,hv,hb2⟩;have H2:=hid (And.intro (H1.out.step hb2) (And.intro hv hb2));clear hb2 hv))
   have hba:Below w2.heap.size w2 ((w2.alloc (.cells #[.int .u8 h.kq,.int .i64 h.num,.string h.str,.slice HL h.il.length dL,.slice HO h.vz.length h.vz.length] 29)).alloc (.cells #[.int .u8 h.kq,.int .i64 h.num,.string h.str,.slice HL h.il.length dL,.slice HO h.vz.length h.vz.length] 93)):=(zaa w2 _).alloc (by simp) _
   have hP:=Whole.new (w2.alloc (.cells #[.int .u8 h.kq,.int .i64 h.num,.string h.str,.slice HL h.il.length dL,.slice HO h.vz.length h.vz.length] 29)) 93 #[.int .u8 h.kq,.int .i64 h.num,.string h.str,.slice HL h.il.length dL,.slice HO h.vz.length h.vz.length];rw [World.size_alloc] at hP;have hF:=H2.out.1.step hba;obtain ⟨hv,hfu⟩:=H2.out.2.1;have hsz:=H2.out.2.2.size;obtain ⟨Lh,Oh,eh,hL,hO⟩:=hv;obtain ⟨rfl,rfl⟩:Value.slice HL h.il.length dL=Lh/\Value.slice HO h.vz.length h.vz.length=Oh:=by simpa using eh
   have hkp:∀ k,w1.heap.size<=k->k<w2.heap.size->((w2.alloc (.cells #[.int .u8 h.kq,.int .i64 h.num,.string h.str,.slice HL h.il.length dL,.slice HO h.vz.length h.vz.length] 29)).alloc (.cells #[.int .u8 h.kq,.int .i64 h.num,.string h.str,.slice HL h.il.length dL,.slice HO h.vz.length h.vz.length] 93)).heap[k]? = w2.heap[k]?:=fun k _ hk=>hba.block k hk
   have hL':=hL.keep (ok':=fun k=>w1.heap.size<=k) hkp (fun k hk _=>hk)
   have hO':=hO.keep (ok':=fun k=>w1.heap.size<=k) hkp (fun k hk _=>hk)
   have hfu':=hfu.keep hO hkp (Nat.le_refl _);have h1s:w.heap.size+1+1<w1.heap.size:=H1.out.r.lt;have hPl:w1.heap.size<=w2.heap.size+1:=by omega
   clear hL hO hfu hkp hba H2 eh hsz;generalize ((w2.alloc (.cells #[.int .u8 h.kq,.int .i64 h.num,.string h.str,.slice HL h.il.length dL,.slice HO h.vz.length h.vz.length] 29)).alloc (.cells #[.int .u8 h.kq,.int .i64 h.num,.string h.str,.slice HL h.il.length dL,.slice HO h.vz.length h.vz.length] 93))=Wp at *;generalize hbp:w2.heap.size+1=bp at *;clear hbp;have HF:=hid hF;have HP:=hid hP;have HVL:=hid (And.intro hL' (And.intro hO' hfu'));have HCK2:=hid (fun W (hb:Below Wp.heap.size Wp W)=>HCK.out bp HL HO dL W (HF.out.below.trans (hb.mono HF.out.below.size)) (HP.out.below hb HP.out.lt) ⟨hL'.keep (From.of_below hb) (fun _ _ _=>trivial),hO'.keep (From.of_below hb) (fun _ _ _=>trivial)⟩)
   have HSZ:=hid (And.intro h1s hPl);clear hF hP hL' hO' hfu' HCK h1s hPl g0 g1 g2 g3 g4 c0 c1 c2 c3 c4 c5 c6 c7 c8 c9 c10 c11 H1;obtain ⟨c0,c1,c2,c3,c4,c5,c6,c7,c8,c9,c10,c11,_⟩:=HF.out.c.tw;obtain ⟨p0,p1,p2,p3,p4,_⟩:=HP.out.five;obtain ⟨r0,r1,r2,r3,r4,f0,f1,f2,f3,f4⟩:=HF.out.r.five
   go_region_with (go_at_call 86;refine (HCK2.out Wp.drew (Below.refl _ Wp).drew).mono ?_;rintro e w3 ⟨rfl,hb3⟩;have H3:=hid (show Below Wp.heap.size Wp w3 from (Below.refl _ Wp).drew.trans hb3);obtain ⟨p0,p1,p2,p3,p4,_⟩:=(HP.out.below H3.out HP.out.lt).five;obtain ⟨r0,r1,r2,r3,r4,f0,f1,f2,f3,f4⟩:=(HF.out.r.below H3.out HF.out.r.lt).five;clear hb3)
   all_goals
    go_wp2
    have h5:=zao (HF.out.r.below H3.out HF.out.r.lt) (.int .u8 h.kq) (.int .i64 h.num) (.string h.str) (.slice HL h.il.length dL) (.slice HO h.vz.length h.vz.length);obtain ⟨d0,d1,d2,d3,d4,_⟩:=h5.five;unfold put5 at d0 d1 d2 d3 d4;refine bodyPost_ret (v:=.tuple #[.agg #[.int .u8 h.kq,.int .i64 h.num,.string h.str,.slice HL h.il.length dL,.slice HO h.vz.length h.vz.length],.int .u16 (chkH h c)]) (by simp [results,Tryz.results55,go_sem,d0,d1,d2,d3,d4]) rfl ?_
    have hkk:∀ k,w1.heap.size<=k->k<Wp.heap.size->(put5 w3 (w.heap.size+1+1) (.int .u8 h.kq) (.int .i64 h.num) (.string h.str) (.slice HL h.il.length dL) (.slice HO h.vz.length h.vz.length)).heap[k]? = Wp.heap[k]?:=fun k hk hl=>by
     rw [zae _ _ _ _ _ _ _ _ (by have:=HSZ.out.1;omega)]
     exact H3.out.block k hl
    have hsm:w.heap.size<=w1.heap.size:=by have:=HSZ.out.1;omega
    exact ⟨zai (HF.out.below.trans (H3.out.mono HF.out.below.size)) (by omega) _ _ _ _ _,.inr (.inr ⟨HS1.out,h,HL,HO,dL,HG0.out,rfl,⟨_,_,rfl,HVL.out.1.keep hkk (fun k hk _=>Nat.le_trans hsm hk),HVL.out.2.1.keep hkk (fun k hk _=>Nat.le_trans hsm hk)⟩,HVL.out.2.2.keep HVL.out.2.1 hkk hsm⟩)⟩
end Go.Proofs.YthmcfjmignlhfaaGreatDoor
namespace Go.Proofs.YthmcfjmignlhfaaGreatDoor
open Go.Lib(hid)
open Go Go.RowKit
set_option linter.unusedVariables false
set_option linter.unusedSimpArgs false
theorem zhY (A:Option Addr) (n:Nat) (hn:n<=maxLen) (W:World):(Instr.slice 27 (.slice A n n) (some (.int .i64 n)) none none).run Tryz.prog W=.ok (.slice A 0 0) W:=by
 unfold maxLen at hn;rw [run_slice_l (ht:=Tryz.underlying27) (h0:=by omega) (h1:=by omega)]
 simp [go_sem]
theorem zbr {P:Program} {w:World} {ops:Array Oper} {rest:List Oper} {o:Oper} {a:Act} {Q:Exit->Act->World->Prop} (hgd:o.guard=none) (s x:Operand) (t:TypeId) (ho:o.op=.call { callee:=.builtin .append,args:=#[s,x],argTypes:=#[t,t] })
  (v1 v2 v':Value) (w':World) (hs:a.eval s=v1) (hx:a.eval x=v2) (hrun:(Builtin.append_ #[t,t] o.type #[v1,v2]).run P w=.ok v' w') (h:wpList P ops Q rest (a.put o.dst v') w'):wpList P ops Q (o :: rest) a w:=by
 refine wpList_plain hgd fun K hK=>?_
 unfold Oper.wp execOp;simp only [ho,resolve,invoke,builtin,Sem.run_bind,Sem.run_pure,Result.andThen_ok,List.map_toArray,List.map_cons,List.map_nil,hs,hx,hrun];exact hK _ _ h
def newF (key:ByteArray):Array Value:=#[.string key,.int .u8 0,.int .i64 0,.string ⟨#[]⟩,.slice none 0 0,.slice none 0 0]
theorem zhh (ok:Nat->Prop) (A:Option Addr) (n:Nat) (ks:List ByteArray) (l:List GV) (key:ByteArray) (B:Nat) (w:World) (hO:ObjV ok w (.slice A n n) ks l) (hn:n=l.length) (hm:n<=1000000) (hB:Whole w B 70 (newF key)):
  Calls Tryz.prog 114 #[.slice A n n,.int .i64 n,.slice (some ⟨B,0,none⟩) 1 1] w fun e w'=>∃ D d xs,e=.returned (.slice D (n+1:Nat) d)/\RowO ok w' (ks++[key]) (l++[noG]) xs/\w'.ownsRow w.heap.size 70 6 (.slice D (n+1:Nat) d) (n+1) xs/\Below w.heap.size w w':=by
 obtain ⟨xs,hr,hlen,hcell,h1c,hnone⟩:∃ xs,RowO ok w ks l xs/\xs.length=n * 6/\(∀ b,A=some b->∀ j u,xs[j]? = some u->w.cell? (b.add j)=some u)/\(∀ u∈xs,u.oneCell'=true)/\(A=none->n=0/\n=0):=by
  obtain ⟨hl,hO⟩:=hO;rcases hO with ⟨rfl,he⟩ | ⟨b,o,c',he,h1,h2,hK,hks,hE⟩
  ·cases he
   obtain rfl:ks=[]:=List.length_eq_zero_iff.1 (by simpa using hl)
   exact ⟨[],by simp [RowO],by simp,(fun b h=>by cases h),(fun u h=>by cases h),fun _=>⟨rfl,rfl⟩⟩
  ·simp only [Value.slice.injEq] at he
   obtain ⟨rfl,_,_⟩:=he;obtain ⟨xs,hr,hlen,hcell,h1c⟩:=zbB hl hks hE;refine ⟨xs,hr,by rw [hlen,hn],fun ad h j u hj=>?_,h1c,(fun h=>by cases h)⟩
   cases h
   have e2:(⟨b,o,none⟩:Addr).add j =⟨b,o+j,none⟩:=by unfold Addr.add;split<;>simp_all
   rw [e2];exact hcell j u hj
 obtain ⟨i0,hi,hz0,hz1,hz2⟩:=info_parts infoField;have hc:∀ j u,(newF key).toList[j]? = some u->w.cell? ((⟨B,0,none⟩:Addr).add j)=some u:=fun j u hj=>by
  have e2:(⟨B,0,none⟩:Addr).add j =⟨B,j,none⟩:=by unfold Addr.add;split<;>simp_all
  rw [e2,hB.cell];simpa using hj
 obtain ⟨v',w',hrun,hown,hgr⟩:=zbf (P:=Tryz.prog) (w:=w) 27 27 70 i0 _ 6 96 Tryz.underlying27 hi hz0 hz1 hz2 rfl (by decide) A n n xs hnone hlen hcell ⟨B,0,none⟩ 1 1 (newF key).toList rfl hc (by simp [newF,Value.oneCell']) (by omega) (by unfold maxLen;omega) (by omega)
 obtain ⟨D,d,rfl⟩:=zad hown;have hb:Below w.heap.size w w':=(Below.refl _ w).grown hgr (Nat.le_refl _) (fun k e=>by cases e)
 have hrow:RowO ok w' (ks++[key]) (l++[noG]) (xs++(newF key).toList):=RowO.snoc (g:=noG) (L:=.slice none 0 0) (O:=.slice none 0 0) (.inl ⟨rfl,rfl⟩) ⟨rfl,.inl ⟨rfl,rfl⟩⟩ (hr.keep (From.of_below hb) (fun _ h _=>h))
 have HR:=hid (And.intro hrow (And.intro hown hb));have HRUN:=hid hrun;clear hrun;have hsl:=fun W=>zhY A n (by unfold maxLen;omega) W
 clear hO hr hlen hcell h1c hnone hi hz0 hz1 hz2 hc hB hown hgr hb hrow hn;go_enter Tryz.func114,Tryz.ntmps114
 go_wp2_with (at_builtin;refine zbr rfl (.tmp 23) (.tmp 24) 27 rfl _ _ _ _ rfl rfl HRUN.out ?_)
 go_ret
 exact ⟨D,d,_,rfl,HR.out.1,HR.out.2.1,HR.out.2.2⟩
theorem zgC {lo:Nat} {W W':World} {b o n d:Nat} {ks:List ByteArray} {l:List GV} {k:Nat} {y:GV} (hO:ObjV (fun _=>True) W (.slice (some ⟨b,o,none⟩) n d) ks l) (hE:GV.els (fun k=>lo<=k/\k≠b) W b 6 (o+1) l)
  (hJ:Just b (o+k * 6+1) 5 W W') (hy:y.at (fun _=>True) W' b (o+k * 6+1)) (hne:l≠[]):ObjV (fun _=>True) W' (.slice (some ⟨b,o,none⟩) n d) ks (l.set k y):=by
 obtain ⟨hl,hO⟩:=hO;rcases hO with ⟨rfl,_⟩ | ⟨b',o',d',he,h1,h2,hK,hks,_⟩
 ·exact absurd rfl hne
 simp only [Value.slice.injEq,Option.some.injEq,Addr.mk.injEq] at he;obtain ⟨⟨rfl,rfl,_⟩,rfl,rfl⟩:=he;have hF:From (fun k=>lo<=k/\k≠b) W W':=hJ.from (by simp)
 obtain ⟨_,cs,hcs⟩:=hK;obtain ⟨cs',hw'⟩:=hJ.row _ _ hcs;refine ⟨by rw [List.length_set];exact hl,.inr ⟨b,o,d,by rw [List.length_set],by rw [List.length_set];exact h1,h2,⟨trivial,cs',hw'⟩,KeysAt.of fun i a ha=>?_,GV.els_of fun i a ha=>?_⟩⟩
 ·exact (hJ.near _ (by omega)).trans (hks.get ha)
 ·by_cases e:i=k
  ·subst e
   rw [List.getElem?_set] at ha;simp only [if_true] at ha;split at ha
   ·cases ha;rwa [show o+1+i * 6=o+i * 6+1 by omega]
   ·cases ha
  ·rw [List.getElem?_set_ne (Ne.symm e)] at ha
   obtain ⟨L,O,c0,c1,c2,c3,c4,hL,hO⟩:=GV.at_iff.1 (GV.els_get hE ha);have hn:∀ d,d<5->W'.cell? ⟨b,o+1+i * 6+d,none⟩=W.cell? ⟨b,o+1+i * 6+d,none⟩:=fun d hd=>hJ.near _ (by omega)
   have n0:=hn 0 (by omega)
   rw [Nat.add_zero] at n0;exact GV.at_iff.2 ⟨L,O,n0.trans c0,(hn 1 (by omega)).trans c1,(hn 2 (by omega)).trans c2,(hn 3 (by omega)).trans c3,(hn 4 (by omega)).trans c4,hL.keep hF (fun _ _ _=>trivial),hO.keep hF (fun _ _ _=>trivial)⟩
def PlaceIs (lo b:Nat) (g:GV) (w:World) (e:Ending) (w':World):Prop:=e=.returned (.tuple #[])/\∃ HL HO dL dO,Whole w' b 93 #[.int .u8 g.kq,.int .i64 g.num,.string g.str,.slice HL g.il.length dL,.slice HO g.vz.length dO]/\Vl w' g HL HO dL dO/\Below lo w w'
theorem zky (b) (h:GV) (HL HO dL) (key:ByteArray) (v:GV) (AL AO:Option Addr) (cL cO:Nat) (w) (hbx:Whole w b 93 #[.int .u8 h.kq,.int .i64 h.num,.string h.str,.slice HL h.il.length dL,.slice HO h.vz.length h.vz.length])
  (hL:LstV (fun k=>k<b) w (.slice HL h.il.length dL) h.il) (hO:ObjV (fun k=>k<b) w (.slice HO h.vz.length h.vz.length) h.keys h.vz) (hvL:LstV (fun k=>k<b) w (.slice AL v.il.length cL) v.il) (hvO:ObjV (fun k=>k<b) w (.slice AO v.vz.length cO) v.keys v.vz)
  (hth:there key h.keys=false) (hpl:place key h.keys=h.vz.length) (hm:h.vz.length<=1000000):
  Calls Tryz.prog 87 #[.pointer (some ⟨b,0,none⟩),.string key,.agg #[.int .u8 v.kq,.int .i64 v.num,.string v.str,.slice AL v.il.length cL,.slice AO v.vz.length cO]] w (PlaceIs b b (.mk h.kq h.num h.str h.il (h.keys++[key]) (h.vz++[v])) w):=by
 have hlt:=hbx.lt;have hB0:=zaa w (.cells #[.int .u8 v.kq,.int .i64 v.num,.string v.str,.slice AL v.il.length cL,.slice AO v.vz.length cO] 29);have HVB:=hid (Whole.new w 29 #[.int .u8 v.kq,.int .i64 v.num,.string v.str,.slice AL v.il.length cL,.slice AO v.vz.length cO]);have HF:=hid (fun W (hb:Below w.heap.size w W)=>(zbx (fun _=>True) _ h key W ⟨_,_,rfl,hL.keep (From.of_below hb) (fun _ _ _=>trivial),hO.keep (From.of_below hb) (fun _ _ _=>trivial)⟩).mono (R':=fun e w'=>e=.returned (.tuple #[.int .i64 h.vz.length,.bool false])/\Below W.heap.size W w') fun e w' hq=>by
  obtain ⟨he,hb'⟩:=hq;rw [hth,hpl] at he;exact ⟨he,hb'⟩)
 have HI:=hid (fun W (hb:Below w.heap.size w W) (B:Nat) (hB:Whole W B 70 #[.string key,.int .u8 0,.int .i64 0,.string ⟨#[]⟩,.slice none 0 0,.slice none 0 0])=>
  zhh (fun k=>k<b) HO h.vz.length h.keys h.vz key B W (hO.keep (fun k hk hl=>hb.block k (by omega)) (fun k hk _=>hk)) rfl hm hB)
 have HBX:=hid hbx;have H4:=hid (And.intro hL (And.intro hO (And.intro hvL hvO)));obtain ⟨c0,c1,c2,c3,c4,_⟩:=hbx.five;replace c0:=fun o=>zab o c0
 replace c1:=fun o=>zab o c1
 replace c2:=fun o=>zab o c2
 replace c3:=fun o=>zab o c3
 replace c4:=fun o=>zab o c4
 have HB0:=hid hB0;clear hbx hL hO hvL hvO hB0 hth hpl;go_enter Tryz.func87,Tryz.ntmps87
 go_wp2_with (first
  | (go_at_call 113;refine (HF.out _ HB0.out).mono ?_;rintro e w2 ⟨rfl,hb2⟩;have HB2:=hid (HB0.out.trans (hb2.mono HB0.out.size));have HV2:=hid (HVB.out.below hb2 HVB.out.lt);obtain ⟨k0,k1,k2,k3,k4,_⟩:=(HBX.out.below HB2.out HBX.out.lt).five;have k4q:=fun o=>zab o k4;clear hb2 c0 c1 c2 c3 c4 k0 k1 k2 k3)
  | (go_at_call 114;refine (HI.out _ (HB2.out.trans ((zaa _ _).mono HB2.out.size)) _ (Whole.new w2 70 _)).mono ?_;rintro e w4 ⟨D,d,xs,rfl,hrow,hown,hb4⟩;have HB4:=hid ((HB2.out.trans ((zaa w2 (.cells #[.string key,.int .u8 0,.int .i64 0,.string ⟨#[]⟩,.slice none 0 0,.slice none 0 0] 70)).mono HB2.out.size)).trans (hb4.mono (by have:=HB2.out.size;simp;omega)));have HR4:=hid (And.intro hrow (And.intro hown hb4));obtain ⟨k0,k1,k2,k3,k4,y0,y1,y2,y3,y4⟩:=(HBX.out.below HB4.out HBX.out.lt).five;clear hrow hown hb4))
 have hsb:b<w4.heap.size:=by have:=HB4.out.size;omega
 have hg:∃ g cur,D=some ⟨g,0,none⟩/\w.heap.size<g/\Whole w4 g 70 cur/\h.vz.length+1<=d/\d<=maxLen/\KeysAt w4 g 0 (h.keys++[key])/\GV.els (fun k=>k<b) w4 g 6 (0+1) (h.vz++[noG]):=by
  obtain ⟨hrow,hown,_⟩:=HR4.out;have ho2:=hown;rcases ho2.2 with ⟨hn,_⟩ | ⟨g,cap,cur,he,hb,hg,h1,h2,h3,h4⟩
  ·cases hn
  ·simp only [Value.slice.injEq] at he
   obtain ⟨rfl,_,rfl⟩:=he;have hE:=hrow.els (b:=g) (off:=0) fun j u hj=>by
    have:=hown.cells (g:=g) rfl j u hj;by_cases e:j=0<;>simpa [Addr.add,e] using this
   refine ⟨g,cur,rfl,?_,hg,h1,h2,hE.1,hE.2⟩
   have:=HB2.out.size;simp at hb
   omega
 obtain ⟨g,cur,rfl,hwg,hWg,hd1,hd2,hks,hels⟩:=hg;have hP5:Whole (w4.setCell ⟨b,4,none⟩ (.slice (some ⟨g,0,none⟩) (h.vz.length+1) d)) b 93 #[.int .u8 h.kq,.int .i64 h.num,.string h.str,.slice HL h.il.length dL,.slice (some ⟨g,0,none⟩) (h.vz.length+1) d]:=(HBX.out.below HB4.out HBX.out.lt).put 4 _;have hV5:=((HV2.out.alloc (.cells #[.string key,.int .u8 0,.int .i64 0,.string ⟨#[]⟩,.slice none 0 0,.slice none 0 0] 70)).below HR4.out.2.2 (by have:=HV2.out.lt;simp;omega)).far (p:=⟨b,4,none⟩) (by simp;omega) (.slice (some ⟨g,0,none⟩) (h.vz.length+1) d)
 have hG5:=hWg.far (p:=⟨b,4,none⟩) (by simp;omega) (.slice (some ⟨g,0,none⟩) (h.vz.length+1) d)
 have hB5:Below b w (w4.setCell ⟨b,4,none⟩ (.slice (some ⟨g,0,none⟩) (h.vz.length+1) d)):=(HB4.out.mono (Nat.le_of_lt hlt)).setCell (Nat.le_refl _) _;have hgb:(w4.setCell ⟨b,4,none⟩ (.slice (some ⟨g,0,none⟩) (h.vz.length+1) d)).heap[g]? = w4.heap[g]?:=Below.heap_setCell w4 ⟨b,4,none⟩ _ g (by simp;omega)
 have hks5:=hks.keep hgb;have hE5:=GV.els_keep (ok':=fun k=>k<b) (W':=w4.setCell ⟨b,4,none⟩ (.slice (some ⟨g,0,none⟩) (h.vz.length+1) d)) (fun k hk _=>Below.heap_setCell w4 ⟨b,4,none⟩ _ k (by simp;omega)) (fun k hk _=>hk) _ hgb hels
 clear hks hels hgb hWg HB4 HR4 k0 k1 k2 k3 k4 y0 y1 y2 y3 y4 HBX HVB HV2 HB2 HB0 HI HF k4q hsb;generalize (w4.setCell ⟨b,4,none⟩ (.slice (some ⟨g,0,none⟩) (h.vz.length+1) d))=W5 at *;have HP5:=hid hP5;have HG5:=hid hG5;have HB5:=hid hB5;have HK5:=hid (And.intro hks5 hE5);obtain ⟨p0,p1,p2,p3,p4,_⟩:=hP5.five;obtain ⟨v0,v1,v2,v3,v4,_⟩:=hV5.five;have hat:=GV.els_get hE5 (i:=h.vz.length) (g:=noG) (by simp)
 obtain ⟨L0,O0,t0,t1,t2,t3,t4,_,_⟩:=GV.at_iff.1 hat;rw [show 0+1+h.vz.length * 6=h.vz.length * 6+1 by omega] at t0 t1 t2 t3 t4
 have z0:=hG5.frozen (h.vz.length * 6+1);have z1:=hG5.frozen (h.vz.length * 6+1+1);have z2:=hG5.frozen (h.vz.length * 6+1+2);have z3:=hG5.frozen (h.vz.length * 6+1+3);have z4:=hG5.frozen (h.vz.length * 6+1+4);have hm0:(0:Int)<=(h.vz.length:Int):=by omega
 have hm1:(h.vz.length:Int)<((h.vz.length+1:Nat):Int):=by omega
 clear hP5 hG5 hB5 hks5 hE5 hV5 hat
 go_region
 all_goals
  go_wp2
  go_end0
  have hJ:=zbw (b:=g) (off:=h.vz.length * 6+1) W5 (.int .u8 v.kq) (.int .i64 v.num) (.string v.str) (.slice AL v.il.length cL) (.slice AO v.vz.length cO);have hF5:∀ k,k<b->k<w.heap.size->W5.heap[k]? = w.heap[k]?:=fun k hk _=>HB5.out.block k hk
  have hva:=zcz (x:=v) (R:=b) t0 t1 t2 t3 t4 (by omega) (H4.out.2.2.1.keep hF5 (fun k hk _=>hk)) (H4.out.2.2.2.keep hF5 (fun k hk _=>hk))
  have hOO:ObjV (fun _=>True) W5 (.slice (some ⟨g,0,none⟩) (h.vz.length+1) d) (h.keys++[key]) (h.vz++[noG]):=
   ⟨by have:=H4.out.2.1.1;simp [this],.inr ⟨g,0,d,by simp,by simp;omega,hd2,⟨trivial,cur,HG5.out⟩,HK5.out.1,GV.els_keep (From.refl _ _) (fun _ _ _=>trivial) _ rfl HK5.out.2⟩⟩
  have hset:=zgC (lo:=0) (k:=h.vz.length) (y:=v) hOO (GV.els_keep (ok':=fun k=>0<=k/\k≠g) (From.refl _ _) (fun k hk _=>⟨Nat.zero_le _,by omega⟩) _ rfl HK5.out.2) (by rw [Nat.zero_add];exact hJ) (by rw [Nat.zero_add];exact hva) (by simp)
  have hls:(h.vz++[noG]).set h.vz.length v=h.vz++[v]:=by simp
  rw [hls] at hset;have hbl:Below b w _:=HB5.out.trans (hJ.below (B:=b) (by omega) (by have:=HB5.out.size;omega))
  have hbw:((((((W5.setCell ⟨g,h.vz.length * 6+1,none⟩ (.int .u8 v.kq)).setCell ⟨g,h.vz.length * 6+1+1,none⟩ (.int .i64 v.num)).setCell ⟨g,h.vz.length * 6+1+2,none⟩ (.string v.str)).setCell ⟨g,h.vz.length * 6+1+3,none⟩ (.slice AL v.il.length cL)).setCell ⟨g,h.vz.length * 6+1+4,none⟩ (.slice AO v.vz.length cO)).drew).heap[b]? = W5.heap[b]?:=hJ.far b HP5.out.lt (by omega)
  have hwh:=HP5.out.of_eq hbw;refine ⟨rfl,HL,some ⟨g,0,none⟩,dL,d,?_,⟨?_,?_⟩,hbl.drew⟩
  ·show Whole _ b 93 #[.int .u8 h.kq,.int .i64 h.num,.string h.str,.slice HL h.il.length dL,.slice (some ⟨g,0,none⟩) (h.vz++[v]).length d]
   rw [show (h.vz++[v]).length=h.vz.length+1 by simp]
   exact hwh
  ·exact (H4.out.1.keep (ok':=fun _=>True) (fun k hk _=>hbl.block k hk) (fun _ _ _=>trivial)).keep (From.of_below (Below.refl _ _).drew) (fun _ _ _=>trivial)
  ·show ObjV _ _ (.slice (some ⟨g,0,none⟩) (h.vz++[v]).length d) (h.keys++[key]) (h.vz++[v])
   rw [show (h.vz++[v]).length=h.vz.length+1 by simp]
   exact hset.keep (From.of_below (Below.refl _ _).drew) (fun _ _ _=>trivial)
end Go.Proofs.YthmcfjmignlhfaaGreatDoor
namespace Go.Proofs.YthmcfjmignlhfaaGreatDoor
open Go.Lib(hid)
open Go Go.RowKit
set_option linter.unusedVariables false
set_option linter.unusedSimpArgs false
theorem zgP (g GL GO eL eO c A AL AO cp cL cO w) (hg:Vl w g GL GO eL eO) (hc:Cc w c A AL AO cp cL cO) (hgw:g.weight<=400000000) (hcw:c.v.weight<=1000000000) (hkey:c.key.size<=9223372036854775807) (hs:c.s.size<=9223372036854775807) (hpk:∀ s∈c.path,s.key.size<=9223372036854775807) (hT:Tabs w) (htx:TextChecks w c A AL AO cp cL cO):
  Calls Tryz.prog 55 #[.agg #[.int .u8 g.kq,.int .i64 g.num,.string g.str,.slice GL g.il.length eL,.slice GO g.vz.length eO],.agg #[.int .u8 c.kq,.slice A c.path.length cp,.string c.key,.int .i64 c.i,.int .i64 c.j,.int .i64 c.n,.int .u8 c.v.kq,.int .i64 c.v.num,.string c.v.str,.slice AL c.v.il.length cL,.slice AO c.v.vz.length cO,.string c.s]] w fun e w'=>∃ (k m:Int) (s:ByteArray) (HL HO:Option Addr) (nl dL no dO:Nat) (n:Int),e=.returned (.tuple #[.agg #[.int .u8 k,.int .i64 m,.string s,.slice HL nl dL,.slice HO no dO],.int .u16 n])/\ChkIs g c n/\Below w.heap.size w w':=
 (zfF g GL GO eL eO c A AL AO cp cL cO w hg hc hgw hcw hkey hs hpk hT htx).mono fun e w' ⟨hb,hq⟩=>by
  rcases hq with ⟨h1,he⟩ | ⟨h1,h2,he⟩ | ⟨h1,h,HL,HO,dL,h2,he,_⟩
  ·exact ⟨_,_,_,_,_,_,_,_,_,_,he,.inl ⟨h1,rfl⟩,hb⟩
  ·exact ⟨_,_,_,_,_,_,_,_,_,_,he,.inr ⟨h1,.inl ⟨h2,rfl⟩⟩,hb⟩
  ·exact ⟨_,_,_,_,_,_,_,_,_,_,he,.inr ⟨h1,.inr ⟨h,h2,rfl⟩⟩,hb⟩
theorem zhM (g GL GO eL eO c A AL AO cp cL cO w) (hg:Vl w g GL GO eL eO) (hc:Cc w c A AL AO cp cL cO) (hgw:g.weight<=400000000) (hcw:c.v.weight<=1000000000) (hkey:c.key.size<=9223372036854775807) (hs:c.s.size<=9223372036854775807) (hpk:∀ s∈c.path,s.key.size<=9223372036854775807) (hT:Tabs w) (htx:TextChecks w c A AL AO cp cL cO):
  Calls Tryz.prog 36 #[.agg #[.int .u8 g.kq,.int .i64 g.num,.string g.str,.slice GL g.il.length eL,.slice GO g.vz.length eO],.agg #[.int .u8 c.kq,.slice A c.path.length cp,.string c.key,.int .i64 c.i,.int .i64 c.j,.int .i64 c.n,.int .u8 c.v.kq,.int .i64 c.v.num,.string c.v.str,.slice AL c.v.il.length cL,.slice AO c.v.vz.length cO,.string c.s]] w fun e w'=>∃ n:Int,e=.returned (.int .u16 n)/\ChkIs g c n/\Below w.heap.size w w':=by
 have HB:=hid ((zaa w (.cells #[.int .u8 g.kq,.int .i64 g.num,.string g.str,.slice GL g.il.length eL,.slice GO g.vz.length eO] 29)).alloc (by simp) (.cells #[.int .u8 c.kq,.slice A c.path.length cp,.string c.key,.int .i64 c.i,.int .i64 c.j,.int .i64 c.n,.int .u8 c.v.kq,.int .i64 c.v.num,.string c.v.str,.slice AL c.v.il.length cL,.slice AO c.v.vz.length cO,.string c.s] 48))
 have HF:=hid (fun W (hb:Below w.heap.size w W)=>zgP g GL GO eL eO c A AL AO cp cL cO W (hg.later hb) (hc.later hb) hgw hcw hkey hs hpk (hT.below hb (Nat.le_refl _)) (fun h h3 hw w3 W' hb'=>htx h h3 hw w3 W' (hb.trans (hb'.mono hb.size))))
 clear hg hc hgw hcw hkey hs hpk hT htx;go_enter Tryz.func36,Tryz.ntmps36
 go_wp2_with (go_at_call 55;refine (HF.out _ HB.out).mono ?_;rintro e w1 ⟨k,m,s,HL,HO,nl,dL,no,dO,n,rfl,hn,hb⟩;have H1:=hid (And.intro hn (HB.out.trans (hb.mono HB.out.size)));clear hn hb)
 go_ret
 exact ⟨n,rfl,H1.out.1,H1.out.2.alloc H1.out.2.size _⟩
structure DB (w W:World) (cg cc cr:Array Value):Prop where
 g:Whole W w.heap.size 29 cg
 c:Whole W (w.heap.size+1) 48 cc
 r:Whole W (w.heap.size+1+1) 29 cr
 below:Below w.heap.size w W
theorem DB.new (w:World) (cg cc cr:Array Value):DB w (((w.alloc (.cells cg 29)).alloc (.cells cc 48)).alloc (.cells cr 29)) cg cc cr:=by
 have h1:=(Whole.new (w.alloc (.cells cg 29)) 48 cc).alloc (.cells cr 29);have h2:=Whole.new ((w.alloc (.cells cg 29)).alloc (.cells cc 48)) 29 cr;rw [World.size_alloc] at h1;rw [World.size_alloc,World.size_alloc] at h2;exact ⟨((Whole.new w _ _).alloc _).alloc _,h1,h2,(((Below.refl _ w).alloc (Nat.le_refl _) _).alloc (by simp) _).alloc (by simp;omega) _⟩
theorem DB.step {w W W':World} {cg cc cr:Array Value} (h:DB w W cg cc cr) {B:Nat} (hB:w.heap.size+1+1+1<=B) (hb:Below B W W'):DB w W' cg cc cr:=
 ⟨h.g.below hb (by omega),h.c.below hb (by omega),h.r.below hb (by omega),h.below.trans (hb.mono (by omega))⟩
theorem DB.size (w:World) (cg cc cr:Array Value):(((w.alloc (.cells cg 29)).alloc (.cells cc 48)).alloc (.cells cr 29)).heap.size=w.heap.size+1+1+1:=by simp
def PlaceDoes (h:GV) (c:GC) (A AL AO:Option Addr) (cp cL cO:Nat) (w:World):Prop:=∀ (HL HO:Option Addr) (dL lo:Nat) (W:World),Below w.heap.size w W->w.heap.size<=lo->lo<=W.heap.size->h.val (fun k=>lo<=k) W (.agg #[.int .u8 h.kq,.int .i64 h.num,.string h.str,.slice HL h.il.length dL,.slice HO h.vz.length h.vz.length])->FullO lo W h (.agg #[.int .u8 h.kq,.int .i64 h.num,.string h.str,.slice HL h.il.length dL,.slice HO h.vz.length h.vz.length]) ->
 Calls Tryz.prog 56 #[.pointer (some ⟨W.heap.size,0,none⟩),.agg #[.int .u8 c.kq,.slice A c.path.length cp,.string c.key,.int .i64 c.i,.int .i64 c.j,.int .i64 c.n,.int .u8 c.v.kq,.int .i64 c.v.num,.string c.v.str,.slice AL c.v.il.length cL,.slice AO c.v.vz.length cO,.string c.s]] (W.alloc (.cells #[.int .u8 h.kq,.int .i64 h.num,.string h.str,.slice HL h.il.length dL,.slice HO h.vz.length h.vz.length] 93)) (PlaceIs lo W.heap.size (doH h c) (W.alloc (.cells #[.int .u8 h.kq,.int .i64 h.num,.string h.str,.slice HL h.il.length dL,.slice HO h.vz.length h.vz.length] 93)))
def VlNew (n:Nat) (W:World) (y:GV) (BL BO:Option Addr) (dL dO:Nat):Prop:=LstV (fun k=>n<=k) W (.slice BL y.il.length dL) y.il/\ObjV (fun k=>n<=k) W (.slice BO y.vz.length dO) y.keys y.vz
def DoesOut (g:GV) (c:GC) (w:World) (e:Ending) (w':World):Prop:=Below w.heap.size w w'/\∃ n:Int,ChkIs g c n /\
 ((n≠0/\e=.returned (.tuple #[.agg #[.int .u8 0,.int .i64 0,.string ⟨#[]⟩,.slice none 0 0,.slice none 0 0],.int .u16 n]))\/(n=0/\∃ h y BL BO dL dO,g.get c.path=some h/\chkH h c=0/\g.put (doH h c) c.path=some y/\e=.returned (.tuple #[.agg #[.int .u8 y.kq,.int .i64 y.num,.string y.str,.slice BL y.il.length dL,.slice BO y.vz.length dO],.int .u16 0])/\Vl w' y BL BO dL dO/\VlNew w.heap.size w' y BL BO dL dO))
theorem zjY {g h:GV} {ps:List GStep} (x:GV) (e:g.get ps=some h):∃ y,g.put x ps=some y:=zgD e
theorem zix (g GL GO eL eO c A AL AO cp cL cO w) (hg:Vl w g GL GO eL eO) (hc:Cc w c A AL AO cp cL cO) (hgw:g.weight<=400000000) (hcw:c.v.weight<=1000000000) (hkey:c.key.size<=9223372036854775807) (hs:c.s.size<=9223372036854775807) (hpk:∀ s∈c.path,s.key.size<=9223372036854775807) (hT:Tabs w) (htx:TextChecks w c A AL AO cp cL cO) (hdo:∀ h,g.get c.path=some h->chkH h c=0->c.Sound->PlaceDoes h c A AL AO cp cL cO w) (hdw:∀ h,g.get c.path=some h->chkH h c=0->(doH h c).weight<=400000000):
  Calls Tryz.prog 32 #[.agg #[.int .u8 g.kq,.int .i64 g.num,.string g.str,.slice GL g.il.length eL,.slice GO g.vz.length eO],.agg #[.int .u8 c.kq,.slice A c.path.length cp,.string c.key,.int .i64 c.i,.int .i64 c.j,.int .i64 c.n,.int .u8 c.v.kq,.int .i64 c.v.num,.string c.v.str,.slice AL c.v.il.length cL,.slice AO c.v.vz.length cO,.string c.s]] w (DoesOut g c w):=by
 have H0:=hid (DB.new w #[.int .u8 g.kq,.int .i64 g.num,.string g.str,.slice GL g.il.length eL,.slice GO g.vz.length eO] #[.int .u8 c.kq,.slice A c.path.length cp,.string c.key,.int .i64 c.i,.int .i64 c.j,.int .i64 c.n,.int .u8 c.v.kq,.int .i64 c.v.num,.string c.v.str,.slice AL c.v.il.length cL,.slice AO c.v.vz.length cO,.string c.s] #[.int .u8 0,.int .i64 0,.string ⟨#[]⟩,.slice none 0 0,.slice none 0 0]);have hex:∃ n,ChkIs g c n:=by
  by_cases hS:c.Sound
  ·cases hget:g.get c.path with
   | none=>exact ⟨30,.inr ⟨hS,.inl ⟨hget,rfl⟩⟩⟩
   | some h=>exact ⟨chkH h c,.inr ⟨hS,.inr ⟨h,hget,rfl⟩⟩⟩
  ·exact ⟨60,.inl ⟨hS,rfl⟩⟩
 obtain ⟨n,hn⟩:=hex;by_cases h0:n=0
 ·subst h0
  obtain ⟨h,hS,hget,hk⟩:∃ h,c.Sound/\g.get c.path=some h/\chkH h c=0:=by
   rcases hn with ⟨_,h⟩ | ⟨hS,⟨_,h⟩ | ⟨h,h1,h2⟩⟩
   ·cases h
   ·cases h
   ·exact ⟨h,hS,h1,h2.symm⟩
  obtain ⟨y,hput⟩:=zjY (doH h c) hget;have HN:=hid hn;have HG:=hid (And.intro hget (And.intro hk hput));have HF:=hid (fun W (hb:Below w.heap.size w W)=>(zfF g GL GO eL eO c A AL AO cp cL cO W (hg.later hb) (hc.later hb) hgw hcw hkey hs hpk (hT.below hb (Nat.le_refl _)) (fun h h3 hw w3 W' hb'=>htx h h3 hw w3 W' (hb.trans (hb'.mono hb.size)))).mono (R':=fun e w'=>∃ HL HO dL,e=.returned (.tuple #[.agg #[.int .u8 h.kq,.int .i64 h.num,.string h.str,.slice HL h.il.length dL,.slice HO h.vz.length h.vz.length],.int .u16 0])/\(h.val (fun k=>W.heap.size<=k) w' (.agg #[.int .u8 h.kq,.int .i64 h.num,.string h.str,.slice HL h.il.length dL,.slice HO h.vz.length h.vz.length])/\FullO W.heap.size w' h (.agg #[.int .u8 h.kq,.int .i64 h.num,.string h.str,.slice HL h.il.length dL,.slice HO h.vz.length h.vz.length]))/\Below W.heap.size W w') fun e w' ⟨hb',hq⟩=>by
   rcases hq with ⟨h1,_⟩ | ⟨_,h2,_⟩ | ⟨_,h',HL,HO,dL,h2,he,hv,hf⟩
   ·exact absurd hS h1
   ·rw [hget] at h2;cases h2
   ·rw [hget] at h2
    cases h2
    rw [hk] at he;exact ⟨HL,HO,dL,he,⟨hv,hf⟩,hb'⟩)
  have HD:=hid (hdo h hget hk hS);have HP:=hid (fun W (hb:Below w.heap.size w W) (XL XO:Option Addr) (xL xO:Nat) (hx:Vl W (doH h c) XL XO xL xO)=>(zkj (fun _=>True) _ _ g (doH h c) W.heap.size A cp c.path W (hg.later hb).val hx.val (hc.path.later hb).steps (Nat.le_refl _) hc.path.le hc.path.cap hgw (hdw h hget hk)).mono (R':=fun e w'=>∃ (BL BO:Option Addr) (yL yO:Nat),e=.returned (.tuple #[.agg #[.int .u8 y.kq,.int .i64 y.num,.string y.str,.slice BL y.il.length yL,.slice BO y.vz.length yO],.int .u16 0])/\(LstV (fun k=>W.heap.size<=k) w' (.slice BL y.il.length yL) y.il/\ObjV (fun k=>W.heap.size<=k) w' (.slice BO y.vz.length yO) y.keys y.vz)/\Below W.heap.size W w') fun e w' ⟨hb',hq⟩=>by
   rcases hq with ⟨h1,_⟩ | ⟨y',v',h1,he,L,O,hv,hL,hO⟩
   ·rw [hput] at h1;cases h1
   ·rw [hput] at h1
    cases h1
    subst hv;obtain ⟨BL,yL,rfl⟩:=zaf hL;obtain ⟨BO,yO,rfl⟩:=zag hO;exact ⟨BL,BO,yL,yO,he,⟨hL,hO⟩,hb'⟩)
  clear hn hg hc hgw hcw hkey hs hpk hT htx hdo hdw hput hget hk hS;go_enter Tryz.func32,Tryz.ntmps32
  go_wp2_with (first
   | (go_at_call 55;refine (HF.out _ (DB.new w _ _ _).below).mono ?_;rintro e w1 ⟨HL,HO,dL,rfl,hv,hb⟩;have hz:=DB.size w #[.int .u8 g.kq,.int .i64 g.num,.string g.str,.slice GL g.il.length eL,.slice GO g.vz.length eO] #[.int .u8 c.kq,.slice A c.path.length cp,.string c.key,.int .i64 c.i,.int .i64 c.j,.int .i64 c.n,.int .u8 c.v.kq,.int .i64 c.v.num,.string c.v.str,.slice AL c.v.il.length cL,.slice AO c.v.vz.length cO,.string c.s] #[.int .u8 0,.int .i64 0,.string ⟨#[]⟩,.slice none 0 0,.slice none 0 0];rw [hz] at hv hb;have H1:=hid (And.intro (H0.out.step (Nat.le_refl _) hb) (And.intro hv (show w.heap.size+1+1+1<=w1.heap.size from by have:=hb.size;rw [hz] at this;exact this)));clear hb hv hz;have c0:=fun o=>zab o H1.out.1.c.tw.c0;have c1:=fun o=>zab o H1.out.1.c.tw.c1;have c2:=fun o=>zab o H1.out.1.c.tw.c2;have c3:=fun o=>zab o H1.out.1.c.tw.c3;have c4:=fun o=>zab o H1.out.1.c.tw.c4;have c5:=fun o=>zab o H1.out.1.c.tw.c5;have c6:=fun o=>zab o H1.out.1.c.tw.c6;have c7:=fun o=>zab o H1.out.1.c.tw.c7;have c8:=fun o=>zab o H1.out.1.c.tw.c8;have c9:=fun o=>zab o H1.out.1.c.tw.c9;have c10:=fun o=>zab o H1.out.1.c.tw.c10;have c11:=fun o=>zab o H1.out.1.c.tw.c11)
   | (go_at_call 56;refine (HD.out HL HO dL (w.heap.size+1+1+1) w1 H1.out.1.below (by omega) H1.out.2.2 H1.out.2.1.1 H1.out.2.1.2).mono ?_;rintro e w2 ⟨rfl,XL,XO,xL,xO,hwh,hvl,hb⟩;have H2:=hid (And.intro ((H1.out.1.step (B:=w1.heap.size) H1.out.2.2 (zaa w1 (.cells #[.int .u8 h.kq,.int .i64 h.num,.string h.str,.slice HL h.il.length dL,.slice HO h.vz.length h.vz.length] 93))).step (Nat.le_refl _) hb) (And.intro hwh hvl));clear hb hwh hvl c0 c1 c2 c3 c4 c5 c6 c7 c8 c9 c10 c11;obtain ⟨p0,p1,p2,p3,p4,_⟩:=H2.out.2.1.five;obtain ⟨g0,g1,g2,g3,g4,_⟩:=H2.out.1.g.five;have c1:=H2.out.1.c.tw.c1)
   | (go_at_call 57;refine (HP.out _ H2.out.1.below _ _ _ _ H2.out.2.2).mono ?_;rintro e w3 ⟨BL,BO,yL,yO,rfl,hv,hb⟩;have H3:=hid (And.intro (H2.out.1.step (Nat.succ_le_of_lt H2.out.1.r.lt) hb) (And.intro hv (And.intro H2.out.1.r.lt hb.size)));clear hb hv;obtain ⟨r0,r1,r2,r3,r4,f0,f1,f2,f3,f4⟩:=H3.out.1.r.five))
  have h5:=zao H3.out.1.r (.int .u8 y.kq) (.int .i64 y.num) (.string y.str) (.slice BL y.il.length yL) (.slice BO y.vz.length yO);obtain ⟨d0,d1,d2,d3,d4,_⟩:=h5.five;unfold put5 at d0 d1 d2 d3 d4;refine bodyPost_ret (v:=.tuple #[.agg #[.int .u8 y.kq,.int .i64 y.num,.string y.str,.slice BL y.il.length yL,.slice BO y.vz.length yO],.int .u16 0]) (by simp [results,Tryz.results32,go_sem,d0,d1,d2,d3,d4]) rfl ?_
  refine ⟨zai H3.out.1.below (by omega) _ _ _ _ _,0,HN.out,.inr ⟨rfl,h,y,BL,BO,yL,yO,HG.out.1,HG.out.2.1,HG.out.2.2,rfl,?_⟩⟩
  have hr2:=H3.out.2.2.1;have hz2:=H2.out.1.below.size;exact ⟨⟨H3.out.2.1.1.keep (fun k hk _=>zae _ _ _ _ _ _ _ _ (by omega)) (fun _ _ _=>trivial),H3.out.2.1.2.keep (fun k hk _=>zae _ _ _ _ _ _ _ _ (by omega)) (fun _ _ _=>trivial)⟩,H3.out.2.1.1.keep (fun k hk _=>zae _ _ _ _ _ _ _ _ (by omega)) (fun k hk _=>Nat.le_trans hz2 hk),H3.out.2.1.2.keep (fun k hk _=>zae _ _ _ _ _ _ _ _ (by omega)) (fun k hk _=>Nat.le_trans hz2 hk)⟩
 ·have HN:=hid hn
  have HN0:=hid h0;have hne:(n != 0)=true:=by simpa using h0
  have hnq:(n == 0)=false:=by simpa using h0
  have HF:=hid (fun W (hb:Below w.heap.size w W)=>(zgP g GL GO eL eO c A AL AO cp cL cO W (hg.later hb) (hc.later hb) hgw hcw hkey hs hpk (hT.below hb (Nat.le_refl _)) (fun h h3 hw w3 W' hb'=>htx h h3 hw w3 W' (hb.trans (hb'.mono hb.size)))).mono (R':=fun e w'=>∃ (k m:Int) (s:ByteArray) (HL HO:Option Addr) (nl dL no dO:Nat),e=.returned (.tuple #[.agg #[.int .u8 k,.int .i64 m,.string s,.slice HL nl dL,.slice HO no dO],.int .u16 n])/\Below W.heap.size W w') fun e w' ⟨k,m,s,HL,HO,nl,dL,no,dO,n',he,hn',hb'⟩=>⟨k,m,s,HL,HO,nl,dL,no,dO,by rw [he,zbo hn' hn],hb'⟩)
  clear hg hc hgw hcw hkey hs hpk hT htx hdo hdw hn h0;go_enter Tryz.func32,Tryz.ntmps32
  go_wp2_with (go_at_call 55;refine (HF.out _ (DB.new w _ _ _).below).mono ?_;rintro e w1 ⟨k,m,s,HL,HO,nl,dL,no,dO,rfl,hb⟩;have H1:=hid (H0.out.step (Nat.le_of_eq (DB.size w _ _ _).symm) hb);clear hb;have r0:=fun o=>(H1.out.r.alloc o).five.c0;have r1:=fun o=>(H1.out.r.alloc o).five.c1;have r2:=fun o=>(H1.out.r.alloc o).five.c2;have r3:=fun o=>(H1.out.r.alloc o).five.c3;have r4:=fun o=>(H1.out.r.alloc o).five.c4;have f0:=fun o=>(H1.out.r.alloc o).five.f0;have f1:=fun o=>(H1.out.r.alloc o).five.f1;have f2:=fun o=>(H1.out.r.alloc o).five.f2;have f3:=fun o=>(H1.out.r.alloc o).five.f3;have f4:=fun o=>(H1.out.r.alloc o).five.f4)
  have h1:=H1.out.r.alloc (.cells #[.int .u8 k,.int .i64 m,.string s,.slice HL nl dL,.slice HO no dO] 93);have h5:=zao h1 (.int .u8 0) (.int .i64 0) (.string ⟨#[]⟩) (.slice none 0 0) (.slice none 0 0);obtain ⟨d0,d1,d2,d3,d4,_⟩:=h5.five;unfold put5 at d0 d1 d2 d3 d4;refine bodyPost_ret (v:=.tuple #[.agg #[.int .u8 0,.int .i64 0,.string ⟨#[]⟩,.slice none 0 0,.slice none 0 0],.int .u16 n]) (by simp [results,Tryz.results32,go_sem,d0,d1,d2,d3,d4]) rfl ?_
  exact ⟨zai (H1.out.below.alloc H1.out.below.size _) (by omega) _ _ _ _ _,n,HN.out,.inl ⟨HN0.out,rfl⟩⟩
end Go.Proofs.YthmcfjmignlhfaaGreatDoor
namespace Go.Proofs.YthmcfjmignlhfaaGreatDoor
open Go.Lib(hid)
open Go Go.RowKit
set_option linter.unusedVariables false
set_option linter.unusedSimpArgs false
theorem zbm (W:World) (cp cc:Array Value):Whole ((W.alloc (.cells cp 93)).alloc (.cells cc 48)) W.heap.size 93 cp/\Whole ((W.alloc (.cells cp 93)).alloc (.cells cc 48)) (W.heap.size+1) 48 cc/\Below W.heap.size W ((W.alloc (.cells cp 93)).alloc (.cells cc 48)):=by
 have h2:=Whole.new (W.alloc (.cells cp 93)) 48 cc;rw [World.size_alloc] at h2;exact ⟨(Whole.new W _ _).alloc _,h2,(zaa W _).alloc (by simp) _⟩
theorem zlm (h:GV) (c:GC) (A AL AO:Option Addr) (cp cL cO:Nat) (w:World) (hk:c.kq=1):PlaceDoes h c A AL AO cp cL cO w:=by
 intro HL HO dL lo W hB hlo hlW hv hf;obtain ⟨Lh,Oh,eh,hL,hO⟩:=hv;obtain ⟨rfl,rfl⟩:Value.slice HL h.il.length dL=Lh/\Value.slice HO h.vz.length h.vz.length=Oh:=by simpa using eh
 have hd:doH h c=.mk h.kq (wrap64 (h.num+c.n)) h.str h.il h.keys h.vz:=by unfold doH;rw [if_pos hk,IntWalk.i64_left]
 rw [hd];have g1:(c.kq == 1)=true:=by rw [hk];rfl
 obtain ⟨hP,hC,hB2⟩:=zbm W #[.int .u8 h.kq,.int .i64 h.num,.string h.str,.slice HL h.il.length dL,.slice HO h.vz.length h.vz.length] #[.int .u8 c.kq,.slice A c.path.length cp,.string c.key,.int .i64 c.i,.int .i64 c.j,.int .i64 c.n,.int .u8 c.v.kq,.int .i64 c.v.num,.string c.v.str,.slice AL c.v.il.length cL,.slice AO c.v.vz.length cO,.string c.s];have HL1:=hid (And.intro hL (And.intro hO hlW));clear hf hd hk hL hO hB hlo;generalize hb:W.heap.size=b at *;have HBE:=hid hb;go_enter Tryz.func56,Tryz.ntmps56
 go_wp2
 have hkeep:∀ k,k<b->((W.alloc (.cells #[.int .u8 h.kq,.int .i64 h.num,.string h.str,.slice HL h.il.length dL,.slice HO h.vz.length h.vz.length] 93)).alloc (.cells #[.int .u8 c.kq,.slice A c.path.length cp,.string c.key,.int .i64 c.i,.int .i64 c.j,.int .i64 c.n,.int .u8 c.v.kq,.int .i64 c.v.num,.string c.v.str,.slice AL c.v.il.length cL,.slice AO c.v.vz.length cO,.string c.s] 48)).heap[k]? = W.heap[k]?:=fun k hk=>hB2.block k hk
 have hB3:Below lo (W.alloc (.cells #[.int .u8 h.kq,.int .i64 h.num,.string h.str,.slice HL h.il.length dL,.slice HO h.vz.length h.vz.length] 93)) ((W.alloc (.cells #[.int .u8 h.kq,.int .i64 h.num,.string h.str,.slice HL h.il.length dL,.slice HO h.vz.length h.vz.length] 93)).alloc (.cells #[.int .u8 c.kq,.slice A c.path.length cp,.string c.key,.int .i64 c.i,.int .i64 c.j,.int .i64 c.n,.int .u8 c.v.kq,.int .i64 c.v.num,.string c.v.str,.slice AL c.v.il.length cL,.slice AO c.v.vz.length cO,.string c.s] 48)):=(Below.refl _ _).alloc (by simp;omega) _
 generalize ((W.alloc (.cells #[.int .u8 h.kq,.int .i64 h.num,.string h.str,.slice HL h.il.length dL,.slice HO h.vz.length h.vz.length] 93)).alloc (.cells #[.int .u8 c.kq,.slice A c.path.length cp,.string c.key,.int .i64 c.i,.int .i64 c.j,.int .i64 c.n,.int .u8 c.v.kq,.int .i64 c.v.num,.string c.v.str,.slice AL c.v.il.length cL,.slice AO c.v.vz.length cO,.string c.s] 48))=W2 at *;have HK:=hid (And.intro hkeep hB3);have HP:=hid hP;obtain ⟨p0,p1,p2,p3,p4,f0,f1,f2,f3,f4⟩:=hP.five;have c5:=hC.tw.c5;clear hkeep hP hC hB2 hB3 hb
 go_region
 all_goals
  go_wp2
  go_end0
  have hwh:=(HP.out.put 1 (.int .i64 (wrap64 (h.num+c.n))));have hb0:Below b W2 ((W2.setCell ⟨b,1,none⟩ (.int .i64 (wrap64 (h.num+c.n)))).drew):=(((Below.refl b W2).setCell (p:=⟨b,1,none⟩) (Nat.le_refl _) _).drew);have hF:∀ k,k<b->k<W.heap.size->((W2.setCell ⟨b,1,none⟩ (.int .i64 (wrap64 (h.num+c.n)))).drew).heap[k]? = W.heap[k]?:=fun k hk _=>(hb0.block k hk).trans (HK.out.1 k hk)
  refine ⟨rfl,HL,HO,dL,h.vz.length,hwh.of_eq rfl,⟨?_,?_⟩,HK.out.2.trans (hb0.mono hlW)⟩
  ·exact (HL1.out.1.keep (ok':=fun k=>k<b) (From.refl _ W) (fun k _ hl=>by have:=HBE.out;omega)).keep hF (fun _ _ _=>trivial)
  ·exact (HL1.out.2.1.keep (ok':=fun k=>k<b) (From.refl _ W) (fun k _ hl=>by have:=HBE.out;omega)).keep hF (fun _ _ _=>trivial)
theorem zhx (h:GV) (c:GC) (A AL AO:Option Addr) (cp cL cO:Nat) (w) (hk:c.kq=2) (hcv:Vl w c.v AL AO cL cO) (hth:there c.key h.keys=false) (hpl:place c.key h.keys=h.vz.length) (hm:h.vz.length<=1000000) (hkl:h.keys.length=h.vz.length):PlaceDoes h c A AL AO cp cL cO w:=by
 intro HL HO dL lo W hB hlo hlW hv hf;obtain ⟨Lh,Oh,eh,hL,hO⟩:=hv;obtain ⟨rfl,rfl⟩:Value.slice HL h.il.length dL=Lh/\Value.slice HO h.vz.length h.vz.length=Oh:=by simpa using eh
 have hd:doH h c=.mk h.kq h.num h.str h.il (h.keys++[c.key]) (h.vz++[c.v]):=by
  unfold doH;rw [if_neg (by omega),if_pos hk,if_neg (by rw [hth];simp),hpl]
  have e1:insL h.keys h.vz.length c.key=h.keys++[c.key]:=by rw [<- hkl];simp [insL]
  have e2:insL h.vz h.vz.length c.v=h.vz++[c.v]:=by simp [insL]
  rw [e1,e2]
 rw [hd];have g1:(c.kq == 1)=false:=by rw [hk];rfl
 have g2:(c.kq == 2)=true:=by rw [hk];rfl
 obtain ⟨hP,hC,hB2⟩:=zbm W #[.int .u8 h.kq,.int .i64 h.num,.string h.str,.slice HL h.il.length dL,.slice HO h.vz.length h.vz.length] #[.int .u8 c.kq,.slice A c.path.length cp,.string c.key,.int .i64 c.i,.int .i64 c.j,.int .i64 c.n,.int .u8 c.v.kq,.int .i64 c.v.num,.string c.v.str,.slice AL c.v.il.length cL,.slice AO c.v.vz.length cO,.string c.s];have hcv2:=hcv.later hB;have hkeep:∀ k,k<W.heap.size->((W.alloc (.cells #[.int .u8 h.kq,.int .i64 h.num,.string h.str,.slice HL h.il.length dL,.slice HO h.vz.length h.vz.length] 93)).alloc (.cells #[.int .u8 c.kq,.slice A c.path.length cp,.string c.key,.int .i64 c.i,.int .i64 c.j,.int .i64 c.n,.int .u8 c.v.kq,.int .i64 c.v.num,.string c.v.str,.slice AL c.v.il.length cL,.slice AO c.v.vz.length cO,.string c.s] 48)).heap[k]? = W.heap[k]?:=fun k hk=>hB2.block k hk
 have HPUT:=hid (zky W.heap.size h HL HO dL c.key c.v AL AO cL cO _ hP (hL.keep (fun k _ hl=>hkeep k hl) (fun k _ hl=>hl)) (hO.keep (fun k _ hl=>hkeep k hl) (fun k _ hl=>hl)) (hcv2.lst.keep (fun k _ hl=>hkeep k hl) (fun k _ hl=>hl)) (hcv2.obj.keep (fun k _ hl=>hkeep k hl) (fun k _ hl=>hl)) hth hpl hm)
 have HB3:=hid (show Below lo (W.alloc (.cells #[.int .u8 h.kq,.int .i64 h.num,.string h.str,.slice HL h.il.length dL,.slice HO h.vz.length h.vz.length] 93)) ((W.alloc (.cells #[.int .u8 h.kq,.int .i64 h.num,.string h.str,.slice HL h.il.length dL,.slice HO h.vz.length h.vz.length] 93)).alloc (.cells #[.int .u8 c.kq,.slice A c.path.length cp,.string c.key,.int .i64 c.i,.int .i64 c.j,.int .i64 c.n,.int .u8 c.v.kq,.int .i64 c.v.num,.string c.v.str,.slice AL c.v.il.length cL,.slice AO c.v.vz.length cO,.string c.s] 48)) from (Below.refl _ _).alloc (by simp;omega) _)
 clear hf hd hk hL hO hB hlo hcv hcv2 hth hpl hm hkl hP hC hB2 hkeep;go_enter Tryz.func56,Tryz.ntmps56
 go_wp2_with (go_at_call 87;refine HPUT.out.mono ?_;rintro e w2 ⟨rfl,XL,XO,xL,xO,hwh,hvl,hb⟩;have H2:=hid (And.intro hwh (And.intro hvl hb));clear hwh hvl hb)
 go_end0
 exact ⟨rfl,XL,XO,xL,xO,H2.out.1,H2.out.2.1,HB3.out.trans (H2.out.2.2.mono hlW)⟩
end Go.Proofs.YthmcfjmignlhfaaGreatDoor
