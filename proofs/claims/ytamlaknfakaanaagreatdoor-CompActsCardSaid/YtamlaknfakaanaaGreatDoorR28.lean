/- What a component may be done to, the program's: check. -/
import Derived.Test.YtamlaknfakaanaaGreatDoorR22
import Derived.Test.YtamlaknfakaanaaGreatDoorR17
import Derived.BigQuiet
import Derived.Deep.QuietTactic
set_option maxRecDepth 100000
set_option maxHeartbeats 8000000
namespace Go.Proofs.YtamlaknfakaanaaGreatDoor
open Go Go.RowKit
open Go.Sort (grow)
set_option linter.unusedVariables false
set_option linter.unusedSimpArgs false
theorem works_any (k:Int) (hk:1≤k∧k≤9) (w:World):Calls Tryz.prog 74 #[.int .u8 k] w fun e w'=>e=.returned (.int .u8 (worksOn k))∧w'=w:=by
 obtain ⟨h1,h9⟩:=hk
 rcases (show k=1∨k=2∨k=3∨k=4∨k=5∨k=6∨k=7∨k=8∨k=9 by omega) with rfl | rfl | rfl | rfl | rfl | rfl | rfl | rfl | rfl
 all_goals
  go_enter Tryz.func74,Tryz.ntmps74
  go_wp2
  go_ret
  exact ⟨rfl,rfl⟩
theorem has_any (b:Nat) (h:GV) (HL HO:Option Addr) (dL dO:Nat) (key:ByteArray) (w:World) (hbx:Whole w b 64 #[.int .u8 h.kind,.int .i64 h.num,.string h.str,.slice HL h.items.length dL,.slice HO h.vals.length dO]) (hv:Vl w h HL HO dL dO):
  Calls Tryz.prog 77 #[.pointer (some ⟨b,0,none⟩),.string key] w fun e w'=>e=.returned (.bool (there key h.keys))∧Below w.heap.size w w':=by
 have HF:=Lib.hid ((val_Field (fun _=>True) _ h key w hv.val))
 obtain ⟨a0,a1,a2,a3,a4,_⟩:=hbx.five
 clear hbx hv
 go_enter Tryz.func77,Tryz.ntmps77
 go_wp2_with (go_at_call 78;refine HF.out.mono ?_;rintro e w1 hq;obtain ⟨rfl,hb⟩:=hq;have HQ:=Lib.hid hb;clear hb)
 go_ret
 exact ⟨rfl,HQ.out⟩
theorem chk_chkL (n k:Nat) (i j:Int):chk n k i j=chkL n k i j:=by
 unfold chk chkL withinB
 have e4:((k:Int)=4)=(k=4):=by simp;omega
 have e5:((k:Int)=5)=(k=5):=by simp;omega
 have e6:((k:Int)=6)=(k=6):=by simp;omega
 have e7:((k:Int)=7)=(k=7):=by simp;omega
 simp only [e4,e5,e6,e7]
 simp
theorem place_check (c:GC) (A AL AO:Option Addr) (cp cL cO:Nat) (b:Nat) (h:GV) (HL HO:Option Addr) (dL dO:Nat) (w:World) (hc:Cc w c A AL AO cp cL cO) (hbx:Whole w b 64 #[.int .u8 h.kind,.int .i64 h.num,.string h.str,.slice HL h.items.length dL,.slice HO h.vals.length dO]) (hv:Vl w h HL HO dL dO) (hk1:1≤c.kind∧c.kind≤9)
  (hx:h.kind=3→worksOn c.kind=3→∀ W,Below w.heap.size w W→Calls Tryz.prog 76 #[.string h.str,.agg #[.int .u8 c.kind,.slice A c.path.length cp,.string c.key,.int .i64 c.i,.int .i64 c.j,.int .i64 c.n,.int .u8 c.v.kind,.int .i64 c.v.num,.string c.v.str,.slice AL c.v.items.length cL,.slice AO c.v.vals.length cO,.string c.s]] W fun e w'=>e=.returned (.int .u16 (chkT (nChars h.str) c.kind.toNat c.i c.n))∧Below W.heap.size W w'):
  Calls Tryz.prog 43 #[.pointer (some ⟨b,0,none⟩),.agg #[.int .u8 c.kind,.slice A c.path.length cp,.string c.key,.int .i64 c.i,.int .i64 c.j,.int .i64 c.n,.int .u8 c.v.kind,.int .i64 c.v.num,.string c.v.str,.slice AL c.v.items.length cL,.slice AO c.v.vals.length cO,.string c.s]] w fun e w'=>e=.returned (.int .u16 (chkH h c))∧Below w.heap.size w w':=by
 have HB:=Lib.hid (below_alloc w (.cells #[.int .u8 c.kind,.slice A c.path.length cp,.string c.key,.int .i64 c.i,.int .i64 c.j,.int .i64 c.n,.int .u8 c.v.kind,.int .i64 c.v.num,.string c.v.str,.slice AL c.v.items.length cL,.slice AO c.v.vals.length cO,.string c.s] 35))
 have HCW:=Lib.hid (Whole.new w 35 #[.int .u8 c.kind,.slice A c.path.length cp,.string c.key,.int .i64 c.i,.int .i64 c.j,.int .i64 c.n,.int .u8 c.v.kind,.int .i64 c.v.num,.string c.v.str,.slice AL c.v.items.length cL,.slice AO c.v.vals.length cO,.string c.s])
 have HC:=Lib.hid HCW.out.tw
 have HBX:=Lib.hid (hbx.alloc (.cells #[.int .u8 c.kind,.slice A c.path.length cp,.string c.key,.int .i64 c.i,.int .i64 c.j,.int .i64 c.n,.int .u8 c.v.kind,.int .i64 c.v.num,.string c.v.str,.slice AL c.v.items.length cL,.slice AO c.v.vals.length cO,.string c.s] 35))
 obtain ⟨k,hkn⟩:∃ k:Nat,c.kind=k:=⟨c.kind.toNat,by omega⟩
 have D1:=Lib.hid (fun (W0:World) (d:Nat) (os:Array Obj)=>Calls.regrown_of ((works_any c.kind hk1 (grow (redrawn W0 d) os)).mono (R':=fun e w'=>e=.returned (.int .u8 (worksOn c.kind))∧Below (grow (redrawn W0 d) os).heap.size (grow (redrawn W0 d) os) w') fun e w' ⟨he,hw⟩=>⟨he,by rw [hw];exact Below.refl _ _⟩))
 have DS:=Lib.hid (fun (W1:World) (hb:Below w.heap.size w W1) (d:Nat) (os:Array Obj)=>Calls.regrown_of (check_any h.items.length k c.i c.j A AL AO c.path.length cp c.v.items.length cL c.v.vals.length cO c.key c.v.str c.s c.n c.v.kind c.v.num (grow (redrawn W1 d) os)))
 have hT:=fun h3 w3 (W1:World) (hb:Below w.heap.size w W1) (d:Nat) (os:Array Obj)=>Calls.regrown_of (hx h3 w3 (grow (redrawn W1 d) os) (hb.trans ((below_regrown W1 d os).mono hb.size)))
 have HF:=Lib.hid (fun (W1:World) (hb:Below w.heap.size w W1)=>has_any b h HL HO dL dO c.key W1 (hbx.below hb hbx.lt) (hv.later hb))
 rw [← hkn] at DS
 by_cases q:h.kind=worksOn c.kind
 ·by_cases q4:h.kind=4
  ·have hr:chkH h c=chk h.items.length k c.i c.j:=by
    rw [chk_chkL,← hkn]
    simp only [chkH,ne_eq,q,not_true_eq_false,if_false]
    rw [← q,if_pos q4]
   rw [hr]
   generalize chk h.items.length k c.i c.j=r at *
   have z:(h.kind == worksOn c.kind)=true:=by simpa using q
   have z4:(h.kind == 4)=true:=by simpa using q4
   clear hr q q4 hT hx hbx hv hc HF hkn
   generalize worksOn c.kind=wk at *
   generalize c.path.length=pn at *
   generalize c.v.items.length=vl at *
   generalize c.v.vals.length=vo at *
   generalize c.v.kind=vk at *
   generalize c.v.num=vn at *
   generalize c.v.str=vs at *
   generalize c.key=ky at *
   generalize c.i=ci at *
   generalize c.j=cj at *
   generalize c.n=cn at *
   generalize c.s=cs at *
   generalize c.kind=ck at *
   generalize h.kind=hk at *
   generalize h.num=hn at *
   generalize h.str=hs at *
   generalize h.items.length=hl at *
   generalize h.vals.length=ho at *
   go_enter Tryz.func43,Tryz.ntmps43
   go_wp2
   generalize (w.alloc (.cells #[.int .u8 ck,.slice A pn cp,.string ky,.int .i64 ci,.int .i64 cj,.int .i64 cn,.int .u8 vk,.int .i64 vn,.string vs,.slice AL vl cL,.slice AO vo cO,.string cs] 35))=W0 at *
   have u0:=fun d os=>cell_regrown HC.out.c0 d os
   obtain ⟨b0,b1,b2,b3,b4,_⟩:=HBX.out.five
   have v0:=cell_regrown b0
   refine wp_region_quiet_below (by kernel_rfl) (by kernel_rfl) ?_
   repeat (any_goals (go_big_quiet_step (with_reducible exact D1.out _ _ _)))
   refine wpQuiet_nil ?_
   intro _ hw'
   obtain ⟨⟨dq,osq⟩,hw''⟩:=hw'
   subst hw''
   have hB1:=below_regrown W0 dq osq
   have HC1:=Lib.hid (HCW.out.below hB1 HCW.out.lt).tw
   have HX1:=Lib.hid (HBX.out.below hB1 HBX.out.lt).five
   have HBB:=Lib.hid (HB.out.trans (hB1.mono HB.out.size))
   clear hB1 u0 v0 b0 b1 b2 b3 b4 D1
   generalize grow (redrawn W0 dq) osq=W1 at *
   obtain ⟨c0,c1,c2,c3,c4,c5,c6,c7,c8,c9,c10,c11,_⟩:=HC1.out
   obtain ⟨b0,b1,b2,b3,b4,_⟩:=HX1.out
   go_wp2
   have u0:=cell_regrown c0
   have u1:=cell_regrown c1
   have u2:=cell_regrown c2
   have u3:=cell_regrown c3
   have u4:=cell_regrown c4
   have u5:=cell_regrown c5
   have u6:=cell_regrown c6
   have u7:=cell_regrown c7
   have u8:=cell_regrown c8
   have u9:=cell_regrown c9
   have u10:=cell_regrown c10
   have u11:=cell_regrown c11
   have v2:=cell_regrown b2
   have v3:=cell_regrown b3
   have DX:=Lib.hid (DS.out W1 HBB.out)
   clear c0 c1 c2 c3 c4 c5 c6 c7 c8 c9 c10 c11 b0 b1 b2 b3 b4
   refine wp_region_quiet_below (by kernel_rfl) (by kernel_rfl) ?_
   repeat (any_goals (go_big_quiet_step (with_reducible exact DX.out _ _)))
   refine wpQuiet_nil ?_
   intro _ hw'
   obtain ⟨⟨dq2,osq2⟩,hw''⟩:=hw'
   subst hw''
   go_wp2
   go_ret
   exact ⟨rfl,HBB.out.trans ((below_regrown W1 dq2 osq2).mono HBB.out.size)⟩
  ·by_cases q3:h.kind=3
   ·have hr:chkH h c=chkT (nChars h.str) c.kind.toNat c.i c.n:=by
     simp only [chkH,ne_eq,q,not_true_eq_false,if_false]
     rw [← q,if_neg q4,if_pos q3]
    have DT:=Lib.hid (hT q3 (q.symm.trans q3))
    rw [← hr] at DT
    generalize chkH h c=r at *
    have z:(h.kind == worksOn c.kind)=true:=by simpa using q
    have z4:(h.kind == 4)=false:=by simpa using q4
    have z3:(h.kind == 3)=true:=by simpa using q3
    clear hr q q4 q3 hT hx hbx hv hc HF hkn DS
    generalize worksOn c.kind=wk at *
    generalize c.path.length=pn at *
    generalize c.v.items.length=vl at *
    generalize c.v.vals.length=vo at *
    generalize c.v.kind=vk at *
    generalize c.v.num=vn at *
    generalize c.v.str=vs at *
    generalize c.key=ky at *
    generalize c.i=ci at *
    generalize c.j=cj at *
    generalize c.n=cn at *
    generalize c.s=cs at *
    generalize c.kind=ck at *
    generalize h.kind=hk at *
    generalize h.num=hn at *
    generalize h.str=hs at *
    generalize h.items.length=hl at *
    generalize h.vals.length=ho at *
    go_enter Tryz.func43,Tryz.ntmps43
    go_wp2
    generalize (w.alloc (.cells #[.int .u8 ck,.slice A pn cp,.string ky,.int .i64 ci,.int .i64 cj,.int .i64 cn,.int .u8 vk,.int .i64 vn,.string vs,.slice AL vl cL,.slice AO vo cO,.string cs] 35))=W0 at *
    have u0:=fun d os=>cell_regrown HC.out.c0 d os
    obtain ⟨b0,b1,b2,b3,b4,_⟩:=HBX.out.five
    have v0:=cell_regrown b0
    refine wp_region_quiet_below (by kernel_rfl) (by kernel_rfl) ?_
    repeat (any_goals (go_big_quiet_step (with_reducible exact D1.out _ _ _)))
    refine wpQuiet_nil ?_
    intro _ hw'
    obtain ⟨⟨dq,osq⟩,hw''⟩:=hw'
    subst hw''
    have hB1:=below_regrown W0 dq osq
    have HC1:=Lib.hid (HCW.out.below hB1 HCW.out.lt).tw
    have HX1:=Lib.hid (HBX.out.below hB1 HBX.out.lt).five
    have HBB:=Lib.hid (HB.out.trans (hB1.mono HB.out.size))
    clear hB1 u0 v0 b0 b1 b2 b3 b4 D1
    generalize grow (redrawn W0 dq) osq=W1 at *
    obtain ⟨c0,c1,c2,c3,c4,c5,c6,c7,c8,c9,c10,c11,_⟩:=HC1.out
    obtain ⟨b0,b1,b2,b3,b4,_⟩:=HX1.out
    go_wp2
    have u0:=cell_regrown c0
    have u1:=cell_regrown c1
    have u2:=cell_regrown c2
    have u3:=cell_regrown c3
    have u4:=cell_regrown c4
    have u5:=cell_regrown c5
    have u6:=cell_regrown c6
    have u7:=cell_regrown c7
    have u8:=cell_regrown c8
    have u9:=cell_regrown c9
    have u10:=cell_regrown c10
    have u11:=cell_regrown c11
    have v2:=cell_regrown b2
    have v3:=cell_regrown b3
    have DX:=Lib.hid (DT.out W1 HBB.out)
    clear c0 c1 c2 c3 c4 c5 c6 c7 c8 c9 c10 c11 b0 b1 b2 b3 b4
    refine wp_region_quiet_below (by kernel_rfl) (by kernel_rfl) ?_
    repeat (any_goals (go_big_quiet_step (with_reducible exact DX.out _ _)))
    refine wpQuiet_nil ?_
    intro _ hw'
    obtain ⟨⟨dq2,osq2⟩,hw''⟩:=hw'
    subst hw''
    go_wp2
    go_ret
    exact ⟨rfl,HBB.out.trans ((below_regrown W1 dq2 osq2).mono HBB.out.size)⟩
   ·have z:(h.kind == worksOn c.kind)=true:=by simpa using q
    have z4:(h.kind == 4)=false:=by simpa using q4
    have z3:(h.kind == 3)=false:=by simpa using q3
    by_cases qd:c.kind=3
    ·have zd:(c.kind == 3)=true:=by simpa using qd
     cases ht:there c.key h.keys with
     | true=>
      have hr:chkH h c=0:=by
       simp only [chkH,ne_eq,q,not_true_eq_false,if_false]
       rw [← q,if_neg q4,if_neg q3,if_neg (by rw [ht];simp)]
      rw [hr]
      rw [ht] at HF
      clear hr q q4 q3 qd hT hx hbx hv hc hkn DS ht
      generalize worksOn c.kind=wk at *
      generalize c.path.length=pn at *
      generalize c.v.items.length=vl at *
      generalize c.v.vals.length=vo at *
      generalize c.v.kind=vk at *
      generalize c.v.num=vn at *
      generalize c.v.str=vs at *
      generalize c.key=ky at *
      generalize c.i=ci at *
      generalize c.j=cj at *
      generalize c.n=cn at *
      generalize c.s=cs at *
      generalize c.kind=ck at *
      generalize h.kind=hk at *
      generalize h.num=hn at *
      generalize h.str=hs at *
      generalize h.items.length=hl at *
      generalize h.vals.length=ho at *
      go_enter Tryz.func43,Tryz.ntmps43
      go_wp2
      generalize (w.alloc (.cells #[.int .u8 ck,.slice A pn cp,.string ky,.int .i64 ci,.int .i64 cj,.int .i64 cn,.int .u8 vk,.int .i64 vn,.string vs,.slice AL vl cL,.slice AO vo cO,.string cs] 35))=W0 at *
      have u0:=fun d os=>cell_regrown HC.out.c0 d os
      obtain ⟨b0,b1,b2,b3,b4,_⟩:=HBX.out.five
      have v0:=cell_regrown b0
      refine wp_region_quiet_below (by kernel_rfl) (by kernel_rfl) ?_
      repeat (any_goals (go_big_quiet_step (with_reducible exact D1.out _ _ _)))
      refine wpQuiet_nil ?_
      intro _ hw'
      obtain ⟨⟨dq,osq⟩,hw''⟩:=hw'
      subst hw''
      have hB1:=below_regrown W0 dq osq
      have HC1:=Lib.hid (HCW.out.below hB1 HCW.out.lt).tw
      have HX1:=Lib.hid (HBX.out.below hB1 HBX.out.lt).five
      have HBB:=Lib.hid (HB.out.trans (hB1.mono HB.out.size))
      clear hB1 u0 v0 b0 b1 b2 b3 b4 D1
      generalize grow (redrawn W0 dq) osq=W1 at *
      obtain ⟨c0,c1,c2,c3,c4,c5,c6,c7,c8,c9,c10,c11,_⟩:=HC1.out
      obtain ⟨b0,b1,b2,b3,b4,_⟩:=HX1.out
      go_wp2_with (go_at_call 77;refine (HF.out _ HBB.out).mono ?_;rintro e w2 ⟨rfl,hb2⟩;have HB2:=Lib.hid (HBB.out.trans (hb2.mono HBB.out.size));clear hb2)
      go_ret
      exact ⟨rfl,HB2.out⟩
     | false=>
      have hr:chkH h c=33:=by
       simp only [chkH,ne_eq,q,not_true_eq_false,if_false]
       rw [← q,if_neg q4,if_neg q3,if_pos ⟨qd,ht⟩]
      rw [hr]
      rw [ht] at HF
      clear hr q q4 q3 qd hT hx hbx hv hc hkn DS ht
      generalize worksOn c.kind=wk at *
      generalize c.path.length=pn at *
      generalize c.v.items.length=vl at *
      generalize c.v.vals.length=vo at *
      generalize c.v.kind=vk at *
      generalize c.v.num=vn at *
      generalize c.v.str=vs at *
      generalize c.key=ky at *
      generalize c.i=ci at *
      generalize c.j=cj at *
      generalize c.n=cn at *
      generalize c.s=cs at *
      generalize c.kind=ck at *
      generalize h.kind=hk at *
      generalize h.num=hn at *
      generalize h.str=hs at *
      generalize h.items.length=hl at *
      generalize h.vals.length=ho at *
      go_enter Tryz.func43,Tryz.ntmps43
      go_wp2
      generalize (w.alloc (.cells #[.int .u8 ck,.slice A pn cp,.string ky,.int .i64 ci,.int .i64 cj,.int .i64 cn,.int .u8 vk,.int .i64 vn,.string vs,.slice AL vl cL,.slice AO vo cO,.string cs] 35))=W0 at *
      have u0:=fun d os=>cell_regrown HC.out.c0 d os
      obtain ⟨b0,b1,b2,b3,b4,_⟩:=HBX.out.five
      have v0:=cell_regrown b0
      refine wp_region_quiet_below (by kernel_rfl) (by kernel_rfl) ?_
      repeat (any_goals (go_big_quiet_step (with_reducible exact D1.out _ _ _)))
      refine wpQuiet_nil ?_
      intro _ hw'
      obtain ⟨⟨dq,osq⟩,hw''⟩:=hw'
      subst hw''
      have hB1:=below_regrown W0 dq osq
      have HC1:=Lib.hid (HCW.out.below hB1 HCW.out.lt).tw
      have HX1:=Lib.hid (HBX.out.below hB1 HBX.out.lt).five
      have HBB:=Lib.hid (HB.out.trans (hB1.mono HB.out.size))
      clear hB1 u0 v0 b0 b1 b2 b3 b4 D1
      generalize grow (redrawn W0 dq) osq=W1 at *
      obtain ⟨c0,c1,c2,c3,c4,c5,c6,c7,c8,c9,c10,c11,_⟩:=HC1.out
      obtain ⟨b0,b1,b2,b3,b4,_⟩:=HX1.out
      go_wp2_with (go_at_call 77;refine (HF.out _ HBB.out).mono ?_;rintro e w2 ⟨rfl,hb2⟩;have HB2:=Lib.hid (HBB.out.trans (hb2.mono HBB.out.size));clear hb2)
      go_ret
      exact ⟨rfl,HB2.out⟩
    ·have zd:(c.kind == 3)=false:=by simpa using qd
     have hr:chkH h c=0:=by
      simp only [chkH,ne_eq,q,not_true_eq_false,if_false]
      rw [← q,if_neg q4,if_neg q3,if_neg (fun h=>qd h.1)]
     rw [hr]
     clear hr q q4 q3 qd hT hx hbx hv hc hkn DS HF
     generalize worksOn c.kind=wk at *
     generalize c.path.length=pn at *
     generalize c.v.items.length=vl at *
     generalize c.v.vals.length=vo at *
     generalize c.v.kind=vk at *
     generalize c.v.num=vn at *
     generalize c.v.str=vs at *
     generalize c.key=ky at *
     generalize c.i=ci at *
     generalize c.j=cj at *
     generalize c.n=cn at *
     generalize c.s=cs at *
     generalize c.kind=ck at *
     generalize h.kind=hk at *
     generalize h.num=hn at *
     generalize h.str=hs at *
     generalize h.items.length=hl at *
     generalize h.vals.length=ho at *
     go_enter Tryz.func43,Tryz.ntmps43
     go_wp2
     generalize (w.alloc (.cells #[.int .u8 ck,.slice A pn cp,.string ky,.int .i64 ci,.int .i64 cj,.int .i64 cn,.int .u8 vk,.int .i64 vn,.string vs,.slice AL vl cL,.slice AO vo cO,.string cs] 35))=W0 at *
     have u0:=fun d os=>cell_regrown HC.out.c0 d os
     obtain ⟨b0,b1,b2,b3,b4,_⟩:=HBX.out.five
     have v0:=cell_regrown b0
     refine wp_region_quiet_below (by kernel_rfl) (by kernel_rfl) ?_
     repeat (any_goals (go_big_quiet_step (with_reducible exact D1.out _ _ _)))
     refine wpQuiet_nil ?_
     intro _ hw'
     obtain ⟨⟨dq,osq⟩,hw''⟩:=hw'
     subst hw''
     have hB1:=below_regrown W0 dq osq
     have HC1:=Lib.hid (HCW.out.below hB1 HCW.out.lt).tw
     have HX1:=Lib.hid (HBX.out.below hB1 HBX.out.lt).five
     have HBB:=Lib.hid (HB.out.trans (hB1.mono HB.out.size))
     clear hB1 u0 v0 b0 b1 b2 b3 b4 D1
     generalize grow (redrawn W0 dq) osq=W1 at *
     obtain ⟨c0,c1,c2,c3,c4,c5,c6,c7,c8,c9,c10,c11,_⟩:=HC1.out
     obtain ⟨b0,b1,b2,b3,b4,_⟩:=HX1.out
     go_wp2
     go_ret
     exact ⟨rfl,HBB.out⟩
 ·have hr:chkH h c=31:=by
   simp only [chkH,ne_eq,q,not_false_eq_true,if_true]
  rw [hr]
  have z:(h.kind == worksOn c.kind)=false:=by simpa using q
  clear hr q hT hx hbx hv hc hkn DS HF
  generalize worksOn c.kind=wk at *
  generalize c.path.length=pn at *
  generalize c.v.items.length=vl at *
  generalize c.v.vals.length=vo at *
  generalize c.v.kind=vk at *
  generalize c.v.num=vn at *
  generalize c.v.str=vs at *
  generalize c.key=ky at *
  generalize c.i=ci at *
  generalize c.j=cj at *
  generalize c.n=cn at *
  generalize c.s=cs at *
  generalize c.kind=ck at *
  generalize h.kind=hk at *
  generalize h.num=hn at *
  generalize h.str=hs at *
  generalize h.items.length=hl at *
  generalize h.vals.length=ho at *
  go_enter Tryz.func43,Tryz.ntmps43
  go_wp2
  generalize (w.alloc (.cells #[.int .u8 ck,.slice A pn cp,.string ky,.int .i64 ci,.int .i64 cj,.int .i64 cn,.int .u8 vk,.int .i64 vn,.string vs,.slice AL vl cL,.slice AO vo cO,.string cs] 35))=W0 at *
  have u0:=fun d os=>cell_regrown HC.out.c0 d os
  obtain ⟨b0,b1,b2,b3,b4,_⟩:=HBX.out.five
  have v0:=cell_regrown b0
  refine wp_region_quiet_below (by kernel_rfl) (by kernel_rfl) ?_
  repeat (any_goals (go_big_quiet_step (with_reducible exact D1.out _ _ _)))
  refine wpQuiet_nil ?_
  intro _ hw'
  obtain ⟨⟨dq,osq⟩,hw''⟩:=hw'
  subst hw''
  have hB1:=below_regrown W0 dq osq
  have HC1:=Lib.hid (HCW.out.below hB1 HCW.out.lt).tw
  have HX1:=Lib.hid (HBX.out.below hB1 HBX.out.lt).five
  have HBB:=Lib.hid (HB.out.trans (hB1.mono HB.out.size))
  clear hB1 u0 v0 b0 b1 b2 b3 b4 D1
  generalize grow (redrawn W0 dq) osq=W1 at *
  obtain ⟨c0,c1,c2,c3,c4,c5,c6,c7,c8,c9,c10,c11,_⟩:=HC1.out
  obtain ⟨b0,b1,b2,b3,b4,_⟩:=HX1.out
  go_wp2
  go_ret
  exact ⟨rfl,HBB.out⟩
end Go.Proofs.YtamlaknfakaanaaGreatDoor
