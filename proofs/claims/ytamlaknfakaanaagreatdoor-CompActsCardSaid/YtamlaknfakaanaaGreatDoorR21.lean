/- Sound of a component, the program's. -/
import Derived.Test.YtamlaknfakaanaaGreatDoorR18
import Derived.BigQuiet
import Derived.Deep.QuietTactic
set_option maxRecDepth 100000
set_option maxHeartbeats 8000000
namespace Go.Proofs.YtamlaknfakaanaaGreatDoor
open Go Go.RowKit
open Go.Sort (grow)
set_option linter.unusedVariables false
set_option linter.unusedSimpArgs false
theorem bool_det {P:Prop} {f:FuncId} {args:Array Value} {W:World} (h:Calls Tryz.prog f args W (BoolPost P W)):∀ bb:Bool,(bb=true↔P)→Calls Tryz.prog f args W fun e w''=>e=.returned (.bool bb)∧Below W.heap.size W w'':=fun bb hbb=>
 h.mono fun e w'' h=>by
  obtain ⟨b2,rfl,hb2,hbel⟩:=h
  have:b2=bb:=by rw [Bool.eq_iff_iff,hb2,hbb]
  subst this
  exact ⟨rfl,hbel⟩
theorem bool_some (P:Prop):∃ bb:Bool,bb=true↔P:=by
 by_cases h:P
 ·exact ⟨true,by simp [h]⟩
 ·exact ⟨false,by simp [h]⟩
theorem sound_value (c:GC) (A AL AO:Option Addr) (cp cL cO:Nat) (w:World) (hc:Cc w c A AL AO cp cL cO) (hw:c.v.weight≤1000000000) (hpl:c.path.length≤16) (hT:Tabs w):
  Calls Tryz.prog 38 #[.agg #[.int .u8 c.kind,.slice A c.path.length cp,.string c.key,.int .i64 c.i,.int .i64 c.j,.int .i64 c.n,.int .u8 c.v.kind,.int .i64 c.v.num,.string c.v.str,.slice AL c.v.items.length cL,.slice AO c.v.vals.length cO,.string c.s]] w (BoolPost c.ValueOk w):=by
 have H0:=Lib.hid (Whole.new w 35 #[.int .u8 c.kind,.slice A c.path.length cp,.string c.key,.int .i64 c.i,.int .i64 c.j,.int .i64 c.n,.int .u8 c.v.kind,.int .i64 c.v.num,.string c.v.str,.slice AL c.v.items.length cL,.slice AO c.v.vals.length cO,.string c.s])
 have hB:=below_alloc w (.cells #[.int .u8 c.kind,.slice A c.path.length cp,.string c.key,.int .i64 c.i,.int .i64 c.j,.int .i64 c.n,.int .u8 c.v.kind,.int .i64 c.v.num,.string c.v.str,.slice AL c.v.items.length cL,.slice AO c.v.vals.length cO,.string c.s] 35)
 obtain ⟨bs,hbs⟩:=bool_some c.v.Sound
 have HSS:Hid (c.ValueOk↔bs=true∧c.path.length+1+c.v.deep≤16∧c.v.weight≤20000):=Lib.hid (by rw [hbs];exact Iff.rfl)
 have hsz:c.v.size≤1000000000:=Nat.le_trans (size_le_weight _) hw
 have hdl:c.v.deep≤1000000000:=by have:=deep_lt_size c.v;omega
 have c1:=fun (W0:World) (hb:Below w.heap.size w W0) (d:Nat) (os:Array Obj)=>Calls.regrown_of (bool_det (val_Sound (fun _=>True) _ c.v (grow (redrawn W0 d) os) ((hc.v.later (hb.trans ((below_regrown W0 d os).mono hb.size)))).val hw (hT.below (hb.trans ((below_regrown W0 d os).mono hb.size)) (Nat.le_refl _))) bs hbs)
 have c2:=fun (W0:World) (hb:Below w.heap.size w W0) (d:Nat) (os:Array Obj)=>Calls.regrown_of (val_Deep (fun _=>True) _ c.v (grow (redrawn W0 d) os) ((hc.v.later (hb.trans ((below_regrown W0 d os).mono hb.size)))).val hsz)
 have c3:=fun (W0:World) (hb:Below w.heap.size w W0) (d:Nat) (os:Array Obj)=>Calls.regrown_of (val_Weight (fun _=>True) _ c.v (grow (redrawn W0 d) os) ((hc.v.later (hb.trans ((below_regrown W0 d os).mono hb.size)))).val hw)
 have C1:=Lib.hid c1
 have C2:=Lib.hid c2
 have C3:=Lib.hid c3
 clear c1 c2 c3 hc hT hbs hsz
 generalize c.ValueOk=SS at *
 generalize c.v.deep=vd at *
 generalize c.v.weight=vw at *
 generalize c.kind=ck at *
 generalize c.path.length=pn at *
 generalize c.key=ky at *
 generalize c.i=ci at *
 generalize c.j=cj at *
 generalize c.n=cn at *
 generalize c.v.kind=vk at *
 generalize c.v.num=vn at *
 generalize c.v.str=vs at *
 generalize c.v.items.length=vl at *
 generalize c.v.vals.length=vo at *
 generalize c.s=cs at *
 go_enter Tryz.func38,Tryz.ntmps38
 go_wp2
 obtain ⟨a0,a1,a2,a3,a4,a5,a6,a7,a8,a9,a10,a11,_⟩:=H0.out.tw
 clear H0
 generalize (w.alloc (.cells #[.int .u8 ck,.slice A pn cp,.string ky,.int .i64 ci,.int .i64 cj,.int .i64 cn,.int .u8 vk,.int .i64 vn,.string vs,.slice AL vl cL,.slice AO vo cO,.string cs] 35))=W0 at *
 have u1:=cell_regrown a1
 have u6:=cell_regrown a6
 have u7:=cell_regrown a7
 have u8:=cell_regrown a8
 have u9:=cell_regrown a9
 have u10:=cell_regrown a10
 clear a0 a1 a2 a3 a4 a5 a6 a7 a8 a9 a10 a11
 have D1:=Lib.hid (C1.out W0 hB)
 have D2:=Lib.hid (C2.out W0 hB)
 have D3:=Lib.hid (C3.out W0 hB)
 have HB:=Lib.hid hB
 clear hB C1 C2 C3
 cases bs with
 | false=>
  refine wp_region_quiet_below (by kernel_rfl) (by kernel_rfl) ?_
  repeat (any_goals (go_big_quiet_step (first | with_reducible exact D1.out _ _ | with_reducible exact D2.out _ _ | with_reducible exact D3.out _ _)))
  refine wpQuiet_nil ?_
  intro _ hw'
  obtain ⟨⟨dq,osq⟩,hw''⟩:=hw'
  subst hw''
  go_wp2
  go_ret
  exact ⟨false,rfl,by rw [HSS.out];simp,HB.out.trans ((below_regrown W0 dq osq).mono HB.out.size)⟩
 | true=>
  by_cases q1:pn+1+vd≤16
  ·have q1':((pn:Int)+1+(vd:Int))≤16:=by omega
   have Q1:=Lib.hid q1
   clear q1
   by_cases q2:vw≤20000
   ·have q2':(vw:Int)≤20000:=by omega
    have Q2:=Lib.hid q2
    clear q2
    refine wp_region_quiet_below (by kernel_rfl) (by kernel_rfl) ?_
    repeat (any_goals (go_big_quiet_step (first | with_reducible exact D1.out _ _ | with_reducible exact D2.out _ _ | with_reducible exact D3.out _ _)))
    refine wpQuiet_nil ?_
    intro _ hw'
    obtain ⟨⟨dq,osq⟩,hw''⟩:=hw'
    subst hw''
    go_wp2
    go_ret
    exact ⟨true,rfl,by rw [HSS.out];simp [Q1.out,Q2.out],HB.out.trans ((below_regrown W0 dq osq).mono HB.out.size)⟩
   ·have q2':¬ (vw:Int)≤20000:=by omega
    have Q2:=Lib.hid q2
    clear q2
    refine wp_region_quiet_below (by kernel_rfl) (by kernel_rfl) ?_
    repeat (any_goals (go_big_quiet_step (first | with_reducible exact D1.out _ _ | with_reducible exact D2.out _ _ | with_reducible exact D3.out _ _)))
    refine wpQuiet_nil ?_
    intro _ hw'
    obtain ⟨⟨dq,osq⟩,hw''⟩:=hw'
    subst hw''
    go_wp2
    go_ret
    exact ⟨false,rfl,by rw [HSS.out];simp [Q2.out],HB.out.trans ((below_regrown W0 dq osq).mono HB.out.size)⟩
  ·have q1':¬ ((pn:Int)+1+(vd:Int))≤16:=by omega
   have Q1:=Lib.hid q1
   clear q1
   refine wp_region_quiet_below (by kernel_rfl) (by kernel_rfl) ?_
   repeat (any_goals (go_big_quiet_step (first | with_reducible exact D1.out _ _ | with_reducible exact D2.out _ _ | with_reducible exact D3.out _ _)))
   refine wpQuiet_nil ?_
   intro _ hw'
   obtain ⟨⟨dq,osq⟩,hw''⟩:=hw'
   subst hw''
   go_wp2
   go_ret
   exact ⟨false,rfl,by rw [HSS.out];simp [Q1.out],HB.out.trans ((below_regrown W0 dq osq).mono HB.out.size)⟩
theorem same_no (key s:ByteArray) (i j n:Int) (v:GV) (AL AO:Option Addr) (cL cO:Nat) (W:World) (hv:Vl W v AL AO cL cO) (hw:v.weight≤1000000000):
  Calls Tryz.prog 68 #[.agg #[.int .u8 0,.slice none 0 0,.string key,.int .i64 i,.int .i64 j,.int .i64 n,.int .u8 v.kind,.int .i64 v.num,.string v.str,.slice AL v.items.length cL,.slice AO v.vals.length cO,.string s],.agg #[.int .u8 0,.slice none 0 0,.string ⟨#[]⟩,.int .i64 0,.int .i64 0,.int .i64 0,.int .u8 0,.int .i64 0,.string ⟨#[]⟩,.slice none 0 0,.slice none 0 0,.string ⟨#[]⟩]] W
   fun e w'=>∃ b:Bool,e=.returned (.bool b)∧(b=true↔key.toList=[]∧i=0∧j=0∧n=0∧s.toList=[]∧v.Same noG)∧Below W.heap.size W w':=
 (comp_Same ⟨0,[],key,i,j,n,v,s⟩ noC none AL AO none none none 0 cL cO 0 0 0 W ⟨wy_nil W,hv⟩ (cc_no W) hw (by decide)).mono fun e w' ⟨b,he,hb,hB⟩=>⟨b,he,by
  rw [hb]
  have h0:(⟨#[]⟩:ByteArray).toList=[]:=by decide +kernel
  have h1:samePB [] []=true:=by decide
  simp only [GC.Same,noC,h0,h1,true_and]
  ,hB⟩
theorem noG_same:noG.Same noG:=same_refl noG
theorem empty_list:(⟨#[]⟩:ByteArray).toList=[]:=by decide +kernel
theorem silent_1 (c:GC) (A AL AO:Option Addr) (cp cL cO:Nat) (w:World) (hc:Cc w c A AL AO cp cL cO) (hw:c.v.weight≤1000000000) (W:World) (hb:Below w.heap.size w W):
  Calls Tryz.prog 68 #[.agg #[.int .u8 0,.slice none 0 0,.string c.key,.int .i64 c.i,.int .i64 c.j,.int .i64 0,.int .u8 c.v.kind,.int .i64 c.v.num,.string c.v.str,.slice AL c.v.items.length cL,.slice AO c.v.vals.length cO,.string c.s],.agg #[.int .u8 0,.slice none 0 0,.string ⟨#[]⟩,.int .i64 0,.int .i64 0,.int .i64 0,.int .u8 0,.int .i64 0,.string ⟨#[]⟩,.slice none 0 0,.slice none 0 0,.string ⟨#[]⟩]] W fun e w'=>∃ b:Bool,e=.returned (.bool b)∧(b=true↔c.key.toList=[]∧c.i=0∧c.j=0∧c.s.toList=[]∧c.v.Same noG)∧Below w.heap.size w w':=
 (same_no c.key c.s c.i c.j 0 c.v AL AO cL cO W (hc.v.later hb) hw).mono fun e w' ⟨b,he,hb',hB⟩=>⟨b,he,by rw [hb'];simp [empty_list,noG_same],hb.trans (hB.mono hb.size)⟩
theorem silent_2 (c:GC) (A AL AO:Option Addr) (cp cL cO:Nat) (w:World) (hc:Cc w c A AL AO cp cL cO) (hw:c.v.weight≤1000000000) (W:World) (hb:Below w.heap.size w W):
  Calls Tryz.prog 68 #[.agg #[.int .u8 0,.slice none 0 0,.string ⟨#[]⟩,.int .i64 c.i,.int .i64 c.j,.int .i64 c.n,.int .u8 0,.int .i64 0,.string ⟨#[]⟩,.slice none 0 0,.slice none 0 0,.string c.s],.agg #[.int .u8 0,.slice none 0 0,.string ⟨#[]⟩,.int .i64 0,.int .i64 0,.int .i64 0,.int .u8 0,.int .i64 0,.string ⟨#[]⟩,.slice none 0 0,.slice none 0 0,.string ⟨#[]⟩]] W fun e w'=>∃ b:Bool,e=.returned (.bool b)∧(b=true↔c.i=0∧c.j=0∧c.n=0∧c.s.toList=[])∧Below w.heap.size w w':=
 (same_no ⟨#[]⟩ c.s c.i c.j c.n noG none none 0 0 W (vl_noG W) (by decide)).mono fun e w' ⟨b,he,hb',hB⟩=>⟨b,he,by rw [hb'];simp [empty_list,noG_same],hb.trans (hB.mono hb.size)⟩
theorem silent_3 (c:GC) (A AL AO:Option Addr) (cp cL cO:Nat) (w:World) (hc:Cc w c A AL AO cp cL cO) (hw:c.v.weight≤1000000000) (W:World) (hb:Below w.heap.size w W):
  Calls Tryz.prog 68 #[.agg #[.int .u8 0,.slice none 0 0,.string ⟨#[]⟩,.int .i64 c.i,.int .i64 c.j,.int .i64 c.n,.int .u8 c.v.kind,.int .i64 c.v.num,.string c.v.str,.slice AL c.v.items.length cL,.slice AO c.v.vals.length cO,.string c.s],.agg #[.int .u8 0,.slice none 0 0,.string ⟨#[]⟩,.int .i64 0,.int .i64 0,.int .i64 0,.int .u8 0,.int .i64 0,.string ⟨#[]⟩,.slice none 0 0,.slice none 0 0,.string ⟨#[]⟩]] W fun e w'=>∃ b:Bool,e=.returned (.bool b)∧(b=true↔c.i=0∧c.j=0∧c.n=0∧c.s.toList=[]∧c.v.Same noG)∧Below w.heap.size w w':=
 (same_no ⟨#[]⟩ c.s c.i c.j c.n c.v AL AO cL cO W (hc.v.later hb) hw).mono fun e w' ⟨b,he,hb',hB⟩=>⟨b,he,by rw [hb'];simp [empty_list,noG_same],hb.trans (hB.mono hb.size)⟩
theorem silent_4 (c:GC) (A AL AO:Option Addr) (cp cL cO:Nat) (w:World) (hc:Cc w c A AL AO cp cL cO) (hw:c.v.weight≤1000000000) (W:World) (hb:Below w.heap.size w W):
  Calls Tryz.prog 68 #[.agg #[.int .u8 0,.slice none 0 0,.string c.key,.int .i64 0,.int .i64 c.j,.int .i64 c.n,.int .u8 0,.int .i64 0,.string ⟨#[]⟩,.slice none 0 0,.slice none 0 0,.string c.s],.agg #[.int .u8 0,.slice none 0 0,.string ⟨#[]⟩,.int .i64 0,.int .i64 0,.int .i64 0,.int .u8 0,.int .i64 0,.string ⟨#[]⟩,.slice none 0 0,.slice none 0 0,.string ⟨#[]⟩]] W fun e w'=>∃ b:Bool,e=.returned (.bool b)∧(b=true↔c.key.toList=[]∧c.j=0∧c.n=0∧c.s.toList=[])∧Below w.heap.size w w':=
 (same_no c.key c.s 0 c.j c.n noG none none 0 0 W (vl_noG W) (by decide)).mono fun e w' ⟨b,he,hb',hB⟩=>⟨b,he,by rw [hb'];simp [empty_list,noG_same],hb.trans (hB.mono hb.size)⟩
theorem silent_5 (c:GC) (A AL AO:Option Addr) (cp cL cO:Nat) (w:World) (hc:Cc w c A AL AO cp cL cO) (hw:c.v.weight≤1000000000) (W:World) (hb:Below w.heap.size w W):
  Calls Tryz.prog 68 #[.agg #[.int .u8 0,.slice none 0 0,.string c.key,.int .i64 0,.int .i64 c.j,.int .i64 c.n,.int .u8 c.v.kind,.int .i64 c.v.num,.string c.v.str,.slice AL c.v.items.length cL,.slice AO c.v.vals.length cO,.string c.s],.agg #[.int .u8 0,.slice none 0 0,.string ⟨#[]⟩,.int .i64 0,.int .i64 0,.int .i64 0,.int .u8 0,.int .i64 0,.string ⟨#[]⟩,.slice none 0 0,.slice none 0 0,.string ⟨#[]⟩]] W fun e w'=>∃ b:Bool,e=.returned (.bool b)∧(b=true↔c.key.toList=[]∧c.j=0∧c.n=0∧c.s.toList=[]∧c.v.Same noG)∧Below w.heap.size w w':=
 (same_no c.key c.s 0 c.j c.n c.v AL AO cL cO W (hc.v.later hb) hw).mono fun e w' ⟨b,he,hb',hB⟩=>⟨b,he,by rw [hb'];simp [empty_list,noG_same],hb.trans (hB.mono hb.size)⟩
theorem silent_6 (c:GC) (A AL AO:Option Addr) (cp cL cO:Nat) (w:World) (hc:Cc w c A AL AO cp cL cO) (hw:c.v.weight≤1000000000) (W:World) (hb:Below w.heap.size w W):
  Calls Tryz.prog 68 #[.agg #[.int .u8 0,.slice none 0 0,.string c.key,.int .i64 0,.int .i64 c.j,.int .i64 c.n,.int .u8 0,.int .i64 0,.string ⟨#[]⟩,.slice none 0 0,.slice none 0 0,.string c.s],.agg #[.int .u8 0,.slice none 0 0,.string ⟨#[]⟩,.int .i64 0,.int .i64 0,.int .i64 0,.int .u8 0,.int .i64 0,.string ⟨#[]⟩,.slice none 0 0,.slice none 0 0,.string ⟨#[]⟩]] W fun e w'=>∃ b:Bool,e=.returned (.bool b)∧(b=true↔c.key.toList=[]∧c.j=0∧c.n=0∧c.s.toList=[])∧Below w.heap.size w w':=
 (same_no c.key c.s 0 c.j c.n noG none none 0 0 W (vl_noG W) (by decide)).mono fun e w' ⟨b,he,hb',hB⟩=>⟨b,he,by rw [hb'];simp [empty_list,noG_same],hb.trans (hB.mono hb.size)⟩
theorem silent_7 (c:GC) (A AL AO:Option Addr) (cp cL cO:Nat) (w:World) (hc:Cc w c A AL AO cp cL cO) (hw:c.v.weight≤1000000000) (W:World) (hb:Below w.heap.size w W):
  Calls Tryz.prog 68 #[.agg #[.int .u8 0,.slice none 0 0,.string c.key,.int .i64 0,.int .i64 0,.int .i64 c.n,.int .u8 c.v.kind,.int .i64 c.v.num,.string c.v.str,.slice AL c.v.items.length cL,.slice AO c.v.vals.length cO,.string c.s],.agg #[.int .u8 0,.slice none 0 0,.string ⟨#[]⟩,.int .i64 0,.int .i64 0,.int .i64 0,.int .u8 0,.int .i64 0,.string ⟨#[]⟩,.slice none 0 0,.slice none 0 0,.string ⟨#[]⟩]] W fun e w'=>∃ b:Bool,e=.returned (.bool b)∧(b=true↔c.key.toList=[]∧c.n=0∧c.s.toList=[]∧c.v.Same noG)∧Below w.heap.size w w':=
 (same_no c.key c.s 0 0 c.n c.v AL AO cL cO W (hc.v.later hb) hw).mono fun e w' ⟨b,he,hb',hB⟩=>⟨b,he,by rw [hb'];simp [empty_list,noG_same],hb.trans (hB.mono hb.size)⟩
theorem silent_8 (c:GC) (A AL AO:Option Addr) (cp cL cO:Nat) (w:World) (hc:Cc w c A AL AO cp cL cO) (hw:c.v.weight≤1000000000) (W:World) (hb:Below w.heap.size w W):
  Calls Tryz.prog 68 #[.agg #[.int .u8 0,.slice none 0 0,.string c.key,.int .i64 0,.int .i64 c.j,.int .i64 c.n,.int .u8 c.v.kind,.int .i64 c.v.num,.string c.v.str,.slice AL c.v.items.length cL,.slice AO c.v.vals.length cO,.string ⟨#[]⟩],.agg #[.int .u8 0,.slice none 0 0,.string ⟨#[]⟩,.int .i64 0,.int .i64 0,.int .i64 0,.int .u8 0,.int .i64 0,.string ⟨#[]⟩,.slice none 0 0,.slice none 0 0,.string ⟨#[]⟩]] W fun e w'=>∃ b:Bool,e=.returned (.bool b)∧(b=true↔c.key.toList=[]∧c.j=0∧c.n=0∧c.v.Same noG)∧Below w.heap.size w w':=
 (same_no c.key ⟨#[]⟩ 0 c.j c.n c.v AL AO cL cO W (hc.v.later hb) hw).mono fun e w' ⟨b,he,hb',hB⟩=>⟨b,he,by rw [hb'];simp [empty_list,noG_same],hb.trans (hB.mono hb.size)⟩
theorem silent_9 (c:GC) (A AL AO:Option Addr) (cp cL cO:Nat) (w:World) (hc:Cc w c A AL AO cp cL cO) (hw:c.v.weight≤1000000000) (W:World) (hb:Below w.heap.size w W):
  Calls Tryz.prog 68 #[.agg #[.int .u8 0,.slice none 0 0,.string c.key,.int .i64 0,.int .i64 c.j,.int .i64 0,.int .u8 c.v.kind,.int .i64 c.v.num,.string c.v.str,.slice AL c.v.items.length cL,.slice AO c.v.vals.length cO,.string c.s],.agg #[.int .u8 0,.slice none 0 0,.string ⟨#[]⟩,.int .i64 0,.int .i64 0,.int .i64 0,.int .u8 0,.int .i64 0,.string ⟨#[]⟩,.slice none 0 0,.slice none 0 0,.string ⟨#[]⟩]] W fun e w'=>∃ b:Bool,e=.returned (.bool b)∧(b=true↔c.key.toList=[]∧c.j=0∧c.s.toList=[]∧c.v.Same noG)∧Below w.heap.size w w':=
 (same_no c.key c.s 0 c.j 0 c.v AL AO cL cO W (hc.v.later hb) hw).mono fun e w' ⟨b,he,hb',hB⟩=>⟨b,he,by rw [hb'];simp [empty_list,noG_same],hb.trans (hB.mono hb.size)⟩
end Go.Proofs.YtamlaknfakaanaaGreatDoor
