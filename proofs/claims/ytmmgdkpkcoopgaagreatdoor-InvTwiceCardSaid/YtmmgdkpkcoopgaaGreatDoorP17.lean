/- Sound of a component, the document's own: kinds [1, 2, 3]. -/
import Derived.Test.YtmmgdkpkcoopgaaGreatDoorP15
import Derived.Test.YtmmgdkpkcoopgaaGreatDoorP16
import Derived.Test.YtmmgdkpkcoopgaaGreatDoorP7
import Derived.BigQuiet
import Derived.Deep.QuietTactic
set_option maxRecDepth 100000
set_option maxHeartbeats 20000000
namespace Go.Proofs.YtmmgdkpkcoopgaaGreatDoor
open Go.Lib(hid)
open Go Go.RowKit
open Go.Sort (grow)
set_option linter.unusedVariables false
set_option linter.unusedSimpArgs false
theorem zbz {w W W':World} {b:Nat} {t:TypeId} {cs:Array Value} (h:Hid (Whole W b t cs/\Below w.heap.size w W)) (hb:Below W.heap.size W W'):Hid (Whole W' b t cs/\Below w.heap.size w W'):=
 hid ⟨h.out.1.below hb h.out.1.lt,h.out.2.trans (hb.mono h.out.2.size)⟩
theorem zfQ (c:GC) (bs bv:Bool) (hk:c.kq=1) (hbs:bs=true↔c.v.Sound) (hbv:bv=true↔c.v.Same noG):c.Sound↔soundP c.path=true/\c.key.toList=[]/\c.i=0/\c.j=0/\c.s.toList=[]/\bv=true/\bs=true/\c.path.length+1+c.v.deep<=16/\c.v.weight<=20000:=by
 have h1:=zfP c hk;have ve:c.key.toList=[]->valid c.key=true:=zak;unfold GC.Sound GC.ValueOk;rw [h1];constructor
 ·intro h
  simp_all
 ·intro h
  simp_all
  try omega
theorem zkr (c A AL AO cp cL cO w) (hc:Cc w c A AL AO cp cL cO) (hw:c.v.weight<=1000000000) (hpos:c.v.Pos) (hky:c.key.size<=9223372036854775807) (hs:c.s.size<=9223372036854775807) (hpk:∀ s∈c.path,s.key.size<=9223372036854775807) (hT:Tabs w) (hk:c.kq=1):
  Calls Tryz.prog 42 #[.agg #[.int .u8 c.kq,.slice A c.path.length cp,.string c.key,.int .i64 c.i,.int .i64 c.j,.int .i64 c.n,.int .u8 c.v.kq,.int .i64 c.v.num,.string c.v.str,.slice AL c.v.il.length cL,.slice AO c.v.vz.length cO,.string c.s]] w (BoolPost c.Sound w):=by
 have HZ:=hid (And.intro (Whole.new w 45 #[.int .u8 c.kq,.slice A c.path.length cp,.string c.key,.int .i64 c.i,.int .i64 c.j,.int .i64 c.n,.int .u8 c.v.kq,.int .i64 c.v.num,.string c.v.str,.slice AL c.v.il.length cL,.slice AO c.v.vz.length cO,.string c.s]) (zaa w (.cells #[.int .u8 c.kq,.slice A c.path.length cp,.string c.key,.int .i64 c.i,.int .i64 c.j,.int .i64 c.n,.int .u8 c.v.kq,.int .i64 c.v.num,.string c.v.str,.slice AL c.v.il.length cL,.slice AO c.v.vz.length cO,.string c.s] 45)));obtain ⟨bs,hbs⟩:=zat c.v.Sound;obtain ⟨bv,hbv⟩:=zat (c.v.Same noG);have HSS:=hid (zfQ c bs bv hk hbs hbv);have hsz:c.v.size<=1000000000:=Nat.le_trans (zad _) hw;have hdl:c.v.deep<=1000000000:=by have:=zav c.v;omega
 have hpl:c.path.length<=maxLen:=Nat.le_trans hc.path.le hc.path.cap;have h16:soundP c.path=true->c.path.length<=16:=fun h=>by simp only [soundP,Bool.and_eq_true,decide_eq_true_eq] at h;exact h.1
 have HSAY:=hid (fun W=>zbj 1 W)
 rw [show saysB 1 =⟨#[78]⟩ from rfl] at HSAY;rw [<- hk] at HSAY;have HIK:=hid (fun W=>zar ⟨#[78]⟩ 75 W (by decide))
 rw [show inB ⟨#[78]⟩ 75=false by decide +kernel] at HIK
 have HII:=hid (fun W=>zar ⟨#[78]⟩ 73 W (by decide))
 rw [show inB ⟨#[78]⟩ 73=false by decide +kernel] at HII
 have HIJ:=hid (fun W=>zar ⟨#[78]⟩ 74 W (by decide))
 rw [show inB ⟨#[78]⟩ 74=false by decide +kernel] at HIJ
 have HIN:=hid (fun W=>zar ⟨#[78]⟩ 78 W (by decide))
 rw [show inB ⟨#[78]⟩ 78=true by decide +kernel] at HIN
 have HIS:=hid (fun W=>zar ⟨#[78]⟩ 83 W (by decide))
 rw [show inB ⟨#[78]⟩ 83=false by decide +kernel] at HIS
 have HIV:=hid (fun W=>zar ⟨#[78]⟩ 86 W (by decide))
 rw [show inB ⟨#[78]⟩ 86=false by decide +kernel] at HIV
 have HP:=hid (fun W (hb:Below w.heap.size w W)=>za2 W.heap.size A cp c.path W (hc.path.later hb).steps (Nat.le_refl _) hpl hpk (hT.below hb (Nat.le_refl _)))
 have HSM:=hid (fun W (hb:Below w.heap.size w W)=>zay (zbg c.v.size (fun _=>True) _ _ c.v noG W (Nat.le_refl _) (hc.v.later hb).val (za0 W).val hsz (by decide)) bv hbv)
 have HVK:=hid (fun W (hb:Below w.heap.size w W)=>zao c.key W hky (hT.below hb (Nat.le_refl _)))
 have HVS:=hid (fun W (hb:Below w.heap.size w W)=>zao c.s W hs (hT.below hb (Nat.le_refl _)))
 have C1:=hid (fun (W0:World) (hb:Below w.heap.size w W0) (d:Nat) (os:Array Obj)=>Calls.regrown_of (zay (zbd c.v.size (fun _=>True) _ c.v (grow (redrawn W0 d) os) (Nat.le_refl _) ((hc.v.later (hb.trans ((below_regrown W0 d os).mono hb.size)))).val hw hpos (hT.below (hb.trans ((below_regrown W0 d os).mono hb.size)) (Nat.le_refl _))) bs hbs))
 have C2:=hid (fun (W0:World) (hb:Below w.heap.size w W0) (d:Nat) (os:Array Obj)=>Calls.regrown_of (zbr c.v.size (fun _=>True) _ c.v (grow (redrawn W0 d) os) (Nat.le_refl _) ((hc.v.later (hb.trans ((below_regrown W0 d os).mono hb.size)))).val hsz))
 have C3:=hid (fun (W0:World) (hb:Below w.heap.size w W0) (d:Nat) (os:Array Obj)=>Calls.regrown_of (za1 c.v.size (fun _=>True) _ c.v (grow (redrawn W0 d) os) (Nat.le_refl _) ((hc.v.later (hb.trans ((below_regrown W0 d os).mono hb.size)))).val hw))
 have HVAL:=hid (show (c.key.toList=[]->valid c.key=true)/\(c.s.toList=[]->valid c.s=true) from ⟨zak,zak⟩);have k8:(c.kq == 8)=false:=by rw [hk];rfl
 have k9:(c.kq == 9)=false:=by rw [hk];rfl
 have H16:=hid h16;clear hc hw hpos hky hs hpk hT hbs hbv hsz hpl h16 hk;generalize c.Sound=SS at *;generalize soundP c.path=b0 at *;generalize hvk:valid c.key=bk at *;generalize hvs:valid c.s=bS at *;generalize c.path.length=pn at *;generalize c.v.deep=vd at *;generalize c.v.weight=vw at *;generalize c.v.il.length=vl at *;generalize c.v.vz.length=vo at *;generalize c.v.kq=vk at *;generalize c.v.num=vn at *;generalize c.v.str=vs at *;generalize c.key=ky at *;generalize c.i=ci at *;generalize c.j=cj at *;generalize c.n=cn at *;generalize c.s=cs at *;generalize c.kq=ck at *;clear hvk hvs;obtain ⟨a0,a1,a2,a3,a4,a5,a6,a7,a8,a9,a10,a11,_⟩:=HZ.out.1.tw;cases b0
 have HQ:=hid (show (false=true↔SS) from ⟨(fun h=>by cases h),fun hs=>by have h:=HSS.out.1 hs;have h':=h.1;simp at h'⟩)
 rotate_left
 have h16:=H16.out (by trivial)
 clear H16;by_cases qK:ky.toList=[]
 rotate_left
 have QK:=hid qK;have zK:(ky.toList == ([]:List UInt8))=false:=by simpa using qK
 clear qK;have HQ:=hid (show (false=true↔SS) from ⟨(fun h=>by cases h),fun hs=>by have h:=HSS.out.1 hs;have h':=h.2.1;exact absurd h' QK.out⟩)
 rotate_right
 have QK:=hid qK;have zK:ky.toList.isEmpty=true:=by simp [qK]
 have zzK:(ky.toList == ([]:List UInt8))=true:=by simp [qK]
 obtain rfl:bk=true:=HVAL.out.1 qK;clear qK;by_cases qI:ci=0
 rotate_left
 have QI:=hid qI;have zI:(ci == 0)=false:=by simpa using qI
 have znI:(ci != 0)=true:=by simpa using qI
 clear qI;have HQ:=hid (show (false=true↔SS) from ⟨(fun h=>by cases h),fun hs=>by have h:=HSS.out.1 hs;have h':=h.2.2.1;exact absurd h' QI.out⟩)
 rotate_right
 subst qI;by_cases qJ:cj=0
 rotate_left
 have QJ:=hid qJ;have zJ:(cj == 0)=false:=by simpa using qJ
 have znJ:(cj != 0)=true:=by simpa using qJ
 clear qJ;have HQ:=hid (show (false=true↔SS) from ⟨(fun h=>by cases h),fun hs=>by have h:=HSS.out.1 hs;have h':=h.2.2.2.1;exact absurd h' QJ.out⟩)
 rotate_right
 subst qJ;by_cases qS:cs.toList=[]
 rotate_left
 have QS:=hid qS;have zS:(cs.toList == ([]:List UInt8))=false:=by simpa using qS
 clear qS;have HQ:=hid (show (false=true↔SS) from ⟨(fun h=>by cases h),fun hs=>by have h:=HSS.out.1 hs;have h':=h.2.2.2.2.1;exact absurd h' QS.out⟩)
 rotate_right
 have QS:=hid qS;have zS:cs.toList.isEmpty=true:=by simp [qS]
 have zzS:(cs.toList == ([]:List UInt8))=true:=by simp [qS]
 obtain rfl:bS=true:=HVAL.out.2 qS;clear qS;cases bv
 have HQ:=hid (show (false=true↔SS) from ⟨(fun h=>by cases h),fun hs=>by have h:=HSS.out.1 hs;have h':=h.2.2.2.2.2.1;simp at h'⟩)
 rotate_left
 rotate_left
 iterate 6 (go_enter Tryz.func42,Tryz.ntmps42;go_wp2_with (first | (go_at_call 67;refine (HSAY.out _).mono ?_;rintro e w' ⟨rfl,rfl⟩) | (go_at_call 68;refine (HP.out _ HZ.out.2).mono ?_;rintro e w1 ⟨rfl,hb⟩;replace HZ:=zbz HZ hb;clear hb a0 a1 a2 a3 a4 a5 a6 a7 a8 a9 a10 a11;obtain ⟨a0,a1,a2,a3,a4,a5,a6,a7,a8,a9,a10,a11,_⟩:=HZ.out.1.tw) | (go_at_call 69;((with_reducible refine (HIK.out _).mono ?_);rintro e w' ⟨rfl,rfl⟩)) | (go_at_call 69;((with_reducible refine (HII.out _).mono ?_);rintro e w' ⟨rfl,rfl⟩)) | (go_at_call 69;((with_reducible refine (HIJ.out _).mono ?_);rintro e w' ⟨rfl,rfl⟩)) | (go_at_call 69;((with_reducible refine (HIN.out _).mono ?_);rintro e w' ⟨rfl,rfl⟩)) | (go_at_call 69;((with_reducible refine (HIS.out _).mono ?_);rintro e w' ⟨rfl,rfl⟩)) | (go_at_call 69;((with_reducible refine (HIV.out _).mono ?_);rintro e w' ⟨rfl,rfl⟩)) | (go_at_call 11;refine (HSM.out _ HZ.out.2).mono ?_;rintro e w1 ⟨rfl,hb⟩;replace HZ:=zbz HZ hb;clear hb a0 a1 a2 a3 a4 a5 a6 a7 a8 a9 a10 a11;obtain ⟨a0,a1,a2,a3,a4,a5,a6,a7,a8,a9,a10,a11,_⟩:=HZ.out.1.tw) | (go_at_call 54;((with_reducible refine (HVK.out _ HZ.out.2).mono ?_);rintro e w1 ⟨rfl,hb⟩;replace HZ:=zbz HZ hb;clear hb a0 a1 a2 a3 a4 a5 a6 a7 a8 a9 a10 a11;obtain ⟨a0,a1,a2,a3,a4,a5,a6,a7,a8,a9,a10,a11,_⟩:=HZ.out.1.tw;clear HVK)) | (go_at_call 54;((with_reducible refine (HVS.out _ HZ.out.2).mono ?_);rintro e w1 ⟨rfl,hb⟩;replace HZ:=zbz HZ hb;clear hb a0 a1 a2 a3 a4 a5 a6 a7 a8 a9 a10 a11;obtain ⟨a0,a1,a2,a3,a4,a5,a6,a7,a8,a9,a10,a11,_⟩:=HZ.out.1.tw)));go_ret;exact ⟨_,rfl,by simpa using HQ.out,HZ.out.2⟩)
 cases bs
 have HQ:=hid (show (false=true↔SS) from ⟨(fun h=>by cases h),fun hs=>by have h:=HSS.out.1 hs;have h':=h.2.2.2.2.2.2.1;simp at h'⟩)
 rotate_left
 by_cases qdp:pn+1+vd<=16
 rotate_left
 have Qdp:=hid qdp;have qqdp:¬ ((pn:Int)+1+(vd:Int))<=16:=by omega
 have qddp:decide (((pn:Int)+1+(vd:Int))<=16)=false:=by simp;omega
 clear qdp;have HQ:=hid (show (false=true↔SS) from ⟨(fun h=>by cases h),fun hs=>by have h:=HSS.out.1 hs;have h':=h.2.2.2.2.2.2.2.1;exact absurd h' Qdp.out⟩)
 rotate_right
 have Qdp:=hid qdp;have qqdp:((pn:Int)+1+(vd:Int))<=16:=by omega
 have qddp:decide (((pn:Int)+1+(vd:Int))<=16)=true:=by simp;omega
 clear qdp;by_cases qwt:vw<=20000
 rotate_left
 have Qwt:=hid qwt;have qqwt:¬ (vw:Int)<=20000:=by omega
 have qdwt:decide ((vw:Int)<=20000)=false:=by simp;omega
 clear qwt;have HQ:=hid (show (false=true↔SS) from ⟨(fun h=>by cases h),fun hs=>by have h:=HSS.out.1 hs;have h':=h.2.2.2.2.2.2.2.2;exact absurd h' Qwt.out⟩)
 rotate_right
 have Qwt:=hid qwt;have qqwt:(vw:Int)<=20000:=by omega
 have qdwt:decide ((vw:Int)<=20000)=true:=by simp;omega
 clear qwt;have HQ:=hid (show (true=true↔SS) by rw [HSS.out];simp [QK.out,QS.out,Qdp.out,Qwt.out])
 all_goals
  go_enter Tryz.func42,Tryz.ntmps42
  go_wp2_with (first
   | (go_at_call 67;refine (HSAY.out _).mono ?_;rintro e w' ⟨rfl,rfl⟩)
   | (go_at_call 68;refine (HP.out _ HZ.out.2).mono ?_;rintro e w1 ⟨rfl,hb⟩;replace HZ:=zbz HZ hb;clear hb a0 a1 a2 a3 a4 a5 a6 a7 a8 a9 a10 a11;obtain ⟨a0,a1,a2,a3,a4,a5,a6,a7,a8,a9,a10,a11,_⟩:=HZ.out.1.tw)
   | (go_at_call 69;((with_reducible refine (HIK.out _).mono ?_);rintro e w' ⟨rfl,rfl⟩))
   | (go_at_call 69;((with_reducible refine (HII.out _).mono ?_);rintro e w' ⟨rfl,rfl⟩))
   | (go_at_call 69;((with_reducible refine (HIJ.out _).mono ?_);rintro e w' ⟨rfl,rfl⟩))
   | (go_at_call 69;((with_reducible refine (HIN.out _).mono ?_);rintro e w' ⟨rfl,rfl⟩))
   | (go_at_call 69;((with_reducible refine (HIS.out _).mono ?_);rintro e w' ⟨rfl,rfl⟩))
   | (go_at_call 69;((with_reducible refine (HIV.out _).mono ?_);rintro e w' ⟨rfl,rfl⟩))
   | (go_at_call 11;refine (HSM.out _ HZ.out.2).mono ?_;rintro e w1 ⟨rfl,hb⟩;replace HZ:=zbz HZ hb;clear hb a0 a1 a2 a3 a4 a5 a6 a7 a8 a9 a10 a11;obtain ⟨a0,a1,a2,a3,a4,a5,a6,a7,a8,a9,a10,a11,_⟩:=HZ.out.1.tw)
   | (go_at_call 54;((with_reducible refine (HVK.out _ HZ.out.2).mono ?_);rintro e w1 ⟨rfl,hb⟩;replace HZ:=zbz HZ hb;clear hb a0 a1 a2 a3 a4 a5 a6 a7 a8 a9 a10 a11;obtain ⟨a0,a1,a2,a3,a4,a5,a6,a7,a8,a9,a10,a11,_⟩:=HZ.out.1.tw;clear HVK))
   | (go_at_call 54;((with_reducible refine (HVS.out _ HZ.out.2).mono ?_);rintro e w1 ⟨rfl,hb⟩;replace HZ:=zbz HZ hb;clear hb a0 a1 a2 a3 a4 a5 a6 a7 a8 a9 a10 a11;obtain ⟨a0,a1,a2,a3,a4,a5,a6,a7,a8,a9,a10,a11,_⟩:=HZ.out.1.tw)))
  have u1:=cell_regrown a1;have u6:=cell_regrown a6;have u7:=cell_regrown a7;have u8:=cell_regrown a8;have u9:=cell_regrown a9;have u10:=cell_regrown a10;clear a0 a1 a2 a3 a4 a5 a6 a7 a8 a9 a10 a11;have D1:=hid (C1.out _ HZ.out.2);have D2:=hid (C2.out _ HZ.out.2);have D3:=hid (C3.out _ HZ.out.2);refine wp_region_quiet_below (by kernel_rfl) (by kernel_rfl) ?_
  repeat (any_goals (go_big_quiet_step (first | with_reducible exact D1.out _ _ | with_reducible exact D2.out _ _ | with_reducible exact D3.out _ _)))
  refine wpQuiet_nil ?_
  intro _ hw';obtain ⟨⟨dq,osq⟩,hw''⟩:=hw';subst hw'';go_wp2
  go_ret
  exact ⟨_,rfl,by simpa using HQ.out,HZ.out.2.trans ((below_regrown _ dq osq).mono HZ.out.2.size)⟩
theorem zgf (c:GC) (bs bv:Bool) (hk:c.kq=2) (hbs:bs=true↔c.v.Sound) (hbv:bv=true↔c.v.Same noG):c.Sound↔soundP c.path=true/\c.i=0/\c.j=0/\c.n=0/\c.s.toList=[]/\valid c.key=true/\bs=true/\c.path.length+1+c.v.deep<=16/\c.v.weight<=20000:=by
 have h1:=zga c hk;have ve:c.key.toList=[]->valid c.key=true:=zak;unfold GC.Sound GC.ValueOk;rw [h1];constructor
 ·intro h
  simp_all
 ·intro h
  simp_all
  try omega
theorem zkC (c A AL AO cp cL cO w) (hc:Cc w c A AL AO cp cL cO) (hw:c.v.weight<=1000000000) (hpos:c.v.Pos) (hky:c.key.size<=9223372036854775807) (hs:c.s.size<=9223372036854775807) (hpk:∀ s∈c.path,s.key.size<=9223372036854775807) (hT:Tabs w) (hk:c.kq=2):
  Calls Tryz.prog 42 #[.agg #[.int .u8 c.kq,.slice A c.path.length cp,.string c.key,.int .i64 c.i,.int .i64 c.j,.int .i64 c.n,.int .u8 c.v.kq,.int .i64 c.v.num,.string c.v.str,.slice AL c.v.il.length cL,.slice AO c.v.vz.length cO,.string c.s]] w (BoolPost c.Sound w):=by
 have HZ:=hid (And.intro (Whole.new w 45 #[.int .u8 c.kq,.slice A c.path.length cp,.string c.key,.int .i64 c.i,.int .i64 c.j,.int .i64 c.n,.int .u8 c.v.kq,.int .i64 c.v.num,.string c.v.str,.slice AL c.v.il.length cL,.slice AO c.v.vz.length cO,.string c.s]) (zaa w (.cells #[.int .u8 c.kq,.slice A c.path.length cp,.string c.key,.int .i64 c.i,.int .i64 c.j,.int .i64 c.n,.int .u8 c.v.kq,.int .i64 c.v.num,.string c.v.str,.slice AL c.v.il.length cL,.slice AO c.v.vz.length cO,.string c.s] 45)));obtain ⟨bs,hbs⟩:=zat c.v.Sound;obtain ⟨bv,hbv⟩:=zat (c.v.Same noG);have HSS:=hid (zgf c bs bv hk hbs hbv);have hsz:c.v.size<=1000000000:=Nat.le_trans (zad _) hw;have hdl:c.v.deep<=1000000000:=by have:=zav c.v;omega
 have hpl:c.path.length<=maxLen:=Nat.le_trans hc.path.le hc.path.cap;have h16:soundP c.path=true->c.path.length<=16:=fun h=>by simp only [soundP,Bool.and_eq_true,decide_eq_true_eq] at h;exact h.1
 have HSAY:=hid (fun W=>zbj 2 W)
 rw [show saysB 2 =⟨#[75,86]⟩ from rfl] at HSAY;rw [<- hk] at HSAY;have HIK:=hid (fun W=>zar ⟨#[75,86]⟩ 75 W (by decide))
 rw [show inB ⟨#[75,86]⟩ 75=true by decide +kernel] at HIK
 have HII:=hid (fun W=>zar ⟨#[75,86]⟩ 73 W (by decide))
 rw [show inB ⟨#[75,86]⟩ 73=false by decide +kernel] at HII
 have HIJ:=hid (fun W=>zar ⟨#[75,86]⟩ 74 W (by decide))
 rw [show inB ⟨#[75,86]⟩ 74=false by decide +kernel] at HIJ
 have HIN:=hid (fun W=>zar ⟨#[75,86]⟩ 78 W (by decide))
 rw [show inB ⟨#[75,86]⟩ 78=false by decide +kernel] at HIN
 have HIS:=hid (fun W=>zar ⟨#[75,86]⟩ 83 W (by decide))
 rw [show inB ⟨#[75,86]⟩ 83=false by decide +kernel] at HIS
 have HIV:=hid (fun W=>zar ⟨#[75,86]⟩ 86 W (by decide))
 rw [show inB ⟨#[75,86]⟩ 86=true by decide +kernel] at HIV
 have HP:=hid (fun W (hb:Below w.heap.size w W)=>za2 W.heap.size A cp c.path W (hc.path.later hb).steps (Nat.le_refl _) hpl hpk (hT.below hb (Nat.le_refl _)))
 have HSM:=hid (fun W (hb:Below w.heap.size w W)=>zay (zbg c.v.size (fun _=>True) _ _ c.v noG W (Nat.le_refl _) (hc.v.later hb).val (za0 W).val hsz (by decide)) bv hbv)
 have HVK:=hid (fun W (hb:Below w.heap.size w W)=>zao c.key W hky (hT.below hb (Nat.le_refl _)))
 have HVS:=hid (fun W (hb:Below w.heap.size w W)=>zao c.s W hs (hT.below hb (Nat.le_refl _)))
 have C1:=hid (fun (W0:World) (hb:Below w.heap.size w W0) (d:Nat) (os:Array Obj)=>Calls.regrown_of (zay (zbd c.v.size (fun _=>True) _ c.v (grow (redrawn W0 d) os) (Nat.le_refl _) ((hc.v.later (hb.trans ((below_regrown W0 d os).mono hb.size)))).val hw hpos (hT.below (hb.trans ((below_regrown W0 d os).mono hb.size)) (Nat.le_refl _))) bs hbs))
 have C2:=hid (fun (W0:World) (hb:Below w.heap.size w W0) (d:Nat) (os:Array Obj)=>Calls.regrown_of (zbr c.v.size (fun _=>True) _ c.v (grow (redrawn W0 d) os) (Nat.le_refl _) ((hc.v.later (hb.trans ((below_regrown W0 d os).mono hb.size)))).val hsz))
 have C3:=hid (fun (W0:World) (hb:Below w.heap.size w W0) (d:Nat) (os:Array Obj)=>Calls.regrown_of (za1 c.v.size (fun _=>True) _ c.v (grow (redrawn W0 d) os) (Nat.le_refl _) ((hc.v.later (hb.trans ((below_regrown W0 d os).mono hb.size)))).val hw))
 have HVAL:=hid (show (c.key.toList=[]->valid c.key=true)/\(c.s.toList=[]->valid c.s=true) from ⟨zak,zak⟩);have k8:(c.kq == 8)=false:=by rw [hk];rfl
 have k9:(c.kq == 9)=false:=by rw [hk];rfl
 have H16:=hid h16;clear hc hw hpos hky hs hpk hT hbs hbv hsz hpl h16 hk;generalize c.Sound=SS at *;generalize soundP c.path=b0 at *;generalize hvk:valid c.key=bk at *;generalize hvs:valid c.s=bS at *;generalize c.path.length=pn at *;generalize c.v.deep=vd at *;generalize c.v.weight=vw at *;generalize c.v.il.length=vl at *;generalize c.v.vz.length=vo at *;generalize c.v.kq=vk at *;generalize c.v.num=vn at *;generalize c.v.str=vs at *;generalize c.key=ky at *;generalize c.i=ci at *;generalize c.j=cj at *;generalize c.n=cn at *;generalize c.s=cs at *;generalize c.kq=ck at *;clear hvk hvs;obtain ⟨a0,a1,a2,a3,a4,a5,a6,a7,a8,a9,a10,a11,_⟩:=HZ.out.1.tw;cases b0
 have HQ:=hid (show (false=true↔SS) from ⟨(fun h=>by cases h),fun hs=>by have h:=HSS.out.1 hs;have h':=h.1;simp at h'⟩)
 rotate_left
 have h16:=H16.out (by trivial)
 clear H16;by_cases qI:ci=0
 rotate_left
 have QI:=hid qI;have zI:(ci == 0)=false:=by simpa using qI
 have znI:(ci != 0)=true:=by simpa using qI
 clear qI;have HQ:=hid (show (false=true↔SS) from ⟨(fun h=>by cases h),fun hs=>by have h:=HSS.out.1 hs;have h':=h.2.1;exact absurd h' QI.out⟩)
 rotate_right
 subst qI;by_cases qJ:cj=0
 rotate_left
 have QJ:=hid qJ;have zJ:(cj == 0)=false:=by simpa using qJ
 have znJ:(cj != 0)=true:=by simpa using qJ
 clear qJ;have HQ:=hid (show (false=true↔SS) from ⟨(fun h=>by cases h),fun hs=>by have h:=HSS.out.1 hs;have h':=h.2.2.1;exact absurd h' QJ.out⟩)
 rotate_right
 subst qJ;by_cases qN:cn=0
 rotate_left
 have QN:=hid qN;have zN:(cn == 0)=false:=by simpa using qN
 have znN:(cn != 0)=true:=by simpa using qN
 clear qN;have HQ:=hid (show (false=true↔SS) from ⟨(fun h=>by cases h),fun hs=>by have h:=HSS.out.1 hs;have h':=h.2.2.2.1;exact absurd h' QN.out⟩)
 rotate_right
 subst qN;by_cases qS:cs.toList=[]
 rotate_left
 have QS:=hid qS;have zS:(cs.toList == ([]:List UInt8))=false:=by simpa using qS
 clear qS;have HQ:=hid (show (false=true↔SS) from ⟨(fun h=>by cases h),fun hs=>by have h:=HSS.out.1 hs;have h':=h.2.2.2.2.1;exact absurd h' QS.out⟩)
 rotate_right
 have QS:=hid qS;have zS:cs.toList.isEmpty=true:=by simp [qS]
 have zzS:(cs.toList == ([]:List UInt8))=true:=by simp [qS]
 obtain rfl:bS=true:=HVAL.out.2 qS;clear qS;cases bk
 have HQ:=hid (show (false=true↔SS) from ⟨(fun h=>by cases h),fun hs=>by have h:=HSS.out.1 hs;have h':=h.2.2.2.2.2.1;simp at h'⟩)
 rotate_left
 rotate_left
 iterate 6 (go_enter Tryz.func42,Tryz.ntmps42;go_wp2_with (first | (go_at_call 67;refine (HSAY.out _).mono ?_;rintro e w' ⟨rfl,rfl⟩) | (go_at_call 68;refine (HP.out _ HZ.out.2).mono ?_;rintro e w1 ⟨rfl,hb⟩;replace HZ:=zbz HZ hb;clear hb a0 a1 a2 a3 a4 a5 a6 a7 a8 a9 a10 a11;obtain ⟨a0,a1,a2,a3,a4,a5,a6,a7,a8,a9,a10,a11,_⟩:=HZ.out.1.tw) | (go_at_call 69;((with_reducible refine (HIK.out _).mono ?_);rintro e w' ⟨rfl,rfl⟩)) | (go_at_call 69;((with_reducible refine (HII.out _).mono ?_);rintro e w' ⟨rfl,rfl⟩)) | (go_at_call 69;((with_reducible refine (HIJ.out _).mono ?_);rintro e w' ⟨rfl,rfl⟩)) | (go_at_call 69;((with_reducible refine (HIN.out _).mono ?_);rintro e w' ⟨rfl,rfl⟩)) | (go_at_call 69;((with_reducible refine (HIS.out _).mono ?_);rintro e w' ⟨rfl,rfl⟩)) | (go_at_call 69;((with_reducible refine (HIV.out _).mono ?_);rintro e w' ⟨rfl,rfl⟩)) | (go_at_call 54;((with_reducible refine (HVK.out _ HZ.out.2).mono ?_);rintro e w1 ⟨rfl,hb⟩;replace HZ:=zbz HZ hb;clear hb a0 a1 a2 a3 a4 a5 a6 a7 a8 a9 a10 a11;obtain ⟨a0,a1,a2,a3,a4,a5,a6,a7,a8,a9,a10,a11,_⟩:=HZ.out.1.tw;clear HVK)) | (go_at_call 54;((with_reducible refine (HVS.out _ HZ.out.2).mono ?_);rintro e w1 ⟨rfl,hb⟩;replace HZ:=zbz HZ hb;clear hb a0 a1 a2 a3 a4 a5 a6 a7 a8 a9 a10 a11;obtain ⟨a0,a1,a2,a3,a4,a5,a6,a7,a8,a9,a10,a11,_⟩:=HZ.out.1.tw)));go_ret;exact ⟨_,rfl,by simpa using HQ.out,HZ.out.2⟩)
 cases bs
 have HQ:=hid (show (false=true↔SS) from ⟨(fun h=>by cases h),fun hs=>by have h:=HSS.out.1 hs;have h':=h.2.2.2.2.2.2.1;simp at h'⟩)
 rotate_left
 by_cases qdp:pn+1+vd<=16
 rotate_left
 have Qdp:=hid qdp;have qqdp:¬ ((pn:Int)+1+(vd:Int))<=16:=by omega
 have qddp:decide (((pn:Int)+1+(vd:Int))<=16)=false:=by simp;omega
 clear qdp;have HQ:=hid (show (false=true↔SS) from ⟨(fun h=>by cases h),fun hs=>by have h:=HSS.out.1 hs;have h':=h.2.2.2.2.2.2.2.1;exact absurd h' Qdp.out⟩)
 rotate_right
 have Qdp:=hid qdp;have qqdp:((pn:Int)+1+(vd:Int))<=16:=by omega
 have qddp:decide (((pn:Int)+1+(vd:Int))<=16)=true:=by simp;omega
 clear qdp;by_cases qwt:vw<=20000
 rotate_left
 have Qwt:=hid qwt;have qqwt:¬ (vw:Int)<=20000:=by omega
 have qdwt:decide ((vw:Int)<=20000)=false:=by simp;omega
 clear qwt;have HQ:=hid (show (false=true↔SS) from ⟨(fun h=>by cases h),fun hs=>by have h:=HSS.out.1 hs;have h':=h.2.2.2.2.2.2.2.2;exact absurd h' Qwt.out⟩)
 rotate_right
 have Qwt:=hid qwt;have qqwt:(vw:Int)<=20000:=by omega
 have qdwt:decide ((vw:Int)<=20000)=true:=by simp;omega
 clear qwt;have HQ:=hid (show (true=true↔SS) by rw [HSS.out];simp [QS.out,Qdp.out,Qwt.out])
 all_goals
  go_enter Tryz.func42,Tryz.ntmps42
  go_wp2_with (first
   | (go_at_call 67;refine (HSAY.out _).mono ?_;rintro e w' ⟨rfl,rfl⟩)
   | (go_at_call 68;refine (HP.out _ HZ.out.2).mono ?_;rintro e w1 ⟨rfl,hb⟩;replace HZ:=zbz HZ hb;clear hb a0 a1 a2 a3 a4 a5 a6 a7 a8 a9 a10 a11;obtain ⟨a0,a1,a2,a3,a4,a5,a6,a7,a8,a9,a10,a11,_⟩:=HZ.out.1.tw)
   | (go_at_call 69;((with_reducible refine (HIK.out _).mono ?_);rintro e w' ⟨rfl,rfl⟩))
   | (go_at_call 69;((with_reducible refine (HII.out _).mono ?_);rintro e w' ⟨rfl,rfl⟩))
   | (go_at_call 69;((with_reducible refine (HIJ.out _).mono ?_);rintro e w' ⟨rfl,rfl⟩))
   | (go_at_call 69;((with_reducible refine (HIN.out _).mono ?_);rintro e w' ⟨rfl,rfl⟩))
   | (go_at_call 69;((with_reducible refine (HIS.out _).mono ?_);rintro e w' ⟨rfl,rfl⟩))
   | (go_at_call 69;((with_reducible refine (HIV.out _).mono ?_);rintro e w' ⟨rfl,rfl⟩))
   | (go_at_call 54;((with_reducible refine (HVK.out _ HZ.out.2).mono ?_);rintro e w1 ⟨rfl,hb⟩;replace HZ:=zbz HZ hb;clear hb a0 a1 a2 a3 a4 a5 a6 a7 a8 a9 a10 a11;obtain ⟨a0,a1,a2,a3,a4,a5,a6,a7,a8,a9,a10,a11,_⟩:=HZ.out.1.tw;clear HVK))
   | (go_at_call 54;((with_reducible refine (HVS.out _ HZ.out.2).mono ?_);rintro e w1 ⟨rfl,hb⟩;replace HZ:=zbz HZ hb;clear hb a0 a1 a2 a3 a4 a5 a6 a7 a8 a9 a10 a11;obtain ⟨a0,a1,a2,a3,a4,a5,a6,a7,a8,a9,a10,a11,_⟩:=HZ.out.1.tw)))
  have u1:=cell_regrown a1;have u6:=cell_regrown a6;have u7:=cell_regrown a7;have u8:=cell_regrown a8;have u9:=cell_regrown a9;have u10:=cell_regrown a10;clear a0 a1 a2 a3 a4 a5 a6 a7 a8 a9 a10 a11;have D1:=hid (C1.out _ HZ.out.2);have D2:=hid (C2.out _ HZ.out.2);have D3:=hid (C3.out _ HZ.out.2);refine wp_region_quiet_below (by kernel_rfl) (by kernel_rfl) ?_
  repeat (any_goals (go_big_quiet_step (first | with_reducible exact D1.out _ _ | with_reducible exact D2.out _ _ | with_reducible exact D3.out _ _)))
  refine wpQuiet_nil ?_
  intro _ hw';obtain ⟨⟨dq,osq⟩,hw''⟩:=hw';subst hw'';go_wp2
  go_ret
  exact ⟨_,rfl,by simpa using HQ.out,HZ.out.2.trans ((below_regrown _ dq osq).mono HZ.out.2.size)⟩
theorem zgA (c:GC) (bs bv:Bool) (hk:c.kq=3) (hbs:bs=true↔c.v.Sound) (hbv:bv=true↔c.v.Same noG):c.Sound↔soundP c.path=true/\c.i=0/\c.j=0/\c.n=0/\c.s.toList=[]/\bv=true/\valid c.key=true/\bs=true/\c.path.length+1+c.v.deep<=16/\c.v.weight<=20000:=by
 have h1:=zgo c hk;have ve:c.key.toList=[]->valid c.key=true:=zak;unfold GC.Sound GC.ValueOk;rw [h1];constructor
 ·intro h
  simp_all
 ·intro h
  simp_all
  try omega
theorem zkO (c A AL AO cp cL cO w) (hc:Cc w c A AL AO cp cL cO) (hw:c.v.weight<=1000000000) (hpos:c.v.Pos) (hky:c.key.size<=9223372036854775807) (hs:c.s.size<=9223372036854775807) (hpk:∀ s∈c.path,s.key.size<=9223372036854775807) (hT:Tabs w) (hk:c.kq=3):
  Calls Tryz.prog 42 #[.agg #[.int .u8 c.kq,.slice A c.path.length cp,.string c.key,.int .i64 c.i,.int .i64 c.j,.int .i64 c.n,.int .u8 c.v.kq,.int .i64 c.v.num,.string c.v.str,.slice AL c.v.il.length cL,.slice AO c.v.vz.length cO,.string c.s]] w (BoolPost c.Sound w):=by
 have HZ:=hid (And.intro (Whole.new w 45 #[.int .u8 c.kq,.slice A c.path.length cp,.string c.key,.int .i64 c.i,.int .i64 c.j,.int .i64 c.n,.int .u8 c.v.kq,.int .i64 c.v.num,.string c.v.str,.slice AL c.v.il.length cL,.slice AO c.v.vz.length cO,.string c.s]) (zaa w (.cells #[.int .u8 c.kq,.slice A c.path.length cp,.string c.key,.int .i64 c.i,.int .i64 c.j,.int .i64 c.n,.int .u8 c.v.kq,.int .i64 c.v.num,.string c.v.str,.slice AL c.v.il.length cL,.slice AO c.v.vz.length cO,.string c.s] 45)));obtain ⟨bs,hbs⟩:=zat c.v.Sound;obtain ⟨bv,hbv⟩:=zat (c.v.Same noG);have HSS:=hid (zgA c bs bv hk hbs hbv);have hsz:c.v.size<=1000000000:=Nat.le_trans (zad _) hw;have hdl:c.v.deep<=1000000000:=by have:=zav c.v;omega
 have hpl:c.path.length<=maxLen:=Nat.le_trans hc.path.le hc.path.cap;have h16:soundP c.path=true->c.path.length<=16:=fun h=>by simp only [soundP,Bool.and_eq_true,decide_eq_true_eq] at h;exact h.1
 have HSAY:=hid (fun W=>zbj 3 W)
 rw [show saysB 3 =⟨#[75]⟩ from rfl] at HSAY;rw [<- hk] at HSAY;have HIK:=hid (fun W=>zar ⟨#[75]⟩ 75 W (by decide))
 rw [show inB ⟨#[75]⟩ 75=true by decide +kernel] at HIK
 have HII:=hid (fun W=>zar ⟨#[75]⟩ 73 W (by decide))
 rw [show inB ⟨#[75]⟩ 73=false by decide +kernel] at HII
 have HIJ:=hid (fun W=>zar ⟨#[75]⟩ 74 W (by decide))
 rw [show inB ⟨#[75]⟩ 74=false by decide +kernel] at HIJ
 have HIN:=hid (fun W=>zar ⟨#[75]⟩ 78 W (by decide))
 rw [show inB ⟨#[75]⟩ 78=false by decide +kernel] at HIN
 have HIS:=hid (fun W=>zar ⟨#[75]⟩ 83 W (by decide))
 rw [show inB ⟨#[75]⟩ 83=false by decide +kernel] at HIS
 have HIV:=hid (fun W=>zar ⟨#[75]⟩ 86 W (by decide))
 rw [show inB ⟨#[75]⟩ 86=false by decide +kernel] at HIV
 have HP:=hid (fun W (hb:Below w.heap.size w W)=>za2 W.heap.size A cp c.path W (hc.path.later hb).steps (Nat.le_refl _) hpl hpk (hT.below hb (Nat.le_refl _)))
 have HSM:=hid (fun W (hb:Below w.heap.size w W)=>zay (zbg c.v.size (fun _=>True) _ _ c.v noG W (Nat.le_refl _) (hc.v.later hb).val (za0 W).val hsz (by decide)) bv hbv)
 have HVK:=hid (fun W (hb:Below w.heap.size w W)=>zao c.key W hky (hT.below hb (Nat.le_refl _)))
 have HVS:=hid (fun W (hb:Below w.heap.size w W)=>zao c.s W hs (hT.below hb (Nat.le_refl _)))
 have C1:=hid (fun (W0:World) (hb:Below w.heap.size w W0) (d:Nat) (os:Array Obj)=>Calls.regrown_of (zay (zbd c.v.size (fun _=>True) _ c.v (grow (redrawn W0 d) os) (Nat.le_refl _) ((hc.v.later (hb.trans ((below_regrown W0 d os).mono hb.size)))).val hw hpos (hT.below (hb.trans ((below_regrown W0 d os).mono hb.size)) (Nat.le_refl _))) bs hbs))
 have C2:=hid (fun (W0:World) (hb:Below w.heap.size w W0) (d:Nat) (os:Array Obj)=>Calls.regrown_of (zbr c.v.size (fun _=>True) _ c.v (grow (redrawn W0 d) os) (Nat.le_refl _) ((hc.v.later (hb.trans ((below_regrown W0 d os).mono hb.size)))).val hsz))
 have C3:=hid (fun (W0:World) (hb:Below w.heap.size w W0) (d:Nat) (os:Array Obj)=>Calls.regrown_of (za1 c.v.size (fun _=>True) _ c.v (grow (redrawn W0 d) os) (Nat.le_refl _) ((hc.v.later (hb.trans ((below_regrown W0 d os).mono hb.size)))).val hw))
 have HVAL:=hid (show (c.key.toList=[]->valid c.key=true)/\(c.s.toList=[]->valid c.s=true) from ⟨zak,zak⟩);have k8:(c.kq == 8)=false:=by rw [hk];rfl
 have k9:(c.kq == 9)=false:=by rw [hk];rfl
 have H16:=hid h16;clear hc hw hpos hky hs hpk hT hbs hbv hsz hpl h16 hk;generalize c.Sound=SS at *;generalize soundP c.path=b0 at *;generalize hvk:valid c.key=bk at *;generalize hvs:valid c.s=bS at *;generalize c.path.length=pn at *;generalize c.v.deep=vd at *;generalize c.v.weight=vw at *;generalize c.v.il.length=vl at *;generalize c.v.vz.length=vo at *;generalize c.v.kq=vk at *;generalize c.v.num=vn at *;generalize c.v.str=vs at *;generalize c.key=ky at *;generalize c.i=ci at *;generalize c.j=cj at *;generalize c.n=cn at *;generalize c.s=cs at *;generalize c.kq=ck at *;clear hvk hvs;obtain ⟨a0,a1,a2,a3,a4,a5,a6,a7,a8,a9,a10,a11,_⟩:=HZ.out.1.tw;cases b0
 have HQ:=hid (show (false=true↔SS) from ⟨(fun h=>by cases h),fun hs=>by have h:=HSS.out.1 hs;have h':=h.1;simp at h'⟩)
 rotate_left
 have h16:=H16.out (by trivial)
 clear H16;by_cases qI:ci=0
 rotate_left
 have QI:=hid qI;have zI:(ci == 0)=false:=by simpa using qI
 have znI:(ci != 0)=true:=by simpa using qI
 clear qI;have HQ:=hid (show (false=true↔SS) from ⟨(fun h=>by cases h),fun hs=>by have h:=HSS.out.1 hs;have h':=h.2.1;exact absurd h' QI.out⟩)
 rotate_right
 subst qI;by_cases qJ:cj=0
 rotate_left
 have QJ:=hid qJ;have zJ:(cj == 0)=false:=by simpa using qJ
 have znJ:(cj != 0)=true:=by simpa using qJ
 clear qJ;have HQ:=hid (show (false=true↔SS) from ⟨(fun h=>by cases h),fun hs=>by have h:=HSS.out.1 hs;have h':=h.2.2.1;exact absurd h' QJ.out⟩)
 rotate_right
 subst qJ;by_cases qN:cn=0
 rotate_left
 have QN:=hid qN;have zN:(cn == 0)=false:=by simpa using qN
 have znN:(cn != 0)=true:=by simpa using qN
 clear qN;have HQ:=hid (show (false=true↔SS) from ⟨(fun h=>by cases h),fun hs=>by have h:=HSS.out.1 hs;have h':=h.2.2.2.1;exact absurd h' QN.out⟩)
 rotate_right
 subst qN;by_cases qS:cs.toList=[]
 rotate_left
 have QS:=hid qS;have zS:(cs.toList == ([]:List UInt8))=false:=by simpa using qS
 clear qS;have HQ:=hid (show (false=true↔SS) from ⟨(fun h=>by cases h),fun hs=>by have h:=HSS.out.1 hs;have h':=h.2.2.2.2.1;exact absurd h' QS.out⟩)
 rotate_right
 have QS:=hid qS;have zS:cs.toList.isEmpty=true:=by simp [qS]
 have zzS:(cs.toList == ([]:List UInt8))=true:=by simp [qS]
 obtain rfl:bS=true:=HVAL.out.2 qS;clear qS;cases bv
 have HQ:=hid (show (false=true↔SS) from ⟨(fun h=>by cases h),fun hs=>by have h:=HSS.out.1 hs;have h':=h.2.2.2.2.2.1;simp at h'⟩)
 rotate_left
 cases bk
 have HQ:=hid (show (false=true↔SS) from ⟨(fun h=>by cases h),fun hs=>by have h:=HSS.out.1 hs;have h':=h.2.2.2.2.2.2.1;simp at h'⟩)
 rotate_left
 rotate_left
 iterate 7 (go_enter Tryz.func42,Tryz.ntmps42;go_wp2_with (first | (go_at_call 67;refine (HSAY.out _).mono ?_;rintro e w' ⟨rfl,rfl⟩) | (go_at_call 68;refine (HP.out _ HZ.out.2).mono ?_;rintro e w1 ⟨rfl,hb⟩;replace HZ:=zbz HZ hb;clear hb a0 a1 a2 a3 a4 a5 a6 a7 a8 a9 a10 a11;obtain ⟨a0,a1,a2,a3,a4,a5,a6,a7,a8,a9,a10,a11,_⟩:=HZ.out.1.tw) | (go_at_call 69;((with_reducible refine (HIK.out _).mono ?_);rintro e w' ⟨rfl,rfl⟩)) | (go_at_call 69;((with_reducible refine (HII.out _).mono ?_);rintro e w' ⟨rfl,rfl⟩)) | (go_at_call 69;((with_reducible refine (HIJ.out _).mono ?_);rintro e w' ⟨rfl,rfl⟩)) | (go_at_call 69;((with_reducible refine (HIN.out _).mono ?_);rintro e w' ⟨rfl,rfl⟩)) | (go_at_call 69;((with_reducible refine (HIS.out _).mono ?_);rintro e w' ⟨rfl,rfl⟩)) | (go_at_call 69;((with_reducible refine (HIV.out _).mono ?_);rintro e w' ⟨rfl,rfl⟩)) | (go_at_call 11;refine (HSM.out _ HZ.out.2).mono ?_;rintro e w1 ⟨rfl,hb⟩;replace HZ:=zbz HZ hb;clear hb a0 a1 a2 a3 a4 a5 a6 a7 a8 a9 a10 a11;obtain ⟨a0,a1,a2,a3,a4,a5,a6,a7,a8,a9,a10,a11,_⟩:=HZ.out.1.tw) | (go_at_call 54;((with_reducible refine (HVK.out _ HZ.out.2).mono ?_);rintro e w1 ⟨rfl,hb⟩;replace HZ:=zbz HZ hb;clear hb a0 a1 a2 a3 a4 a5 a6 a7 a8 a9 a10 a11;obtain ⟨a0,a1,a2,a3,a4,a5,a6,a7,a8,a9,a10,a11,_⟩:=HZ.out.1.tw;clear HVK)) | (go_at_call 54;((with_reducible refine (HVS.out _ HZ.out.2).mono ?_);rintro e w1 ⟨rfl,hb⟩;replace HZ:=zbz HZ hb;clear hb a0 a1 a2 a3 a4 a5 a6 a7 a8 a9 a10 a11;obtain ⟨a0,a1,a2,a3,a4,a5,a6,a7,a8,a9,a10,a11,_⟩:=HZ.out.1.tw)));go_ret;exact ⟨_,rfl,by simpa using HQ.out,HZ.out.2⟩)
 cases bs
 have HQ:=hid (show (false=true↔SS) from ⟨(fun h=>by cases h),fun hs=>by have h:=HSS.out.1 hs;have h':=h.2.2.2.2.2.2.2.1;simp at h'⟩)
 rotate_left
 by_cases qdp:pn+1+vd<=16
 rotate_left
 have Qdp:=hid qdp;have qqdp:¬ ((pn:Int)+1+(vd:Int))<=16:=by omega
 have qddp:decide (((pn:Int)+1+(vd:Int))<=16)=false:=by simp;omega
 clear qdp;have HQ:=hid (show (false=true↔SS) from ⟨(fun h=>by cases h),fun hs=>by have h:=HSS.out.1 hs;have h':=h.2.2.2.2.2.2.2.2.1;exact absurd h' Qdp.out⟩)
 rotate_right
 have Qdp:=hid qdp;have qqdp:((pn:Int)+1+(vd:Int))<=16:=by omega
 have qddp:decide (((pn:Int)+1+(vd:Int))<=16)=true:=by simp;omega
 clear qdp;by_cases qwt:vw<=20000
 rotate_left
 have Qwt:=hid qwt;have qqwt:¬ (vw:Int)<=20000:=by omega
 have qdwt:decide ((vw:Int)<=20000)=false:=by simp;omega
 clear qwt;have HQ:=hid (show (false=true↔SS) from ⟨(fun h=>by cases h),fun hs=>by have h:=HSS.out.1 hs;have h':=h.2.2.2.2.2.2.2.2.2;exact absurd h' Qwt.out⟩)
 rotate_right
 have Qwt:=hid qwt;have qqwt:(vw:Int)<=20000:=by omega
 have qdwt:decide ((vw:Int)<=20000)=true:=by simp;omega
 clear qwt;have HQ:=hid (show (true=true↔SS) by rw [HSS.out];simp [QS.out,Qdp.out,Qwt.out])
 all_goals
  go_enter Tryz.func42,Tryz.ntmps42
  go_wp2_with (first
   | (go_at_call 67;refine (HSAY.out _).mono ?_;rintro e w' ⟨rfl,rfl⟩)
   | (go_at_call 68;refine (HP.out _ HZ.out.2).mono ?_;rintro e w1 ⟨rfl,hb⟩;replace HZ:=zbz HZ hb;clear hb a0 a1 a2 a3 a4 a5 a6 a7 a8 a9 a10 a11;obtain ⟨a0,a1,a2,a3,a4,a5,a6,a7,a8,a9,a10,a11,_⟩:=HZ.out.1.tw)
   | (go_at_call 69;((with_reducible refine (HIK.out _).mono ?_);rintro e w' ⟨rfl,rfl⟩))
   | (go_at_call 69;((with_reducible refine (HII.out _).mono ?_);rintro e w' ⟨rfl,rfl⟩))
   | (go_at_call 69;((with_reducible refine (HIJ.out _).mono ?_);rintro e w' ⟨rfl,rfl⟩))
   | (go_at_call 69;((with_reducible refine (HIN.out _).mono ?_);rintro e w' ⟨rfl,rfl⟩))
   | (go_at_call 69;((with_reducible refine (HIS.out _).mono ?_);rintro e w' ⟨rfl,rfl⟩))
   | (go_at_call 69;((with_reducible refine (HIV.out _).mono ?_);rintro e w' ⟨rfl,rfl⟩))
   | (go_at_call 11;refine (HSM.out _ HZ.out.2).mono ?_;rintro e w1 ⟨rfl,hb⟩;replace HZ:=zbz HZ hb;clear hb a0 a1 a2 a3 a4 a5 a6 a7 a8 a9 a10 a11;obtain ⟨a0,a1,a2,a3,a4,a5,a6,a7,a8,a9,a10,a11,_⟩:=HZ.out.1.tw)
   | (go_at_call 54;((with_reducible refine (HVK.out _ HZ.out.2).mono ?_);rintro e w1 ⟨rfl,hb⟩;replace HZ:=zbz HZ hb;clear hb a0 a1 a2 a3 a4 a5 a6 a7 a8 a9 a10 a11;obtain ⟨a0,a1,a2,a3,a4,a5,a6,a7,a8,a9,a10,a11,_⟩:=HZ.out.1.tw;clear HVK))
   | (go_at_call 54;((with_reducible refine (HVS.out _ HZ.out.2).mono ?_);rintro e w1 ⟨rfl,hb⟩;replace HZ:=zbz HZ hb;clear hb a0 a1 a2 a3 a4 a5 a6 a7 a8 a9 a10 a11;obtain ⟨a0,a1,a2,a3,a4,a5,a6,a7,a8,a9,a10,a11,_⟩:=HZ.out.1.tw)))
  have u1:=cell_regrown a1;have u6:=cell_regrown a6;have u7:=cell_regrown a7;have u8:=cell_regrown a8;have u9:=cell_regrown a9;have u10:=cell_regrown a10;clear a0 a1 a2 a3 a4 a5 a6 a7 a8 a9 a10 a11;have D1:=hid (C1.out _ HZ.out.2);have D2:=hid (C2.out _ HZ.out.2);have D3:=hid (C3.out _ HZ.out.2);refine wp_region_quiet_below (by kernel_rfl) (by kernel_rfl) ?_
  repeat (any_goals (go_big_quiet_step (first | with_reducible exact D1.out _ _ | with_reducible exact D2.out _ _ | with_reducible exact D3.out _ _)))
  refine wpQuiet_nil ?_
  intro _ hw';obtain ⟨⟨dq,osq⟩,hw''⟩:=hw';subst hw'';go_wp2
  go_ret
  exact ⟨_,rfl,by simpa using HQ.out,HZ.out.2.trans ((below_regrown _ dq osq).mono HZ.out.2.size)⟩
end Go.Proofs.YtmmgdkpkcoopgaaGreatDoor
