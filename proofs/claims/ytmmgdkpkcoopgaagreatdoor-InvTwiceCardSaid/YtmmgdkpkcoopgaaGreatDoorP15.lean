/- soundKind of a component, the program's: kind by kind; Sound. -/
import Derived.Test.YtmmgdkpkcoopgaaGreatDoorP14
set_option maxRecDepth 100000
set_option maxHeartbeats 8000000
namespace Go.Proofs.YtmmgdkpkcoopgaaGreatDoor
open Go.Lib(hid)
open Go Go.RowKit
set_option linter.unusedVariables false
set_option linter.unusedSimpArgs false
theorem zfP (c:GC) (hk:c.kq=1):c.KindOk↔c.key.toList=[]/\c.i=0/\c.j=0/\c.s.toList=[]/\c.v.Same noG:=by
 unfold GC.KindOk GC.Silent;simp only [hk];constructor
 ·rintro ⟨_,⟨h1,h2,h3,h4,h5,h6⟩,h7,h8⟩
  simp at h1 h2 h3 h4 h5 h6 h7 h8
  simp_all
 ·intro h
  simp_all
theorem zgq (c A AL AO cp cL cO w) (hc:Cc w c A AL AO cp cL cO) (hw:c.v.weight<=1000000000) (hk:c.kq=1):
  Calls Tryz.prog 56 #[.agg #[.int .u8 c.kq,.slice A c.path.length cp,.string c.key,.int .i64 c.i,.int .i64 c.j,.int .i64 c.n,.int .u8 c.v.kq,.int .i64 c.v.num,.string c.v.str,.slice AL c.v.il.length cL,.slice AO c.v.vz.length cO,.string c.s]] w (BoolPost c.KindOk w):=by
 have HS:=hid (fun W hb=>zkG c A AL AO cp cL cO w hc hw W hb)
 have H0:=hid (CTwo.new w #[.int .u8 c.kq,.slice A c.path.length cp,.string c.key,.int .i64 c.i,.int .i64 c.j,.int .i64 c.n,.int .u8 c.v.kq,.int .i64 c.v.num,.string c.v.str,.slice AL c.v.il.length cL,.slice AO c.v.vz.length cO,.string c.s] #[.int .u8 c.kq,.slice A c.path.length cp,.string c.key,.int .i64 c.i,.int .i64 c.j,.int .i64 c.n,.int .u8 c.v.kq,.int .i64 c.v.num,.string c.v.str,.slice AL c.v.il.length cL,.slice AO c.v.vz.length cO,.string c.s]);have HSS:=hid (zfP c hk);have g1:(c.kq == 1)=true:=by rw [hk];rfl
 clear hc hw hk;generalize c.KindOk=SS at *;generalize c.v.Same noG=Q at *;generalize c.path.length=pn at *;generalize c.v.il.length=vl at *;generalize c.v.vz.length=vo at *;generalize c.v.kq=vk at *;generalize c.v.num=vn at *;generalize c.v.str=vs at *;generalize c.key=ky at *;generalize c.i=ci at *;generalize c.j=cj at *;generalize c.n=cn at *;generalize c.s=cs at *;generalize c.kq=ck at *;go_enter Tryz.func56,Tryz.ntmps56
 go_wp2_with (go_at_call 84;refine (HS.out _ ((CTwo.new w _ _).below)).mono ?_;rintro e w1 ⟨b,rfl,hbb,hb1⟩;have H1:=hid (And.intro hbb hb1);clear hbb hb1)
 go_ret
 exact ⟨b,rfl,by rw [H1.out.1,HSS.out],H1.out.2⟩
theorem zga (c:GC) (hk:c.kq=2):c.KindOk↔c.i=0/\c.j=0/\c.n=0/\c.s.toList=[]:=by
 unfold GC.KindOk GC.Silent;simp only [hk];constructor
 ·rintro ⟨_,⟨h1,h2,h3,h4,h5,h6⟩,h7,h8⟩
  simp at h1 h2 h3 h4 h5 h6 h7 h8
  simp_all
 ·intro h
  simp_all
theorem zfS (c A AL AO cp cL cO w) (hc:Cc w c A AL AO cp cL cO) (hw:c.v.weight<=1000000000) (hk:c.kq=2):
  Calls Tryz.prog 56 #[.agg #[.int .u8 c.kq,.slice A c.path.length cp,.string c.key,.int .i64 c.i,.int .i64 c.j,.int .i64 c.n,.int .u8 c.v.kq,.int .i64 c.v.num,.string c.v.str,.slice AL c.v.il.length cL,.slice AO c.v.vz.length cO,.string c.s]] w (BoolPost c.KindOk w):=by
 have HS:=hid (fun W hb=>zkN c A AL AO cp cL cO w hc hw W hb)
 have H0:=hid (CTwo.new w #[.int .u8 c.kq,.slice A c.path.length cp,.string c.key,.int .i64 c.i,.int .i64 c.j,.int .i64 c.n,.int .u8 c.v.kq,.int .i64 c.v.num,.string c.v.str,.slice AL c.v.il.length cL,.slice AO c.v.vz.length cO,.string c.s] #[.int .u8 c.kq,.slice A c.path.length cp,.string c.key,.int .i64 c.i,.int .i64 c.j,.int .i64 c.n,.int .u8 c.v.kq,.int .i64 c.v.num,.string c.v.str,.slice AL c.v.il.length cL,.slice AO c.v.vz.length cO,.string c.s]);have HSS:=hid (zga c hk);have g1:(c.kq == 1)=false:=by rw [hk];rfl
 have g2:(c.kq == 2)=true:=by rw [hk];rfl
 clear hc hw hk;generalize c.KindOk=SS at *;generalize c.v.Same noG=Q at *;generalize c.path.length=pn at *;generalize c.v.il.length=vl at *;generalize c.v.vz.length=vo at *;generalize c.v.kq=vk at *;generalize c.v.num=vn at *;generalize c.v.str=vs at *;generalize c.key=ky at *;generalize c.i=ci at *;generalize c.j=cj at *;generalize c.n=cn at *;generalize c.s=cs at *;generalize c.kq=ck at *;go_enter Tryz.func56,Tryz.ntmps56
 go_wp2_with (go_at_call 84;refine (HS.out _ ((CTwo.new w _ _).below)).mono ?_;rintro e w1 ⟨b,rfl,hbb,hb1⟩;have H1:=hid (And.intro hbb hb1);clear hbb hb1)
 go_ret
 exact ⟨b,rfl,by rw [H1.out.1,HSS.out],H1.out.2⟩
theorem zgo (c:GC) (hk:c.kq=3):c.KindOk↔c.i=0/\c.j=0/\c.n=0/\c.s.toList=[]/\c.v.Same noG:=by
 unfold GC.KindOk GC.Silent;simp only [hk];constructor
 ·rintro ⟨_,⟨h1,h2,h3,h4,h5,h6⟩,h7,h8⟩
  simp at h1 h2 h3 h4 h5 h6 h7 h8
  simp_all
 ·intro h
  simp_all
theorem zgN (c A AL AO cp cL cO w) (hc:Cc w c A AL AO cp cL cO) (hw:c.v.weight<=1000000000) (hk:c.kq=3):
  Calls Tryz.prog 56 #[.agg #[.int .u8 c.kq,.slice A c.path.length cp,.string c.key,.int .i64 c.i,.int .i64 c.j,.int .i64 c.n,.int .u8 c.v.kq,.int .i64 c.v.num,.string c.v.str,.slice AL c.v.il.length cL,.slice AO c.v.vz.length cO,.string c.s]] w (BoolPost c.KindOk w):=by
 have HS:=hid (fun W hb=>zk9 c A AL AO cp cL cO w hc hw W hb)
 have H0:=hid (CTwo.new w #[.int .u8 c.kq,.slice A c.path.length cp,.string c.key,.int .i64 c.i,.int .i64 c.j,.int .i64 c.n,.int .u8 c.v.kq,.int .i64 c.v.num,.string c.v.str,.slice AL c.v.il.length cL,.slice AO c.v.vz.length cO,.string c.s] #[.int .u8 c.kq,.slice A c.path.length cp,.string c.key,.int .i64 c.i,.int .i64 c.j,.int .i64 c.n,.int .u8 c.v.kq,.int .i64 c.v.num,.string c.v.str,.slice AL c.v.il.length cL,.slice AO c.v.vz.length cO,.string c.s]);have HSS:=hid (zgo c hk);have g1:(c.kq == 1)=false:=by rw [hk];rfl
 have g2:(c.kq == 2)=false:=by rw [hk];rfl
 have g3:(c.kq == 3)=true:=by rw [hk];rfl
 clear hc hw hk;generalize c.KindOk=SS at *;generalize c.v.Same noG=Q at *;generalize c.path.length=pn at *;generalize c.v.il.length=vl at *;generalize c.v.vz.length=vo at *;generalize c.v.kq=vk at *;generalize c.v.num=vn at *;generalize c.v.str=vs at *;generalize c.key=ky at *;generalize c.i=ci at *;generalize c.j=cj at *;generalize c.n=cn at *;generalize c.s=cs at *;generalize c.kq=ck at *;go_enter Tryz.func56,Tryz.ntmps56
 go_wp2_with (go_at_call 84;refine (HS.out _ ((CTwo.new w _ _).below)).mono ?_;rintro e w1 ⟨b,rfl,hbb,hb1⟩;have H1:=hid (And.intro hbb hb1);clear hbb hb1)
 go_ret
 exact ⟨b,rfl,by rw [H1.out.1,HSS.out],H1.out.2⟩
theorem zgj (c:GC) (hk:c.kq=4):c.KindOk↔c.key.toList=[]/\c.j=0/\c.n=0/\c.s.toList=[]:=by
 unfold GC.KindOk GC.Silent;simp only [hk];constructor
 ·rintro ⟨_,⟨h1,h2,h3,h4,h5,h6⟩,h7,h8⟩
  simp at h1 h2 h3 h4 h5 h6 h7 h8
  simp_all
 ·intro h
  simp_all
theorem zfN (c A AL AO cp cL cO w) (hc:Cc w c A AL AO cp cL cO) (hw:c.v.weight<=1000000000) (hk:c.kq=4):
  Calls Tryz.prog 56 #[.agg #[.int .u8 c.kq,.slice A c.path.length cp,.string c.key,.int .i64 c.i,.int .i64 c.j,.int .i64 c.n,.int .u8 c.v.kq,.int .i64 c.v.num,.string c.v.str,.slice AL c.v.il.length cL,.slice AO c.v.vz.length cO,.string c.s]] w (BoolPost c.KindOk w):=by
 have HS:=hid (fun W hb=>zkU c A AL AO cp cL cO w hc hw W hb)
 have H0:=hid (CTwo.new w #[.int .u8 c.kq,.slice A c.path.length cp,.string c.key,.int .i64 c.i,.int .i64 c.j,.int .i64 c.n,.int .u8 c.v.kq,.int .i64 c.v.num,.string c.v.str,.slice AL c.v.il.length cL,.slice AO c.v.vz.length cO,.string c.s] #[.int .u8 c.kq,.slice A c.path.length cp,.string c.key,.int .i64 c.i,.int .i64 c.j,.int .i64 c.n,.int .u8 c.v.kq,.int .i64 c.v.num,.string c.v.str,.slice AL c.v.il.length cL,.slice AO c.v.vz.length cO,.string c.s]);have HSS:=hid (zgj c hk);have g1:(c.kq == 1)=false:=by rw [hk];rfl
 have g2:(c.kq == 2)=false:=by rw [hk];rfl
 have g3:(c.kq == 3)=false:=by rw [hk];rfl
 have g4:(c.kq == 4)=true:=by rw [hk];rfl
 clear hc hw hk;generalize c.KindOk=SS at *;generalize c.v.Same noG=Q at *;generalize c.path.length=pn at *;generalize c.v.il.length=vl at *;generalize c.v.vz.length=vo at *;generalize c.v.kq=vk at *;generalize c.v.num=vn at *;generalize c.v.str=vs at *;generalize c.key=ky at *;generalize c.i=ci at *;generalize c.j=cj at *;generalize c.n=cn at *;generalize c.s=cs at *;generalize c.kq=ck at *;go_enter Tryz.func56,Tryz.ntmps56
 go_wp2_with (go_at_call 84;refine (HS.out _ ((CTwo.new w _ _).below)).mono ?_;rintro e w1 ⟨b,rfl,hbb,hb1⟩;have H1:=hid (And.intro hbb hb1);clear hbb hb1)
 go_ret
 exact ⟨b,rfl,by rw [H1.out.1,HSS.out],H1.out.2⟩
theorem zgp (c:GC) (hk:c.kq=5):c.KindOk↔c.key.toList=[]/\c.j=0/\c.n=0/\c.s.toList=[]/\c.v.Same noG:=by
 unfold GC.KindOk GC.Silent;simp only [hk];constructor
 ·rintro ⟨_,⟨h1,h2,h3,h4,h5,h6⟩,h7,h8⟩
  simp at h1 h2 h3 h4 h5 h6 h7 h8
  simp_all
 ·intro h
  simp_all
theorem zgv (c A AL AO cp cL cO w) (hc:Cc w c A AL AO cp cL cO) (hw:c.v.weight<=1000000000) (hk:c.kq=5):
  Calls Tryz.prog 56 #[.agg #[.int .u8 c.kq,.slice A c.path.length cp,.string c.key,.int .i64 c.i,.int .i64 c.j,.int .i64 c.n,.int .u8 c.v.kq,.int .i64 c.v.num,.string c.v.str,.slice AL c.v.il.length cL,.slice AO c.v.vz.length cO,.string c.s]] w (BoolPost c.KindOk w):=by
 have HS:=hid (fun W hb=>zk3 c A AL AO cp cL cO w hc hw W hb)
 have H0:=hid (CTwo.new w #[.int .u8 c.kq,.slice A c.path.length cp,.string c.key,.int .i64 c.i,.int .i64 c.j,.int .i64 c.n,.int .u8 c.v.kq,.int .i64 c.v.num,.string c.v.str,.slice AL c.v.il.length cL,.slice AO c.v.vz.length cO,.string c.s] #[.int .u8 c.kq,.slice A c.path.length cp,.string c.key,.int .i64 c.i,.int .i64 c.j,.int .i64 c.n,.int .u8 c.v.kq,.int .i64 c.v.num,.string c.v.str,.slice AL c.v.il.length cL,.slice AO c.v.vz.length cO,.string c.s]);have HSS:=hid (zgp c hk);have g1:(c.kq == 1)=false:=by rw [hk];rfl
 have g2:(c.kq == 2)=false:=by rw [hk];rfl
 have g3:(c.kq == 3)=false:=by rw [hk];rfl
 have g4:(c.kq == 4)=false:=by rw [hk];rfl
 have g6:(c.kq == 6)=false:=by rw [hk];rfl
 have g5:(c.kq == 5)=true:=by rw [hk];rfl
 clear hc hw hk;generalize c.KindOk=SS at *;generalize c.v.Same noG=Q at *;generalize c.path.length=pn at *;generalize c.v.il.length=vl at *;generalize c.v.vz.length=vo at *;generalize c.v.kq=vk at *;generalize c.v.num=vn at *;generalize c.v.str=vs at *;generalize c.key=ky at *;generalize c.i=ci at *;generalize c.j=cj at *;generalize c.n=cn at *;generalize c.s=cs at *;generalize c.kq=ck at *;go_enter Tryz.func56,Tryz.ntmps56
 go_wp2_with (go_at_call 84;refine (HS.out _ ((CTwo.new w _ _).below)).mono ?_;rintro e w1 ⟨b,rfl,hbb,hb1⟩;have H1:=hid (And.intro hbb hb1);clear hbb hb1)
 go_ret
 exact ⟨b,rfl,by rw [H1.out.1,HSS.out],H1.out.2⟩
theorem zf8 (c:GC) (hk:c.kq=6):c.KindOk↔c.key.toList=[]/\c.j=0/\c.n=0/\c.s.toList=[]:=by
 unfold GC.KindOk GC.Silent;simp only [hk];constructor
 ·rintro ⟨_,⟨h1,h2,h3,h4,h5,h6⟩,h7,h8⟩
  simp at h1 h2 h3 h4 h5 h6 h7 h8
  simp_all
 ·intro h
  simp_all
theorem zge (c A AL AO cp cL cO w) (hc:Cc w c A AL AO cp cL cO) (hw:c.v.weight<=1000000000) (hk:c.kq=6):
  Calls Tryz.prog 56 #[.agg #[.int .u8 c.kq,.slice A c.path.length cp,.string c.key,.int .i64 c.i,.int .i64 c.j,.int .i64 c.n,.int .u8 c.v.kq,.int .i64 c.v.num,.string c.v.str,.slice AL c.v.il.length cL,.slice AO c.v.vz.length cO,.string c.s]] w (BoolPost c.KindOk w):=by
 have HS:=hid (fun W hb=>zk6 c A AL AO cp cL cO w hc hw W hb)
 have H0:=hid (CTwo.new w #[.int .u8 c.kq,.slice A c.path.length cp,.string c.key,.int .i64 c.i,.int .i64 c.j,.int .i64 c.n,.int .u8 c.v.kq,.int .i64 c.v.num,.string c.v.str,.slice AL c.v.il.length cL,.slice AO c.v.vz.length cO,.string c.s] #[.int .u8 c.kq,.slice A c.path.length cp,.string c.key,.int .i64 c.i,.int .i64 c.j,.int .i64 c.n,.int .u8 c.v.kq,.int .i64 c.v.num,.string c.v.str,.slice AL c.v.il.length cL,.slice AO c.v.vz.length cO,.string c.s]);have HSS:=hid (zf8 c hk);have g1:(c.kq == 1)=false:=by rw [hk];rfl
 have g2:(c.kq == 2)=false:=by rw [hk];rfl
 have g3:(c.kq == 3)=false:=by rw [hk];rfl
 have g4:(c.kq == 4)=false:=by rw [hk];rfl
 have g6:(c.kq == 6)=true:=by rw [hk];rfl
 clear hc hw hk;generalize c.KindOk=SS at *;generalize c.v.Same noG=Q at *;generalize c.path.length=pn at *;generalize c.v.il.length=vl at *;generalize c.v.vz.length=vo at *;generalize c.v.kq=vk at *;generalize c.v.num=vn at *;generalize c.v.str=vs at *;generalize c.key=ky at *;generalize c.i=ci at *;generalize c.j=cj at *;generalize c.n=cn at *;generalize c.s=cs at *;generalize c.kq=ck at *;go_enter Tryz.func56,Tryz.ntmps56
 go_wp2_with (go_at_call 84;refine (HS.out _ ((CTwo.new w _ _).below)).mono ?_;rintro e w1 ⟨b,rfl,hbb,hb1⟩;have H1:=hid (And.intro hbb hb1);clear hbb hb1)
 go_ret
 exact ⟨b,rfl,by rw [H1.out.1,HSS.out],H1.out.2⟩
theorem zgk (c:GC) (hk:c.kq=7):c.KindOk↔c.key.toList=[]/\c.n=0/\c.s.toList=[]/\c.v.Same noG:=by
 unfold GC.KindOk GC.Silent;simp only [hk];constructor
 ·rintro ⟨_,⟨h1,h2,h3,h4,h5,h6⟩,h7,h8⟩
  simp at h1 h2 h3 h4 h5 h6 h7 h8
  simp_all
 ·intro h
  simp_all
theorem zgc (c A AL AO cp cL cO w) (hc:Cc w c A AL AO cp cL cO) (hw:c.v.weight<=1000000000) (hk:c.kq=7):
  Calls Tryz.prog 56 #[.agg #[.int .u8 c.kq,.slice A c.path.length cp,.string c.key,.int .i64 c.i,.int .i64 c.j,.int .i64 c.n,.int .u8 c.v.kq,.int .i64 c.v.num,.string c.v.str,.slice AL c.v.il.length cL,.slice AO c.v.vz.length cO,.string c.s]] w (BoolPost c.KindOk w):=by
 have HS:=hid (fun W hb=>zkt c A AL AO cp cL cO w hc hw W hb)
 have H0:=hid (CTwo.new w #[.int .u8 c.kq,.slice A c.path.length cp,.string c.key,.int .i64 c.i,.int .i64 c.j,.int .i64 c.n,.int .u8 c.v.kq,.int .i64 c.v.num,.string c.v.str,.slice AL c.v.il.length cL,.slice AO c.v.vz.length cO,.string c.s] #[.int .u8 c.kq,.slice A c.path.length cp,.string c.key,.int .i64 c.i,.int .i64 c.j,.int .i64 c.n,.int .u8 c.v.kq,.int .i64 c.v.num,.string c.v.str,.slice AL c.v.il.length cL,.slice AO c.v.vz.length cO,.string c.s]);have HSS:=hid (zgk c hk);have g1:(c.kq == 1)=false:=by rw [hk];rfl
 have g2:(c.kq == 2)=false:=by rw [hk];rfl
 have g3:(c.kq == 3)=false:=by rw [hk];rfl
 have g4:(c.kq == 4)=false:=by rw [hk];rfl
 have g6:(c.kq == 6)=false:=by rw [hk];rfl
 have g5:(c.kq == 5)=false:=by rw [hk];rfl
 have g7:(c.kq == 7)=true:=by rw [hk];rfl
 clear hc hw hk;generalize c.KindOk=SS at *;generalize c.v.Same noG=Q at *;generalize c.path.length=pn at *;generalize c.v.il.length=vl at *;generalize c.v.vz.length=vo at *;generalize c.v.kq=vk at *;generalize c.v.num=vn at *;generalize c.v.str=vs at *;generalize c.key=ky at *;generalize c.i=ci at *;generalize c.j=cj at *;generalize c.n=cn at *;generalize c.s=cs at *;generalize c.kq=ck at *;go_enter Tryz.func56,Tryz.ntmps56
 go_wp2_with (go_at_call 84;refine (HS.out _ ((CTwo.new w _ _).below)).mono ?_;rintro e w1 ⟨b,rfl,hbb,hb1⟩;have H1:=hid (And.intro hbb hb1);clear hbb hb1)
 go_ret
 exact ⟨b,rfl,by rw [H1.out.1,HSS.out],H1.out.2⟩
theorem zfM (c:GC) (hk:c.kq=9):c.KindOk↔c.key.toList=[]/\c.j=0/\c.s.toList=[]/\c.v.Same noG/\1<=c.n:=by
 unfold GC.KindOk GC.Silent;simp only [hk];constructor
 ·rintro ⟨_,⟨h1,h2,h3,h4,h5,h6⟩,h7,h8⟩
  simp at h1 h2 h3 h4 h5 h6 h7 h8
  simp_all
 ·intro h
  simp_all
theorem zf3 (c A AL AO cp cL cO w) (hc:Cc w c A AL AO cp cL cO) (hw:c.v.weight<=1000000000) (hk:c.kq=9):
  Calls Tryz.prog 56 #[.agg #[.int .u8 c.kq,.slice A c.path.length cp,.string c.key,.int .i64 c.i,.int .i64 c.j,.int .i64 c.n,.int .u8 c.v.kq,.int .i64 c.v.num,.string c.v.str,.slice AL c.v.il.length cL,.slice AO c.v.vz.length cO,.string c.s]] w (BoolPost c.KindOk w):=by
 have HS:=hid (fun W hb=>zla c A AL AO cp cL cO w hc hw W hb)
 have H0:=hid (CTwo.new w #[.int .u8 c.kq,.slice A c.path.length cp,.string c.key,.int .i64 c.i,.int .i64 c.j,.int .i64 c.n,.int .u8 c.v.kq,.int .i64 c.v.num,.string c.v.str,.slice AL c.v.il.length cL,.slice AO c.v.vz.length cO,.string c.s] #[.int .u8 c.kq,.slice A c.path.length cp,.string c.key,.int .i64 c.i,.int .i64 c.j,.int .i64 c.n,.int .u8 c.v.kq,.int .i64 c.v.num,.string c.v.str,.slice AL c.v.il.length cL,.slice AO c.v.vz.length cO,.string c.s]);have HSS:=hid (zfM c hk);have g1:(c.kq == 1)=false:=by rw [hk];rfl
 have g2:(c.kq == 2)=false:=by rw [hk];rfl
 have g3:(c.kq == 3)=false:=by rw [hk];rfl
 have g4:(c.kq == 4)=false:=by rw [hk];rfl
 have g6:(c.kq == 6)=false:=by rw [hk];rfl
 have g5:(c.kq == 5)=false:=by rw [hk];rfl
 have g7:(c.kq == 7)=false:=by rw [hk];rfl
 have g8:(c.kq == 8)=false:=by rw [hk];rfl
 have g9:(c.kq == 9)=true:=by rw [hk];rfl
 clear hc hw hk;generalize c.KindOk=SS at *;generalize c.v.Same noG=Q at *;generalize c.path.length=pn at *;generalize c.v.il.length=vl at *;generalize c.v.vz.length=vo at *;generalize c.v.kq=vk at *;generalize c.v.num=vn at *;generalize c.v.str=vs at *;generalize c.key=ky at *;generalize c.i=ci at *;generalize c.j=cj at *;generalize c.n=cn at *;generalize c.s=cs at *;generalize c.kq=ck at *;by_cases q:1<=cn
 ·have Q1:=hid q
  go_enter Tryz.func56,Tryz.ntmps56
  go_wp2_with (go_at_call 84;refine (HS.out _ ((CTwo.new w _ _).below)).mono ?_;rintro e w1 ⟨b,rfl,hbb,hb1⟩;have H1:=hid (And.intro hbb hb1);clear hbb hb1)
  go_ret
  exact ⟨b,rfl,by rw [H1.out.1,HSS.out];simp [Q1.out],H1.out.2⟩
 ·have Q1:=hid q
  go_enter Tryz.func56,Tryz.ntmps56
  go_wp2_with fail
  go_ret
  exact ⟨false,rfl,by rw [HSS.out];simp [Q1.out],(CTwo.new w _ _).below⟩
theorem zfV (c:GC) (hk:c.kq=8):c.KindOk↔(c.key.toList=[]/\c.j=0/\c.n=0/\c.v.Same noG)/\(c.s.toList≠[]/\valid c.s=true):=by
 unfold GC.KindOk GC.Silent;simp only [hk];constructor
 ·rintro ⟨_,⟨h1,h2,h3,h4,h5,h6⟩,h7,h8⟩
  simp at h1 h2 h3 h4 h5 h6 h7 h8
  simp_all
 ·intro h
  simp_all
theorem zgB (c A AL AO cp cL cO w) (hc:Cc w c A AL AO cp cL cO) (hw:c.v.weight<=1000000000) (hs:c.s.size<=9223372036854775807) (hT:Tabs w) (hk:c.kq=8):
  Calls Tryz.prog 56 #[.agg #[.int .u8 c.kq,.slice A c.path.length cp,.string c.key,.int .i64 c.i,.int .i64 c.j,.int .i64 c.n,.int .u8 c.v.kq,.int .i64 c.v.num,.string c.v.str,.slice AL c.v.il.length cL,.slice AO c.v.vz.length cO,.string c.s]] w (BoolPost c.KindOk w):=by
 have HS:=hid (fun W hb=>zlA c A AL AO cp cL cO w hc hw W hb)
 have H0:=hid (CTwo.new w #[.int .u8 c.kq,.slice A c.path.length cp,.string c.key,.int .i64 c.i,.int .i64 c.j,.int .i64 c.n,.int .u8 c.v.kq,.int .i64 c.v.num,.string c.v.str,.slice AL c.v.il.length cL,.slice AO c.v.vz.length cO,.string c.s] #[.int .u8 c.kq,.slice A c.path.length cp,.string c.key,.int .i64 c.i,.int .i64 c.j,.int .i64 c.n,.int .u8 c.v.kq,.int .i64 c.v.num,.string c.v.str,.slice AL c.v.il.length cL,.slice AO c.v.vz.length cO,.string c.s]);have HSS:=hid (zfV c hk);have HV:=hid (fun W (hb:Below w.heap.size w W)=>zao c.s W hs (hT.below hb (Nat.le_refl _)))
 have g1:(c.kq == 1)=false:=by rw [hk];rfl
 have g2:(c.kq == 2)=false:=by rw [hk];rfl
 have g3:(c.kq == 3)=false:=by rw [hk];rfl
 have g4:(c.kq == 4)=false:=by rw [hk];rfl
 have g6:(c.kq == 6)=false:=by rw [hk];rfl
 have g5:(c.kq == 5)=false:=by rw [hk];rfl
 have g7:(c.kq == 7)=false:=by rw [hk];rfl
 have g8:(c.kq == 8)=true:=by rw [hk];rfl
 clear hc hw hk hs hT;generalize c.KindOk=SS at *;generalize c.v.Same noG=Q at *;generalize c.path.length=pn at *;generalize c.v.il.length=vl at *;generalize c.v.vz.length=vo at *;generalize c.v.kq=vk at *;generalize c.v.num=vn at *;generalize c.v.str=vs at *;generalize c.key=ky at *;generalize c.i=ci at *;generalize c.j=cj at *;generalize c.n=cn at *;generalize c.s=cs at *;generalize c.kq=ck at *;rcases zbw cs with q | ⟨q,q'⟩
 ·have Q1:=hid q
  have q2:cs.toList.isEmpty=true:=by simpa using q
  go_enter Tryz.func56,Tryz.ntmps56
  go_wp2_with fail
  go_ret
  exact ⟨false,rfl,by rw [HSS.out];simp [Q1.out],(CTwo.new w _ _).below⟩
 ·have Q1:=hid q
  have q2:(cs.toList == ([]:List UInt8))=false:=by simpa using q
  clear q;cases hv:valid cs with
  | false=>
   rw [hv] at HV HSS;clear hv;go_enter Tryz.func56,Tryz.ntmps56
   go_wp2_with (go_at_call 54;refine (HV.out _ (CTwo.new w _ _).below).mono ?_;rintro e w1 ⟨rfl,hb1⟩;have H1:=hid (show CTwo w w1 #[.int .u8 ck,.slice A pn cp,.string ky,.int .i64 ci,.int .i64 cj,.int .i64 cn,.int .u8 vk,.int .i64 vn,.string vs,.slice AL vl cL,.slice AO vo cO,.string cs] #[.int .u8 0,.slice none 0 0,.string ky,.int .i64 ci,.int .i64 cj,.int .i64 cn,.int .u8 vk,.int .i64 vn,.string vs,.slice AL vl cL,.slice AO vo cO,.string cs] from (CTwo.new w _ _).step hb1);obtain ⟨e0,e1,e2,e3,e4,e5,e6,e7,e8,e9,e10,e11,f0,f1,f2,f3,f4,f5,f6,f7,f8,f9,f10,f11⟩:=H1.out.b.tw;clear hb1)
   go_ret
   exact ⟨false,rfl,by rw [HSS.out];simp,((H1.out.below.setCell (p:=⟨w.heap.size+1,3,none⟩) (Nat.le_succ _) _).setCell (p:=⟨w.heap.size+1,11,none⟩) (Nat.le_succ _) _)⟩
  | true=>
   rw [hv] at HV HSS;clear hv;go_enter Tryz.func56,Tryz.ntmps56
   go_wp2_with (first
    | (go_at_call 54;refine (HV.out _ (CTwo.new w _ _).below).mono ?_;rintro e w1 ⟨rfl,hb1⟩;have H1:=hid (show CTwo w w1 #[.int .u8 ck,.slice A pn cp,.string ky,.int .i64 ci,.int .i64 cj,.int .i64 cn,.int .u8 vk,.int .i64 vn,.string vs,.slice AL vl cL,.slice AO vo cO,.string cs] #[.int .u8 0,.slice none 0 0,.string ky,.int .i64 ci,.int .i64 cj,.int .i64 cn,.int .u8 vk,.int .i64 vn,.string vs,.slice AL vl cL,.slice AO vo cO,.string cs] from (CTwo.new w _ _).step hb1);obtain ⟨e0,e1,e2,e3,e4,e5,e6,e7,e8,e9,e10,e11,f0,f1,f2,f3,f4,f5,f6,f7,f8,f9,f10,f11⟩:=H1.out.b.tw;clear hb1)
    | (go_at_call 84;refine (HS.out _ (((H1.out.below.setCell (p:=⟨w.heap.size+1,3,none⟩) (Nat.le_succ _) _).setCell (p:=⟨w.heap.size+1,11,none⟩) (Nat.le_succ _) _))).mono ?_;rintro e w2 ⟨b,rfl,hbb,hb2⟩;have H2:=hid (And.intro hbb hb2);clear hbb hb2))
   go_ret
   exact ⟨b,rfl,by rw [H2.out.1,HSS.out];simp [Q1.out],H2.out.2⟩
theorem zfz (c A AL AO cp cL cO w) (hc:Cc w c A AL AO cp cL cO) (hk:¬ (1<=c.kq/\c.kq<=9)):
  Calls Tryz.prog 56 #[.agg #[.int .u8 c.kq,.slice A c.path.length cp,.string c.key,.int .i64 c.i,.int .i64 c.j,.int .i64 c.n,.int .u8 c.v.kq,.int .i64 c.v.num,.string c.v.str,.slice AL c.v.il.length cL,.slice AO c.v.vz.length cO,.string c.s]] w (BoolPost c.KindOk w):=by
 have HN:=hid (show ¬ c.KindOk from fun h=>hk h.1)
 have H0:=hid (CTwo.new w #[.int .u8 c.kq,.slice A c.path.length cp,.string c.key,.int .i64 c.i,.int .i64 c.j,.int .i64 c.n,.int .u8 c.v.kq,.int .i64 c.v.num,.string c.v.str,.slice AL c.v.il.length cL,.slice AO c.v.vz.length cO,.string c.s] #[.int .u8 c.kq,.slice A c.path.length cp,.string c.key,.int .i64 c.i,.int .i64 c.j,.int .i64 c.n,.int .u8 c.v.kq,.int .i64 c.v.num,.string c.v.str,.slice AL c.v.il.length cL,.slice AO c.v.vz.length cO,.string c.s]);have g1:(c.kq == 1)=false:=by simp;omega
 have g2:(c.kq == 2)=false:=by simp;omega
 have g3:(c.kq == 3)=false:=by simp;omega
 have g4:(c.kq == 4)=false:=by simp;omega
 have g6:(c.kq == 6)=false:=by simp;omega
 have g5:(c.kq == 5)=false:=by simp;omega
 have g7:(c.kq == 7)=false:=by simp;omega
 have g8:(c.kq == 8)=false:=by simp;omega
 have g9:(c.kq == 9)=false:=by simp;omega
 clear hc hk;generalize c.KindOk=SS at *;generalize c.path.length=pn at *;generalize c.v.il.length=vl at *;generalize c.v.vz.length=vo at *;generalize c.v.kq=vk at *;generalize c.v.num=vn at *;generalize c.v.str=vs at *;generalize c.key=ky at *;generalize c.i=ci at *;generalize c.j=cj at *;generalize c.n=cn at *;generalize c.s=cs at *;generalize c.kq=ck at *;go_enter Tryz.func56,Tryz.ntmps56
 go_wp2_with fail
 go_ret
 exact ⟨false,rfl,⟨(fun h=>by cases h),fun h=>absurd h HN.out⟩,(CTwo.new w _ _).below⟩
theorem zix (c A AL AO cp cL cO w) (hc:Cc w c A AL AO cp cL cO) (hw:c.v.weight<=1000000000) (hs:c.s.size<=9223372036854775807) (hT:Tabs w):
  Calls Tryz.prog 56 #[.agg #[.int .u8 c.kq,.slice A c.path.length cp,.string c.key,.int .i64 c.i,.int .i64 c.j,.int .i64 c.n,.int .u8 c.v.kq,.int .i64 c.v.num,.string c.v.str,.slice AL c.v.il.length cL,.slice AO c.v.vz.length cO,.string c.s]] w (BoolPost c.KindOk w):=by
 by_cases h:1<=c.kq/\c.kq<=9
 ·rcases (show c.kq=1\/c.kq=2\/c.kq=3\/c.kq=4\/c.kq=5\/c.kq=6\/c.kq=7\/c.kq=8\/c.kq=9 by omega) with k | k | k | k | k | k | k | k | k
  ·exact zgq c A AL AO cp cL cO w hc hw k
  ·exact zfS c A AL AO cp cL cO w hc hw k
  ·exact zgN c A AL AO cp cL cO w hc hw k
  ·exact zfN c A AL AO cp cL cO w hc hw k
  ·exact zgv c A AL AO cp cL cO w hc hw k
  ·exact zge c A AL AO cp cL cO w hc hw k
  ·exact zgc c A AL AO cp cL cO w hc hw k
  ·exact zgB c A AL AO cp cL cO w hc hw hs hT k
  ·exact zf3 c A AL AO cp cL cO w hc hw k
 ·exact zfz c A AL AO cp cL cO w hc h
theorem zdv (c A AL AO cp cL cO w) (hc:Cc w c A AL AO cp cL cO) (hw:c.v.weight<=1000000000) (hky:c.key.size<=9223372036854775807) (hs:c.s.size<=9223372036854775807) (hpk:∀ s∈c.path,s.key.size<=9223372036854775807) (hT:Tabs w):
  Calls Tryz.prog 33 #[.agg #[.int .u8 c.kq,.slice A c.path.length cp,.string c.key,.int .i64 c.i,.int .i64 c.j,.int .i64 c.n,.int .u8 c.v.kq,.int .i64 c.v.num,.string c.v.str,.slice AL c.v.il.length cL,.slice AO c.v.vz.length cO,.string c.s]] w (BoolPost c.Sound w):=by
 have H0:=hid (Whole.new w 45 #[.int .u8 c.kq,.slice A c.path.length cp,.string c.key,.int .i64 c.i,.int .i64 c.j,.int .i64 c.n,.int .u8 c.v.kq,.int .i64 c.v.num,.string c.v.str,.slice AL c.v.il.length cL,.slice AO c.v.vz.length cO,.string c.s]);have HB:=hid (zaa w (.cells #[.int .u8 c.kq,.slice A c.path.length cp,.string c.key,.int .i64 c.i,.int .i64 c.j,.int .i64 c.n,.int .u8 c.v.kq,.int .i64 c.v.num,.string c.v.str,.slice AL c.v.il.length cL,.slice AO c.v.vz.length cO,.string c.s] 45));have hpl:c.path.length<=maxLen:=Nat.le_trans hc.path.le hc.path.cap;obtain ⟨bk,hbk⟩:=zat c.KindOk;obtain ⟨bv,hbv⟩:=zat c.ValueOk;have HV:=hid (fun W (hb:Below w.heap.size w W)=>zao c.key W hky (hT.below hb (Nat.le_refl _)))
 have HP:=hid (fun W (hb:Below w.heap.size w W)=>zii W.heap.size A cp c.path W (hc.path.later hb).steps (Nat.le_refl _) hpl hpk (hT.below hb (Nat.le_refl _)))
 have HK:=hid (fun W (hb:Below w.heap.size w W)=>zay (zix c A AL AO cp cL cO W (hc.later hb) hw hs (hT.below hb (Nat.le_refl _))) bk hbk)
 have HW:=hid (fun (h16:soundP c.path=true) W (hb:Below w.heap.size w W)=>zay (zhv c A AL AO cp cL cO W (hc.later hb) hw (by simp only [soundP,Bool.and_eq_true,decide_eq_true_eq] at h16;exact h16.1) (hT.below hb (Nat.le_refl _))) bv hbv)
 have HSS:Hid (c.Sound↔0<=c.i/\0<=c.j/\valid c.key=true/\soundP c.path=true/\bk=true/\bv=true):=hid (by rw [hbk,hbv];exact Iff.rfl)
 clear hc hw hky hs hpk hT hpl hbk hbv;generalize c.Sound=SS at *;generalize valid c.key=b1 at *;generalize soundP c.path=b2 at *;generalize c.path.length=pn at *;generalize c.v.il.length=vl at *;generalize c.v.vz.length=vo at *;generalize c.v.kq=vk at *;generalize c.v.num=vn at *;generalize c.v.str=vs at *;generalize c.key=ky at *;generalize c.i=ci at *;generalize c.j=cj at *;generalize c.n=cn at *;generalize c.s=cs at *;generalize c.kq=ck at *;by_cases qi:0<=ci
 ·by_cases qj:0<=cj
  ·cases b1 with
   | false=>
    have HQ:=hid (show (false=true↔SS) by rw [HSS.out];simp)
    go_enter Tryz.func33,Tryz.ntmps33
    go_wp2_with (first
     | (go_at_call 54;refine (HV.out _ HB.out).mono ?_;rintro e w1 ⟨rfl,hb1⟩;have H1:=hid (H0.out.below hb1 H0.out.lt);have B1:=hid (HB.out.trans (hb1.mono HB.out.size));obtain ⟨a0,a1,a2,a3,a4,a5,a6,a7,a8,a9,a10,a11,_⟩:=H1.out.tw;clear hb1)
     | (go_at_call 55;refine (HP.out _ B1.out).mono ?_;rintro e w2 ⟨rfl,hb2⟩;have H2:=hid (H1.out.below hb2 H1.out.lt);have B2:=hid (B1.out.trans (hb2.mono B1.out.size));clear a0 a1 a2 a3 a4 a5 a6 a7 a8 a9 a10 a11;obtain ⟨a0,a1,a2,a3,a4,a5,a6,a7,a8,a9,a10,a11,_⟩:=H2.out.tw;clear hb2)
     | (go_at_call 56;refine (HK.out _ B2.out).mono ?_;rintro e w3 ⟨rfl,hb3⟩;have H3:=hid (H2.out.below hb3 H2.out.lt);have B3:=hid (B2.out.trans (hb3.mono B2.out.size));clear a0 a1 a2 a3 a4 a5 a6 a7 a8 a9 a10 a11;obtain ⟨a0,a1,a2,a3,a4,a5,a6,a7,a8,a9,a10,a11,_⟩:=H3.out.tw;clear hb3)
     | (go_at_call 57;refine (HW.out (by trivial) _ B3.out).mono ?_;rintro e w4 ⟨rfl,hb4⟩;have B4:=hid (B3.out.trans (hb4.mono B3.out.size));clear hb4))
    go_ret
    exact ⟨false,rfl,HQ.out,B1.out⟩
   | true=>
    cases b2 with
    | false=>
     have HQ:=hid (show (false=true↔SS) by rw [HSS.out];simp)
     go_enter Tryz.func33,Tryz.ntmps33
     go_wp2_with (first
      | (go_at_call 54;refine (HV.out _ HB.out).mono ?_;rintro e w1 ⟨rfl,hb1⟩;have H1:=hid (H0.out.below hb1 H0.out.lt);have B1:=hid (HB.out.trans (hb1.mono HB.out.size));obtain ⟨a0,a1,a2,a3,a4,a5,a6,a7,a8,a9,a10,a11,_⟩:=H1.out.tw;clear hb1)
      | (go_at_call 55;refine (HP.out _ B1.out).mono ?_;rintro e w2 ⟨rfl,hb2⟩;have H2:=hid (H1.out.below hb2 H1.out.lt);have B2:=hid (B1.out.trans (hb2.mono B1.out.size));clear a0 a1 a2 a3 a4 a5 a6 a7 a8 a9 a10 a11;obtain ⟨a0,a1,a2,a3,a4,a5,a6,a7,a8,a9,a10,a11,_⟩:=H2.out.tw;clear hb2)
      | (go_at_call 56;refine (HK.out _ B2.out).mono ?_;rintro e w3 ⟨rfl,hb3⟩;have H3:=hid (H2.out.below hb3 H2.out.lt);have B3:=hid (B2.out.trans (hb3.mono B2.out.size));clear a0 a1 a2 a3 a4 a5 a6 a7 a8 a9 a10 a11;obtain ⟨a0,a1,a2,a3,a4,a5,a6,a7,a8,a9,a10,a11,_⟩:=H3.out.tw;clear hb3)
      | (go_at_call 57;refine (HW.out (by trivial) _ B3.out).mono ?_;rintro e w4 ⟨rfl,hb4⟩;have B4:=hid (B3.out.trans (hb4.mono B3.out.size));clear hb4))
     go_ret
     exact ⟨false,rfl,HQ.out,B2.out⟩
    | true=>
     cases bk with
     | false=>
      have HQ:=hid (show (false=true↔SS) by rw [HSS.out];simp)
      go_enter Tryz.func33,Tryz.ntmps33
      go_wp2_with (first
       | (go_at_call 54;refine (HV.out _ HB.out).mono ?_;rintro e w1 ⟨rfl,hb1⟩;have H1:=hid (H0.out.below hb1 H0.out.lt);have B1:=hid (HB.out.trans (hb1.mono HB.out.size));obtain ⟨a0,a1,a2,a3,a4,a5,a6,a7,a8,a9,a10,a11,_⟩:=H1.out.tw;clear hb1)
       | (go_at_call 55;refine (HP.out _ B1.out).mono ?_;rintro e w2 ⟨rfl,hb2⟩;have H2:=hid (H1.out.below hb2 H1.out.lt);have B2:=hid (B1.out.trans (hb2.mono B1.out.size));clear a0 a1 a2 a3 a4 a5 a6 a7 a8 a9 a10 a11;obtain ⟨a0,a1,a2,a3,a4,a5,a6,a7,a8,a9,a10,a11,_⟩:=H2.out.tw;clear hb2)
       | (go_at_call 56;refine (HK.out _ B2.out).mono ?_;rintro e w3 ⟨rfl,hb3⟩;have H3:=hid (H2.out.below hb3 H2.out.lt);have B3:=hid (B2.out.trans (hb3.mono B2.out.size));clear a0 a1 a2 a3 a4 a5 a6 a7 a8 a9 a10 a11;obtain ⟨a0,a1,a2,a3,a4,a5,a6,a7,a8,a9,a10,a11,_⟩:=H3.out.tw;clear hb3)
       | (go_at_call 57;refine (HW.out (by trivial) _ B3.out).mono ?_;rintro e w4 ⟨rfl,hb4⟩;have B4:=hid (B3.out.trans (hb4.mono B3.out.size));clear hb4))
      go_ret
      exact ⟨false,rfl,HQ.out,B3.out⟩
     | true=>
      have HQ:=hid (show (bv=true↔SS) by rw [HSS.out];simp [qi,qj])
      go_enter Tryz.func33,Tryz.ntmps33
      go_wp2_with (first
       | (go_at_call 54;refine (HV.out _ HB.out).mono ?_;rintro e w1 ⟨rfl,hb1⟩;have H1:=hid (H0.out.below hb1 H0.out.lt);have B1:=hid (HB.out.trans (hb1.mono HB.out.size));obtain ⟨a0,a1,a2,a3,a4,a5,a6,a7,a8,a9,a10,a11,_⟩:=H1.out.tw;clear hb1)
       | (go_at_call 55;refine (HP.out _ B1.out).mono ?_;rintro e w2 ⟨rfl,hb2⟩;have H2:=hid (H1.out.below hb2 H1.out.lt);have B2:=hid (B1.out.trans (hb2.mono B1.out.size));clear a0 a1 a2 a3 a4 a5 a6 a7 a8 a9 a10 a11;obtain ⟨a0,a1,a2,a3,a4,a5,a6,a7,a8,a9,a10,a11,_⟩:=H2.out.tw;clear hb2)
       | (go_at_call 56;refine (HK.out _ B2.out).mono ?_;rintro e w3 ⟨rfl,hb3⟩;have H3:=hid (H2.out.below hb3 H2.out.lt);have B3:=hid (B2.out.trans (hb3.mono B2.out.size));clear a0 a1 a2 a3 a4 a5 a6 a7 a8 a9 a10 a11;obtain ⟨a0,a1,a2,a3,a4,a5,a6,a7,a8,a9,a10,a11,_⟩:=H3.out.tw;clear hb3)
       | (go_at_call 57;refine (HW.out (by trivial) _ B3.out).mono ?_;rintro e w4 ⟨rfl,hb4⟩;have B4:=hid (B3.out.trans (hb4.mono B3.out.size));clear hb4))
      go_ret
      exact ⟨bv,rfl,HQ.out,B4.out⟩
  ·have HQ:=hid (show (false=true↔SS) by rw [HSS.out];simp [qj])
   go_enter Tryz.func33,Tryz.ntmps33
   go_wp2_with (first
    | (go_at_call 54;refine (HV.out _ HB.out).mono ?_;rintro e w1 ⟨rfl,hb1⟩;have H1:=hid (H0.out.below hb1 H0.out.lt);have B1:=hid (HB.out.trans (hb1.mono HB.out.size));obtain ⟨a0,a1,a2,a3,a4,a5,a6,a7,a8,a9,a10,a11,_⟩:=H1.out.tw;clear hb1)
    | (go_at_call 55;refine (HP.out _ B1.out).mono ?_;rintro e w2 ⟨rfl,hb2⟩;have H2:=hid (H1.out.below hb2 H1.out.lt);have B2:=hid (B1.out.trans (hb2.mono B1.out.size));clear a0 a1 a2 a3 a4 a5 a6 a7 a8 a9 a10 a11;obtain ⟨a0,a1,a2,a3,a4,a5,a6,a7,a8,a9,a10,a11,_⟩:=H2.out.tw;clear hb2)
    | (go_at_call 56;refine (HK.out _ B2.out).mono ?_;rintro e w3 ⟨rfl,hb3⟩;have H3:=hid (H2.out.below hb3 H2.out.lt);have B3:=hid (B2.out.trans (hb3.mono B2.out.size));clear a0 a1 a2 a3 a4 a5 a6 a7 a8 a9 a10 a11;obtain ⟨a0,a1,a2,a3,a4,a5,a6,a7,a8,a9,a10,a11,_⟩:=H3.out.tw;clear hb3)
    | (go_at_call 57;refine (HW.out (by trivial) _ B3.out).mono ?_;rintro e w4 ⟨rfl,hb4⟩;have B4:=hid (B3.out.trans (hb4.mono B3.out.size));clear hb4))
   go_ret
   exact ⟨false,rfl,HQ.out,HB.out⟩
 ·have HQ:=hid (show (false=true↔SS) by rw [HSS.out];simp [qi])
  go_enter Tryz.func33,Tryz.ntmps33
  go_wp2_with (first
   | (go_at_call 54;refine (HV.out _ HB.out).mono ?_;rintro e w1 ⟨rfl,hb1⟩;have H1:=hid (H0.out.below hb1 H0.out.lt);have B1:=hid (HB.out.trans (hb1.mono HB.out.size));obtain ⟨a0,a1,a2,a3,a4,a5,a6,a7,a8,a9,a10,a11,_⟩:=H1.out.tw;clear hb1)
   | (go_at_call 55;refine (HP.out _ B1.out).mono ?_;rintro e w2 ⟨rfl,hb2⟩;have H2:=hid (H1.out.below hb2 H1.out.lt);have B2:=hid (B1.out.trans (hb2.mono B1.out.size));clear a0 a1 a2 a3 a4 a5 a6 a7 a8 a9 a10 a11;obtain ⟨a0,a1,a2,a3,a4,a5,a6,a7,a8,a9,a10,a11,_⟩:=H2.out.tw;clear hb2)
   | (go_at_call 56;refine (HK.out _ B2.out).mono ?_;rintro e w3 ⟨rfl,hb3⟩;have H3:=hid (H2.out.below hb3 H2.out.lt);have B3:=hid (B2.out.trans (hb3.mono B2.out.size));clear a0 a1 a2 a3 a4 a5 a6 a7 a8 a9 a10 a11;obtain ⟨a0,a1,a2,a3,a4,a5,a6,a7,a8,a9,a10,a11,_⟩:=H3.out.tw;clear hb3)
   | (go_at_call 57;refine (HW.out (by trivial) _ B3.out).mono ?_;rintro e w4 ⟨rfl,hb4⟩;have B4:=hid (B3.out.trans (hb4.mono B3.out.size));clear hb4))
  go_ret
  exact ⟨false,rfl,HQ.out,HB.out⟩
end Go.Proofs.YtmmgdkpkcoopgaaGreatDoor
