/- One: a component that may be done to a value. -/
import Derived.Test.YtmmgdkpkcoopgaaGreatDoorP23
import Derived.Deep.DeepCutAuto
import Derived.Deep.CutRange
set_option maxRecDepth 100000
set_option maxHeartbeats 8000000
namespace Go.Proofs.YtmmgdkpkcoopgaaGreatDoor
open Go.Lib(hid)
open Go Go.RowKit
set_option linter.unusedVariables false
set_option linter.unusedSimpArgs false
theorem zkF (x:GAct) (AP ap AD ad) (P:Option Addr) (np pc n:Nat) (w) (hx:ActOk w x AP ap AD ad) (hn:n<=1000000):
  Calls Tryz.prog 23 #[.agg #[.int .u8 0,.slice P np pc,.string ⟨#[]⟩,.int .i64 0,.int .i64 0,.int .i64 0,.int .u8 0,.int .i64 0,.string ⟨#[]⟩,.slice none 0 0,.slice none 0 0,.string ⟨#[]⟩],.agg #[.slice AP x.path.length ap,.int .u8 x.kq,.int .i64 x.i,.int .i64 x.j,.int .i64 x.n,.string x.s,.slice AD x.v.length ad],.int .i64 n] w (TextIs x P np pc n w):=by
 have hk:=hx.kq;have hs:=hx.str;rcases Nat.eq_zero_or_pos n with h | h
 ·exact zkb x AP ap AD ad P np pc n w hk hs hn (by omega)
 ·rcases (show x.kq % 2=0\/x.kq % 2=1 by omega) with q | q
  ·exact zk1 x AP ap AD ad P np pc n w hk hs hn ⟨h,q⟩
  ·exact zlj x AP ap AD ad P np pc n w hk hs hn ⟨h,q⟩
def lenOf:Value->Nat
 | .slice _ n _=>n
 | _=>0
def CutP (g:GV) (P:Option Addr) (c:Nat) (w1:World) (v:Value) (W:World):Prop:=W=w1/\∃ (n:Nat) (qs:List GStep) (h:GV),v=.slice P n c/\n<=5/\qs.length=n/\g.get qs=some h/\(∀ s∈qs,Clean s)/\Wy w1 P c qs
def OneRel (w:World) (g:GV) (cv ca:Array Value) (P:Option Addr) (c b:Nat) (p:Value) (wr:World):Prop:=
 ∃ (n:Nat) (qs:List GStep) (h:GV) (BL BO:Option Addr) (eL eO:Nat),p=.slice P n c/\n<=5/\qs.length=n/\g.get qs=some h/\(∀ s∈qs,Clean s)/\Wy wr P c qs/\OB w cv ca b h BL BO eL eO wr
structure TB3' (w W:World) (cv ca:Array Value):Prop where
 v:Whole W w.heap.size 29 cv
 a:Whole W (w.heap.size+1) 42 ca
 r:Whole W (w.heap.size+1+1) 45 #[.int .u8 0,.slice none 0 0,.string ⟨#[]⟩,.int .i64 0,.int .i64 0,.int .i64 0,.int .u8 0,.int .i64 0,.string ⟨#[]⟩,.slice none 0 0,.slice none 0 0,.string ⟨#[]⟩]
 below:Below w.heap.size w W
theorem TB3'.step {w W W':World} {cv ca:Array Value} (h:TB3' w W cv ca) (hb:Below W.heap.size W W'):TB3' w W' cv ca:=
 ⟨h.v.below hb h.v.lt,h.a.below hb h.a.lt,h.r.below hb h.r.lt,h.below.trans (hb.mono h.below.size)⟩
theorem TB3'.new (w:World) (cv ca:Array Value):TB3' w (((w.alloc (.cells cv 29)).alloc (.cells ca 42)).alloc (.cells #[.int .u8 0,.slice none 0 0,.string ⟨#[]⟩,.int .i64 0,.int .i64 0,.int .i64 0,.int .u8 0,.int .i64 0,.string ⟨#[]⟩,.slice none 0 0,.slice none 0 0,.string ⟨#[]⟩] 45)) cv ca:=by
 have h1:=(Whole.new (w.alloc (.cells cv 29)) 42 ca).alloc (.cells #[.int .u8 0,.slice none 0 0,.string ⟨#[]⟩,.int .i64 0,.int .i64 0,.int .i64 0,.int .u8 0,.int .i64 0,.string ⟨#[]⟩,.slice none 0 0,.slice none 0 0,.string ⟨#[]⟩] 45);have h2:=Whole.new ((w.alloc (.cells cv 29)).alloc (.cells ca 42)) 45 #[.int .u8 0,.slice none 0 0,.string ⟨#[]⟩,.int .i64 0,.int .i64 0,.int .i64 0,.int .u8 0,.int .i64 0,.string ⟨#[]⟩,.slice none 0 0,.slice none 0 0,.string ⟨#[]⟩];rw [World.size_alloc] at h1;rw [World.size_alloc,World.size_alloc] at h2;exact ⟨((Whole.new w _ _).alloc _).alloc _,h1,h2,(((Below.refl _ w).alloc (Nat.le_refl _) _).alloc (by simp) _).alloc (by simp;omega) _⟩
theorem OB.start {w w2 w3:World} {cv ca:Array Value} {h:GV} {BL BO:Option Addr} {eL eO:Nat} (q:TB3' w w2 cv ca) (hb:Below w2.heap.size w2 w3) (hL:LstV (fun k=>w2.heap.size<=k) w3 (.slice BL h.il.length eL) h.il) (hO:ObjV (fun k=>w2.heap.size<=k) w3 (.slice BO h.vz.length eO) h.keys h.vz):
  OB w cv ca w3.heap.size h BL BO eL eO (w3.alloc (.cells #[.int .u8 h.kq,.int .i64 h.num,.string h.str,.slice BL h.il.length eL,.slice BO h.vz.length eO] 29)):=by
 have q':=q.step hb;have h1:=q.r.lt;have h2:=hb.size;exact ⟨q'.v.alloc _,q'.a.alloc _,q'.r.alloc _,Whole.new w3 _ _,by omega,hL.keep (From.of_below (zaa _ _)) (fun k hk hl=>⟨by omega,by omega⟩),hO.keep (From.of_below (zaa _ _)) (fun k hk hl=>⟨by omega,by omega⟩),q'.below.alloc q'.below.size _⟩
theorem zl2 (g GL GO gl go) (x:GAct) (AP ap AD ad w) (hv:Vl w g GL GO gl go) (hg:g.Sound) (hgw:g.weight<=200000) (hx:ActOk w x AP ap AD ad):
  Calls Tryz.prog 12 #[.agg #[.int .u8 g.kq,.int .i64 g.num,.string g.str,.slice GL g.il.length gl,.slice GO g.vz.length go],.agg #[.slice AP x.path.length ap,.int .u8 x.kq,.int .i64 x.i,.int .i64 x.j,.int .i64 x.n,.string x.s,.slice AD x.v.length ad]] w (OneNw g w):=by
 have HWK:=hid (fun W (hb:Below w.heap.size w W)=>zlf (hv.later hb) hg (by omega) w.heap.size AP ap x.path (hx.bytes.keep hb (Nat.le_refl _)) hx.rngp hb.size hx.capp.1 hx.capp.2)
 unfold WalkNw at HWK;have HGET:=hid (fun (P:Option Addr) (c n:Nat) (qs:List GStep) (h:GV) (W:World) (hb:Below w.heap.size w W) (hp:Wy W P c qs) (hn:qs.length=n) (e:g.get qs=some h)=>rget1 (hv.later hb) hp hn (by omega) e)
 have HTX:=hid (fun (P:Option Addr) (np pc n:Nat) (W:World) (hb:Below w.heap.size w W) (hn:n<=1000000)=>zkF x AP ap AD ad P np pc n W (hx.later hb) hn)
 have HLS:=hid (fun (P:Option Addr) (np pc n:Nat) (W:World) (hb:Below w.heap.size w W) (hn:n<=1000000)=>zk7 x AP ap AD ad P np pc n W (hx.later hb) hn)
 have HFL:=hid (fun (P:Option Addr) (np pc:Nat) (h:GV) (HL HO:Option Addr) (dL dO:Nat) (W:World) (hb:Below w.heap.size w W) (hv:Vl W h HL HO dL dO) (hkv:∀ k∈h.keys,valid k=true/\k.size<=200001) (hm:h.vz.length<=1000000)=>zj9 x AP ap AD ad P np pc h HL HO dL dO W (hx.later hb) hv hkv hm)
 unfold TextIs at HTX;unfold ListIs at HLS;unfold FieldIs at HFL;have HG:=hid (And.intro hg hgw);have H0:=hid (TB3'.new w #[.int .u8 g.kq,.int .i64 g.num,.string g.str,.slice GL g.il.length gl,.slice GO g.vz.length go] #[.slice AP x.path.length ap,.int .u8 x.kq,.int .i64 x.i,.int .i64 x.j,.int .i64 x.n,.string x.s,.slice AD x.v.length ad]);clear hv hg hgw hx;go_enter Tryz.func12,Tryz.ntmps12
 go_upto_if 16 with (go_at_call 21;refine (HWK.out _ H0.out.below).mono ?_;rintro e w1 ⟨P,c,ps,hp,rfl,hwy,hget,hlen,hpn,hb⟩;have HPN:=hid (show ∀ p,P=some p->w.heap.size<=p.block from fun p e=>Nat.le_trans H0.out.below.size (hpn p e));clear hpn;have H1:=hid (And.intro (H0.out.step hb) (And.intro hwy (And.intro hget hlen)));generalize hn:ps.length=n;have HN:=hid hn;have hn8:n<=8:=(by have:=H1.out.2.2.2.1;omega);have hnc:n<=c:=(by have:=H1.out.2.1.le;omega);clear hwy hget hlen hb hn)
 go_cut [6] (CutP g P c w1)
 case first=>
  by_cases h5:5<n
  ·have h5c:(5:Nat)<=c:=by omega
   go_wp2
   go_meet
   obtain ⟨q,hq⟩:∃ q,ps=ps.take 5++q:=⟨ps.drop 5,(List.take_append_drop 5 ps).symm⟩;have hw:=H1.out.2.1;have hgt:=H1.out.2.2.1;rw [hq] at hw hgt;obtain ⟨m,hm⟩:=zeq q (ps.take 5) g hp hgt;exact ⟨rfl,5,ps.take 5,m,rfl,Nat.le_refl _,by have:=HN.out;rw [List.length_take];omega,hm,fun s hs=>H1.out.2.2.2.2 s (List.mem_of_mem_take hs),hw.front⟩
  ·go_wp2
   go_meet
   exact ⟨rfl,n,ps,hp,rfl,by omega,HN.out,H1.out.2.2.1,H1.out.2.2.2.2,H1.out.2.1⟩
 case rest=>
  obtain ⟨rfl,n',qs,h',rfl,hn5,hql,hget',hcl,hwy'⟩:=hcut;have HQ:=hid (And.intro hn5 (And.intro hql (And.intro hget' (And.intro hcl hwy'))));obtain ⟨v0,v1,v2,v3,v4,_⟩:=H1.out.1.v.five;clear hn5 hql hget' hcl hwy' hn8 hnc HN
  go_wp2_with (go_at_call 22;refine (HGET.out P c n' qs h' _ H1.out.1.below HQ.out.2.2.2.2 HQ.out.2.1 HQ.out.2.2.1).mono ?_;rintro e w3 ⟨BL,BO,eL,eO,rfl,hvx,hb⟩;have H3:=hid (And.intro (OB.start H1.out.1 hb hvx.1 hvx.2) (HQ.out.2.2.2.2.later (hb.trans ((zaa w3 (.cells #[.int .u8 h'.kq,.int .i64 h'.num,.string h'.str,.slice BL h'.il.length eL,.slice BO h'.vz.length eO] 29)).mono hb.size))));clear hvx hb v0 v1 v2 v3 v4)
  go_loopw [6] (OneRel w g #[.int .u8 g.kq,.int .i64 g.num,.string g.str,.slice GL g.il.length gl,.slice GO g.vz.length go] #[.slice AP x.path.length ap,.int .u8 x.kq,.int .i64 x.i,.int .i64 x.j,.int .i64 x.n,.string x.s,.slice AD x.v.length ad] P c w3.heap.size) (fun p _=>lenOf p)
  case atStart=>exact ⟨n',qs,h',BL,BO,eL,eO,rfl,HQ.out.1,HQ.out.2.1,HQ.out.2.2.1,HQ.out.2.2.2.1,H3.out.2,H3.out.1⟩
  case round=>
   obtain ⟨n,qs,h,BL,BO,eL,eO,rfl,hn5,hql,hget,hcl,hwy,hOB⟩:=hrel;have hsd:=zbe qs g h HG.out.1 hget;have hwt:=zas qs g h hget;have hpw:=zdC h;have hnc:n<=c:=by have:=hwy.le;omega
   have HO:=hid hOB;have HR:=hid (And.intro hql (And.intro hget (And.intro hcl (And.intro hwy hsd))));obtain ⟨x0,x1,x2,x3,x4,f0,f1,f2,f3,f4⟩:=hOB.x.five;have HPW:=hid (And.intro hpw (Nat.le_trans hwt HG.out.2));clear hOB hql hget hcl hwy hpw hwt H3 HQ H1;have hkr:=ziG hsd;clear hsd;by_cases hlt:h.kq<2
   ·rcases Nat.eq_zero_or_pos n with hn0 | hn0
    ·have hn0':¬ 0<n:=by omega
     clear hn0;have e2:(h.kq == 2)=false:=by simp;omega
     have e3:(h.kq == 3)=false:=by simp;omega
     have e4:(h.kq == 4)=false:=by simp;omega
     have e5:(h.kq == 5)=false:=by simp;omega
     have HK:=hid hkr;clear hkr;have X0:=fun o=>zab o x0
     have X1:=fun o=>zab o x1
     have X2:=fun o=>zab o x2
     have X3:=fun o=>zab o x3
     have X4:=fun o=>zab o x4
     obtain ⟨a0,a1,a2,a3,a4,a5,a6⟩:=zal HO.out.a;have A0:=fun o=>zab o a0
     have A1:=fun o=>zab o a1
     have A2:=fun o=>zab o a2
     have A3:=fun o=>zab o a3
     have A4:=fun o=>zab o a4
     have A5:=fun o=>zab o a5
     have A6:=fun o=>zab o a6
     have z0:=fun o=>(HO.out.r.alloc o).tw.f0
     have z1:=fun o=>(HO.out.r.alloc o).tw.f1
     have z2:=fun o=>(HO.out.r.alloc o).tw.f2
     have z3:=fun o=>(HO.out.r.alloc o).tw.f3
     have z4:=fun o=>(HO.out.r.alloc o).tw.f4
     have z5:=fun o=>(HO.out.r.alloc o).tw.f5
     have z6:=fun o=>(HO.out.r.alloc o).tw.f6
     have z7:=fun o=>(HO.out.r.alloc o).tw.f7
     have z8:=fun o=>(HO.out.r.alloc o).tw.f8
     have z9:=fun o=>(HO.out.r.alloc o).tw.f9
     have z10:=fun o=>(HO.out.r.alloc o).tw.f10
     have z11:=fun o=>(HO.out.r.alloc o).tw.f11
     have zc0:=fun o=>(HO.out.r.alloc o).tw.c0
     have zc1:=fun o=>(HO.out.r.alloc o).tw.c1
     have zc2:=fun o=>(HO.out.r.alloc o).tw.c2
     have zc3:=fun o=>(HO.out.r.alloc o).tw.c3
     have zc4:=fun o=>(HO.out.r.alloc o).tw.c4
     have zc5:=fun o=>(HO.out.r.alloc o).tw.c5
     have zc6:=fun o=>(HO.out.r.alloc o).tw.c6
     have zc7:=fun o=>(HO.out.r.alloc o).tw.c7
     have zc8:=fun o=>(HO.out.r.alloc o).tw.c8
     have zc9:=fun o=>(HO.out.r.alloc o).tw.c9
     have zc10:=fun o=>(HO.out.r.alloc o).tw.c10
     have zc11:=fun o=>(HO.out.r.alloc o).tw.c11
     go_wp2
     have hR:=HO.out.r.alloc (.cells #[.int .u8 0,.slice P n c,.string ⟨#[]⟩,.int .i64 0,.int .i64 0,.int .i64 0,.int .u8 0,.int .i64 0,.string ⟨#[]⟩,.slice none 0 0,.slice none 0 0,.string ⟨#[]⟩] 45);have hX:=put12 hR (.int .u8 0) (.slice P n c) (.string ⟨#[]⟩) (.int .i64 0) (.int .i64 0) (.int .i64 0) (.int .u8 0) (.int .i64 0) (.string ⟨#[]⟩) (.slice none 0 0) (.slice none 0 0) (.string ⟨#[]⟩);have hB:=(below12 (b:=w.heap.size+1+1) ((HO.out.below.alloc HO.out.below.size (.cells #[.int .u8 0,.slice P n c,.string ⟨#[]⟩,.int .i64 0,.int .i64 0,.int .i64 0,.int .u8 0,.int .i64 0,.string ⟨#[]⟩,.slice none 0 0,.slice none 0 0,.string ⟨#[]⟩] 45))) (by first | omega | (simp;omega) | simp) (.int .u8 0) (.slice P n c) (.string ⟨#[]⟩) (.int .i64 0) (.int .i64 0) (.int .i64 0) (.int .u8 0) (.int .i64 0) (.string ⟨#[]⟩) (.slice none 0 0) (.slice none 0 0) (.string ⟨#[]⟩))
     have hK:=(k212 (b:=w.heap.size+1+1) ((K2.refl (w.heap.size+1+1) (w.heap.size+1+1) (wr.alloc (.cells #[.int .u8 0,.slice P n c,.string ⟨#[]⟩,.int .i64 0,.int .i64 0,.int .i64 0,.int .u8 0,.int .i64 0,.string ⟨#[]⟩,.slice none 0 0,.slice none 0 0,.string ⟨#[]⟩] 45)))) (.inl rfl) (.int .u8 0) (.slice P n c) (.string ⟨#[]⟩) (.int .i64 0) (.int .i64 0) (.int .i64 0) (.int .u8 0) (.int .i64 0) (.string ⟨#[]⟩) (.slice none 0 0) (.slice none 0 0) (.string ⟨#[]⟩));have hW:=HR.out.2.2.2.1.two HO.out.r zba (.inr rfl) (zaa wr (.cells #[.int .u8 0,.slice P n c,.string ⟨#[]⟩,.int .i64 0,.int .i64 0,.int .i64 0,.int .u8 0,.int .i64 0,.string ⟨#[]⟩,.slice none 0 0,.slice none 0 0,.string ⟨#[]⟩] 45)) hK;obtain ⟨d0,d1,d2,d3,d4,d5,d6,d7,d8,d9,d10,d11,_⟩:=hX.tw;refine bodyPost_ret (v:=.tuple #[.agg #[.int .u8 0,.slice P n c,.string ⟨#[]⟩,.int .i64 0,.int .i64 0,.int .i64 0,.int .u8 0,.int .i64 0,.string ⟨#[]⟩,.slice none 0 0,.slice none 0 0,.string ⟨#[]⟩],.int .i64 0]) (by simp [results,Tryz.results12,go_sem,d0,d1,d2,d3,d4,d5,d6,d7,d8,d9,d10,d11]) rfl ?_
     have hl:=HR.out.1;subst hl;exact ⟨hB,⟨0,qs,⟨#[]⟩,0,0,0,noG,⟨#[]⟩⟩,P,none,none,c,0,0,0,rfl,⟨hW,HPN.out,zcw _ _⟩,⟨hn5,HR.out.2.2.1,zb1,by show (0:Nat)<=200001;omega,by show (0:Nat)<=41;omega,.inl rfl,.inl (by show (0:Nat)<=40;omega)⟩⟩
    ·obtain ⟨m,rfl⟩:∃ m,n=m+1:=⟨n - 1,by omega⟩
     have hne:qs≠[]:=by intro e;have:=HR.out.1;rw [e] at this;cases this
     obtain ⟨p,q,hpq⟩:∃ p q,qs=p++[q]:=⟨qs.dropLast,qs.getLast hne,(List.dropLast_concat_getLast hne).symm⟩;subst hpq;obtain ⟨h2,hget2⟩:=zeq [q] p g h HR.out.2.1;have hpl:p.length=m:=by have:=HR.out.1;simp at this;exact this
     have HP:=hid (And.intro hpl (And.intro hget2 HR.out.2.2.2.1.front));clear hpl hget2 hne hkr;obtain ⟨v0,v1,v2,v3,v4,_⟩:=HO.out.v.five
     go_wp2_with (go_at_call 22;refine (HGET.out P c m p h2 _ HO.out.below HP.out.2.2 HP.out.1 HP.out.2.1).mono ?_;rintro e w4 ⟨CL,CO,fL,fO,rfl,hvx,hb⟩;have H4:=hid (And.intro hb hvx);clear hvx hb;clear x0 x1 x2 x3 x4 f0 f1 f2 f3 f4 v0 v1 v2 v3 v4;obtain ⟨x0,x1,x2,x3,x4,f0,f1,f2,f3,f4⟩:=(HO.out.step H4.out.1).x.five)
     go_roundw
     case rel=>exact ⟨m,p,h2,CL,CO,fL,fO,rfl,by omega,HP.out.1,HP.out.2.1,fun s hs=>HR.out.2.2.1 s (List.mem_append_left _ hs),HP.out.2.2.put5 HO.out.x H4.out.1 _ _ _ _ _,HO.out.put H4.out.1 H4.out.2.1 H4.out.2.2⟩
     case measure=>simp [lenOf]
   ·rcases (show h.kq=2\/h.kq=3\/h.kq=4\/h.kq=5 by omega) with hk | hk | hk | hk
    ·rcases Nat.eq_zero_or_pos n with hn0 | hn0
     ·have hn0':¬ 0<n:=by omega
      clear hn0;have e2:(h.kq == 2)=true:=by simp;omega
      have e3:(h.kq == 3)=false:=by simp;omega
      have e4:(h.kq == 4)=false:=by simp;omega
      have e5:(h.kq == 5)=false:=by simp;omega
      have HK:=hid hkr;clear hkr hk;have X0:=fun o=>zab o x0
      have X1:=fun o=>zab o x1
      have X2:=fun o=>zab o x2
      have X3:=fun o=>zab o x3
      have X4:=fun o=>zab o x4
      obtain ⟨a0,a1,a2,a3,a4,a5,a6⟩:=zal HO.out.a;have A0:=fun o=>zab o a0
      have A1:=fun o=>zab o a1
      have A2:=fun o=>zab o a2
      have A3:=fun o=>zab o a3
      have A4:=fun o=>zab o a4
      have A5:=fun o=>zab o a5
      have A6:=fun o=>zab o a6
      have z0:=fun o=>(HO.out.r.alloc o).tw.f0
      have z1:=fun o=>(HO.out.r.alloc o).tw.f1
      have z2:=fun o=>(HO.out.r.alloc o).tw.f2
      have z3:=fun o=>(HO.out.r.alloc o).tw.f3
      have z4:=fun o=>(HO.out.r.alloc o).tw.f4
      have z5:=fun o=>(HO.out.r.alloc o).tw.f5
      have z6:=fun o=>(HO.out.r.alloc o).tw.f6
      have z7:=fun o=>(HO.out.r.alloc o).tw.f7
      have z8:=fun o=>(HO.out.r.alloc o).tw.f8
      have z9:=fun o=>(HO.out.r.alloc o).tw.f9
      have z10:=fun o=>(HO.out.r.alloc o).tw.f10
      have z11:=fun o=>(HO.out.r.alloc o).tw.f11
      have zc0:=fun o=>(HO.out.r.alloc o).tw.c0
      have zc1:=fun o=>(HO.out.r.alloc o).tw.c1
      have zc2:=fun o=>(HO.out.r.alloc o).tw.c2
      have zc3:=fun o=>(HO.out.r.alloc o).tw.c3
      have zc4:=fun o=>(HO.out.r.alloc o).tw.c4
      have zc5:=fun o=>(HO.out.r.alloc o).tw.c5
      have zc6:=fun o=>(HO.out.r.alloc o).tw.c6
      have zc7:=fun o=>(HO.out.r.alloc o).tw.c7
      have zc8:=fun o=>(HO.out.r.alloc o).tw.c8
      have zc9:=fun o=>(HO.out.r.alloc o).tw.c9
      have zc10:=fun o=>(HO.out.r.alloc o).tw.c10
      have zc11:=fun o=>(HO.out.r.alloc o).tw.c11
      go_wp2
      have hR:=HO.out.r.alloc (.cells #[.int .u8 1,.slice P n c,.string ⟨#[]⟩,.int .i64 0,.int .i64 0,.int .i64 x.n,.int .u8 0,.int .i64 0,.string ⟨#[]⟩,.slice none 0 0,.slice none 0 0,.string ⟨#[]⟩] 45);have hX:=put12 hR (.int .u8 1) (.slice P n c) (.string ⟨#[]⟩) (.int .i64 0) (.int .i64 0) (.int .i64 x.n) (.int .u8 0) (.int .i64 0) (.string ⟨#[]⟩) (.slice none 0 0) (.slice none 0 0) (.string ⟨#[]⟩);have hB:=(below12 (b:=w.heap.size+1+1) ((HO.out.below.alloc HO.out.below.size (.cells #[.int .u8 1,.slice P n c,.string ⟨#[]⟩,.int .i64 0,.int .i64 0,.int .i64 x.n,.int .u8 0,.int .i64 0,.string ⟨#[]⟩,.slice none 0 0,.slice none 0 0,.string ⟨#[]⟩] 45))) (by first | omega | (simp;omega) | simp) (.int .u8 1) (.slice P n c) (.string ⟨#[]⟩) (.int .i64 0) (.int .i64 0) (.int .i64 x.n) (.int .u8 0) (.int .i64 0) (.string ⟨#[]⟩) (.slice none 0 0) (.slice none 0 0) (.string ⟨#[]⟩))
      have hK:=(k212 (b:=w.heap.size+1+1) ((K2.refl (w.heap.size+1+1) (w.heap.size+1+1) (wr.alloc (.cells #[.int .u8 1,.slice P n c,.string ⟨#[]⟩,.int .i64 0,.int .i64 0,.int .i64 x.n,.int .u8 0,.int .i64 0,.string ⟨#[]⟩,.slice none 0 0,.slice none 0 0,.string ⟨#[]⟩] 45)))) (.inl rfl) (.int .u8 1) (.slice P n c) (.string ⟨#[]⟩) (.int .i64 0) (.int .i64 0) (.int .i64 x.n) (.int .u8 0) (.int .i64 0) (.string ⟨#[]⟩) (.slice none 0 0) (.slice none 0 0) (.string ⟨#[]⟩));have hW:=HR.out.2.2.2.1.two HO.out.r zba (.inr rfl) (zaa wr (.cells #[.int .u8 1,.slice P n c,.string ⟨#[]⟩,.int .i64 0,.int .i64 0,.int .i64 x.n,.int .u8 0,.int .i64 0,.string ⟨#[]⟩,.slice none 0 0,.slice none 0 0,.string ⟨#[]⟩] 45)) hK;obtain ⟨d0,d1,d2,d3,d4,d5,d6,d7,d8,d9,d10,d11,_⟩:=hX.tw;refine bodyPost_ret (v:=.tuple #[.agg #[.int .u8 1,.slice P n c,.string ⟨#[]⟩,.int .i64 0,.int .i64 0,.int .i64 x.n,.int .u8 0,.int .i64 0,.string ⟨#[]⟩,.slice none 0 0,.slice none 0 0,.string ⟨#[]⟩],.int .i64 1]) (by simp [results,Tryz.results12,go_sem,d0,d1,d2,d3,d4,d5,d6,d7,d8,d9,d10,d11]) rfl ?_
      have hl:=HR.out.1;subst hl;exact ⟨hB,⟨1,qs,⟨#[]⟩,0,0,x.n,noG,⟨#[]⟩⟩,P,none,none,c,0,0,1,rfl,⟨hW,HPN.out,zcw _ _⟩,⟨hn5,HR.out.2.2.1,zb1,by show (0:Nat)<=200001;omega,by show (0:Nat)<=41;omega,.inr ⟨rfl,h,HR.out.2.1,.inl ⟨rfl,by simpa using e2,rfl,rfl,rfl,rfl,rfl⟩⟩,.inl (by show (0:Nat)<=40;omega)⟩⟩
     ·
      have e2:(h.kq == 2)=true:=by simp;omega
      have e3:(h.kq == 3)=false:=by simp;omega
      have e4:(h.kq == 4)=false:=by simp;omega
      have e5:(h.kq == 5)=false:=by simp;omega
      have HK:=hid hkr;clear hkr hk;have X0:=fun o=>zab o x0
      have X1:=fun o=>zab o x1
      have X2:=fun o=>zab o x2
      have X3:=fun o=>zab o x3
      have X4:=fun o=>zab o x4
      obtain ⟨a0,a1,a2,a3,a4,a5,a6⟩:=zal HO.out.a;have A0:=fun o=>zab o a0
      have A1:=fun o=>zab o a1
      have A2:=fun o=>zab o a2
      have A3:=fun o=>zab o a3
      have A4:=fun o=>zab o a4
      have A5:=fun o=>zab o a5
      have A6:=fun o=>zab o a6
      have z0:=fun o=>(HO.out.r.alloc o).tw.f0
      have z1:=fun o=>(HO.out.r.alloc o).tw.f1
      have z2:=fun o=>(HO.out.r.alloc o).tw.f2
      have z3:=fun o=>(HO.out.r.alloc o).tw.f3
      have z4:=fun o=>(HO.out.r.alloc o).tw.f4
      have z5:=fun o=>(HO.out.r.alloc o).tw.f5
      have z6:=fun o=>(HO.out.r.alloc o).tw.f6
      have z7:=fun o=>(HO.out.r.alloc o).tw.f7
      have z8:=fun o=>(HO.out.r.alloc o).tw.f8
      have z9:=fun o=>(HO.out.r.alloc o).tw.f9
      have z10:=fun o=>(HO.out.r.alloc o).tw.f10
      have z11:=fun o=>(HO.out.r.alloc o).tw.f11
      have zc0:=fun o=>(HO.out.r.alloc o).tw.c0
      have zc1:=fun o=>(HO.out.r.alloc o).tw.c1
      have zc2:=fun o=>(HO.out.r.alloc o).tw.c2
      have zc3:=fun o=>(HO.out.r.alloc o).tw.c3
      have zc4:=fun o=>(HO.out.r.alloc o).tw.c4
      have zc5:=fun o=>(HO.out.r.alloc o).tw.c5
      have zc6:=fun o=>(HO.out.r.alloc o).tw.c6
      have zc7:=fun o=>(HO.out.r.alloc o).tw.c7
      have zc8:=fun o=>(HO.out.r.alloc o).tw.c8
      have zc9:=fun o=>(HO.out.r.alloc o).tw.c9
      have zc10:=fun o=>(HO.out.r.alloc o).tw.c10
      have zc11:=fun o=>(HO.out.r.alloc o).tw.c11
      go_wp2
      have hR:=HO.out.r.alloc (.cells #[.int .u8 1,.slice P n c,.string ⟨#[]⟩,.int .i64 0,.int .i64 0,.int .i64 x.n,.int .u8 0,.int .i64 0,.string ⟨#[]⟩,.slice none 0 0,.slice none 0 0,.string ⟨#[]⟩] 45);have hX:=put12 hR (.int .u8 1) (.slice P n c) (.string ⟨#[]⟩) (.int .i64 0) (.int .i64 0) (.int .i64 x.n) (.int .u8 0) (.int .i64 0) (.string ⟨#[]⟩) (.slice none 0 0) (.slice none 0 0) (.string ⟨#[]⟩);have hB:=(below12 (b:=w.heap.size+1+1) ((HO.out.below.alloc HO.out.below.size (.cells #[.int .u8 1,.slice P n c,.string ⟨#[]⟩,.int .i64 0,.int .i64 0,.int .i64 x.n,.int .u8 0,.int .i64 0,.string ⟨#[]⟩,.slice none 0 0,.slice none 0 0,.string ⟨#[]⟩] 45))) (by first | omega | (simp;omega) | simp) (.int .u8 1) (.slice P n c) (.string ⟨#[]⟩) (.int .i64 0) (.int .i64 0) (.int .i64 x.n) (.int .u8 0) (.int .i64 0) (.string ⟨#[]⟩) (.slice none 0 0) (.slice none 0 0) (.string ⟨#[]⟩))
      have hK:=(k212 (b:=w.heap.size+1+1) ((K2.refl (w.heap.size+1+1) (w.heap.size+1+1) (wr.alloc (.cells #[.int .u8 1,.slice P n c,.string ⟨#[]⟩,.int .i64 0,.int .i64 0,.int .i64 x.n,.int .u8 0,.int .i64 0,.string ⟨#[]⟩,.slice none 0 0,.slice none 0 0,.string ⟨#[]⟩] 45)))) (.inl rfl) (.int .u8 1) (.slice P n c) (.string ⟨#[]⟩) (.int .i64 0) (.int .i64 0) (.int .i64 x.n) (.int .u8 0) (.int .i64 0) (.string ⟨#[]⟩) (.slice none 0 0) (.slice none 0 0) (.string ⟨#[]⟩));have hW:=HR.out.2.2.2.1.two HO.out.r zba (.inr rfl) (zaa wr (.cells #[.int .u8 1,.slice P n c,.string ⟨#[]⟩,.int .i64 0,.int .i64 0,.int .i64 x.n,.int .u8 0,.int .i64 0,.string ⟨#[]⟩,.slice none 0 0,.slice none 0 0,.string ⟨#[]⟩] 45)) hK;obtain ⟨d0,d1,d2,d3,d4,d5,d6,d7,d8,d9,d10,d11,_⟩:=hX.tw;refine bodyPost_ret (v:=.tuple #[.agg #[.int .u8 1,.slice P n c,.string ⟨#[]⟩,.int .i64 0,.int .i64 0,.int .i64 x.n,.int .u8 0,.int .i64 0,.string ⟨#[]⟩,.slice none 0 0,.slice none 0 0,.string ⟨#[]⟩],.int .i64 1]) (by simp [results,Tryz.results12,go_sem,d0,d1,d2,d3,d4,d5,d6,d7,d8,d9,d10,d11]) rfl ?_
      have hl:=HR.out.1;subst hl;exact ⟨hB,⟨1,qs,⟨#[]⟩,0,0,x.n,noG,⟨#[]⟩⟩,P,none,none,c,0,0,1,rfl,⟨hW,HPN.out,zcw _ _⟩,⟨hn5,HR.out.2.2.1,zb1,by show (0:Nat)<=200001;omega,by show (0:Nat)<=41;omega,.inr ⟨rfl,h,HR.out.2.1,.inl ⟨rfl,by simpa using e2,rfl,rfl,rfl,rfl,rfl⟩⟩,.inl (by show (0:Nat)<=40;omega)⟩⟩
    ·rcases Nat.eq_zero_or_pos n with hn0 | hn0
     ·have hn0':¬ 0<n:=by omega
      clear hn0;have e2:(h.kq == 2)=false:=by simp;omega
      have e3:(h.kq == 3)=true:=by simp;omega
      have e4:(h.kq == 4)=false:=by simp;omega
      have e5:(h.kq == 5)=false:=by simp;omega
      have HK:=hid hkr;clear hkr hk
      skip
      have X0:=fun o=>zab o x0
      have X1:=fun o=>zab o x1
      have X2:=fun o=>zab o x2
      have X3:=fun o=>zab o x3
      have X4:=fun o=>zab o x4
      obtain ⟨a0,a1,a2,a3,a4,a5,a6⟩:=zal HO.out.a;have A0:=fun o=>zab o a0
      have A1:=fun o=>zab o a1
      have A2:=fun o=>zab o a2
      have A3:=fun o=>zab o a3
      have A4:=fun o=>zab o a4
      have A5:=fun o=>zab o a5
      have A6:=fun o=>zab o a6
      have z0:=fun o=>(HO.out.r.alloc o).tw.f0
      have z1:=fun o=>(HO.out.r.alloc o).tw.f1
      have z2:=fun o=>(HO.out.r.alloc o).tw.f2
      have z3:=fun o=>(HO.out.r.alloc o).tw.f3
      have z4:=fun o=>(HO.out.r.alloc o).tw.f4
      have z5:=fun o=>(HO.out.r.alloc o).tw.f5
      have z6:=fun o=>(HO.out.r.alloc o).tw.f6
      have z7:=fun o=>(HO.out.r.alloc o).tw.f7
      have z8:=fun o=>(HO.out.r.alloc o).tw.f8
      have z9:=fun o=>(HO.out.r.alloc o).tw.f9
      have z10:=fun o=>(HO.out.r.alloc o).tw.f10
      have z11:=fun o=>(HO.out.r.alloc o).tw.f11
      have zc0:=fun o=>(HO.out.r.alloc o).tw.c0
      have zc1:=fun o=>(HO.out.r.alloc o).tw.c1
      have zc2:=fun o=>(HO.out.r.alloc o).tw.c2
      have zc3:=fun o=>(HO.out.r.alloc o).tw.c3
      have zc4:=fun o=>(HO.out.r.alloc o).tw.c4
      have zc5:=fun o=>(HO.out.r.alloc o).tw.c5
      have zc6:=fun o=>(HO.out.r.alloc o).tw.c6
      have zc7:=fun o=>(HO.out.r.alloc o).tw.c7
      have zc8:=fun o=>(HO.out.r.alloc o).tw.c8
      have zc9:=fun o=>(HO.out.r.alloc o).tw.c9
      have zc10:=fun o=>(HO.out.r.alloc o).tw.c10
      have zc11:=fun o=>(HO.out.r.alloc o).tw.c11
      have hne1:(wr.heap.size=w.heap.size+1+1)=False:=by have:=HO.out.r.lt;simp;omega
      have hne2:(w.heap.size+1+1=wr.heap.size)=False:=by have:=HO.out.r.lt;simp;omega
      go_wp2_with (go_at_call 23;refine (HTX.out P n c h.str.size _ (HO.out.below.alloc HO.out.below.size (.cells #[.int .u8 0,.slice P n c,.string ⟨#[]⟩,.int .i64 0,.int .i64 0,.int .i64 0,.int .u8 0,.int .i64 0,.string ⟨#[]⟩,.slice none 0 0,.slice none 0 0,.string ⟨#[]⟩] 45)) (by have:=HPW.out;omega)).mono ?_;rintro e w5 ⟨k,i,m,s,rfl,hb,hq⟩;have H5:=hid (And.intro hb hq);clear hb hq;have HC5:=hid ((Whole.new wr 45 #[.int .u8 0,.slice P n c,.string ⟨#[]⟩,.int .i64 0,.int .i64 0,.int .i64 0,.int .u8 0,.int .i64 0,.string ⟨#[]⟩,.slice none 0 0,.slice none 0 0,.string ⟨#[]⟩]).below H5.out.1 (by simp));have HR5:=hid ((HO.out.r.alloc (.cells #[.int .u8 0,.slice P n c,.string ⟨#[]⟩,.int .i64 0,.int .i64 0,.int .i64 0,.int .u8 0,.int .i64 0,.string ⟨#[]⟩,.slice none 0 0,.slice none 0 0,.string ⟨#[]⟩] 45)).below H5.out.1 (by have:=HO.out.r.lt;simp;omega));obtain ⟨c0,c1,c2,c3,c4,c5,c6,c7,c8,c9,c10,c11,y0,y1,y2,y3,y4,y5,y6,y7,y8,y9,y10,y11⟩:=HC5.out.tw;clear z0 z1 z2 z3 z4 z5 z6 z7 z8 z9 z10 z11 zc0 zc1 zc2 zc3 zc4 zc5 zc6 zc7 zc8 zc9 zc10 zc11;obtain ⟨_,_,_,_,_,_,_,_,_,_,_,_,z0,z1,z2,z3,z4,z5,z6,z7,z8,z9,z10,z11⟩:=HR5.out.tw;clear X0 X1 X2 X3 X4 A0 A1 A2 A3 A4 A5 A6 x0 x1 x2 x3 x4 a0 a1 a2 a3 a4 a5 a6 f0 f1 f2 f3 f4)
      have hRl:=HO.out.r.lt;have hX:=put12 (far12 (b:=wr.heap.size) (HR5.out) (by first | omega | (simp;omega)) (.int .u8 k) (.slice P n c) (.string ⟨#[]⟩) (.int .i64 i) (.int .i64 0) (.int .i64 m) (.int .u8 0) (.int .i64 0) (.string ⟨#[]⟩) (.slice none 0 0) (.slice none 0 0) (.string s)) (.int .u8 k) (.slice P n c) (.string ⟨#[]⟩) (.int .i64 i) (.int .i64 0) (.int .i64 m) (.int .u8 0) (.int .i64 0) (.string ⟨#[]⟩) (.slice none 0 0) (.slice none 0 0) (.string s)
      have hsw:=HO.out.below.size;have hB:=(below12 (b:=w.heap.size+1+1) ((below12 (b:=wr.heap.size) (((HO.out.below.alloc HO.out.below.size (.cells #[.int .u8 0,.slice P n c,.string ⟨#[]⟩,.int .i64 0,.int .i64 0,.int .i64 0,.int .u8 0,.int .i64 0,.string ⟨#[]⟩,.slice none 0 0,.slice none 0 0,.string ⟨#[]⟩] 45)).trans (H5.out.1.mono (by simp;omega)))) (by first | omega | (simp;omega) | simp) (.int .u8 k) (.slice P n c) (.string ⟨#[]⟩) (.int .i64 i) (.int .i64 0) (.int .i64 m) (.int .u8 0) (.int .i64 0) (.string ⟨#[]⟩) (.slice none 0 0) (.slice none 0 0) (.string s))) (by first | omega | (simp;omega) | simp) (.int .u8 k) (.slice P n c) (.string ⟨#[]⟩) (.int .i64 i) (.int .i64 0) (.int .i64 m) (.int .u8 0) (.int .i64 0) (.string ⟨#[]⟩) (.slice none 0 0) (.slice none 0 0) (.string s))
      have hK:=(k212 (b:=w.heap.size+1+1) ((k212 (b:=wr.heap.size) ((K2.refl (w.heap.size+1+1) wr.heap.size w5)) (.inr rfl) (.int .u8 k) (.slice P n c) (.string ⟨#[]⟩) (.int .i64 i) (.int .i64 0) (.int .i64 m) (.int .u8 0) (.int .i64 0) (.string ⟨#[]⟩) (.slice none 0 0) (.slice none 0 0) (.string s))) (.inl rfl) (.int .u8 k) (.slice P n c) (.string ⟨#[]⟩) (.int .i64 i) (.int .i64 0) (.int .i64 m) (.int .u8 0) (.int .i64 0) (.string ⟨#[]⟩) (.slice none 0 0) (.slice none 0 0) (.string s));have hW:=HR.out.2.2.2.1.two HO.out.r zba (.inl (Nat.le_refl _)) ((zaa wr (.cells #[.int .u8 0,.slice P n c,.string ⟨#[]⟩,.int .i64 0,.int .i64 0,.int .i64 0,.int .u8 0,.int .i64 0,.string ⟨#[]⟩,.slice none 0 0,.slice none 0 0,.string ⟨#[]⟩] 45)).trans (H5.out.1.mono (by simp))) hK
      obtain ⟨d0,d1,d2,d3,d4,d5,d6,d7,d8,d9,d10,d11,_⟩:=hX.tw;refine bodyPost_ret (v:=.tuple #[.agg #[.int .u8 k,.slice P n c,.string ⟨#[]⟩,.int .i64 i,.int .i64 0,.int .i64 m,.int .u8 0,.int .i64 0,.string ⟨#[]⟩,.slice none 0 0,.slice none 0 0,.string s],.int .i64 1]) (by simp [results,Tryz.results12,go_sem,d0,d1,d2,d3,d4,d5,d6,d7,d8,d9,d10,d11]) rfl ?_
      have hl:=HR.out.1;subst hl;have hk3:h.kq=3:=by simpa using e3
      refine ⟨hB,⟨k,qs,⟨#[]⟩,i,0,m,noG,s⟩,P,none,none,c,0,0,1,rfl,⟨hW,HPN.out,zcw _ _⟩,⟨hn5,HR.out.2.2.1,zb1,by show (0:Nat)<=200001;omega,?_,.inr ⟨rfl,h,HR.out.2.1,.inr (.inl ⟨hk3,rfl,rfl,rfl,?_⟩)⟩,.inl (by show (0:Nat)<=40;omega)⟩⟩
      ·rcases H5.out.2 with ⟨_,_,_,hs⟩ | ⟨_,hs,_⟩
       ·show s.size<=41
        rw [hs];have:=zax x.s;have e1:(strX++plainB x.s).size=1+(plainB x.s).size:=by rw [ByteArray.size_append];rfl
        omega
       ·show s.size<=41
        rw [hs]
        decide
      ·rcases H5.out.2 with ⟨h8,hi,hm,hs⟩ | ⟨h9,hs,hi⟩
       ·exact .inl ⟨h8,hi,hm,x.s,hs⟩
       ·exact .inr ⟨h9,hs,hi⟩
     ·
      have e2:(h.kq == 2)=false:=by simp;omega
      have e3:(h.kq == 3)=true:=by simp;omega
      have e4:(h.kq == 4)=false:=by simp;omega
      have e5:(h.kq == 5)=false:=by simp;omega
      have HK:=hid hkr;clear hkr hk
      skip
      have X0:=fun o=>zab o x0
      have X1:=fun o=>zab o x1
      have X2:=fun o=>zab o x2
      have X3:=fun o=>zab o x3
      have X4:=fun o=>zab o x4
      obtain ⟨a0,a1,a2,a3,a4,a5,a6⟩:=zal HO.out.a;have A0:=fun o=>zab o a0
      have A1:=fun o=>zab o a1
      have A2:=fun o=>zab o a2
      have A3:=fun o=>zab o a3
      have A4:=fun o=>zab o a4
      have A5:=fun o=>zab o a5
      have A6:=fun o=>zab o a6
      have z0:=fun o=>(HO.out.r.alloc o).tw.f0
      have z1:=fun o=>(HO.out.r.alloc o).tw.f1
      have z2:=fun o=>(HO.out.r.alloc o).tw.f2
      have z3:=fun o=>(HO.out.r.alloc o).tw.f3
      have z4:=fun o=>(HO.out.r.alloc o).tw.f4
      have z5:=fun o=>(HO.out.r.alloc o).tw.f5
      have z6:=fun o=>(HO.out.r.alloc o).tw.f6
      have z7:=fun o=>(HO.out.r.alloc o).tw.f7
      have z8:=fun o=>(HO.out.r.alloc o).tw.f8
      have z9:=fun o=>(HO.out.r.alloc o).tw.f9
      have z10:=fun o=>(HO.out.r.alloc o).tw.f10
      have z11:=fun o=>(HO.out.r.alloc o).tw.f11
      have zc0:=fun o=>(HO.out.r.alloc o).tw.c0
      have zc1:=fun o=>(HO.out.r.alloc o).tw.c1
      have zc2:=fun o=>(HO.out.r.alloc o).tw.c2
      have zc3:=fun o=>(HO.out.r.alloc o).tw.c3
      have zc4:=fun o=>(HO.out.r.alloc o).tw.c4
      have zc5:=fun o=>(HO.out.r.alloc o).tw.c5
      have zc6:=fun o=>(HO.out.r.alloc o).tw.c6
      have zc7:=fun o=>(HO.out.r.alloc o).tw.c7
      have zc8:=fun o=>(HO.out.r.alloc o).tw.c8
      have zc9:=fun o=>(HO.out.r.alloc o).tw.c9
      have zc10:=fun o=>(HO.out.r.alloc o).tw.c10
      have zc11:=fun o=>(HO.out.r.alloc o).tw.c11
      have hne1:(wr.heap.size=w.heap.size+1+1)=False:=by have:=HO.out.r.lt;simp;omega
      have hne2:(w.heap.size+1+1=wr.heap.size)=False:=by have:=HO.out.r.lt;simp;omega
      go_wp2_with (go_at_call 23;refine (HTX.out P n c h.str.size _ (HO.out.below.alloc HO.out.below.size (.cells #[.int .u8 0,.slice P n c,.string ⟨#[]⟩,.int .i64 0,.int .i64 0,.int .i64 0,.int .u8 0,.int .i64 0,.string ⟨#[]⟩,.slice none 0 0,.slice none 0 0,.string ⟨#[]⟩] 45)) (by have:=HPW.out;omega)).mono ?_;rintro e w5 ⟨k,i,m,s,rfl,hb,hq⟩;have H5:=hid (And.intro hb hq);clear hb hq;have HC5:=hid ((Whole.new wr 45 #[.int .u8 0,.slice P n c,.string ⟨#[]⟩,.int .i64 0,.int .i64 0,.int .i64 0,.int .u8 0,.int .i64 0,.string ⟨#[]⟩,.slice none 0 0,.slice none 0 0,.string ⟨#[]⟩]).below H5.out.1 (by simp));have HR5:=hid ((HO.out.r.alloc (.cells #[.int .u8 0,.slice P n c,.string ⟨#[]⟩,.int .i64 0,.int .i64 0,.int .i64 0,.int .u8 0,.int .i64 0,.string ⟨#[]⟩,.slice none 0 0,.slice none 0 0,.string ⟨#[]⟩] 45)).below H5.out.1 (by have:=HO.out.r.lt;simp;omega));obtain ⟨c0,c1,c2,c3,c4,c5,c6,c7,c8,c9,c10,c11,y0,y1,y2,y3,y4,y5,y6,y7,y8,y9,y10,y11⟩:=HC5.out.tw;clear z0 z1 z2 z3 z4 z5 z6 z7 z8 z9 z10 z11 zc0 zc1 zc2 zc3 zc4 zc5 zc6 zc7 zc8 zc9 zc10 zc11;obtain ⟨_,_,_,_,_,_,_,_,_,_,_,_,z0,z1,z2,z3,z4,z5,z6,z7,z8,z9,z10,z11⟩:=HR5.out.tw;clear X0 X1 X2 X3 X4 A0 A1 A2 A3 A4 A5 A6 x0 x1 x2 x3 x4 a0 a1 a2 a3 a4 a5 a6 f0 f1 f2 f3 f4)
      have hRl:=HO.out.r.lt;have hX:=put12 (far12 (b:=wr.heap.size) (HR5.out) (by first | omega | (simp;omega)) (.int .u8 k) (.slice P n c) (.string ⟨#[]⟩) (.int .i64 i) (.int .i64 0) (.int .i64 m) (.int .u8 0) (.int .i64 0) (.string ⟨#[]⟩) (.slice none 0 0) (.slice none 0 0) (.string s)) (.int .u8 k) (.slice P n c) (.string ⟨#[]⟩) (.int .i64 i) (.int .i64 0) (.int .i64 m) (.int .u8 0) (.int .i64 0) (.string ⟨#[]⟩) (.slice none 0 0) (.slice none 0 0) (.string s)
      have hsw:=HO.out.below.size;have hB:=(below12 (b:=w.heap.size+1+1) ((below12 (b:=wr.heap.size) (((HO.out.below.alloc HO.out.below.size (.cells #[.int .u8 0,.slice P n c,.string ⟨#[]⟩,.int .i64 0,.int .i64 0,.int .i64 0,.int .u8 0,.int .i64 0,.string ⟨#[]⟩,.slice none 0 0,.slice none 0 0,.string ⟨#[]⟩] 45)).trans (H5.out.1.mono (by simp;omega)))) (by first | omega | (simp;omega) | simp) (.int .u8 k) (.slice P n c) (.string ⟨#[]⟩) (.int .i64 i) (.int .i64 0) (.int .i64 m) (.int .u8 0) (.int .i64 0) (.string ⟨#[]⟩) (.slice none 0 0) (.slice none 0 0) (.string s))) (by first | omega | (simp;omega) | simp) (.int .u8 k) (.slice P n c) (.string ⟨#[]⟩) (.int .i64 i) (.int .i64 0) (.int .i64 m) (.int .u8 0) (.int .i64 0) (.string ⟨#[]⟩) (.slice none 0 0) (.slice none 0 0) (.string s))
      have hK:=(k212 (b:=w.heap.size+1+1) ((k212 (b:=wr.heap.size) ((K2.refl (w.heap.size+1+1) wr.heap.size w5)) (.inr rfl) (.int .u8 k) (.slice P n c) (.string ⟨#[]⟩) (.int .i64 i) (.int .i64 0) (.int .i64 m) (.int .u8 0) (.int .i64 0) (.string ⟨#[]⟩) (.slice none 0 0) (.slice none 0 0) (.string s))) (.inl rfl) (.int .u8 k) (.slice P n c) (.string ⟨#[]⟩) (.int .i64 i) (.int .i64 0) (.int .i64 m) (.int .u8 0) (.int .i64 0) (.string ⟨#[]⟩) (.slice none 0 0) (.slice none 0 0) (.string s));have hW:=HR.out.2.2.2.1.two HO.out.r zba (.inl (Nat.le_refl _)) ((zaa wr (.cells #[.int .u8 0,.slice P n c,.string ⟨#[]⟩,.int .i64 0,.int .i64 0,.int .i64 0,.int .u8 0,.int .i64 0,.string ⟨#[]⟩,.slice none 0 0,.slice none 0 0,.string ⟨#[]⟩] 45)).trans (H5.out.1.mono (by simp))) hK
      obtain ⟨d0,d1,d2,d3,d4,d5,d6,d7,d8,d9,d10,d11,_⟩:=hX.tw;refine bodyPost_ret (v:=.tuple #[.agg #[.int .u8 k,.slice P n c,.string ⟨#[]⟩,.int .i64 i,.int .i64 0,.int .i64 m,.int .u8 0,.int .i64 0,.string ⟨#[]⟩,.slice none 0 0,.slice none 0 0,.string s],.int .i64 1]) (by simp [results,Tryz.results12,go_sem,d0,d1,d2,d3,d4,d5,d6,d7,d8,d9,d10,d11]) rfl ?_
      have hl:=HR.out.1;subst hl;have hk3:h.kq=3:=by simpa using e3
      refine ⟨hB,⟨k,qs,⟨#[]⟩,i,0,m,noG,s⟩,P,none,none,c,0,0,1,rfl,⟨hW,HPN.out,zcw _ _⟩,⟨hn5,HR.out.2.2.1,zb1,by show (0:Nat)<=200001;omega,?_,.inr ⟨rfl,h,HR.out.2.1,.inr (.inl ⟨hk3,rfl,rfl,rfl,?_⟩)⟩,.inl (by show (0:Nat)<=40;omega)⟩⟩
      ·rcases H5.out.2 with ⟨_,_,_,hs⟩ | ⟨_,hs,_⟩
       ·show s.size<=41
        rw [hs];have:=zax x.s;have e1:(strX++plainB x.s).size=1+(plainB x.s).size:=by rw [ByteArray.size_append];rfl
        omega
       ·show s.size<=41
        rw [hs]
        decide
      ·rcases H5.out.2 with ⟨h8,hi,hm,hs⟩ | ⟨h9,hs,hi⟩
       ·exact .inl ⟨h8,hi,hm,x.s,hs⟩
       ·exact .inr ⟨h9,hs,hi⟩
    ·rcases Nat.eq_zero_or_pos n with hn0 | hn0
     ·have hn0':¬ 0<n:=by omega
      clear hn0;have e2:(h.kq == 2)=false:=by simp;omega
      have e3:(h.kq == 3)=false:=by simp;omega
      have e4:(h.kq == 4)=true:=by simp;omega
      have e5:(h.kq == 5)=false:=by simp;omega
      have HK:=hid hkr;clear hkr hk
      skip
      have X0:=fun o=>zab o x0
      have X1:=fun o=>zab o x1
      have X2:=fun o=>zab o x2
      have X3:=fun o=>zab o x3
      have X4:=fun o=>zab o x4
      obtain ⟨a0,a1,a2,a3,a4,a5,a6⟩:=zal HO.out.a;have A0:=fun o=>zab o a0
      have A1:=fun o=>zab o a1
      have A2:=fun o=>zab o a2
      have A3:=fun o=>zab o a3
      have A4:=fun o=>zab o a4
      have A5:=fun o=>zab o a5
      have A6:=fun o=>zab o a6
      have z0:=fun o=>(HO.out.r.alloc o).tw.f0
      have z1:=fun o=>(HO.out.r.alloc o).tw.f1
      have z2:=fun o=>(HO.out.r.alloc o).tw.f2
      have z3:=fun o=>(HO.out.r.alloc o).tw.f3
      have z4:=fun o=>(HO.out.r.alloc o).tw.f4
      have z5:=fun o=>(HO.out.r.alloc o).tw.f5
      have z6:=fun o=>(HO.out.r.alloc o).tw.f6
      have z7:=fun o=>(HO.out.r.alloc o).tw.f7
      have z8:=fun o=>(HO.out.r.alloc o).tw.f8
      have z9:=fun o=>(HO.out.r.alloc o).tw.f9
      have z10:=fun o=>(HO.out.r.alloc o).tw.f10
      have z11:=fun o=>(HO.out.r.alloc o).tw.f11
      have zc0:=fun o=>(HO.out.r.alloc o).tw.c0
      have zc1:=fun o=>(HO.out.r.alloc o).tw.c1
      have zc2:=fun o=>(HO.out.r.alloc o).tw.c2
      have zc3:=fun o=>(HO.out.r.alloc o).tw.c3
      have zc4:=fun o=>(HO.out.r.alloc o).tw.c4
      have zc5:=fun o=>(HO.out.r.alloc o).tw.c5
      have zc6:=fun o=>(HO.out.r.alloc o).tw.c6
      have zc7:=fun o=>(HO.out.r.alloc o).tw.c7
      have zc8:=fun o=>(HO.out.r.alloc o).tw.c8
      have zc9:=fun o=>(HO.out.r.alloc o).tw.c9
      have zc10:=fun o=>(HO.out.r.alloc o).tw.c10
      have zc11:=fun o=>(HO.out.r.alloc o).tw.c11
      have hne1:(wr.heap.size=w.heap.size+1+1)=False:=by have:=HO.out.r.lt;simp;omega
      have hne2:(w.heap.size+1+1=wr.heap.size)=False:=by have:=HO.out.r.lt;simp;omega
      go_wp2_with (go_at_call 24;refine (HLS.out P n c h.il.length _ (HO.out.below.alloc HO.out.below.size (.cells #[.int .u8 0,.slice P n c,.string ⟨#[]⟩,.int .i64 0,.int .i64 0,.int .i64 0,.int .u8 0,.int .i64 0,.string ⟨#[]⟩,.slice none 0 0,.slice none 0 0,.string ⟨#[]⟩] 45)) (by have:=HPW.out;omega)).mono ?_;rintro e w5 ⟨k,i,j,g5,CL,CO,fL,fO,rfl,hv,hg5,hq,hb⟩;have H5:=hid (And.intro hb (And.intro hq (And.intro hv hg5)));clear hb hq hv hg5;have HC5:=hid ((Whole.new wr 45 #[.int .u8 0,.slice P n c,.string ⟨#[]⟩,.int .i64 0,.int .i64 0,.int .i64 0,.int .u8 0,.int .i64 0,.string ⟨#[]⟩,.slice none 0 0,.slice none 0 0,.string ⟨#[]⟩]).below H5.out.1 (by simp));have HR5:=hid ((HO.out.r.alloc (.cells #[.int .u8 0,.slice P n c,.string ⟨#[]⟩,.int .i64 0,.int .i64 0,.int .i64 0,.int .u8 0,.int .i64 0,.string ⟨#[]⟩,.slice none 0 0,.slice none 0 0,.string ⟨#[]⟩] 45)).below H5.out.1 (by have:=HO.out.r.lt;simp;omega));obtain ⟨c0,c1,c2,c3,c4,c5,c6,c7,c8,c9,c10,c11,y0,y1,y2,y3,y4,y5,y6,y7,y8,y9,y10,y11⟩:=HC5.out.tw;clear z0 z1 z2 z3 z4 z5 z6 z7 z8 z9 z10 z11 zc0 zc1 zc2 zc3 zc4 zc5 zc6 zc7 zc8 zc9 zc10 zc11;obtain ⟨_,_,_,_,_,_,_,_,_,_,_,_,z0,z1,z2,z3,z4,z5,z6,z7,z8,z9,z10,z11⟩:=HR5.out.tw;clear X0 X1 X2 X3 X4 A0 A1 A2 A3 A4 A5 A6 x0 x1 x2 x3 x4 a0 a1 a2 a3 a4 a5 a6 f0 f1 f2 f3 f4)
      have hRl:=HO.out.r.lt;have hX:=put12 (far12 (b:=wr.heap.size) (HR5.out) (by first | omega | (simp;omega)) (.int .u8 k) (.slice P n c) (.string ⟨#[]⟩) (.int .i64 i) (.int .i64 j) (.int .i64 0) (.int .u8 g5.kq) (.int .i64 g5.num) (.string g5.str) (.slice CL g5.il.length fL) (.slice CO g5.vz.length fO) (.string ⟨#[]⟩)) (.int .u8 k) (.slice P n c) (.string ⟨#[]⟩) (.int .i64 i) (.int .i64 j) (.int .i64 0) (.int .u8 g5.kq) (.int .i64 g5.num) (.string g5.str) (.slice CL g5.il.length fL) (.slice CO g5.vz.length fO) (.string ⟨#[]⟩)
      have hsw:=HO.out.below.size;have hB:=(below12 (b:=w.heap.size+1+1) ((below12 (b:=wr.heap.size) (((HO.out.below.alloc HO.out.below.size (.cells #[.int .u8 0,.slice P n c,.string ⟨#[]⟩,.int .i64 0,.int .i64 0,.int .i64 0,.int .u8 0,.int .i64 0,.string ⟨#[]⟩,.slice none 0 0,.slice none 0 0,.string ⟨#[]⟩] 45)).trans (H5.out.1.mono (by simp;omega)))) (by first | omega | (simp;omega) | simp) (.int .u8 k) (.slice P n c) (.string ⟨#[]⟩) (.int .i64 i) (.int .i64 j) (.int .i64 0) (.int .u8 g5.kq) (.int .i64 g5.num) (.string g5.str) (.slice CL g5.il.length fL) (.slice CO g5.vz.length fO) (.string ⟨#[]⟩))) (by first | omega | (simp;omega) | simp) (.int .u8 k) (.slice P n c) (.string ⟨#[]⟩) (.int .i64 i) (.int .i64 j) (.int .i64 0) (.int .u8 g5.kq) (.int .i64 g5.num) (.string g5.str) (.slice CL g5.il.length fL) (.slice CO g5.vz.length fO) (.string ⟨#[]⟩))
      have hK:=(k212 (b:=w.heap.size+1+1) ((k212 (b:=wr.heap.size) ((K2.refl (w.heap.size+1+1) wr.heap.size w5)) (.inr rfl) (.int .u8 k) (.slice P n c) (.string ⟨#[]⟩) (.int .i64 i) (.int .i64 j) (.int .i64 0) (.int .u8 g5.kq) (.int .i64 g5.num) (.string g5.str) (.slice CL g5.il.length fL) (.slice CO g5.vz.length fO) (.string ⟨#[]⟩))) (.inl rfl) (.int .u8 k) (.slice P n c) (.string ⟨#[]⟩) (.int .i64 i) (.int .i64 j) (.int .i64 0) (.int .u8 g5.kq) (.int .i64 g5.num) (.string g5.str) (.slice CL g5.il.length fL) (.slice CO g5.vz.length fO) (.string ⟨#[]⟩));have hW:=HR.out.2.2.2.1.two HO.out.r zba (.inl (Nat.le_refl _)) ((zaa wr (.cells #[.int .u8 0,.slice P n c,.string ⟨#[]⟩,.int .i64 0,.int .i64 0,.int .i64 0,.int .u8 0,.int .i64 0,.string ⟨#[]⟩,.slice none 0 0,.slice none 0 0,.string ⟨#[]⟩] 45)).trans (H5.out.1.mono (by simp))) hK
      obtain ⟨d0,d1,d2,d3,d4,d5,d6,d7,d8,d9,d10,d11,_⟩:=hX.tw;refine bodyPost_ret (v:=.tuple #[.agg #[.int .u8 k,.slice P n c,.string ⟨#[]⟩,.int .i64 i,.int .i64 j,.int .i64 0,.int .u8 g5.kq,.int .i64 g5.num,.string g5.str,.slice CL g5.il.length fL,.slice CO g5.vz.length fO,.string ⟨#[]⟩],.int .i64 1]) (by simp [results,Tryz.results12,go_sem,d0,d1,d2,d3,d4,d5,d6,d7,d8,d9,d10,d11]) rfl ?_
      have hl:=HR.out.1;subst hl;have hk4:h.kq=4:=by simpa using e4
      exact ⟨hB,⟨k,qs,⟨#[]⟩,i,j,0,g5,⟨#[]⟩⟩,P,CL,CO,c,fL,fO,1,rfl,⟨hW,HPN.out,H5.out.2.2.1.1.keep (fun k hk1 hl=>hK.2 k (by simp at hk1;omega) (by simp at hk1;omega) hl) (fun k hk1 _=>by have:=HO.out.below.size;simp at hk1;omega),H5.out.2.2.1.2.keep (fun k hk1 hl=>hK.2 k (by simp at hk1;omega) (by simp at hk1;omega) hl) (fun k hk1 _=>by have:=HO.out.below.size;simp at hk1;omega)⟩,⟨hn5,HR.out.2.2.1,H5.out.2.2.2,by show (0:Nat)<=200001;omega,by show (0:Nat)<=41;omega,.inr ⟨rfl,h,HR.out.2.1,.inr (.inr (.inl ⟨hk4,rfl,rfl,rfl,k,i,j,rfl,rfl,rfl,H5.out.2.1⟩))⟩,.inl (by show (0:Nat)<=40;omega)⟩⟩
     ·
      have e2:(h.kq == 2)=false:=by simp;omega
      have e3:(h.kq == 3)=false:=by simp;omega
      have e4:(h.kq == 4)=true:=by simp;omega
      have e5:(h.kq == 5)=false:=by simp;omega
      have HK:=hid hkr;clear hkr hk
      skip
      have X0:=fun o=>zab o x0
      have X1:=fun o=>zab o x1
      have X2:=fun o=>zab o x2
      have X3:=fun o=>zab o x3
      have X4:=fun o=>zab o x4
      obtain ⟨a0,a1,a2,a3,a4,a5,a6⟩:=zal HO.out.a;have A0:=fun o=>zab o a0
      have A1:=fun o=>zab o a1
      have A2:=fun o=>zab o a2
      have A3:=fun o=>zab o a3
      have A4:=fun o=>zab o a4
      have A5:=fun o=>zab o a5
      have A6:=fun o=>zab o a6
      have z0:=fun o=>(HO.out.r.alloc o).tw.f0
      have z1:=fun o=>(HO.out.r.alloc o).tw.f1
      have z2:=fun o=>(HO.out.r.alloc o).tw.f2
      have z3:=fun o=>(HO.out.r.alloc o).tw.f3
      have z4:=fun o=>(HO.out.r.alloc o).tw.f4
      have z5:=fun o=>(HO.out.r.alloc o).tw.f5
      have z6:=fun o=>(HO.out.r.alloc o).tw.f6
      have z7:=fun o=>(HO.out.r.alloc o).tw.f7
      have z8:=fun o=>(HO.out.r.alloc o).tw.f8
      have z9:=fun o=>(HO.out.r.alloc o).tw.f9
      have z10:=fun o=>(HO.out.r.alloc o).tw.f10
      have z11:=fun o=>(HO.out.r.alloc o).tw.f11
      have zc0:=fun o=>(HO.out.r.alloc o).tw.c0
      have zc1:=fun o=>(HO.out.r.alloc o).tw.c1
      have zc2:=fun o=>(HO.out.r.alloc o).tw.c2
      have zc3:=fun o=>(HO.out.r.alloc o).tw.c3
      have zc4:=fun o=>(HO.out.r.alloc o).tw.c4
      have zc5:=fun o=>(HO.out.r.alloc o).tw.c5
      have zc6:=fun o=>(HO.out.r.alloc o).tw.c6
      have zc7:=fun o=>(HO.out.r.alloc o).tw.c7
      have zc8:=fun o=>(HO.out.r.alloc o).tw.c8
      have zc9:=fun o=>(HO.out.r.alloc o).tw.c9
      have zc10:=fun o=>(HO.out.r.alloc o).tw.c10
      have zc11:=fun o=>(HO.out.r.alloc o).tw.c11
      have hne1:(wr.heap.size=w.heap.size+1+1)=False:=by have:=HO.out.r.lt;simp;omega
      have hne2:(w.heap.size+1+1=wr.heap.size)=False:=by have:=HO.out.r.lt;simp;omega
      go_wp2_with (go_at_call 24;refine (HLS.out P n c h.il.length _ (HO.out.below.alloc HO.out.below.size (.cells #[.int .u8 0,.slice P n c,.string ⟨#[]⟩,.int .i64 0,.int .i64 0,.int .i64 0,.int .u8 0,.int .i64 0,.string ⟨#[]⟩,.slice none 0 0,.slice none 0 0,.string ⟨#[]⟩] 45)) (by have:=HPW.out;omega)).mono ?_;rintro e w5 ⟨k,i,j,g5,CL,CO,fL,fO,rfl,hv,hg5,hq,hb⟩;have H5:=hid (And.intro hb (And.intro hq (And.intro hv hg5)));clear hb hq hv hg5;have HC5:=hid ((Whole.new wr 45 #[.int .u8 0,.slice P n c,.string ⟨#[]⟩,.int .i64 0,.int .i64 0,.int .i64 0,.int .u8 0,.int .i64 0,.string ⟨#[]⟩,.slice none 0 0,.slice none 0 0,.string ⟨#[]⟩]).below H5.out.1 (by simp));have HR5:=hid ((HO.out.r.alloc (.cells #[.int .u8 0,.slice P n c,.string ⟨#[]⟩,.int .i64 0,.int .i64 0,.int .i64 0,.int .u8 0,.int .i64 0,.string ⟨#[]⟩,.slice none 0 0,.slice none 0 0,.string ⟨#[]⟩] 45)).below H5.out.1 (by have:=HO.out.r.lt;simp;omega));obtain ⟨c0,c1,c2,c3,c4,c5,c6,c7,c8,c9,c10,c11,y0,y1,y2,y3,y4,y5,y6,y7,y8,y9,y10,y11⟩:=HC5.out.tw;clear z0 z1 z2 z3 z4 z5 z6 z7 z8 z9 z10 z11 zc0 zc1 zc2 zc3 zc4 zc5 zc6 zc7 zc8 zc9 zc10 zc11;obtain ⟨_,_,_,_,_,_,_,_,_,_,_,_,z0,z1,z2,z3,z4,z5,z6,z7,z8,z9,z10,z11⟩:=HR5.out.tw;clear X0 X1 X2 X3 X4 A0 A1 A2 A3 A4 A5 A6 x0 x1 x2 x3 x4 a0 a1 a2 a3 a4 a5 a6 f0 f1 f2 f3 f4)
      have hRl:=HO.out.r.lt;have hX:=put12 (far12 (b:=wr.heap.size) (HR5.out) (by first | omega | (simp;omega)) (.int .u8 k) (.slice P n c) (.string ⟨#[]⟩) (.int .i64 i) (.int .i64 j) (.int .i64 0) (.int .u8 g5.kq) (.int .i64 g5.num) (.string g5.str) (.slice CL g5.il.length fL) (.slice CO g5.vz.length fO) (.string ⟨#[]⟩)) (.int .u8 k) (.slice P n c) (.string ⟨#[]⟩) (.int .i64 i) (.int .i64 j) (.int .i64 0) (.int .u8 g5.kq) (.int .i64 g5.num) (.string g5.str) (.slice CL g5.il.length fL) (.slice CO g5.vz.length fO) (.string ⟨#[]⟩)
      have hsw:=HO.out.below.size;have hB:=(below12 (b:=w.heap.size+1+1) ((below12 (b:=wr.heap.size) (((HO.out.below.alloc HO.out.below.size (.cells #[.int .u8 0,.slice P n c,.string ⟨#[]⟩,.int .i64 0,.int .i64 0,.int .i64 0,.int .u8 0,.int .i64 0,.string ⟨#[]⟩,.slice none 0 0,.slice none 0 0,.string ⟨#[]⟩] 45)).trans (H5.out.1.mono (by simp;omega)))) (by first | omega | (simp;omega) | simp) (.int .u8 k) (.slice P n c) (.string ⟨#[]⟩) (.int .i64 i) (.int .i64 j) (.int .i64 0) (.int .u8 g5.kq) (.int .i64 g5.num) (.string g5.str) (.slice CL g5.il.length fL) (.slice CO g5.vz.length fO) (.string ⟨#[]⟩))) (by first | omega | (simp;omega) | simp) (.int .u8 k) (.slice P n c) (.string ⟨#[]⟩) (.int .i64 i) (.int .i64 j) (.int .i64 0) (.int .u8 g5.kq) (.int .i64 g5.num) (.string g5.str) (.slice CL g5.il.length fL) (.slice CO g5.vz.length fO) (.string ⟨#[]⟩))
      have hK:=(k212 (b:=w.heap.size+1+1) ((k212 (b:=wr.heap.size) ((K2.refl (w.heap.size+1+1) wr.heap.size w5)) (.inr rfl) (.int .u8 k) (.slice P n c) (.string ⟨#[]⟩) (.int .i64 i) (.int .i64 j) (.int .i64 0) (.int .u8 g5.kq) (.int .i64 g5.num) (.string g5.str) (.slice CL g5.il.length fL) (.slice CO g5.vz.length fO) (.string ⟨#[]⟩))) (.inl rfl) (.int .u8 k) (.slice P n c) (.string ⟨#[]⟩) (.int .i64 i) (.int .i64 j) (.int .i64 0) (.int .u8 g5.kq) (.int .i64 g5.num) (.string g5.str) (.slice CL g5.il.length fL) (.slice CO g5.vz.length fO) (.string ⟨#[]⟩));have hW:=HR.out.2.2.2.1.two HO.out.r zba (.inl (Nat.le_refl _)) ((zaa wr (.cells #[.int .u8 0,.slice P n c,.string ⟨#[]⟩,.int .i64 0,.int .i64 0,.int .i64 0,.int .u8 0,.int .i64 0,.string ⟨#[]⟩,.slice none 0 0,.slice none 0 0,.string ⟨#[]⟩] 45)).trans (H5.out.1.mono (by simp))) hK
      obtain ⟨d0,d1,d2,d3,d4,d5,d6,d7,d8,d9,d10,d11,_⟩:=hX.tw;refine bodyPost_ret (v:=.tuple #[.agg #[.int .u8 k,.slice P n c,.string ⟨#[]⟩,.int .i64 i,.int .i64 j,.int .i64 0,.int .u8 g5.kq,.int .i64 g5.num,.string g5.str,.slice CL g5.il.length fL,.slice CO g5.vz.length fO,.string ⟨#[]⟩],.int .i64 1]) (by simp [results,Tryz.results12,go_sem,d0,d1,d2,d3,d4,d5,d6,d7,d8,d9,d10,d11]) rfl ?_
      have hl:=HR.out.1;subst hl;have hk4:h.kq=4:=by simpa using e4
      exact ⟨hB,⟨k,qs,⟨#[]⟩,i,j,0,g5,⟨#[]⟩⟩,P,CL,CO,c,fL,fO,1,rfl,⟨hW,HPN.out,H5.out.2.2.1.1.keep (fun k hk1 hl=>hK.2 k (by simp at hk1;omega) (by simp at hk1;omega) hl) (fun k hk1 _=>by have:=HO.out.below.size;simp at hk1;omega),H5.out.2.2.1.2.keep (fun k hk1 hl=>hK.2 k (by simp at hk1;omega) (by simp at hk1;omega) hl) (fun k hk1 _=>by have:=HO.out.below.size;simp at hk1;omega)⟩,⟨hn5,HR.out.2.2.1,H5.out.2.2.2,by show (0:Nat)<=200001;omega,by show (0:Nat)<=41;omega,.inr ⟨rfl,h,HR.out.2.1,.inr (.inr (.inl ⟨hk4,rfl,rfl,rfl,k,i,j,rfl,rfl,rfl,H5.out.2.1⟩))⟩,.inl (by show (0:Nat)<=40;omega)⟩⟩
    ·rcases Nat.eq_zero_or_pos n with hn0 | hn0
     ·have hn0':¬ 0<n:=by omega
      clear hn0;have e2:(h.kq == 2)=false:=by simp;omega
      have e3:(h.kq == 3)=false:=by simp;omega
      have e4:(h.kq == 4)=false:=by simp;omega
      have e5:(h.kq == 5)=true:=by simp;omega
      have HK:=hid hkr;clear hkr hk
      skip
      have X0:=fun o=>zab o x0
      have X1:=fun o=>zab o x1
      have X2:=fun o=>zab o x2
      have X3:=fun o=>zab o x3
      have X4:=fun o=>zab o x4
      obtain ⟨a0,a1,a2,a3,a4,a5,a6⟩:=zal HO.out.a;have A0:=fun o=>zab o a0
      have A1:=fun o=>zab o a1
      have A2:=fun o=>zab o a2
      have A3:=fun o=>zab o a3
      have A4:=fun o=>zab o a4
      have A5:=fun o=>zab o a5
      have A6:=fun o=>zab o a6
      have z0:=fun o=>(HO.out.r.alloc o).tw.f0
      have z1:=fun o=>(HO.out.r.alloc o).tw.f1
      have z2:=fun o=>(HO.out.r.alloc o).tw.f2
      have z3:=fun o=>(HO.out.r.alloc o).tw.f3
      have z4:=fun o=>(HO.out.r.alloc o).tw.f4
      have z5:=fun o=>(HO.out.r.alloc o).tw.f5
      have z6:=fun o=>(HO.out.r.alloc o).tw.f6
      have z7:=fun o=>(HO.out.r.alloc o).tw.f7
      have z8:=fun o=>(HO.out.r.alloc o).tw.f8
      have z9:=fun o=>(HO.out.r.alloc o).tw.f9
      have z10:=fun o=>(HO.out.r.alloc o).tw.f10
      have z11:=fun o=>(HO.out.r.alloc o).tw.f11
      have zc0:=fun o=>(HO.out.r.alloc o).tw.c0
      have zc1:=fun o=>(HO.out.r.alloc o).tw.c1
      have zc2:=fun o=>(HO.out.r.alloc o).tw.c2
      have zc3:=fun o=>(HO.out.r.alloc o).tw.c3
      have zc4:=fun o=>(HO.out.r.alloc o).tw.c4
      have zc5:=fun o=>(HO.out.r.alloc o).tw.c5
      have zc6:=fun o=>(HO.out.r.alloc o).tw.c6
      have zc7:=fun o=>(HO.out.r.alloc o).tw.c7
      have zc8:=fun o=>(HO.out.r.alloc o).tw.c8
      have zc9:=fun o=>(HO.out.r.alloc o).tw.c9
      have zc10:=fun o=>(HO.out.r.alloc o).tw.c10
      have zc11:=fun o=>(HO.out.r.alloc o).tw.c11
      have hne1:(wr.heap.size=w.heap.size+1+1)=False:=by have:=HO.out.r.lt;simp;omega
      have hne2:(w.heap.size+1+1=wr.heap.size)=False:=by have:=HO.out.r.lt;simp;omega
      have hk5:h.kq=5:=by simpa using e5
      have HKV:=hid (zfd HR.out.2.2.2.2 hk5 HPW.out.2);clear hk5;have HVX:=hid (HO.out.vl.later (zaa wr (.cells #[.int .u8 0,.slice P n c,.string ⟨#[]⟩,.int .i64 0,.int .i64 0,.int .i64 0,.int .u8 0,.int .i64 0,.string ⟨#[]⟩,.slice none 0 0,.slice none 0 0,.string ⟨#[]⟩] 45)))
      go_wp2_with (go_at_call 25;refine (HFL.out P n c h BL BO eL eO _ (HO.out.below.alloc HO.out.below.size (.cells #[.int .u8 0,.slice P n c,.string ⟨#[]⟩,.int .i64 0,.int .i64 0,.int .i64 0,.int .u8 0,.int .i64 0,.string ⟨#[]⟩,.slice none 0 0,.slice none 0 0,.string ⟨#[]⟩] 45)) HVX.out HKV.out (by have:=HPW.out;omega)).mono ?_;rintro e w5 ⟨k,key,g5,CL,CO,fL,fO,rfl,hv,hg5,hq,hb⟩;have H5:=hid (And.intro hb (And.intro hq (And.intro hv hg5)));clear hb hq hv hg5;have HC5:=hid ((Whole.new wr 45 #[.int .u8 0,.slice P n c,.string ⟨#[]⟩,.int .i64 0,.int .i64 0,.int .i64 0,.int .u8 0,.int .i64 0,.string ⟨#[]⟩,.slice none 0 0,.slice none 0 0,.string ⟨#[]⟩]).below H5.out.1 (by simp));have HR5:=hid ((HO.out.r.alloc (.cells #[.int .u8 0,.slice P n c,.string ⟨#[]⟩,.int .i64 0,.int .i64 0,.int .i64 0,.int .u8 0,.int .i64 0,.string ⟨#[]⟩,.slice none 0 0,.slice none 0 0,.string ⟨#[]⟩] 45)).below H5.out.1 (by have:=HO.out.r.lt;simp;omega));obtain ⟨c0,c1,c2,c3,c4,c5,c6,c7,c8,c9,c10,c11,y0,y1,y2,y3,y4,y5,y6,y7,y8,y9,y10,y11⟩:=HC5.out.tw;clear z0 z1 z2 z3 z4 z5 z6 z7 z8 z9 z10 z11 zc0 zc1 zc2 zc3 zc4 zc5 zc6 zc7 zc8 zc9 zc10 zc11;obtain ⟨_,_,_,_,_,_,_,_,_,_,_,_,z0,z1,z2,z3,z4,z5,z6,z7,z8,z9,z10,z11⟩:=HR5.out.tw;clear X0 X1 X2 X3 X4 A0 A1 A2 A3 A4 A5 A6 x0 x1 x2 x3 x4 a0 a1 a2 a3 a4 a5 a6 f0 f1 f2 f3 f4)
      have hRl:=HO.out.r.lt;have hX:=put12 (far12 (b:=wr.heap.size) (HR5.out) (by first | omega | (simp;omega)) (.int .u8 k) (.slice P n c) (.string key) (.int .i64 0) (.int .i64 0) (.int .i64 0) (.int .u8 g5.kq) (.int .i64 g5.num) (.string g5.str) (.slice CL g5.il.length fL) (.slice CO g5.vz.length fO) (.string ⟨#[]⟩)) (.int .u8 k) (.slice P n c) (.string key) (.int .i64 0) (.int .i64 0) (.int .i64 0) (.int .u8 g5.kq) (.int .i64 g5.num) (.string g5.str) (.slice CL g5.il.length fL) (.slice CO g5.vz.length fO) (.string ⟨#[]⟩)
      have hsw:=HO.out.below.size;have hB:=(below12 (b:=w.heap.size+1+1) ((below12 (b:=wr.heap.size) (((HO.out.below.alloc HO.out.below.size (.cells #[.int .u8 0,.slice P n c,.string ⟨#[]⟩,.int .i64 0,.int .i64 0,.int .i64 0,.int .u8 0,.int .i64 0,.string ⟨#[]⟩,.slice none 0 0,.slice none 0 0,.string ⟨#[]⟩] 45)).trans (H5.out.1.mono (by simp;omega)))) (by first | omega | (simp;omega) | simp) (.int .u8 k) (.slice P n c) (.string key) (.int .i64 0) (.int .i64 0) (.int .i64 0) (.int .u8 g5.kq) (.int .i64 g5.num) (.string g5.str) (.slice CL g5.il.length fL) (.slice CO g5.vz.length fO) (.string ⟨#[]⟩))) (by first | omega | (simp;omega) | simp) (.int .u8 k) (.slice P n c) (.string key) (.int .i64 0) (.int .i64 0) (.int .i64 0) (.int .u8 g5.kq) (.int .i64 g5.num) (.string g5.str) (.slice CL g5.il.length fL) (.slice CO g5.vz.length fO) (.string ⟨#[]⟩))
      have hK:=(k212 (b:=w.heap.size+1+1) ((k212 (b:=wr.heap.size) ((K2.refl (w.heap.size+1+1) wr.heap.size w5)) (.inr rfl) (.int .u8 k) (.slice P n c) (.string key) (.int .i64 0) (.int .i64 0) (.int .i64 0) (.int .u8 g5.kq) (.int .i64 g5.num) (.string g5.str) (.slice CL g5.il.length fL) (.slice CO g5.vz.length fO) (.string ⟨#[]⟩))) (.inl rfl) (.int .u8 k) (.slice P n c) (.string key) (.int .i64 0) (.int .i64 0) (.int .i64 0) (.int .u8 g5.kq) (.int .i64 g5.num) (.string g5.str) (.slice CL g5.il.length fL) (.slice CO g5.vz.length fO) (.string ⟨#[]⟩));have hW:=HR.out.2.2.2.1.two HO.out.r zba (.inl (Nat.le_refl _)) ((zaa wr (.cells #[.int .u8 0,.slice P n c,.string ⟨#[]⟩,.int .i64 0,.int .i64 0,.int .i64 0,.int .u8 0,.int .i64 0,.string ⟨#[]⟩,.slice none 0 0,.slice none 0 0,.string ⟨#[]⟩] 45)).trans (H5.out.1.mono (by simp))) hK
      obtain ⟨d0,d1,d2,d3,d4,d5,d6,d7,d8,d9,d10,d11,_⟩:=hX.tw;refine bodyPost_ret (v:=.tuple #[.agg #[.int .u8 k,.slice P n c,.string key,.int .i64 0,.int .i64 0,.int .i64 0,.int .u8 g5.kq,.int .i64 g5.num,.string g5.str,.slice CL g5.il.length fL,.slice CO g5.vz.length fO,.string ⟨#[]⟩],.int .i64 1]) (by simp [results,Tryz.results12,go_sem,d0,d1,d2,d3,d4,d5,d6,d7,d8,d9,d10,d11]) rfl ?_
      have hl:=HR.out.1;subst hl;have hk5:h.kq=5:=by simpa using e5
      refine ⟨hB,⟨k,qs,key,0,0,0,g5,⟨#[]⟩⟩,P,CL,CO,c,fL,fO,1,rfl,⟨hW,HPN.out,H5.out.2.2.1.1.keep (fun k hk1 hl=>hK.2 k (by simp at hk1;omega) (by simp at hk1;omega) hl) (fun k hk1 _=>by have:=HO.out.below.size;simp at hk1;omega),H5.out.2.2.1.2.keep (fun k hk1 hl=>hK.2 k (by simp at hk1;omega) (by simp at hk1;omega) hl) (fun k hk1 _=>by have:=HO.out.below.size;simp at hk1;omega)⟩,⟨hn5,HR.out.2.2.1,H5.out.2.2.2,H5.out.2.1.2.2.1,by show (0:Nat)<=41;omega,.inr ⟨rfl,h,HR.out.2.1,.inr (.inr (.inr ⟨hk5,rfl,rfl,rfl,rfl,H5.out.2.1.2.1,?_⟩))⟩,H5.out.2.1.2.2.2.imp id (fun hm=>⟨h,HR.out.2.1,hm⟩)⟩⟩
      rcases H5.out.2.1.1 with hk | ⟨hk,ht,hg⟩
      ·exact .inl (by show (k:Int)=2;omega)
      ·exact .inr ⟨by show (k:Int)=3;omega,ht,hg⟩
     ·
      have e2:(h.kq == 2)=false:=by simp;omega
      have e3:(h.kq == 3)=false:=by simp;omega
      have e4:(h.kq == 4)=false:=by simp;omega
      have e5:(h.kq == 5)=true:=by simp;omega
      have HK:=hid hkr;clear hkr hk
      skip
      have X0:=fun o=>zab o x0
      have X1:=fun o=>zab o x1
      have X2:=fun o=>zab o x2
      have X3:=fun o=>zab o x3
      have X4:=fun o=>zab o x4
      obtain ⟨a0,a1,a2,a3,a4,a5,a6⟩:=zal HO.out.a;have A0:=fun o=>zab o a0
      have A1:=fun o=>zab o a1
      have A2:=fun o=>zab o a2
      have A3:=fun o=>zab o a3
      have A4:=fun o=>zab o a4
      have A5:=fun o=>zab o a5
      have A6:=fun o=>zab o a6
      have z0:=fun o=>(HO.out.r.alloc o).tw.f0
      have z1:=fun o=>(HO.out.r.alloc o).tw.f1
      have z2:=fun o=>(HO.out.r.alloc o).tw.f2
      have z3:=fun o=>(HO.out.r.alloc o).tw.f3
      have z4:=fun o=>(HO.out.r.alloc o).tw.f4
      have z5:=fun o=>(HO.out.r.alloc o).tw.f5
      have z6:=fun o=>(HO.out.r.alloc o).tw.f6
      have z7:=fun o=>(HO.out.r.alloc o).tw.f7
      have z8:=fun o=>(HO.out.r.alloc o).tw.f8
      have z9:=fun o=>(HO.out.r.alloc o).tw.f9
      have z10:=fun o=>(HO.out.r.alloc o).tw.f10
      have z11:=fun o=>(HO.out.r.alloc o).tw.f11
      have zc0:=fun o=>(HO.out.r.alloc o).tw.c0
      have zc1:=fun o=>(HO.out.r.alloc o).tw.c1
      have zc2:=fun o=>(HO.out.r.alloc o).tw.c2
      have zc3:=fun o=>(HO.out.r.alloc o).tw.c3
      have zc4:=fun o=>(HO.out.r.alloc o).tw.c4
      have zc5:=fun o=>(HO.out.r.alloc o).tw.c5
      have zc6:=fun o=>(HO.out.r.alloc o).tw.c6
      have zc7:=fun o=>(HO.out.r.alloc o).tw.c7
      have zc8:=fun o=>(HO.out.r.alloc o).tw.c8
      have zc9:=fun o=>(HO.out.r.alloc o).tw.c9
      have zc10:=fun o=>(HO.out.r.alloc o).tw.c10
      have zc11:=fun o=>(HO.out.r.alloc o).tw.c11
      have hne1:(wr.heap.size=w.heap.size+1+1)=False:=by have:=HO.out.r.lt;simp;omega
      have hne2:(w.heap.size+1+1=wr.heap.size)=False:=by have:=HO.out.r.lt;simp;omega
      have hk5:h.kq=5:=by simpa using e5
      have HKV:=hid (zfd HR.out.2.2.2.2 hk5 HPW.out.2);clear hk5;have HVX:=hid (HO.out.vl.later (zaa wr (.cells #[.int .u8 0,.slice P n c,.string ⟨#[]⟩,.int .i64 0,.int .i64 0,.int .i64 0,.int .u8 0,.int .i64 0,.string ⟨#[]⟩,.slice none 0 0,.slice none 0 0,.string ⟨#[]⟩] 45)))
      go_wp2_with (go_at_call 25;refine (HFL.out P n c h BL BO eL eO _ (HO.out.below.alloc HO.out.below.size (.cells #[.int .u8 0,.slice P n c,.string ⟨#[]⟩,.int .i64 0,.int .i64 0,.int .i64 0,.int .u8 0,.int .i64 0,.string ⟨#[]⟩,.slice none 0 0,.slice none 0 0,.string ⟨#[]⟩] 45)) HVX.out HKV.out (by have:=HPW.out;omega)).mono ?_;rintro e w5 ⟨k,key,g5,CL,CO,fL,fO,rfl,hv,hg5,hq,hb⟩;have H5:=hid (And.intro hb (And.intro hq (And.intro hv hg5)));clear hb hq hv hg5;have HC5:=hid ((Whole.new wr 45 #[.int .u8 0,.slice P n c,.string ⟨#[]⟩,.int .i64 0,.int .i64 0,.int .i64 0,.int .u8 0,.int .i64 0,.string ⟨#[]⟩,.slice none 0 0,.slice none 0 0,.string ⟨#[]⟩]).below H5.out.1 (by simp));have HR5:=hid ((HO.out.r.alloc (.cells #[.int .u8 0,.slice P n c,.string ⟨#[]⟩,.int .i64 0,.int .i64 0,.int .i64 0,.int .u8 0,.int .i64 0,.string ⟨#[]⟩,.slice none 0 0,.slice none 0 0,.string ⟨#[]⟩] 45)).below H5.out.1 (by have:=HO.out.r.lt;simp;omega));obtain ⟨c0,c1,c2,c3,c4,c5,c6,c7,c8,c9,c10,c11,y0,y1,y2,y3,y4,y5,y6,y7,y8,y9,y10,y11⟩:=HC5.out.tw;clear z0 z1 z2 z3 z4 z5 z6 z7 z8 z9 z10 z11 zc0 zc1 zc2 zc3 zc4 zc5 zc6 zc7 zc8 zc9 zc10 zc11;obtain ⟨_,_,_,_,_,_,_,_,_,_,_,_,z0,z1,z2,z3,z4,z5,z6,z7,z8,z9,z10,z11⟩:=HR5.out.tw;clear X0 X1 X2 X3 X4 A0 A1 A2 A3 A4 A5 A6 x0 x1 x2 x3 x4 a0 a1 a2 a3 a4 a5 a6 f0 f1 f2 f3 f4)
      have hRl:=HO.out.r.lt;have hX:=put12 (far12 (b:=wr.heap.size) (HR5.out) (by first | omega | (simp;omega)) (.int .u8 k) (.slice P n c) (.string key) (.int .i64 0) (.int .i64 0) (.int .i64 0) (.int .u8 g5.kq) (.int .i64 g5.num) (.string g5.str) (.slice CL g5.il.length fL) (.slice CO g5.vz.length fO) (.string ⟨#[]⟩)) (.int .u8 k) (.slice P n c) (.string key) (.int .i64 0) (.int .i64 0) (.int .i64 0) (.int .u8 g5.kq) (.int .i64 g5.num) (.string g5.str) (.slice CL g5.il.length fL) (.slice CO g5.vz.length fO) (.string ⟨#[]⟩)
      have hsw:=HO.out.below.size;have hB:=(below12 (b:=w.heap.size+1+1) ((below12 (b:=wr.heap.size) (((HO.out.below.alloc HO.out.below.size (.cells #[.int .u8 0,.slice P n c,.string ⟨#[]⟩,.int .i64 0,.int .i64 0,.int .i64 0,.int .u8 0,.int .i64 0,.string ⟨#[]⟩,.slice none 0 0,.slice none 0 0,.string ⟨#[]⟩] 45)).trans (H5.out.1.mono (by simp;omega)))) (by first | omega | (simp;omega) | simp) (.int .u8 k) (.slice P n c) (.string key) (.int .i64 0) (.int .i64 0) (.int .i64 0) (.int .u8 g5.kq) (.int .i64 g5.num) (.string g5.str) (.slice CL g5.il.length fL) (.slice CO g5.vz.length fO) (.string ⟨#[]⟩))) (by first | omega | (simp;omega) | simp) (.int .u8 k) (.slice P n c) (.string key) (.int .i64 0) (.int .i64 0) (.int .i64 0) (.int .u8 g5.kq) (.int .i64 g5.num) (.string g5.str) (.slice CL g5.il.length fL) (.slice CO g5.vz.length fO) (.string ⟨#[]⟩))
      have hK:=(k212 (b:=w.heap.size+1+1) ((k212 (b:=wr.heap.size) ((K2.refl (w.heap.size+1+1) wr.heap.size w5)) (.inr rfl) (.int .u8 k) (.slice P n c) (.string key) (.int .i64 0) (.int .i64 0) (.int .i64 0) (.int .u8 g5.kq) (.int .i64 g5.num) (.string g5.str) (.slice CL g5.il.length fL) (.slice CO g5.vz.length fO) (.string ⟨#[]⟩))) (.inl rfl) (.int .u8 k) (.slice P n c) (.string key) (.int .i64 0) (.int .i64 0) (.int .i64 0) (.int .u8 g5.kq) (.int .i64 g5.num) (.string g5.str) (.slice CL g5.il.length fL) (.slice CO g5.vz.length fO) (.string ⟨#[]⟩));have hW:=HR.out.2.2.2.1.two HO.out.r zba (.inl (Nat.le_refl _)) ((zaa wr (.cells #[.int .u8 0,.slice P n c,.string ⟨#[]⟩,.int .i64 0,.int .i64 0,.int .i64 0,.int .u8 0,.int .i64 0,.string ⟨#[]⟩,.slice none 0 0,.slice none 0 0,.string ⟨#[]⟩] 45)).trans (H5.out.1.mono (by simp))) hK
      obtain ⟨d0,d1,d2,d3,d4,d5,d6,d7,d8,d9,d10,d11,_⟩:=hX.tw;refine bodyPost_ret (v:=.tuple #[.agg #[.int .u8 k,.slice P n c,.string key,.int .i64 0,.int .i64 0,.int .i64 0,.int .u8 g5.kq,.int .i64 g5.num,.string g5.str,.slice CL g5.il.length fL,.slice CO g5.vz.length fO,.string ⟨#[]⟩],.int .i64 1]) (by simp [results,Tryz.results12,go_sem,d0,d1,d2,d3,d4,d5,d6,d7,d8,d9,d10,d11]) rfl ?_
      have hl:=HR.out.1;subst hl;have hk5:h.kq=5:=by simpa using e5
      refine ⟨hB,⟨k,qs,key,0,0,0,g5,⟨#[]⟩⟩,P,CL,CO,c,fL,fO,1,rfl,⟨hW,HPN.out,H5.out.2.2.1.1.keep (fun k hk1 hl=>hK.2 k (by simp at hk1;omega) (by simp at hk1;omega) hl) (fun k hk1 _=>by have:=HO.out.below.size;simp at hk1;omega),H5.out.2.2.1.2.keep (fun k hk1 hl=>hK.2 k (by simp at hk1;omega) (by simp at hk1;omega) hl) (fun k hk1 _=>by have:=HO.out.below.size;simp at hk1;omega)⟩,⟨hn5,HR.out.2.2.1,H5.out.2.2.2,H5.out.2.1.2.2.1,by show (0:Nat)<=41;omega,.inr ⟨rfl,h,HR.out.2.1,.inr (.inr (.inr ⟨hk5,rfl,rfl,rfl,rfl,H5.out.2.1.2.1,?_⟩))⟩,H5.out.2.1.2.2.2.imp id (fun hm=>⟨h,HR.out.2.1,hm⟩)⟩⟩
      rcases H5.out.2.1.1 with hk | ⟨hk,ht,hg⟩
      ·exact .inl (by show (k:Int)=2;omega)
      ·exact .inr ⟨by show (k:Int)=3;omega,ht,hg⟩
theorem zk2 (g GL GO gl go) (x:GAct) (AP ap AD ad w) (hv:Vl w g GL GO gl go) (hg:g.Sound) (hgw:g.weight<=200000) (hx:ActOk w x AP ap AD ad):
  Calls Tryz.prog 12 #[.agg #[.int .u8 g.kq,.int .i64 g.num,.string g.str,.slice GL g.il.length gl,.slice GO g.vz.length go],.agg #[.slice AP x.path.length ap,.int .u8 x.kq,.int .i64 x.i,.int .i64 x.j,.int .i64 x.n,.string x.s,.slice AD x.v.length ad]] w (OneIs g w):=(zl2 g GL GO gl go x AP ap AD ad w hv hg hgw hx).mono fun _ _ h=>h.is
end Go.Proofs.YtmmgdkpkcoopgaaGreatDoor
