/- Texts in one: HeavyX, OpenC, CompT. -/
import Derived.Test.YthmcfjmignlhfaaGreatDoorS15
import Derived.Test.YthmcfjmignlhfaaGreatDoorS5
import Derived.Test.YthmcfjmignlhfaaGreatDoorS1
import Derived.Test.YthmcfjmignlhfaaGreatDoorS12
import Derived.Test.YthmcfjmignlhfaaGreatDoorS16
import Derived.WalkKit
import Derived.WalkSpells
import Derived.WalkLawsBesides
import Derived.Lib.Hide
import Derived.Test.YthmcfjmignlhfaaGreatDoorS6
import Derived.BigQuiet
import Derived.Deep.QuietTactic
set_option maxRecDepth 100000
set_option maxHeartbeats 8000000
namespace Go.Proofs.YthmcfjmignlhfaaGreatDoor
open Go.Lib(hid)
open Go Go.RowKit
set_option linter.unusedVariables false
set_option linter.unusedSimpArgs false
def IntBelow (w:World) (e:Ending) (w':World):Prop:=∃ z,e=.returned (.int .i64 z)/\Below w.heap.size w w'
def AnyBool (w:World) (e:Ending) (w':World):Prop:=∃ b,e=.returned (.bool b)/\Below w.heap.size w w'
def HARel (w:World) (m:Nat) (n i:Value) (wr:World):Prop:=∃ (k:Nat) (z:Int),i=.int .i64 k/\n=.int .i64 z/\k<=m/\Below w.heap.size w wr
structure GB where
 kq:Int
 path:List GStep
 key:ByteArray
 i:Int
 j:Int
 n:Int
 s:ByteArray
 v:List GTok
end Go.Proofs.YthmcfjmignlhfaaGreatDoor
namespace Go.Proofs.YthmcfjmignlhfaaGreatDoor
open Go.Lib(hid)
open Go Go.ChangeShapes Go.WideShapes Go.ChangeAt Go.RowKit Go.Lib Go.Shelf
set_option linter.unusedVariables false
set_option linter.unusedSimpArgs false
def tokD {H:Type} (t:GTok):DataW H:=.agg [.lit (.int .u8 t.k),.lit (.int .i64 t.n),.lit (.string t.s.data.toList),.lit (.int .u8 t.m)]
theorem zfr {H:Type}:∀ (ts:List GTok),tot ts+4 * ts.length<=Rows.uptoBulkAll (ts.map (tokD (H:=H)))
 | []=>by simp [tot]
 | t :: r=>by
  have h:=zfr (H:=H) r;simp only [List.map_cons,Rows.uptoBulkAll,tokD,Rows.uptoBulk,tot,List.length_cons];have e:t.s.data.toList.length=t.s.size:=by simp
  rw [e];omega
theorem zes {H:Type} {enc:TypeId × Value->H} {W:World} {spare:Nat->Bool} {held:Bool} {v:Value} {d:DataW H} {p:List MemPlace} {fuel:Nat} (hf:DataW.trod enc Tryz.prog W 0 spare held fuel 22 [v]=some (d,p)):
  ∃ (A:Option Addr) (cap:Nat) (ts:List GTok),v=.slice A ts.length cap/\ts.length<=cap/\cap<=maxLen/\Toks W.heap.size W A ts/\(∀ t∈ts,0<=t.k/\t.k<=255/\0<=t.m/\t.m<=255)/\tot ts+4 * ts.length<=Rows.uptoBulk d:=by
 rcases Go.Deep.open_slice Tryz.underlying22 hf with ⟨hc,_⟩ | ⟨a,n0,c0,m,n,D,Pl,hcs,_,hlc,hcm,hm,hx,hi⟩
 ·simp only [List.cons.injEq,and_true] at hc
  subst hc;exact ⟨none,0,[],rfl,Nat.le_refl _,by decide,fun h=>absurd rfl h,fun t ht=>by simp at ht,by simp [tot]⟩
 simp only [List.cons.injEq,and_true] at hcs;subst hcs;simp only [Prod.mk.injEq] at hx;have hlm:n0<=m:=by rw [hm];split<;>omega
 obtain ⟨ts,hts,hq⟩:=zgl (Q:=fun i (t:GTok)=>(W.cell? ⟨a.block,a.off+i * 4,none⟩=some (.int .u8 t.k)/\W.cell? ⟨a.block,a.off+i * 4+1,none⟩=some (.int .i64 t.n) /\
   W.cell? ⟨a.block,a.off+i * 4+2,none⟩=some (.string t.s)/\W.cell? ⟨a.block,a.off+i * 4+3,none⟩=some (.int .u8 t.m))/\(i=0->a.spot=none)/\a.block<W.heap.size/\(0<=t.k/\t.k<=255/\0<=t.m/\t.m<=255)/\D i=tokD t) n0 (fun i hin=>by
  obtain ⟨cs',hcl,ht'⟩:=hi i (by omega)
  rw [zfe] at hcl;obtain ⟨xs,n',_,hxx,hlen,hxl,hg⟩:=DataW.trod_struct Tryz.underlying67 ht';rw [zfe] at hlen;obtain ⟨_,_,hat⟩:=World.cells?_some hcl
  match cs',hlen with
  | [c0,c1,c2,c3],_=>
   have g0 : DataW.trod enc Tryz.prog W 0 spare held n' 5 [c0] = xs[0]? := by simpa [zcO] using hg 0 { name := "Kind", type := 5, offset := 0, embedded := false, tag := "", pkgPath := "", byteOffset := 0 } rfl
   have g1 : DataW.trod enc Tryz.prog W 0 spare held n' 2 [c1] = xs[1]? := by simpa [zdF] using hg 1 { name := "N", type := 2, offset := 1, embedded := false, tag := "", pkgPath := "", byteOffset := 8 } rfl
   have g2 : DataW.trod enc Tryz.prog W 0 spare held n' 9 [c2] = xs[2]? := by simpa [zbj] using hg 2 { name := "S", type := 9, offset := 2, embedded := false, tag := "", pkgPath := "", byteOffset := 16 } rfl
   have g3 : DataW.trod enc Tryz.prog W 0 spare held n' 5 [c3] = xs[3]? := by simpa [zcO] using hg 3 { name := "Many", type := 5, offset := 3, embedded := false, tag := "", pkgPath := "", byteOffset := 32 } rfl
   match xs,hxl with
   | [y0,y1,y2,y3],_=>
    obtain ⟨k,e0,f0,w0⟩:=DataW.trod_int Tryz.underlying5 g0;obtain ⟨z,e1,f1,w1⟩:=DataW.trod_int Tryz.underlying2 g1;obtain ⟨s,e2,f2,w2⟩:=DataW.trod_string Tryz.underlying9 g2;obtain ⟨m',e3,f3,w3⟩:=DataW.trod_int Tryz.underlying5 g3;simp only [List.cons.injEq,and_true] at e0 e1 e2 e3;subst e0 e1 e2 e3;have q0:W.cell? ((a.add (i * 4)).add 0)=some (.int .u8 k):=hat 0 (by omega)
    have q1:W.cell? ((a.add (i * 4)).add 1)=some (.int .i64 z):=hat 1 (by omega)
    have q2:W.cell? ((a.add (i * 4)).add 2)=some (.string s):=hat 2 (by omega)
    have q3:W.cell? ((a.add (i * 4)).add 3)=some (.int .u8 m'):=hat 3 (by omega)
    have hsp:i=0->a.spot=none:=fun e=>by subst e;simpa [Addr.add] using zfx q0
    have hab:a.block<W.heap.size:=by
     have:=World.block_lt_of_cell? W _ q0
     rwa [zcA,zcA] at this
    have hd:∀ j,(a.add (i * 4)).add j =⟨a.block,a.off+i * 4+j,none⟩:=fun j=>zkJ a i j hsp
    rw [hd] at q0 q1 q2 q3;have a1:-9223372036854775808<=z/\z<=9223372036854775807:=by simpa [Lit.wf,IntKind.min,IntKind.max,IntKind.signed,IntKind.bits] using w1
    refine ⟨⟨k,z,s,m',a1⟩,⟨q0,q1,q2,q3⟩,hsp,hab,?_,?_⟩
    ·have a0:0<=k/\k<=255:=by simpa [Lit.wf,IntKind.min,IntKind.max,IntKind.signed,IntKind.bits] using w0
     have a3:0<=m'/\m'<=255:=by simpa [Lit.wf,IntKind.min,IntKind.max,IntKind.signed,IntKind.bits] using w3
     exact ⟨a0.1,a0.2,a3.1,a3.2⟩
    ·simp only [Prod.mk.injEq] at hxx
     rw [hxx.1];simp [f0,f1,f2,f3,tokD])
 refine ⟨some a,c0,ts,by rw [hts],by omega,hcm,fun _=>⟨a,rfl,?_⟩,fun t ht=>?_,?_⟩
 ·have h0:0<ts.length:=by
   cases ts with
   | nil=>rename_i hne;exact absurd rfl hne
   | cons _ _=>simp
  have:=hq 0 _ (List.getElem?_eq_getElem h0);exact ⟨this.2.1 rfl,this.2.2.1,fun i t hi=>(hq i t hi).1⟩
 ·obtain ⟨i,hi⟩:=List.getElem?_of_mem ht
  exact (hq i t hi).2.2.2.1
 ·rw [hx.1]
  have e:(List.range n0).map D=ts.map tokD:=List.ext_getElem? fun i=>by
   by_cases hi:i<n0
   ·have hi2:i<ts.length:=by omega
    have h1:=(hq i ts[i] (List.getElem?_eq_getElem hi2)).2.2.2.2;simp [hi,hi2,h1]
   ·have hi2:¬ i<ts.length:=by omega
    simp [hi,hi2]
  rw [e];have h1:=zfr (H:=H) ts;simp only [Rows.uptoBulk];omega
theorem zfP:Tryz.prog.cellsOf 41=1:=by kernel_rfl
theorem zgz:Tryz.prog.cellsOf 22=1:=by kernel_rfl
theorem zhR:Tryz.prog.cellsOf 43=8:=by kernel_rfl
theorem zh2 {H:Type} {enc:TypeId × Value->H} {W:World} {spare:Nat->Bool} {held:Bool} {v:Value} {d:DataW H} {p:List MemPlace} (h:DataW.Trod enc Tryz.prog W 0 spare held 43 v d p)
  (hv:∃ cs,v=.agg cs/\cs.size=8) (hsz:∀ n∈d.weights Tryz.prog 43,n<=reachBytes):
  ∃ (x:GB) (B:Option Addr) (bap:Nat) (D:Option Addr) (dap:Nat),v=.agg #[.int .u8 x.kq,.slice B x.path.length bap,.string x.key,.int .i64 x.i,.int .i64 x.j,.int .i64 x.n,.string x.s,.slice D x.v.length dap] /\
   (x.path.length<=bap/\bap<=maxLen/\Steps W.heap.size W B x.path/\∀ t∈x.path,t.key.size<=140737488351232)/\(x.v.length<=dap/\dap<=maxLen/\Toks W.heap.size W D x.v/\∀ t∈x.v,0<=t.k/\t.k<=255/\0<=t.m/\t.m<=255) /\
   x.key.size+x.s.size+tot x.v+4 * x.v.length<=Rows.uptoBulk d:=by
 obtain ⟨fuel,hf⟩:=h;obtain ⟨cs,rfl,hs8⟩:=hv;obtain ⟨xs,n',_,hxx,hlen,hxl,hg⟩:=DataW.trod_struct Tryz.underlying43 hf;obtain ⟨l⟩:=cs;simp only [Value.cells] at hg hlen hxx
 match l,hs8 with
 | [c0,c1,c2,c3,c4,c5,c6,c7],_=>
  have g0 : DataW.trod enc Tryz.prog W 0 spare held n' 5 [c0] = xs[0]? := by simpa [zcO] using hg 0 { name := "Kind", type := 5, offset := 0, embedded := false, tag := "", pkgPath := "", byteOffset := 0 } rfl
  have g1 : DataW.trod enc Tryz.prog W 0 spare held n' 41 [c1] = xs[1]? := by simpa [zfP] using hg 1 { name := "Path", type := 41, offset := 1, embedded := false, tag := "", pkgPath := "", byteOffset := 8 } rfl
  have g2 : DataW.trod enc Tryz.prog W 0 spare held n' 9 [c2] = xs[2]? := by simpa [zbj] using hg 2 { name := "Key", type := 9, offset := 2, embedded := false, tag := "", pkgPath := "", byteOffset := 32 } rfl
  have g3 : DataW.trod enc Tryz.prog W 0 spare held n' 3 [c3] = xs[3]? := by simpa [zdV] using hg 3 { name := "I", type := 3, offset := 3, embedded := false, tag := "", pkgPath := "", byteOffset := 48 } rfl
  have g4 : DataW.trod enc Tryz.prog W 0 spare held n' 3 [c4] = xs[4]? := by simpa [zdV] using hg 4 { name := "J", type := 3, offset := 4, embedded := false, tag := "", pkgPath := "", byteOffset := 56 } rfl
  have g5 : DataW.trod enc Tryz.prog W 0 spare held n' 2 [c5] = xs[5]? := by simpa [zdF] using hg 5 { name := "N", type := 2, offset := 5, embedded := false, tag := "", pkgPath := "", byteOffset := 64 } rfl
  have g6 : DataW.trod enc Tryz.prog W 0 spare held n' 9 [c6] = xs[6]? := by simpa [zbj] using hg 6 { name := "S", type := 9, offset := 6, embedded := false, tag := "", pkgPath := "", byteOffset := 72 } rfl
  have g7 : DataW.trod enc Tryz.prog W 0 spare held n' 22 [c7] = xs[7]? := by simpa [zgz] using hg 7 { name := "V", type := 22, offset := 7, embedded := false, tag := "", pkgPath := "", byteOffset := 88 } rfl
  match xs,hxl with
  | [y0,y1,y2,y3,y4,y5,y6,y7],_=>
   obtain ⟨k,e0,f0,w0⟩:=DataW.trod_int Tryz.underlying5 g0;obtain ⟨s2,e2,f2,w2⟩:=DataW.trod_string Tryz.underlying9 g2;obtain ⟨z3,e3,f3,w3⟩:=DataW.trod_int Tryz.underlying3 g3;obtain ⟨z4,e4,f4,w4⟩:=DataW.trod_int Tryz.underlying3 g4;obtain ⟨z5,e5,f5,w5⟩:=DataW.trod_int Tryz.underlying2 g5;obtain ⟨s6,e6,f6,w6⟩:=DataW.trod_string Tryz.underlying9 g6;simp only [List.cons.injEq,and_true] at e0 e2 e3 e4 e5 e6;subst e0 e2 e3 e4 e5 e6;simp only [Prod.mk.injEq] at hxx;obtain ⟨hd,_⟩:=hxx;simp only [List.map_cons,List.map_nil] at hd;obtain ⟨D,dap,ts,rfl,hl1,hl2,hT,hr,hbk⟩:=zes (d:=y7.1) (p:=y7.2) g7;have hv1:∃ A n c,c1=.slice A n c:=by
    rcases Go.Deep.open_slice Tryz.underlying41 (x:=y1) g1 with ⟨hc,_⟩ | ⟨a,len,cap,_,_,_,_,hcs,_⟩
    ·simp only [List.cons.injEq,and_true] at hc;exact ⟨_,_,_,hc⟩
    ·simp only [List.cons.injEq,and_true] at hcs;exact ⟨_,_,_,hcs⟩
   have hw1:∀ n∈y1.1.weights Tryz.prog 41,n<=reachBytes:=fun n hn=>hsz n (by
    rw [hd];simp [DataW.weights,Tryz.underlying43,DataW.weightsEach,hn])
   obtain ⟨B,bap,ps,hps,hp1,hp2,hS,hkk⟩:=zhn (d:=y1.1) (p:=y1.2) (v:=c1) ⟨n',by obtain ⟨A,n,c,rfl⟩:=hv1;simpa [Value.cells] using g1⟩ hv1 hw1
   subst hps;refine ⟨⟨k,ps,s2,z3,z4,z5,s6,ts⟩,B,bap,D,dap,rfl,⟨hp1,hp2,hS,hkk⟩,⟨hl1,hl2,hT,hr⟩,?_⟩
   rw [hd];simp only [Rows.uptoBulk,Rows.uptoBulkAll,f2,f6];have e2:s2.data.toList.length=s2.size:=by simp
   have e6:s6.data.toList.length=s6.size:=by simp
   rw [e2,e6];omega
end Go.Proofs.YthmcfjmignlhfaaGreatDoor
namespace Go.Proofs.YthmcfjmignlhfaaGreatDoor
open Go.Lib(hid)
open Go Go.RowKit
open Go.Sort (grow)
set_option linter.unusedVariables false
set_option linter.unusedSimpArgs false
theorem zau {P:Prop} {f:FuncId} {args:Array Value} {W:World} (h:Calls Tryz.prog f args W (BoolPost P W)):∀ bb:Bool,(bb=true↔P)->Calls Tryz.prog f args W fun e w''=>e=.returned (.bool bb)/\Below W.heap.size W w'':=fun bb hbb=>
 h.mono fun e w'' h=>by
  obtain ⟨b2,rfl,hb2,hbel⟩:=h;have:b2=bb:=by rw [Bool.eq_iff_iff,hb2,hbb]
  subst this;exact ⟨rfl,hbel⟩
theorem zaq (P:Prop):∃ bb:Bool,bb=true↔P:=by
 by_cases h:P
 ·exact ⟨true,by simp [h]⟩
 ·exact ⟨false,by simp [h]⟩
theorem zf7 (c A AL AO cp cL cO w) (hc:Cc w c A AL AO cp cL cO) (hw:c.v.weight<=1000000000) (hpl:c.path.length<=16) (hT:Tabs w):
  Calls Tryz.prog 68 #[.agg #[.int .u8 c.kq,.slice A c.path.length cp,.string c.key,.int .i64 c.i,.int .i64 c.j,.int .i64 c.n,.int .u8 c.v.kq,.int .i64 c.v.num,.string c.v.str,.slice AL c.v.il.length cL,.slice AO c.v.vz.length cO,.string c.s]] w (BoolPost c.ValueOk w):=by
 have H0:=hid (Whole.new w 48 #[.int .u8 c.kq,.slice A c.path.length cp,.string c.key,.int .i64 c.i,.int .i64 c.j,.int .i64 c.n,.int .u8 c.v.kq,.int .i64 c.v.num,.string c.v.str,.slice AL c.v.il.length cL,.slice AO c.v.vz.length cO,.string c.s]);have hB:=zaa w (.cells #[.int .u8 c.kq,.slice A c.path.length cp,.string c.key,.int .i64 c.i,.int .i64 c.j,.int .i64 c.n,.int .u8 c.v.kq,.int .i64 c.v.num,.string c.v.str,.slice AL c.v.il.length cL,.slice AO c.v.vz.length cO,.string c.s] 48);obtain ⟨bs,hbs⟩:=zaq c.v.Sound;have HSS:Hid (c.ValueOk↔bs=true/\c.path.length+1+c.v.deep<=16/\c.v.weight<=20000):=hid (by rw [hbs];exact Iff.rfl)
 have hsz:c.v.size<=1000000000:=Nat.le_trans (zac _) hw;have hdl:c.v.deep<=1000000000:=by have:=zas c.v;omega
 have c1:=fun (W0:World) (hb:Below w.heap.size w W0) (d:Nat) (os:Array Obj)=>Calls.regrown_of (zau (zic (fun _=>True) _ c.v (grow (redrawn W0 d) os) ((hc.v.later (hb.trans ((below_regrown W0 d os).mono hb.size)))).val hw (hT.below (hb.trans ((below_regrown W0 d os).mono hb.size)) (Nat.le_refl _))) bs hbs)
 have c2:=fun (W0:World) (hb:Below w.heap.size w W0) (d:Nat) (os:Array Obj)=>Calls.regrown_of (zj9 (fun _=>True) _ c.v (grow (redrawn W0 d) os) ((hc.v.later (hb.trans ((below_regrown W0 d os).mono hb.size)))).val hsz)
 have c3:=fun (W0:World) (hb:Below w.heap.size w W0) (d:Nat) (os:Array Obj)=>Calls.regrown_of (zhi (fun _=>True) _ c.v (grow (redrawn W0 d) os) ((hc.v.later (hb.trans ((below_regrown W0 d os).mono hb.size)))).val hw)
 have C1:=hid c1;have C2:=hid c2;have C3:=hid c3;clear c1 c2 c3 hc hT hbs hsz;generalize c.ValueOk=SS at *;generalize c.v.deep=vd at *;generalize c.v.weight=vw at *;generalize c.kq=ck at *;generalize c.path.length=pn at *;generalize c.key=ky at *;generalize c.i=ci at *;generalize c.j=cj at *;generalize c.n=cn at *;generalize c.v.kq=vk at *;generalize c.v.num=vn at *;generalize c.v.str=vs at *;generalize c.v.il.length=vl at *;generalize c.v.vz.length=vo at *;generalize c.s=cs at *;go_enter Tryz.func68,Tryz.ntmps68
 go_wp2
 obtain ⟨a0,a1,a2,a3,a4,a5,a6,a7,a8,a9,a10,a11,_⟩:=H0.out.tw;clear H0;generalize (w.alloc (.cells #[.int .u8 ck,.slice A pn cp,.string ky,.int .i64 ci,.int .i64 cj,.int .i64 cn,.int .u8 vk,.int .i64 vn,.string vs,.slice AL vl cL,.slice AO vo cO,.string cs] 48))=W0 at *;have u1:=cell_regrown a1;have u6:=cell_regrown a6;have u7:=cell_regrown a7;have u8:=cell_regrown a8;have u9:=cell_regrown a9;have u10:=cell_regrown a10;clear a0 a1 a2 a3 a4 a5 a6 a7 a8 a9 a10 a11;have D1:=hid (C1.out W0 hB);have D2:=hid (C2.out W0 hB);have D3:=hid (C3.out W0 hB);have HB:=hid hB;clear hB C1 C2 C3;cases bs with
 | false=>
  refine wp_region_quiet_below (by kernel_rfl) (by kernel_rfl) ?_
  repeat (any_goals (go_big_quiet_step (first | with_reducible exact D1.out _ _ | with_reducible exact D2.out _ _ | with_reducible exact D3.out _ _)))
  refine wpQuiet_nil ?_
  intro _ hw';obtain ⟨⟨dq,osq⟩,hw''⟩:=hw';subst hw'';go_wp2
  go_ret
  exact ⟨false,rfl,by rw [HSS.out];simp,HB.out.trans ((below_regrown W0 dq osq).mono HB.out.size)⟩
 | true=>
  by_cases q1:pn+1+vd<=16
  ·have q1':((pn:Int)+1+(vd:Int))<=16:=by omega
   have Q1:=hid q1;clear q1;by_cases q2:vw<=20000
   ·have q2':(vw:Int)<=20000:=by omega
    have Q2:=hid q2;clear q2;refine wp_region_quiet_below (by kernel_rfl) (by kernel_rfl) ?_
    repeat (any_goals (go_big_quiet_step (first | with_reducible exact D1.out _ _ | with_reducible exact D2.out _ _ | with_reducible exact D3.out _ _)))
    refine wpQuiet_nil ?_
    intro _ hw';obtain ⟨⟨dq,osq⟩,hw''⟩:=hw';subst hw'';go_wp2
    go_ret
    exact ⟨true,rfl,by rw [HSS.out];simp [Q1.out,Q2.out],HB.out.trans ((below_regrown W0 dq osq).mono HB.out.size)⟩
   ·have q2':¬ (vw:Int)<=20000:=by omega
    have Q2:=hid q2;clear q2;refine wp_region_quiet_below (by kernel_rfl) (by kernel_rfl) ?_
    repeat (any_goals (go_big_quiet_step (first | with_reducible exact D1.out _ _ | with_reducible exact D2.out _ _ | with_reducible exact D3.out _ _)))
    refine wpQuiet_nil ?_
    intro _ hw';obtain ⟨⟨dq,osq⟩,hw''⟩:=hw';subst hw'';go_wp2
    go_ret
    exact ⟨false,rfl,by rw [HSS.out];simp [Q2.out],HB.out.trans ((below_regrown W0 dq osq).mono HB.out.size)⟩
  ·have q1':¬ ((pn:Int)+1+(vd:Int))<=16:=by omega
   have Q1:=hid q1;clear q1;refine wp_region_quiet_below (by kernel_rfl) (by kernel_rfl) ?_
   repeat (any_goals (go_big_quiet_step (first | with_reducible exact D1.out _ _ | with_reducible exact D2.out _ _ | with_reducible exact D3.out _ _)))
   refine wpQuiet_nil ?_
   intro _ hw';obtain ⟨⟨dq,osq⟩,hw''⟩:=hw';subst hw'';go_wp2
   go_ret
   exact ⟨false,rfl,by rw [HSS.out];simp [Q1.out],HB.out.trans ((below_regrown W0 dq osq).mono HB.out.size)⟩
theorem zbG (key s:ByteArray) (i j n:Int) (v AL AO cL cO W) (hv:Vl W v AL AO cL cO) (hw:v.weight<=1000000000):
  Calls Tryz.prog 103 #[.agg #[.int .u8 0,.slice none 0 0,.string key,.int .i64 i,.int .i64 j,.int .i64 n,.int .u8 v.kq,.int .i64 v.num,.string v.str,.slice AL v.il.length cL,.slice AO v.vz.length cO,.string s],.agg #[.int .u8 0,.slice none 0 0,.string ⟨#[]⟩,.int .i64 0,.int .i64 0,.int .i64 0,.int .u8 0,.int .i64 0,.string ⟨#[]⟩,.slice none 0 0,.slice none 0 0,.string ⟨#[]⟩]] W
   fun e w'=>∃ b:Bool,e=.returned (.bool b)/\(b=true↔key.toList=[]/\i=0/\j=0/\n=0/\s.toList=[]/\v.Same noG)/\Below W.heap.size W w':=
 (ziF ⟨0,[],key,i,j,n,v,s⟩ noC none AL AO none none none 0 cL cO 0 0 0 W ⟨zc9 W,hv⟩ (zlf W) hw (by decide)).mono fun e w' ⟨b,he,hb,hB⟩=>⟨b,he,by
  rw [hb];have h0:(⟨#[]⟩:ByteArray).toList=[]:=by decide +kernel
  have h1:samePB [] []=true:=by decide
  simp only [GC.Same,noC,h0,h1,true_and]
  ,hB⟩
theorem za2:noG.Same noG:=zdN noG
theorem zaH:(⟨#[]⟩:ByteArray).toList=[]:=by decide +kernel
theorem zjT (c A AL AO cp cL cO w) (hc:Cc w c A AL AO cp cL cO) (hw:c.v.weight<=1000000000) (W:World) (hb:Below w.heap.size w W):
  Calls Tryz.prog 103 #[.agg #[.int .u8 0,.slice none 0 0,.string c.key,.int .i64 c.i,.int .i64 c.j,.int .i64 0,.int .u8 c.v.kq,.int .i64 c.v.num,.string c.v.str,.slice AL c.v.il.length cL,.slice AO c.v.vz.length cO,.string c.s],.agg #[.int .u8 0,.slice none 0 0,.string ⟨#[]⟩,.int .i64 0,.int .i64 0,.int .i64 0,.int .u8 0,.int .i64 0,.string ⟨#[]⟩,.slice none 0 0,.slice none 0 0,.string ⟨#[]⟩]] W fun e w'=>∃ b:Bool,e=.returned (.bool b)/\(b=true↔c.key.toList=[]/\c.i=0/\c.j=0/\c.s.toList=[]/\c.v.Same noG)/\Below w.heap.size w w':=
 (zbG c.key c.s c.i c.j 0 c.v AL AO cL cO W (hc.v.later hb) hw).mono fun e w' ⟨b,he,hb',hB⟩=>⟨b,he,by rw [hb'];simp [zaH,za2],hb.trans (hB.mono hb.size)⟩
theorem zjE (c A AL AO cp cL cO w) (hc:Cc w c A AL AO cp cL cO) (hw:c.v.weight<=1000000000) (W:World) (hb:Below w.heap.size w W):
  Calls Tryz.prog 103 #[.agg #[.int .u8 0,.slice none 0 0,.string ⟨#[]⟩,.int .i64 c.i,.int .i64 c.j,.int .i64 c.n,.int .u8 0,.int .i64 0,.string ⟨#[]⟩,.slice none 0 0,.slice none 0 0,.string c.s],.agg #[.int .u8 0,.slice none 0 0,.string ⟨#[]⟩,.int .i64 0,.int .i64 0,.int .i64 0,.int .u8 0,.int .i64 0,.string ⟨#[]⟩,.slice none 0 0,.slice none 0 0,.string ⟨#[]⟩]] W fun e w'=>∃ b:Bool,e=.returned (.bool b)/\(b=true↔c.i=0/\c.j=0/\c.n=0/\c.s.toList=[])/\Below w.heap.size w w':=
 (zbG ⟨#[]⟩ c.s c.i c.j c.n noG none none 0 0 W (zaP W) (by decide)).mono fun e w' ⟨b,he,hb',hB⟩=>⟨b,he,by rw [hb'];simp [zaH,za2],hb.trans (hB.mono hb.size)⟩
theorem zjK (c A AL AO cp cL cO w) (hc:Cc w c A AL AO cp cL cO) (hw:c.v.weight<=1000000000) (W:World) (hb:Below w.heap.size w W):
  Calls Tryz.prog 103 #[.agg #[.int .u8 0,.slice none 0 0,.string ⟨#[]⟩,.int .i64 c.i,.int .i64 c.j,.int .i64 c.n,.int .u8 c.v.kq,.int .i64 c.v.num,.string c.v.str,.slice AL c.v.il.length cL,.slice AO c.v.vz.length cO,.string c.s],.agg #[.int .u8 0,.slice none 0 0,.string ⟨#[]⟩,.int .i64 0,.int .i64 0,.int .i64 0,.int .u8 0,.int .i64 0,.string ⟨#[]⟩,.slice none 0 0,.slice none 0 0,.string ⟨#[]⟩]] W fun e w'=>∃ b:Bool,e=.returned (.bool b)/\(b=true↔c.i=0/\c.j=0/\c.n=0/\c.s.toList=[]/\c.v.Same noG)/\Below w.heap.size w w':=
 (zbG ⟨#[]⟩ c.s c.i c.j c.n c.v AL AO cL cO W (hc.v.later hb) hw).mono fun e w' ⟨b,he,hb',hB⟩=>⟨b,he,by rw [hb'];simp [zaH,za2],hb.trans (hB.mono hb.size)⟩
theorem zjP (c A AL AO cp cL cO w) (hc:Cc w c A AL AO cp cL cO) (hw:c.v.weight<=1000000000) (W:World) (hb:Below w.heap.size w W):
  Calls Tryz.prog 103 #[.agg #[.int .u8 0,.slice none 0 0,.string c.key,.int .i64 0,.int .i64 c.j,.int .i64 c.n,.int .u8 0,.int .i64 0,.string ⟨#[]⟩,.slice none 0 0,.slice none 0 0,.string c.s],.agg #[.int .u8 0,.slice none 0 0,.string ⟨#[]⟩,.int .i64 0,.int .i64 0,.int .i64 0,.int .u8 0,.int .i64 0,.string ⟨#[]⟩,.slice none 0 0,.slice none 0 0,.string ⟨#[]⟩]] W fun e w'=>∃ b:Bool,e=.returned (.bool b)/\(b=true↔c.key.toList=[]/\c.j=0/\c.n=0/\c.s.toList=[])/\Below w.heap.size w w':=
 (zbG c.key c.s 0 c.j c.n noG none none 0 0 W (zaP W) (by decide)).mono fun e w' ⟨b,he,hb',hB⟩=>⟨b,he,by rw [hb'];simp [zaH,za2],hb.trans (hB.mono hb.size)⟩
theorem zj5 (c A AL AO cp cL cO w) (hc:Cc w c A AL AO cp cL cO) (hw:c.v.weight<=1000000000) (W:World) (hb:Below w.heap.size w W):
  Calls Tryz.prog 103 #[.agg #[.int .u8 0,.slice none 0 0,.string c.key,.int .i64 0,.int .i64 c.j,.int .i64 c.n,.int .u8 c.v.kq,.int .i64 c.v.num,.string c.v.str,.slice AL c.v.il.length cL,.slice AO c.v.vz.length cO,.string c.s],.agg #[.int .u8 0,.slice none 0 0,.string ⟨#[]⟩,.int .i64 0,.int .i64 0,.int .i64 0,.int .u8 0,.int .i64 0,.string ⟨#[]⟩,.slice none 0 0,.slice none 0 0,.string ⟨#[]⟩]] W fun e w'=>∃ b:Bool,e=.returned (.bool b)/\(b=true↔c.key.toList=[]/\c.j=0/\c.n=0/\c.s.toList=[]/\c.v.Same noG)/\Below w.heap.size w w':=
 (zbG c.key c.s 0 c.j c.n c.v AL AO cL cO W (hc.v.later hb) hw).mono fun e w' ⟨b,he,hb',hB⟩=>⟨b,he,by rw [hb'];simp [zaH,za2],hb.trans (hB.mono hb.size)⟩
theorem zjH (c A AL AO cp cL cO w) (hc:Cc w c A AL AO cp cL cO) (hw:c.v.weight<=1000000000) (W:World) (hb:Below w.heap.size w W):
  Calls Tryz.prog 103 #[.agg #[.int .u8 0,.slice none 0 0,.string c.key,.int .i64 0,.int .i64 c.j,.int .i64 c.n,.int .u8 0,.int .i64 0,.string ⟨#[]⟩,.slice none 0 0,.slice none 0 0,.string c.s],.agg #[.int .u8 0,.slice none 0 0,.string ⟨#[]⟩,.int .i64 0,.int .i64 0,.int .i64 0,.int .u8 0,.int .i64 0,.string ⟨#[]⟩,.slice none 0 0,.slice none 0 0,.string ⟨#[]⟩]] W fun e w'=>∃ b:Bool,e=.returned (.bool b)/\(b=true↔c.key.toList=[]/\c.j=0/\c.n=0/\c.s.toList=[])/\Below w.heap.size w w':=
 (zbG c.key c.s 0 c.j c.n noG none none 0 0 W (zaP W) (by decide)).mono fun e w' ⟨b,he,hb',hB⟩=>⟨b,he,by rw [hb'];simp [zaH,za2],hb.trans (hB.mono hb.size)⟩
theorem zjg (c A AL AO cp cL cO w) (hc:Cc w c A AL AO cp cL cO) (hw:c.v.weight<=1000000000) (W:World) (hb:Below w.heap.size w W):
  Calls Tryz.prog 103 #[.agg #[.int .u8 0,.slice none 0 0,.string c.key,.int .i64 0,.int .i64 0,.int .i64 c.n,.int .u8 c.v.kq,.int .i64 c.v.num,.string c.v.str,.slice AL c.v.il.length cL,.slice AO c.v.vz.length cO,.string c.s],.agg #[.int .u8 0,.slice none 0 0,.string ⟨#[]⟩,.int .i64 0,.int .i64 0,.int .i64 0,.int .u8 0,.int .i64 0,.string ⟨#[]⟩,.slice none 0 0,.slice none 0 0,.string ⟨#[]⟩]] W fun e w'=>∃ b:Bool,e=.returned (.bool b)/\(b=true↔c.key.toList=[]/\c.n=0/\c.s.toList=[]/\c.v.Same noG)/\Below w.heap.size w w':=
 (zbG c.key c.s 0 0 c.n c.v AL AO cL cO W (hc.v.later hb) hw).mono fun e w' ⟨b,he,hb',hB⟩=>⟨b,he,by rw [hb'];simp [zaH,za2],hb.trans (hB.mono hb.size)⟩
theorem zjL (c A AL AO cp cL cO w) (hc:Cc w c A AL AO cp cL cO) (hw:c.v.weight<=1000000000) (W:World) (hb:Below w.heap.size w W):
  Calls Tryz.prog 103 #[.agg #[.int .u8 0,.slice none 0 0,.string c.key,.int .i64 0,.int .i64 c.j,.int .i64 c.n,.int .u8 c.v.kq,.int .i64 c.v.num,.string c.v.str,.slice AL c.v.il.length cL,.slice AO c.v.vz.length cO,.string ⟨#[]⟩],.agg #[.int .u8 0,.slice none 0 0,.string ⟨#[]⟩,.int .i64 0,.int .i64 0,.int .i64 0,.int .u8 0,.int .i64 0,.string ⟨#[]⟩,.slice none 0 0,.slice none 0 0,.string ⟨#[]⟩]] W fun e w'=>∃ b:Bool,e=.returned (.bool b)/\(b=true↔c.key.toList=[]/\c.j=0/\c.n=0/\c.v.Same noG)/\Below w.heap.size w w':=
 (zbG c.key ⟨#[]⟩ 0 c.j c.n c.v AL AO cL cO W (hc.v.later hb) hw).mono fun e w' ⟨b,he,hb',hB⟩=>⟨b,he,by rw [hb'];simp [zaH,za2],hb.trans (hB.mono hb.size)⟩
theorem zjU (c A AL AO cp cL cO w) (hc:Cc w c A AL AO cp cL cO) (hw:c.v.weight<=1000000000) (W:World) (hb:Below w.heap.size w W):
  Calls Tryz.prog 103 #[.agg #[.int .u8 0,.slice none 0 0,.string c.key,.int .i64 0,.int .i64 c.j,.int .i64 0,.int .u8 c.v.kq,.int .i64 c.v.num,.string c.v.str,.slice AL c.v.il.length cL,.slice AO c.v.vz.length cO,.string c.s],.agg #[.int .u8 0,.slice none 0 0,.string ⟨#[]⟩,.int .i64 0,.int .i64 0,.int .i64 0,.int .u8 0,.int .i64 0,.string ⟨#[]⟩,.slice none 0 0,.slice none 0 0,.string ⟨#[]⟩]] W fun e w'=>∃ b:Bool,e=.returned (.bool b)/\(b=true↔c.key.toList=[]/\c.j=0/\c.s.toList=[]/\c.v.Same noG)/\Below w.heap.size w w':=
 (zbG c.key c.s 0 c.j 0 c.v AL AO cL cO W (hc.v.later hb) hw).mono fun e w' ⟨b,he,hb',hB⟩=>⟨b,he,by rw [hb'];simp [zaH,za2],hb.trans (hB.mono hb.size)⟩
end Go.Proofs.YthmcfjmignlhfaaGreatDoor
