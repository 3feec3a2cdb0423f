/- The document's own Do of lists: what comes out lies in new memory. -/
import Derived.Test.YtlhfnemcpgfcdaaDoorQ24
import Derived.Test.YtlhfnemcpgfcdaaDoorQ32
set_option maxRecDepth 100000
set_option maxHeartbeats 8000000
namespace Go.Proofs.YtlhfnemcpgfcdaaDoor
open Go Go.RowKit
set_option linter.unusedVariables false
set_option linter.unusedSimpArgs false
def RDoN (l:List GV) (w:World) (e:Ending) (w':World):Prop:=∃ A c,e=.returned (.tuple #[.slice A l.length c,.int .i64 0])∧LstV (fun k=>w.heap.size≤k) w' (.slice A l.length c) l∧Below w.heap.size w w'
theorem ndo_ins (A0:Option Addr) (c0:Nat) (l:List GV) (k i j:Nat) (g:GV) (A AL AO:Option Addr) (pl cp cL cO:Nat) (ky cs:ByteArray) (n:Int) (w:World) (hL:ListIn l A0 c0 w) (hk:k=4) (hi:i≤l.length) (hn:l.length≤1000000) (hw:GV.weights l≤900000000) (hv:Vl w g AL AO cL cO) (hgw:g.weight≤1000000000):
  Calls Tryd.prog 23 #[.slice A0 l.length c0,.agg #[.int .u8 k,.slice A pl cp,.string ky,.int .i64 i,.int .i64 j,.int .i64 n,.int .u8 g.kind,.int .i64 g.num,.string g.str,.slice AL g.items.length cL,.slice AO g.vals.length cO,.string cs]] w (RDoN (insL l i g) w):=by
 have H0:=Lib.hid (Whole.new w 36 #[.int .u8 k,.slice A pl cp,.string ky,.int .i64 i,.int .i64 j,.int .i64 n,.int .u8 g.kind,.int .i64 g.num,.string g.str,.slice AL g.items.length cL,.slice AO g.vals.length cO,.string cs])
 have HB:=Lib.hid (below_alloc w (.cells #[.int .u8 k,.slice A pl cp,.string ky,.int .i64 i,.int .i64 j,.int .i64 n,.int .u8 g.kind,.int .i64 g.num,.string g.str,.slice AL g.items.length cL,.slice AO g.vals.length cO,.string cs] 36))
 have HL:=Lib.hid hL
 have hck:chk l.length k i j=0:=by subst hk;simp [chk];omega
 have HCK:=Lib.hid (fun W=>gcheck_any l.length k i j g A AL AO pl cp cL cO ky cs n W)
 rw [hck] at HCK
 have HCL:=Lib.hid (rcopy_l hw)
 have HCV:=Lib.hid (fun W (h:Below w.heap.size w W)=>rcopy_new (hv.later h) hgw)
 have HW:=Lib.hid (fun W (hs:w.heap.size≤W.heap.size) B d CL CO eL eO (h:LstV (fun k=>w.heap.size≤k) W (.slice B l.length d) l) (hv:LstV (fun k=>w.heap.size≤k) W (.slice CL g.items.length eL) g.items∧ObjV (fun k=>w.heap.size≤k) W (.slice CO g.vals.length eO) g.keys g.vals)=>ref_withQ B d i l g CL CO eL eO W (fun k=>w.heap.size≤k) (fun k hk=>Nat.le_trans hs hk) h hv hi (by omega))
 unfold ListOutQ at HW
 have hfd:=fun (n:Nat)=>val_field3 n
 have g4:((k:Int) == 4)=true:=by simp;omega
 clear hk hck hL hv hgw
 generalize insL l i g=lz at *
 go_enter Tryd.func23,Tryd.ntmps23
 go_wp2_with (first
  | (go_at_call 38;refine (HCK.out _).mono ?_;rintro e w1 ⟨rfl,hb⟩;have B1:=Lib.hid (HB.out.trans (hb.mono HB.out.size));have H1:=Lib.hid (H0.out.below hb H0.out.lt);clear hb)
  | (go_at_call 35;((with_reducible refine (HCL.out _ _ _ (HL.out.later B1.out)).mono ?_);rintro e w2 ⟨BL,dL,BO,dO,rfl,hl,hb⟩;have L2:=Lib.hid (show LstV (fun k=>w.heap.size≤k) w2 (.slice BL l.length dL) l from hl.keep (From.refl _ _) (fun k hk _=>Nat.le_trans B1.out.size hk));have B2:=Lib.hid (B1.out.trans (hb.mono B1.out.size));have H2:=Lib.hid (H1.out.below hb H1.out.lt);obtain ⟨a0,a1,a2,a3,a4,a5,a6,a7,a8,a9,a10,a11,f0,f1,f2,f3,f4,f5,f6,f7,f8,f9,f10,f11⟩:=H2.out.tw;clear hl hb))
  | (go_at_call 35;((with_reducible refine (HCV.out _ B2.out).mono ?_);rintro e w3 ⟨CL,CO,eL,eO,rfl,hv,hb⟩;have V3:=Lib.hid (show LstV (fun k=>w.heap.size≤k) _ (.slice CL g.items.length eL) g.items∧ObjV (fun k=>w.heap.size≤k) _ (.slice CO g.vals.length eO) g.keys g.vals from ⟨hv.1.keep (From.of_below (below_alloc w3 (.cells #[.int .u8 g.kind,.int .i64 g.num,.string g.str,.slice CL g.items.length eL,.slice CO g.vals.length eO] 31))) (fun k hk _=>Nat.le_trans B2.out.size hk),hv.2.keep (From.of_below (below_alloc w3 (.cells #[.int .u8 g.kind,.int .i64 g.num,.string g.str,.slice CL g.items.length eL,.slice CO g.vals.length eO] 31))) (fun k hk _=>Nat.le_trans B2.out.size hk)⟩);have L3:=Lib.hid ((L2.out.keep (From.of_below hb) (fun _ h _=>h)).keep (From.of_below (below_alloc w3 (.cells #[.int .u8 g.kind,.int .i64 g.num,.string g.str,.slice CL g.items.length eL,.slice CO g.vals.length eO] 31))) (fun _ h _=>h));have B3:=Lib.hid ((B2.out.trans (hb.mono B2.out.size)).alloc (Nat.le_trans B2.out.size hb.size) (.cells #[.int .u8 g.kind,.int .i64 g.num,.string g.str,.slice CL g.items.length eL,.slice CO g.vals.length eO] 31));have H3:=Lib.hid ((H2.out.below hb H2.out.lt).alloc (.cells #[.int .u8 g.kind,.int .i64 g.num,.string g.str,.slice CL g.items.length eL,.slice CO g.vals.length eO] 31));clear a0 a1 a2 a3 a4 a5 a6 a7 a8 a9 a10 a11 f0 f1 f2 f3 f4 f5 f6 f7 f8 f9 f10 f11 hv hb;obtain ⟨a0,a1,a2,a3,a4,a5,a6,a7,a8,a9,a10,a11,f0,f1,f2,f3,f4,f5,f6,f7,f8,f9,f10,f11⟩:=H3.out.tw))
  | (go_at_call 39;refine (HW.out _ B3.out.size _ _ _ _ _ _ L3.out V3.out).mono ?_;rintro e w4 ⟨AZ,cz,rfl,hl,hb⟩;have L4:=Lib.hid hl;have B4:=Lib.hid (B3.out.trans (hb.mono B3.out.size));clear hl hb))
 go_ret2
 exact ⟨AZ,cz,rfl,L4.out,B4.out⟩
theorem ndo_rem (A0:Option Addr) (c0:Nat) (l:List GV) (k i j:Nat) (g:GV) (A AL AO:Option Addr) (pl cp cL cO:Nat) (ky cs:ByteArray) (n:Int) (w:World) (hL:ListIn l A0 c0 w) (hk:k=5) (hi:i<l.length) (hn:l.length≤1000000) (hw:GV.weights l≤900000000) (hv:Vl w g AL AO cL cO) (hgw:g.weight≤1000000000):
  Calls Tryd.prog 23 #[.slice A0 l.length c0,.agg #[.int .u8 k,.slice A pl cp,.string ky,.int .i64 i,.int .i64 j,.int .i64 n,.int .u8 g.kind,.int .i64 g.num,.string g.str,.slice AL g.items.length cL,.slice AO g.vals.length cO,.string cs]] w (RDoN (remL l i) w):=by
 have H0:=Lib.hid (Whole.new w 36 #[.int .u8 k,.slice A pl cp,.string ky,.int .i64 i,.int .i64 j,.int .i64 n,.int .u8 g.kind,.int .i64 g.num,.string g.str,.slice AL g.items.length cL,.slice AO g.vals.length cO,.string cs])
 have HB:=Lib.hid (below_alloc w (.cells #[.int .u8 k,.slice A pl cp,.string ky,.int .i64 i,.int .i64 j,.int .i64 n,.int .u8 g.kind,.int .i64 g.num,.string g.str,.slice AL g.items.length cL,.slice AO g.vals.length cO,.string cs] 36))
 have HL:=Lib.hid hL
 have hck:chk l.length k i j=0:=by subst hk;simp [chk,withinB];omega
 have HCK:=Lib.hid (fun W=>gcheck_any l.length k i j g A AL AO pl cp cL cO ky cs n W)
 rw [hck] at HCK
 have HCL:=Lib.hid (rcopy_l hw)
 have HCV:=Lib.hid (fun W (h:Below w.heap.size w W)=>rcopy_new (hv.later h) hgw)
 have HW:=Lib.hid (fun W (hs:w.heap.size≤W.heap.size) B d (h:LstV (fun k=>w.heap.size≤k) W (.slice B l.length d) l)=>ref_withoutQ B d i l W (fun k=>w.heap.size≤k) (fun k hk=>Nat.le_trans hs hk) h hi (by omega))
 unfold ListOutQ at HW
 have hfd:=fun (n:Nat)=>val_field3 n
 have g4:((k:Int) == 4)=false:=by simp;omega
 have g5:((k:Int) == 5)=true:=by simp;omega
 clear hk hck hL hv hgw
 generalize remL l i=lz at *
 go_enter Tryd.func23,Tryd.ntmps23
 go_wp2_with (first
  | (go_at_call 38;refine (HCK.out _).mono ?_;rintro e w1 ⟨rfl,hb⟩;have B1:=Lib.hid (HB.out.trans (hb.mono HB.out.size));have H1:=Lib.hid (H0.out.below hb H0.out.lt);clear hb)
  | (go_at_call 35;((with_reducible refine (HCL.out _ _ _ (HL.out.later B1.out)).mono ?_);rintro e w2 ⟨BL,dL,BO,dO,rfl,hl,hb⟩;have L2:=Lib.hid (show LstV (fun k=>w.heap.size≤k) w2 (.slice BL l.length dL) l from hl.keep (From.refl _ _) (fun k hk _=>Nat.le_trans B1.out.size hk));have B2:=Lib.hid (B1.out.trans (hb.mono B1.out.size));have H2:=Lib.hid (H1.out.below hb H1.out.lt);obtain ⟨a0,a1,a2,a3,a4,a5,a6,a7,a8,a9,a10,a11,f0,f1,f2,f3,f4,f5,f6,f7,f8,f9,f10,f11⟩:=H2.out.tw;clear hl hb))
  | (go_at_call 35;((with_reducible refine (HCV.out _ B2.out).mono ?_);rintro e w3 ⟨CL,CO,eL,eO,rfl,hv,hb⟩;have V3:=Lib.hid (show LstV (fun k=>w.heap.size≤k) _ (.slice CL g.items.length eL) g.items∧ObjV (fun k=>w.heap.size≤k) _ (.slice CO g.vals.length eO) g.keys g.vals from ⟨hv.1.keep (From.of_below (below_alloc w3 (.cells #[.int .u8 g.kind,.int .i64 g.num,.string g.str,.slice CL g.items.length eL,.slice CO g.vals.length eO] 31))) (fun k hk _=>Nat.le_trans B2.out.size hk),hv.2.keep (From.of_below (below_alloc w3 (.cells #[.int .u8 g.kind,.int .i64 g.num,.string g.str,.slice CL g.items.length eL,.slice CO g.vals.length eO] 31))) (fun k hk _=>Nat.le_trans B2.out.size hk)⟩);have L3:=Lib.hid ((L2.out.keep (From.of_below hb) (fun _ h _=>h)).keep (From.of_below (below_alloc w3 (.cells #[.int .u8 g.kind,.int .i64 g.num,.string g.str,.slice CL g.items.length eL,.slice CO g.vals.length eO] 31))) (fun _ h _=>h));have B3:=Lib.hid ((B2.out.trans (hb.mono B2.out.size)).alloc (Nat.le_trans B2.out.size hb.size) (.cells #[.int .u8 g.kind,.int .i64 g.num,.string g.str,.slice CL g.items.length eL,.slice CO g.vals.length eO] 31));have H3:=Lib.hid ((H2.out.below hb H2.out.lt).alloc (.cells #[.int .u8 g.kind,.int .i64 g.num,.string g.str,.slice CL g.items.length eL,.slice CO g.vals.length eO] 31));clear a0 a1 a2 a3 a4 a5 a6 a7 a8 a9 a10 a11 f0 f1 f2 f3 f4 f5 f6 f7 f8 f9 f10 f11 hv hb;obtain ⟨a0,a1,a2,a3,a4,a5,a6,a7,a8,a9,a10,a11,f0,f1,f2,f3,f4,f5,f6,f7,f8,f9,f10,f11⟩:=H3.out.tw))
  | (go_at_call 40;refine (HW.out _ B3.out.size _ _ L3.out).mono ?_;rintro e w4 ⟨AZ,cz,rfl,hl,hb⟩;have L4:=Lib.hid hl;have B4:=Lib.hid (B3.out.trans (hb.mono B3.out.size));clear hl hb))
 go_ret2
 exact ⟨AZ,cz,rfl,L4.out,B4.out⟩
theorem row_setN {m lo n0 eb i c:Nat} {l:List GV} {g:GV} {W:World} {vO:Value} {xs ys:List Value} {CL CO:Option Addr} {eL eO:Nat} (h:CopyRows lo l [] [] W (.slice (some ⟨eb,0,none⟩) l.length c) vO xs ys) (hi:i<l.length) (hlt:eb<n0) (hm:m≤lo) (hm0:m≤n0)
  (hg:LstV (fun k=>n0≤k) W (.slice CL g.items.length eL) g.items∧ObjV (fun k=>n0≤k) W (.slice CO g.vals.length eO) g.keys g.vals):
  LstV (fun k=>m≤k) (((((W.setCell ⟨eb,i * 5,none⟩ (.int .u8 g.kind)).setCell ⟨eb,i * 5+1,none⟩ (.int .i64 g.num)).setCell ⟨eb,i * 5+2,none⟩ (.string g.str)).setCell ⟨eb,i * 5+3,none⟩ (.slice CL g.items.length eL)).setCell ⟨eb,i * 5+4,none⟩ (.slice CO g.vals.length eO)) (.slice (some ⟨eb,0,none⟩) l.length c) (l.set i g):=by
 obtain ⟨eb',cs,he,hle,_,_,_,u0,u1,u2,u3,u4,h0,h1,h2,h3,h4⟩:=rows_atL h hi
 cases he
 exact own_setL2 h.rowL h.ownL away_not (fun k hk=>Nat.le_trans hm hk.1) (Nat.le_trans hm hle) (just_put5 W _ _ _ _ _) (put_there2 (ok:=fun k=>n0≤k) h0 h1 h2 h3 h4 (by omega) (fun k hk=>Nat.le_trans hm0 hk) hg.1 hg.2)
theorem ndo_set (A0:Option Addr) (c0:Nat) (l:List GV) (k i j:Nat) (g:GV) (A AL AO:Option Addr) (pl cp cL cO:Nat) (ky cs:ByteArray) (n:Int) (w:World) (hL:ListIn l A0 c0 w) (hk:k=6) (hi:i<l.length) (hn:l.length≤1000000) (hw:GV.weights l≤900000000) (hv:Vl w g AL AO cL cO) (hgw:g.weight≤1000000000):
  Calls Tryd.prog 23 #[.slice A0 l.length c0,.agg #[.int .u8 k,.slice A pl cp,.string ky,.int .i64 i,.int .i64 j,.int .i64 n,.int .u8 g.kind,.int .i64 g.num,.string g.str,.slice AL g.items.length cL,.slice AO g.vals.length cO,.string cs]] w (RDoN (l.set i g) w):=by
 have H0:=Lib.hid (Whole.new w 36 #[.int .u8 k,.slice A pl cp,.string ky,.int .i64 i,.int .i64 j,.int .i64 n,.int .u8 g.kind,.int .i64 g.num,.string g.str,.slice AL g.items.length cL,.slice AO g.vals.length cO,.string cs])
 have HB:=Lib.hid (below_alloc w (.cells #[.int .u8 k,.slice A pl cp,.string ky,.int .i64 i,.int .i64 j,.int .i64 n,.int .u8 g.kind,.int .i64 g.num,.string g.str,.slice AL g.items.length cL,.slice AO g.vals.length cO,.string cs] 36))
 have HL:=Lib.hid hL
 have hck:chk l.length k i j=0:=by subst hk;simp [chk,withinB];omega
 have HCK:=Lib.hid (fun W=>gcheck_any l.length k i j g A AL AO pl cp cL cO ky cs n W)
 rw [hck] at HCK
 have HCL:=Lib.hid (rcopy_rows hw)
 have HCV:=Lib.hid (fun W (h:Below w.heap.size w W)=>rcopy_new (hv.later h) hgw)
 have hfd:=fun (n:Nat)=>val_field3 n
 have g4:((k:Int) == 4)=false:=by simp;omega
 have g5:((k:Int) == 5)=false:=by simp;omega
 have g6:((k:Int) == 6)=true:=by simp;omega
 have HI:=Lib.hid hi
 have hk0:(0:Int)≤(i:Int):=by omega
 have hk1:(i:Int)<(l.length:Int):=by omega
 have hlen:(l.set i g).length=l.length:=by simp
 clear hk hck hL hv hgw
 unfold RDoN
 rw [hlen]
 go_enter Tryd.func23,Tryd.ntmps23
 go_wp2_with (first
  | (go_at_call 38;refine (HCK.out _).mono ?_;rintro e w1 ⟨rfl,hb⟩;have B1:=Lib.hid (HB.out.trans (hb.mono HB.out.size));have H1:=Lib.hid (H0.out.below hb H0.out.lt);clear hb)
  | (go_at_call 35;((with_reducible refine (HCL.out _ _ _ (HL.out.later B1.out)).mono ?_);rintro e w2 ⟨BL,dL,BO,dO,rfl,⟨xs,ys,hl⟩,hb⟩;obtain ⟨eb,ecs,rfl,hlo,hwh,_,_,_⟩:=rows_atL hl HI.out;have F2:=Lib.hid (And.intro (Nat.le_trans B1.out.size hlo) (And.intro hwh.lt (And.intro B1.out.size (Nat.le_trans B1.out.size hb.size))));have L2:=Lib.hid hl;have B2:=Lib.hid (B1.out.trans (hb.mono B1.out.size));have H2:=Lib.hid (H1.out.below hb H1.out.lt);obtain ⟨a0,a1,a2,a3,a4,a5,a6,a7,a8,a9,a10,a11,f0,f1,f2,f3,f4,f5,f6,f7,f8,f9,f10,f11⟩:=H2.out.tw;clear hl hb hlo hwh))
  | (go_at_call 35;((with_reducible refine (HCV.out _ B2.out).mono ?_);rintro e w3 ⟨CL,CO,eL,eO,rfl,hv,hb⟩;have BA:=below_alloc w3 (.cells #[.int .u8 g.kind,.int .i64 g.num,.string g.str,.slice CL g.items.length eL,.slice CO g.vals.length eO] 31);have V3:=Lib.hid (And.intro (hv.1.keep (From.of_below BA) (fun _ h _=>h)) (hv.2.keep (From.of_below BA) (fun _ h _=>h)));have L3:=Lib.hid ((L2.out.below hb).below BA);have B3:=Lib.hid ((B2.out.trans (hb.mono B2.out.size)).trans (BA.mono (Nat.le_trans B2.out.size hb.size)));have H3:=Lib.hid ((H2.out.below hb H2.out.lt).alloc (.cells #[.int .u8 g.kind,.int .i64 g.num,.string g.str,.slice CL g.items.length eL,.slice CO g.vals.length eO] 31));clear BA a0 a1 a2 a3 a4 a5 a6 a7 a8 a9 a10 a11 f0 f1 f2 f3 f4 f5 f6 f7 f8 f9 f10 f11 hv hb;obtain ⟨a0,a1,a2,a3,a4,a5,a6,a7,a8,a9,a10,a11,f0,f1,f2,f3,f4,f5,f6,f7,f8,f9,f10,f11⟩:=H3.out.tw;obtain ⟨eb',ecs',he',_,hwh,_,_,u0,u1,u2,u3,u4,q0,q1,q2,q3,q4⟩:=rows_atL L3.out HI.out;cases he';have p0:=hwh.frozen (i * 5);have p1:=hwh.frozen (i * 5+1);have p2:=hwh.frozen (i * 5+2);have p3:=hwh.frozen (i * 5+3);have p4:=hwh.frozen (i * 5+4);clear hwh)))
 go_ret2
 have hend:=row_setN L3.out HI.out F2.out.2.1 F2.out.2.2.1 F2.out.2.2.2 V3.out
 exact ⟨some ⟨eb,0,none⟩,dL,rfl,hend,((((B3.out.setCell (p:=⟨eb,i * 5,none⟩) F2.out.1 _).setCell (p:=⟨eb,i * 5+1,none⟩) F2.out.1 _).setCell (p:=⟨eb,i * 5+2,none⟩) F2.out.1 _).setCell (p:=⟨eb,i * 5+3,none⟩) F2.out.1 _).setCell (p:=⟨eb,i * 5+4,none⟩) F2.out.1 _⟩
theorem ndo_move (A0:Option Addr) (c0:Nat) (l:List GV) (k i j:Nat) (g:GV) (A AL AO:Option Addr) (pl cp cL cO:Nat) (ky cs:ByteArray) (n:Int) (w:World) (hL:ListIn l A0 c0 w) (hk:k=7) (hi:i<l.length) (hj:j<l.length) (hn:l.length≤1000000) (hw:GV.weights l≤900000000) (hv:Vl w g AL AO cL cO) (hgw:g.weight≤1000000000):
  Calls Tryd.prog 23 #[.slice A0 l.length c0,.agg #[.int .u8 k,.slice A pl cp,.string ky,.int .i64 i,.int .i64 j,.int .i64 n,.int .u8 g.kind,.int .i64 g.num,.string g.str,.slice AL g.items.length cL,.slice AO g.vals.length cO,.string cs]] w (RDoN (insL (remL l i) j l[i]) w):=by
 have H0:=Lib.hid (Whole.new w 36 #[.int .u8 k,.slice A pl cp,.string ky,.int .i64 i,.int .i64 j,.int .i64 n,.int .u8 g.kind,.int .i64 g.num,.string g.str,.slice AL g.items.length cL,.slice AO g.vals.length cO,.string cs])
 have HB:=Lib.hid (below_alloc w (.cells #[.int .u8 k,.slice A pl cp,.string ky,.int .i64 i,.int .i64 j,.int .i64 n,.int .u8 g.kind,.int .i64 g.num,.string g.str,.slice AL g.items.length cL,.slice AO g.vals.length cO,.string cs] 36))
 have HL:=Lib.hid hL
 have hck:chk l.length k i j=0:=by subst hk;simp [chk,withinB];omega
 have HCK:=Lib.hid (fun W=>gcheck_any l.length k i j g A AL AO pl cp cL cO ky cs n W)
 rw [hck] at HCK
 have HCL:=Lib.hid (rcopy_l hw)
 have HCV:=Lib.hid (fun W (h:Below w.heap.size w W)=>rcopy_new (hv.later h) hgw)
 have hrl:=rem_len l i hi
 have HW:=Lib.hid (fun W (hs:w.heap.size≤W.heap.size) B d (h:LstV (fun k=>w.heap.size≤k) W (.slice B l.length d) l)=>ref_withoutQ B d i l W (fun k=>w.heap.size≤k) (fun k hk=>Nat.le_trans hs hk) h hi (by omega))
 unfold ListOutQ at HW
 have HX:=Lib.hid (fun W (hs:w.heap.size≤W.heap.size) B d A1 c1 A2 c2 (h:LstV (fun k=>w.heap.size≤k) W (.slice B (remL l i).length d) (remL l i)) (hv:LstV (fun k=>w.heap.size≤k) W (.slice A1 l[i].items.length c1) l[i].items∧ObjV (fun k=>w.heap.size≤k) W (.slice A2 l[i].vals.length c2) l[i].keys l[i].vals)=>ref_withQ B d j (remL l i) l[i] A1 A2 c1 c2 W (fun k=>w.heap.size≤k) (fun k hk=>Nat.le_trans hs hk) h hv (by omega) (by omega))
 unfold ListOutQ at HX
 have HEX:=Lib.hid (fun (W:World) B c (h:LstV (fun k=>w.heap.size≤k) W (.slice B l.length c) l)=>(show ∃ b o,B=some ⟨b,o,none⟩∧∃ A1 c1 A2 c2,(∀ W',Below W.heap.size W W'→W'.cell? ⟨b,o+i * 5,none⟩=some (.int .u8 l[i].kind)∧W'.cell? ⟨b,o+i * 5+1,none⟩=some (.int .i64 l[i].num)∧W'.cell? ⟨b,o+i * 5+2,none⟩=some (.string l[i].str)∧W'.cell? ⟨b,o+i * 5+3,none⟩=some (.slice A1 l[i].items.length c1)∧W'.cell? ⟨b,o+i * 5+4,none⟩=some (.slice A2 l[i].vals.length c2))∧(LstV (fun k=>w.heap.size≤k) W (.slice A1 l[i].items.length c1) l[i].items∧ObjV (fun k=>w.heap.size≤k) W (.slice A2 l[i].vals.length c2) l[i].keys l[i].vals) by
  obtain ⟨A',c',he,_,_,hf⟩:=LstV.form h
  simp only [Value.slice.injEq] at he
  obtain ⟨rfl,_,rfl⟩:=he
  obtain ⟨b,o,rfl,hK,hE⟩:=hf (by intro e;rw [e] at hi;simp at hi)
  obtain ⟨L,O,q0,q1,q2,q3,q4,hLi,hOi⟩:=GV.at_iff.1 (GV.els_get hE (List.getElem?_eq_getElem hi))
  obtain ⟨A1,c1,rfl⟩:=lst_form hLi
  obtain ⟨A2,c2,rfl⟩:=obj_form hOi
  exact ⟨b,o,rfl,A1,c1,A2,c2,fun W hb=>⟨(hb.cell (p:=⟨b,_,none⟩) hK.lt).trans q0,(hb.cell (p:=⟨b,_,none⟩) hK.lt).trans q1,(hb.cell (p:=⟨b,_,none⟩) hK.lt).trans q2,(hb.cell (p:=⟨b,_,none⟩) hK.lt).trans q3,(hb.cell (p:=⟨b,_,none⟩) hK.lt).trans q4⟩,⟨hLi,hOi⟩⟩))
 have hfd:=fun (n:Nat)=>val_field3 n
 have g4:((k:Int) == 4)=false:=by simp;omega
 have g5:((k:Int) == 5)=false:=by simp;omega
 have g6:((k:Int) == 6)=false:=by simp;omega
 have hk0:(0:Int)≤(i:Int):=by omega
 have hk1:(i:Int)<(l.length:Int):=by omega
 clear hk hck hL hrl hj hv hgw
 generalize insL (remL l i) j l[i]=lz at *
 generalize remL l i=lr at *
 generalize l[i]=x at *
 go_enter Tryd.func23,Tryd.ntmps23
 go_wp2_with (first
  | (go_at_call 38;refine (HCK.out _).mono ?_;rintro e w1 ⟨rfl,hb⟩;have B1:=Lib.hid (HB.out.trans (hb.mono HB.out.size));have H1:=Lib.hid (H0.out.below hb H0.out.lt);clear hb)
  | (go_at_call 35;((with_reducible refine (HCL.out _ _ _ (HL.out.later B1.out)).mono ?_);rintro e w2 ⟨BL,dL,BO,dO,rfl,hl,hb⟩;have L2:=Lib.hid (show LstV (fun k=>w.heap.size≤k) w2 (.slice BL l.length dL) l from hl.keep (From.refl _ _) (fun k hk _=>Nat.le_trans B1.out.size hk));have B2:=Lib.hid (B1.out.trans (hb.mono B1.out.size));have H2:=Lib.hid (H1.out.below hb H1.out.lt);obtain ⟨a0,a1,a2,a3,a4,a5,a6,a7,a8,a9,a10,a11,f0,f1,f2,f3,f4,f5,f6,f7,f8,f9,f10,f11⟩:=H2.out.tw;clear hl hb))
  | (go_at_call 35;((with_reducible refine (HCV.out _ B2.out).mono ?_);rintro e w3 ⟨CL,CO,eL,eO,rfl,hv,hb⟩;have V3:=Lib.hid (show LstV (fun k=>w.heap.size≤k) _ (.slice CL g.items.length eL) g.items∧ObjV (fun k=>w.heap.size≤k) _ (.slice CO g.vals.length eO) g.keys g.vals from ⟨hv.1.keep (From.of_below (below_alloc w3 (.cells #[.int .u8 g.kind,.int .i64 g.num,.string g.str,.slice CL g.items.length eL,.slice CO g.vals.length eO] 31))) (fun k hk _=>Nat.le_trans B2.out.size hk),hv.2.keep (From.of_below (below_alloc w3 (.cells #[.int .u8 g.kind,.int .i64 g.num,.string g.str,.slice CL g.items.length eL,.slice CO g.vals.length eO] 31))) (fun k hk _=>Nat.le_trans B2.out.size hk)⟩);have L3:=Lib.hid ((L2.out.keep (From.of_below hb) (fun _ h _=>h)).keep (From.of_below (below_alloc w3 (.cells #[.int .u8 g.kind,.int .i64 g.num,.string g.str,.slice CL g.items.length eL,.slice CO g.vals.length eO] 31))) (fun _ h _=>h));have B3:=Lib.hid ((B2.out.trans (hb.mono B2.out.size)).alloc (Nat.le_trans B2.out.size hb.size) (.cells #[.int .u8 g.kind,.int .i64 g.num,.string g.str,.slice CL g.items.length eL,.slice CO g.vals.length eO] 31));have H3:=Lib.hid ((H2.out.below hb H2.out.lt).alloc (.cells #[.int .u8 g.kind,.int .i64 g.num,.string g.str,.slice CL g.items.length eL,.slice CO g.vals.length eO] 31));clear a0 a1 a2 a3 a4 a5 a6 a7 a8 a9 a10 a11 f0 f1 f2 f3 f4 f5 f6 f7 f8 f9 f10 f11 hv hb;obtain ⟨a0,a1,a2,a3,a4,a5,a6,a7,a8,a9,a10,a11,f0,f1,f2,f3,f4,f5,f6,f7,f8,f9,f10,f11⟩:=H3.out.tw)))
 obtain ⟨wq,hwq⟩:∃ W,W=w3.alloc (.cells #[.int .u8 g.kind,.int .i64 g.num,.string g.str,.slice CL g.items.length eL,.slice CO g.vals.length eO] 31):=⟨_,rfl⟩
 rw [← hwq] at L3 B3 H3 ⊢
 clear hwq V3 a0 a1 a2 a3 a4 a5 a6 a7 a8 a9 a10 a11 f0 f1 f2 f3 f4 f5 f6 f7 f8 f9 f10 f11
 obtain ⟨b,o,rfl,A1,c1,A2,c2,hcel,hvx⟩:=HEX.out _ _ _ L3.out
 have VX:=Lib.hid hvx
 have HC:=Lib.hid (fun (W:World) (hb:Below wq.heap.size wq W)=>(fun q:Tw W w.heap.size _ _ _ _ _ _ _ _ _ _ _ _=>And.intro q.c3 (And.intro q.c4 (hcel W hb))) (H3.out.below hb H3.out.lt).tw)
 obtain ⟨s3,s4,s5,s6,s7,s8,s9⟩:=HC.out wq (Below.refl _ _)
 clear hcel hvx
 go_region_held3 (fun W=>W.cell? ⟨w.heap.size,3,none⟩=some (.int .i64 i)∧W.cell? ⟨w.heap.size,4,none⟩=some (.int .i64 j)∧W.cell? ⟨b,o+i * 5,none⟩=some (.int .u8 x.kind)∧W.cell? ⟨b,o+i * 5+1,none⟩=some (.int .i64 x.num)∧W.cell? ⟨b,o+i * 5+2,none⟩=some (.string x.str)∧W.cell? ⟨b,o+i * 5+3,none⟩=some (.slice A1 x.items.length c1)∧W.cell? ⟨b,o+i * 5+4,none⟩=some (.slice A2 x.vals.length c2))
  (first | exact HC.out _ HO2.out.2 | exact HC.out _ HO1.out.2 | exact HC.out _ (Below.refl _ _).drew)
  (first
   | (go_at_call 40;refine (HW.out wq.drew (show w.heap.size≤wq.heap.size from B3.out.size) _ _ (L3.out.keep (From.of_below (Below.refl _ _).drew) (fun _ h _=>h))).mono ?_;rintro e w4 ⟨B,d,rfl,hl,hb⟩;have HO1:=Lib.hid (And.intro (show LstV (fun k=>w.heap.size≤k) w4 (.slice B lr.length d) lr from hl) ((Below.refl _ _).drew.trans hb));clear hl hb)
   | (go_at_call 39;refine (HX.out _ (Nat.le_trans B3.out.size HO1.out.2.size) _ _ _ _ _ _ HO1.out.1 ⟨VX.out.1.keep (From.of_below HO1.out.2) (fun _ h _=>h),VX.out.2.keep (From.of_below HO1.out.2) (fun _ h _=>h)⟩).mono ?_;rintro e w5 ⟨B2,d2,rfl,hl,hb⟩;have HO2:=Lib.hid (And.intro (show LstV (fun k=>w.heap.size≤k) w5 (.slice B2 lz.length d2) lz from hl) (HO1.out.2.trans (hb.mono HO1.out.2.size)));clear hl hb))
 go_wp2
 go_ret2
 exact ⟨B2,d2,rfl,HO2.out.1,B3.out.trans (HO2.out.2.mono B3.out.size)⟩
end Go.Proofs.YtlhfnemcpgfcdaaDoor
