/- Texts in one: RqX, RqB. -/
import Derived.Test.YtmmgdkpkcoopgaaGreatDoorP14
set_option maxRecDepth 100000
set_option maxHeartbeats 8000000
namespace Go.Proofs.YtmmgdkpkcoopgaaGreatDoor
open Go.Lib(hid)
open Go Go.RowKit
set_option linter.unusedVariables false
set_option linter.unusedSimpArgs false
structure Sq (Q:Nat->Prop) (w W:World) (v:Value) (n:Nat) (l:List GV) (xs:List Value):Prop where
 below:Below w.heap.size w W
 own:W.ownsRow w.heap.size 29 5 v n xs
 row:RowL (fun k=>k<w.heap.size/\Q k) W l xs
theorem Sq.step {Q:Nat->Prop} {w W W':World} {v:Value} {n:Nat} {l:List GV} {xs:List Value} (h:Sq Q w W v n l xs) (hb:Below W.heap.size W W'):Sq Q w W' v n l xs:=
 ⟨h.below.trans (hb.mono h.below.size),zaz h.own hb,h.row.keep (.of_below hb) (fun _ h _=>h)⟩
theorem Sq.app {Q:Nat->Prop} {w W W':World} {v v':Value} {n m:Nat} {l l':List GV} {xs news:List Value} (h:Sq Q w W v n l xs) (hr:RowL (fun k=>k<w.heap.size/\Q k) W l' news)
  (hown:W'.ownsRow w.heap.size 29 5 v' (n+m) (xs++news)) (hg:W.grownBy W' v.ownBlock):Sq Q w W' v' (n+m) (l++l') (xs++news):=by
 have hF:From (fun k=>k<w.heap.size/\Q k) W W':=fun k hk hlt=>hg.block k hlt (fun e=>by have:=(h.own.lt k e.symm).1;omega)
 exact ⟨h.below.grown hg h.below.size (fun k hk=>(h.own.lt k hk).1),hown,(h.row.app hr).keep hF (fun _ h _=>h)⟩
theorem Sq.done {Q:Nat->Prop} {w W:World} {v:Value} {l:List GV} {xs:List Value} (hQ:∀ k,w.heap.size<=k->Q k) (h:Sq Q w W v l.length l xs):LstV Q W v l:=
 LstV.of_own h.own (h.row.keep (From.refl _ _) fun _ h _=>h.2) fun k hk=>hQ k (h.own.lt k hk).1
theorem zfE (Q:Nat->Prop) (w:World):Sq Q w w (.slice none 0 0) 0 [] []:=⟨Below.refl _ _,World.ownsRow_nil _ _ _ _,by simp [RowL]⟩
theorem Sq.first0 {Q:Nat->Prop} {w W':World} {v':Value} {m:Nat} {l':List GV} {news:List Value} (hr:RowL (fun k=>k<w.heap.size/\Q k) w l' news) (hown:W'.ownsRow w.heap.size 29 5 v' (0+m) ([]++news)) (hg:w.grownBy W' (Value.ownBlock (.slice none 0 0))):Sq Q w W' v' m l' news:=by
 have:=(zfE Q w).app hr hown hg
 simpa using this
def ListOutQ (Q:Nat->Prop) (l:List GV) (w:World) (e:Ending) (w':World):Prop:=∃ A c,e=.returned (.slice A l.length c)/\LstV Q w' (.slice A l.length c) l/\Below w.heap.size w w'
theorem zey {Q:Nat->Prop} {l:List GV} {w wb w':World} {v:Value} {n:Nat} {xs:List Value} (hw:Below w.heap.size w wb) (hQ:∀ k,w.heap.size<=k->Q k) (h:Sq Q wb w' v n l xs) (hn:n=l.length):ListOutQ Q l w (.returned v) w':=by
 subst hn;have hd:=h.done (fun k hk=>hQ k (Nat.le_trans hw.size hk))
 obtain ⟨A,c,rfl⟩:=zah hd;exact ⟨A,c,rfl,hd,hw.trans (h.below.mono hw.size)⟩
theorem zdW {Q W} {L:Value} {l} (h:LstV Q W L l):LstV (fun k=>k<W.heap.size/\Q k) W L l:=h.keep (From.refl _ _) (fun _ h hl=>⟨hl,h⟩)
theorem zdE (A:Option Addr) (c i:Nat) (l:List GV) (w:World) (Q:Nat->Prop) (hQ:∀ k,w.heap.size<=k->Q k) (hL:LstV Q w (.slice A l.length c) l) (hi:i<l.length) (hn:l.length<=1000000):
  Calls Tryz.prog 48 #[.slice A l.length c,.int .i64 i] w (ListOutQ Q (remL l i) w):=by
 obtain ⟨hA0,hA1⟩:=zhO hL;obtain ⟨_,_,he,hc1,hc2,_⟩:=hL.form;simp only [Value.slice.injEq] at he;obtain ⟨rfl,_,rfl⟩:=he;obtain ⟨xs1,h1⟩:=zkg (zdW hL) i (by omega)
 obtain ⟨xs3,h3⟩:=zjC (zdW hL) (i+1) (by omega)
 have hr1:=zhN A l.length c i (by omega) hc1 hc2
 have hr3:∀ W,(Instr.slice 26 (.slice A l.length c) (some (.int .i64 ((i:Int)+1))) none none).run Tryz.prog W=.ok (.slice (fromAt A c (i+1)) (l.length - (i+1)) (c - (i+1))) W:=zh2 A l.length c (i+1) hA1 (by omega) hc1 hc2
 have hz1:A=none->i=0:=fun e=>by have:=(hA0 e).1;omega
 have hz3:fromAt A c (i+1)=none->l.length - (i+1)=0:=fun e=>by have:=(hA0 (zgS e)).1;omega
 have hl1:xs1.length=i * 5:=by rw [h1.len];simp;omega
 have hl3:xs3.length=(l.length - (i+1)) * 5:=by rw [h3.len];simp
 have hfin:∀ W v,Sq Q w W v (i+(l.length - (i+1))) (l.take i++l.drop (i+1)) (xs1++xs3)->ListOutQ Q (remL l i) w (.returned v) W:=fun W v h=>by
  exact zey (Below.refl _ _) hQ h (by rw [zca l i hi];omega)
 obtain ⟨i1,hi1,hy0,hy1,hy2⟩:=info_parts infoVal;have HI1:=hid (And.intro hi1 (And.intro hy0 (And.intro hy1 hy2)));have H1:=hid h1;have H3:=hid h3;have HZ:=hid (And.intro hz1 (And.intro hz3 (And.intro hl1 hl3)));have HFIN:=hid hfin;have B1:=hid (show (0+i<=maxLen/\(0+i) * 80<=140737488355328)/\(i+(l.length - (i+1))<=maxLen/\(i+(l.length - (i+1))) * 80<=140737488355328) by unfold maxLen;omega)
 unfold maxLen at hc2;clear hi1 hy0 hy1 hy2 h1 h3 hz1 hz3 hl1 hl3 hfin hA0 hA1 hL hQ;generalize fromAt A c (i+1)=D3 at *;generalize remL l i=lz at *;generalize l.take i=l1 at *;generalize l.drop (i+1)=l3 at *;generalize l.length=n at *;go_enter Tryz.func48,Tryz.ntmps48
 go_wp2_with (first
  | (at_builtin;refine zaj _ rfl (.tmp 6) (.tmp 9) 26 rfl w.heap.size 29 i1 _ 5 80 Tryz.underlying26 HI1.out.1 HI1.out.2.1 HI1.out.2.2.1 HI1.out.2.2.2 rfl (by decide) (.slice none 0 0) 0 [] rfl (zfE Q w).own A i c xs1 rfl HZ.out.1 HZ.out.2.2.1 (fun ad e=>(H1.out.cells ad e).2) H1.out.one B1.out.1.1 B1.out.1.2 (Nat.le_refl _) ?_;intro v3 W3 hown3 hgrow3 hat3;have H4:=hid (Sq.first0 H1.out.row hown3 hgrow3);obtain ⟨A3,c3,rfl⟩:=zaf H4.out.own;clear hown3 hgrow3 hat3)
  | (at_builtin;refine zaj _ rfl (.tmp 11) (.tmp 15) 26 rfl w.heap.size 29 i1 _ 5 80 Tryz.underlying26 HI1.out.1 HI1.out.2.1 HI1.out.2.2.1 HI1.out.2.2.2 rfl (by decide) (.slice A3 i c3) i _ rfl H4.out.own D3 (n - (i+1)) (c - (i+1)) xs3 rfl HZ.out.2.1 HZ.out.2.2.2 (fun ad e=>((H3.out.later H4.out.below).cells ad e).2) H3.out.one B1.out.2.1 B1.out.2.2 H4.out.below.size ?_;intro v5 W5 hown5 hgrow5 hat5;have H5:=hid (HFIN.out _ _ (H4.out.app (H3.out.later H4.out.below).row hown5 hgrow5));obtain ⟨A5,c5,rfl⟩:=zaf hown5;clear hown5 hgrow5 hat5))
 go_ret
 exact H5.out
theorem zgM (A:Option Addr) (c i:Nat) (l:List GV) (g:GV) (AL AO:Option Addr) (cL cO:Nat) (w:World) (Q:Nat->Prop) (hQ:∀ k,w.heap.size<=k->Q k) (hL:LstV Q w (.slice A l.length c) l) (hv:LstV Q w (.slice AL g.il.length cL) g.il/\ObjV Q w (.slice AO g.vz.length cO) g.keys g.vz) (hi:i<=l.length) (hn:l.length<=1000000):
  Calls Tryz.prog 47 #[.slice A l.length c,.int .i64 i,(vG g AL cL AO cO)] w (ListOutQ Q (insL l i g) w):=by
 obtain ⟨hA0,hA1⟩:=zhO hL;obtain ⟨_,_,he,hc1,hc2,_⟩:=hL.form;simp only [Value.slice.injEq] at he;obtain ⟨rfl,_,rfl⟩:=he;have hwb:=zaa w (oV g AL cL AO cO);have hLb:=LstV.keep (From.of_below hwb) (fun _ h _=>h) hL
 obtain ⟨xs1,h1⟩:=zkg (zdW hLb) i (by omega)
 obtain ⟨xs3,h3⟩:=zjC (zdW hLb) i (by omega)
 have hr1:=zhN A l.length c i (by omega) hc1 hc2
 have hr3:=zh2 A l.length c i hA1 (by omega) hc1 hc2
 have hz1:A=none->i=0:=fun e=>by have:=(hA0 e).1;omega
 have hz3:fromAt A c i=none->l.length - i=0:=fun e=>by have:=(hA0 (zgS e)).1;omega
 have hl1:xs1.length=i * 5:=by rw [h1.len];simp;omega
 have hl3:xs3.length=(l.length - i) * 5:=by rw [h3.len];simp
 have hfin:∀ W v,Sq Q (w.alloc (oV g AL cL AO cO)) W v (i+1+(l.length - i)) ((l.take i++[g])++l.drop i) ((xs1++(chunk g (.slice AL g.il.length cL) (.slice AO g.vz.length cO)))++xs3)->ListOutQ Q (insL l i g) w (.returned v) W:=fun W v h=>by
  rw [show (l.take i++[g])++l.drop i=insL l i g by simp [insL]] at h
  exact zey hwb hQ h (by rw [zd4 l i g hi];omega)
 have hvb:LstV (fun k=>k<(w.alloc (oV g AL cL AO cO)).heap.size/\Q k) (w.alloc (oV g AL cL AO cO)) (.slice AL g.il.length cL) g.il/\ObjV (fun k=>k<(w.alloc (oV g AL cL AO cO)).heap.size/\Q k) (w.alloc (oV g AL cL AO cO)) (.slice AO g.vz.length cO) g.keys g.vz:=⟨hv.1.keep (From.of_below hwb) (fun k h hlt=>⟨Nat.lt_of_lt_of_le hlt hwb.size,h⟩),hv.2.keep (From.of_below hwb) (fun k h hlt=>⟨Nat.lt_of_lt_of_le hlt hwb.size,h⟩)⟩
 have BX:=hid (fun (W:World) (hb:Below (w.alloc (oV g AL cL AO cO)).heap.size (w.alloc (oV g AL cL AO cO)) W)=>(fun q:Five W w.heap.size _ _ _ _ _=>And.intro q.c0 (And.intro q.c1 (And.intro q.c2 (And.intro q.c3 q.c4)))) ((Whole.new w 29 #[.int .u8 g.kq,.int .i64 g.num,.string g.str,.slice AL g.il.length cL,.slice AO g.vz.length cO]).below hb (Whole.new w _ _).lt).five)
 obtain ⟨i1,hi1,hy0,hy1,hy2⟩:=info_parts infoVal;have HI1:=hid (And.intro hi1 (And.intro hy0 (And.intro hy1 hy2)));have H1:=hid h1;have H3:=hid h3;have HV:=hid hvb;have HZ:=hid (And.intro hz1 (And.intro hz3 (And.intro hl1 hl3)));have HFIN:=hid hfin;have B1:=hid (show (0+i<=maxLen/\(0+i) * 80<=140737488355328)/\(i+1<=maxLen/\(i+1) * 80<=140737488355328)/\(i+1+(l.length - i)<=maxLen/\(i+1+(l.length - i)) * 80<=140737488355328) by unfold maxLen;omega)
 unfold maxLen at hc2;clear hi1 hy0 hy1 hy2 h1 h3 hz1 hz3 hl1 hl3 hfin hA0 hA1 hL hLb hv hvb hwb hQ;generalize fromAt A c i=D3 at *;generalize insL l i g=lz at *;generalize l.take i=l1 at *;generalize l.drop i=l3 at *;generalize l.length=n at *;go_enter Tryz.func47,Tryz.ntmps47
 go_wp2_with (first
  | (at_builtin;refine zaj _ rfl (.tmp 8) (.tmp 11) 26 rfl (w.alloc (oV g AL cL AO cO)).heap.size 29 i1 _ 5 80 Tryz.underlying26 HI1.out.1 HI1.out.2.1 HI1.out.2.2.1 HI1.out.2.2.2 rfl (by decide) (.slice none 0 0) 0 [] rfl (zfE Q (w.alloc (oV g AL cL AO cO))).own A i c xs1 rfl HZ.out.1 HZ.out.2.2.1 (fun ad e=>(H1.out.cells ad e).2) H1.out.one B1.out.1.1 B1.out.1.2 (Nat.le_refl _) ?_;intro v3 W3 hown3 hgrow3 hat3;have H4:=hid (Sq.first0 H1.out.row hown3 hgrow3);obtain ⟨A3,c3,rfl⟩:=zaf H4.out.own;obtain ⟨x0,x1,x2,x3,x4⟩:=BX.out _ H4.out.below;clear hown3 hgrow3 hat3)
  | (at_builtin;refine wpList_append_own_at _ rfl (.tmp 13) (.tmp 15) 26 rfl (w.alloc (oV g AL cL AO cO)).heap.size 29 i1 _ 5 80 Tryz.underlying26 HI1.out.1 HI1.out.2.1 HI1.out.2.2.1 HI1.out.2.2.2 rfl (by decide) (.slice A3 i c3) i xs1 rfl ((H4.out.step (zaa _ _)).own) ⟨W3.heap.size,0,none⟩ 1 1 (chunk g (.slice AL g.il.length cL) (.slice AO g.vz.length cO)) rfl rfl (row_cells' _ _ rfl _ _) (by simp [chunk,Value.oneCell']) B1.out.2.1.1 B1.out.2.1.2 ((H4.out.step (zaa _ _)).below.size) ?_;intro v4 W4 hown4 hgrow4 _ hat4;have H6:=hid ((H4.out.step (zaa _ _)).app (l':=[g]) ⟨_,_,[],by simp,HV.out.1.keep (From.of_below (H4.out.step (zaa _ _)).below) (fun _ h _=>h),HV.out.2.keep (From.of_below (H4.out.step (zaa _ _)).below) (fun _ h _=>h),rfl⟩ hown4 hgrow4);obtain ⟨A4,c4,rfl⟩:=zaf H6.out.own;clear hown4 hgrow4 hat4)
  | (at_builtin;refine zaj _ rfl (.tmp 17) (.tmp 20) 26 rfl (w.alloc (oV g AL cL AO cO)).heap.size 29 i1 _ 5 80 Tryz.underlying26 HI1.out.1 HI1.out.2.1 HI1.out.2.2.1 HI1.out.2.2.2 rfl (by decide) (.slice A4 (i+1) c4) (i+1) _ rfl H6.out.own D3 (n - i) (c - i) xs3 rfl HZ.out.2.1 HZ.out.2.2.2 (fun ad e=>((H3.out.later H6.out.below).cells ad e).2) H3.out.one B1.out.2.2.1 B1.out.2.2.2 H6.out.below.size ?_;intro v5 W5 hown5 hgrow5 hat5;have H5:=hid (HFIN.out _ _ (H6.out.app (H3.out.later H6.out.below).row hown5 hgrow5));obtain ⟨A5,c5,rfl⟩:=zaf hown5;clear hown5 hgrow5 hat5))
 go_ret
 exact H5.out
end Go.Proofs.YtmmgdkpkcoopgaaGreatDoor
namespace Go.Proofs.YtmmgdkpkcoopgaaGreatDoor
open Go.Lib(hid)
open Go Go.RowKit
set_option linter.unusedVariables false
set_option linter.unusedSimpArgs false
def RDoN (l:List GV) (w:World) (e:Ending) (w':World):Prop:=∃ A c,e=.returned (.tuple #[.slice A l.length c,.int .i64 0])/\LstV (fun k=>w.heap.size<=k) w' (.slice A l.length c) l/\Below w.heap.size w w'
theorem zmw (A0 c0 l) (k i j:Nat) (g) (A AL AO:Option Addr) (pl cp cL cO:Nat) (ky cs:ByteArray) (n:Int) (w) (hL:ListIn l A0 c0 w) (hk:k=4) (hi:i<=l.length) (hn:l.length<=1000000) (hw:GV.weights l<=900000000) (hv:Vl w g AL AO cL cO) (hgw:g.weight<=1000000000):
  Calls Tryz.prog 29 #[.slice A0 l.length c0,.agg #[.int .u8 k,.slice A pl cp,.string ky,.int .i64 i,.int .i64 j,.int .i64 n,.int .u8 g.kq,.int .i64 g.num,.string g.str,.slice AL g.il.length cL,.slice AO g.vz.length cO,.string cs]] w (RDoN (insL l i g) w):=by
 have H0:=hid (Whole.new w 45 #[.int .u8 k,.slice A pl cp,.string ky,.int .i64 i,.int .i64 j,.int .i64 n,.int .u8 g.kq,.int .i64 g.num,.string g.str,.slice AL g.il.length cL,.slice AO g.vz.length cO,.string cs]);have HB:=hid (zaa w (.cells #[.int .u8 k,.slice A pl cp,.string ky,.int .i64 i,.int .i64 j,.int .i64 n,.int .u8 g.kq,.int .i64 g.num,.string g.str,.slice AL g.il.length cL,.slice AO g.vz.length cO,.string cs] 45));have HL:=hid hL;have hck:chk l.length k i j=0:=by subst hk;simp [chk];omega
 have HCK:=hid (fun W=>za9 l.length k i j g A AL AO pl cp cL cO ky cs n W)
 rw [hck] at HCK;have HCL:=hid (zho hw);have HCV:=hid (fun W (h:Below w.heap.size w W)=>zb6 (hv.later h) hgw)
 have HW:=hid (fun W (hs:w.heap.size<=W.heap.size) B d CL CO eL eO (h:LstV (fun k=>w.heap.size<=k) W (.slice B l.length d) l) (hv:LstV (fun k=>w.heap.size<=k) W (.slice CL g.il.length eL) g.il/\ObjV (fun k=>w.heap.size<=k) W (.slice CO g.vz.length eO) g.keys g.vz)=>zgM B d i l g CL CO eL eO W (fun k=>w.heap.size<=k) (fun k hk=>Nat.le_trans hs hk) h hv hi (by omega))
 unfold ListOutQ at HW;have hfd:=fun (n:Nat)=>zcj n
 have g4:((k:Int) == 4)=true:=by simp;omega
 clear hk hck hL hv hgw;generalize insL l i g=lz at *;go_enter Tryz.func29,Tryz.ntmps29
 go_wp2_with (first
  | (go_at_call 46;refine (HCK.out _).mono ?_;rintro e w1 ⟨rfl,hb⟩;have B1:=hid (HB.out.trans (hb.mono HB.out.size));have H1:=hid (H0.out.below hb H0.out.lt);clear hb)
  | (go_at_call 20;((with_reducible refine (HCL.out _ _ _ (HL.out.later B1.out)).mono ?_);rintro e w2 ⟨BL,dL,BO,dO,rfl,hl,hb⟩;have L2:=hid (show LstV (fun k=>w.heap.size<=k) w2 (.slice BL l.length dL) l from hl.keep (From.refl _ _) (fun k hk _=>Nat.le_trans B1.out.size hk));have B2:=hid (B1.out.trans (hb.mono B1.out.size));have H2:=hid (H1.out.below hb H1.out.lt);obtain ⟨a0,a1,a2,a3,a4,a5,a6,a7,a8,a9,a10,a11,f0,f1,f2,f3,f4,f5,f6,f7,f8,f9,f10,f11⟩:=H2.out.tw;clear hl hb))
  | (go_at_call 20;((with_reducible refine (HCV.out _ B2.out).mono ?_);rintro e w3 ⟨CL,CO,eL,eO,rfl,hv,hb⟩;have V3:=hid (show LstV (fun k=>w.heap.size<=k) _ (.slice CL g.il.length eL) g.il/\ObjV (fun k=>w.heap.size<=k) _ (.slice CO g.vz.length eO) g.keys g.vz from ⟨hv.1.keep (From.of_below (zaa w3 (oV g CL eL CO eO))) (fun k hk _=>Nat.le_trans B2.out.size hk),hv.2.keep (From.of_below (zaa w3 (oV g CL eL CO eO))) (fun k hk _=>Nat.le_trans B2.out.size hk)⟩);have L3:=hid ((L2.out.keep (From.of_below hb) (fun _ h _=>h)).keep (From.of_below (zaa w3 (oV g CL eL CO eO))) (fun _ h _=>h));have B3:=hid ((B2.out.trans (hb.mono B2.out.size)).alloc (Nat.le_trans B2.out.size hb.size) (oV g CL eL CO eO));have H3:=hid ((H2.out.below hb H2.out.lt).alloc (oV g CL eL CO eO));clear a0 a1 a2 a3 a4 a5 a6 a7 a8 a9 a10 a11 f0 f1 f2 f3 f4 f5 f6 f7 f8 f9 f10 f11 hv hb;obtain ⟨a0,a1,a2,a3,a4,a5,a6,a7,a8,a9,a10,a11,f0,f1,f2,f3,f4,f5,f6,f7,f8,f9,f10,f11⟩:=H3.out.tw))
  | (go_at_call 47;refine (HW.out _ B3.out.size _ _ _ _ _ _ L3.out V3.out).mono ?_;rintro e w4 ⟨AZ,cz,rfl,hl,hb⟩;have L4:=hid hl;have B4:=hid (B3.out.trans (hb.mono B3.out.size));clear hl hb))
 go_ret2
 exact ⟨AZ,cz,rfl,L4.out,B4.out⟩
theorem zma (A0 c0 l) (k i j:Nat) (g) (A AL AO:Option Addr) (pl cp cL cO:Nat) (ky cs:ByteArray) (n:Int) (w) (hL:ListIn l A0 c0 w) (hk:k=5) (hi:i<l.length) (hn:l.length<=1000000) (hw:GV.weights l<=900000000) (hv:Vl w g AL AO cL cO) (hgw:g.weight<=1000000000):
  Calls Tryz.prog 29 #[.slice A0 l.length c0,.agg #[.int .u8 k,.slice A pl cp,.string ky,.int .i64 i,.int .i64 j,.int .i64 n,.int .u8 g.kq,.int .i64 g.num,.string g.str,.slice AL g.il.length cL,.slice AO g.vz.length cO,.string cs]] w (RDoN (remL l i) w):=by
 have H0:=hid (Whole.new w 45 #[.int .u8 k,.slice A pl cp,.string ky,.int .i64 i,.int .i64 j,.int .i64 n,.int .u8 g.kq,.int .i64 g.num,.string g.str,.slice AL g.il.length cL,.slice AO g.vz.length cO,.string cs]);have HB:=hid (zaa w (.cells #[.int .u8 k,.slice A pl cp,.string ky,.int .i64 i,.int .i64 j,.int .i64 n,.int .u8 g.kq,.int .i64 g.num,.string g.str,.slice AL g.il.length cL,.slice AO g.vz.length cO,.string cs] 45));have HL:=hid hL;have hck:chk l.length k i j=0:=by subst hk;simp [chk,withinB];omega
 have HCK:=hid (fun W=>za9 l.length k i j g A AL AO pl cp cL cO ky cs n W)
 rw [hck] at HCK;have HCL:=hid (zho hw);have HCV:=hid (fun W (h:Below w.heap.size w W)=>zb6 (hv.later h) hgw)
 have HW:=hid (fun W (hs:w.heap.size<=W.heap.size) B d (h:LstV (fun k=>w.heap.size<=k) W (.slice B l.length d) l)=>zdE B d i l W (fun k=>w.heap.size<=k) (fun k hk=>Nat.le_trans hs hk) h hi (by omega))
 unfold ListOutQ at HW;have hfd:=fun (n:Nat)=>zcj n
 have g4:((k:Int) == 4)=false:=by simp;omega
 have g5:((k:Int) == 5)=true:=by simp;omega
 clear hk hck hL hv hgw;generalize remL l i=lz at *;go_enter Tryz.func29,Tryz.ntmps29
 go_wp2_with (first
  | (go_at_call 46;refine (HCK.out _).mono ?_;rintro e w1 ⟨rfl,hb⟩;have B1:=hid (HB.out.trans (hb.mono HB.out.size));have H1:=hid (H0.out.below hb H0.out.lt);clear hb)
  | (go_at_call 20;((with_reducible refine (HCL.out _ _ _ (HL.out.later B1.out)).mono ?_);rintro e w2 ⟨BL,dL,BO,dO,rfl,hl,hb⟩;have L2:=hid (show LstV (fun k=>w.heap.size<=k) w2 (.slice BL l.length dL) l from hl.keep (From.refl _ _) (fun k hk _=>Nat.le_trans B1.out.size hk));have B2:=hid (B1.out.trans (hb.mono B1.out.size));have H2:=hid (H1.out.below hb H1.out.lt);obtain ⟨a0,a1,a2,a3,a4,a5,a6,a7,a8,a9,a10,a11,f0,f1,f2,f3,f4,f5,f6,f7,f8,f9,f10,f11⟩:=H2.out.tw;clear hl hb))
  | (go_at_call 20;((with_reducible refine (HCV.out _ B2.out).mono ?_);rintro e w3 ⟨CL,CO,eL,eO,rfl,hv,hb⟩;have V3:=hid (show LstV (fun k=>w.heap.size<=k) _ (.slice CL g.il.length eL) g.il/\ObjV (fun k=>w.heap.size<=k) _ (.slice CO g.vz.length eO) g.keys g.vz from ⟨hv.1.keep (From.of_below (zaa w3 (oV g CL eL CO eO))) (fun k hk _=>Nat.le_trans B2.out.size hk),hv.2.keep (From.of_below (zaa w3 (oV g CL eL CO eO))) (fun k hk _=>Nat.le_trans B2.out.size hk)⟩);have L3:=hid ((L2.out.keep (From.of_below hb) (fun _ h _=>h)).keep (From.of_below (zaa w3 (oV g CL eL CO eO))) (fun _ h _=>h));have B3:=hid ((B2.out.trans (hb.mono B2.out.size)).alloc (Nat.le_trans B2.out.size hb.size) (oV g CL eL CO eO));have H3:=hid ((H2.out.below hb H2.out.lt).alloc (oV g CL eL CO eO));clear a0 a1 a2 a3 a4 a5 a6 a7 a8 a9 a10 a11 f0 f1 f2 f3 f4 f5 f6 f7 f8 f9 f10 f11 hv hb;obtain ⟨a0,a1,a2,a3,a4,a5,a6,a7,a8,a9,a10,a11,f0,f1,f2,f3,f4,f5,f6,f7,f8,f9,f10,f11⟩:=H3.out.tw))
  | (go_at_call 48;refine (HW.out _ B3.out.size _ _ L3.out).mono ?_;rintro e w4 ⟨AZ,cz,rfl,hl,hb⟩;have L4:=hid hl;have B4:=hid (B3.out.trans (hb.mono B3.out.size));clear hl hb))
 go_ret2
 exact ⟨AZ,cz,rfl,L4.out,B4.out⟩
theorem zkI {m lo n0 eb i c:Nat} {l:List GV} {g:GV} {W:World} {vO:Value} {xs ys:List Value} {CL CO:Option Addr} {eL eO:Nat} (h:CopyRows lo l [] [] W (.slice (some ⟨eb,0,none⟩) l.length c) vO xs ys) (hi:i<l.length) (hlt:eb<n0) (hm:m<=lo) (hm0:m<=n0)
  (hg:LstV (fun k=>n0<=k) W (.slice CL g.il.length eL) g.il/\ObjV (fun k=>n0<=k) W (.slice CO g.vz.length eO) g.keys g.vz):
  LstV (fun k=>m<=k) (((((W.setCell ⟨eb,i * 5,none⟩ (.int .u8 g.kq)).setCell ⟨eb,i * 5+1,none⟩ (.int .i64 g.num)).setCell ⟨eb,i * 5+2,none⟩ (.string g.str)).setCell ⟨eb,i * 5+3,none⟩ (.slice CL g.il.length eL)).setCell ⟨eb,i * 5+4,none⟩ (.slice CO g.vz.length eO)) (.slice (some ⟨eb,0,none⟩) l.length c) (l.set i g):=by
 obtain ⟨eb',cs,he,hle,_,_,_,u0,u1,u2,u3,u4,h0,h1,h2,h3,h4⟩:=zdU h hi;cases he
 exact zgl h.rowL h.ownL zkq (fun k hk=>Nat.le_trans hm hk.1) (Nat.le_trans hm hle) (zbl W _ _ _ _ _) (zdu (ok:=fun k=>n0<=k) h0 h1 h2 h3 h4 (by omega) (fun k hk=>Nat.le_trans hm0 hk) hg.1 hg.2)
theorem zlP (A0 c0 l) (k i j:Nat) (g) (A AL AO:Option Addr) (pl cp cL cO:Nat) (ky cs:ByteArray) (n:Int) (w) (hL:ListIn l A0 c0 w) (hk:k=6) (hi:i<l.length) (hn:l.length<=1000000) (hw:GV.weights l<=900000000) (hv:Vl w g AL AO cL cO) (hgw:g.weight<=1000000000):
  Calls Tryz.prog 29 #[.slice A0 l.length c0,.agg #[.int .u8 k,.slice A pl cp,.string ky,.int .i64 i,.int .i64 j,.int .i64 n,.int .u8 g.kq,.int .i64 g.num,.string g.str,.slice AL g.il.length cL,.slice AO g.vz.length cO,.string cs]] w (RDoN (l.set i g) w):=by
 have H0:=hid (Whole.new w 45 #[.int .u8 k,.slice A pl cp,.string ky,.int .i64 i,.int .i64 j,.int .i64 n,.int .u8 g.kq,.int .i64 g.num,.string g.str,.slice AL g.il.length cL,.slice AO g.vz.length cO,.string cs]);have HB:=hid (zaa w (.cells #[.int .u8 k,.slice A pl cp,.string ky,.int .i64 i,.int .i64 j,.int .i64 n,.int .u8 g.kq,.int .i64 g.num,.string g.str,.slice AL g.il.length cL,.slice AO g.vz.length cO,.string cs] 45));have HL:=hid hL;have hck:chk l.length k i j=0:=by subst hk;simp [chk,withinB];omega
 have HCK:=hid (fun W=>za9 l.length k i j g A AL AO pl cp cL cO ky cs n W)
 rw [hck] at HCK;have HCL:=hid (ziN hw);have HCV:=hid (fun W (h:Below w.heap.size w W)=>zb6 (hv.later h) hgw)
 have hfd:=fun (n:Nat)=>zcj n
 have g4:((k:Int) == 4)=false:=by simp;omega
 have g5:((k:Int) == 5)=false:=by simp;omega
 have g6:((k:Int) == 6)=true:=by simp;omega
 have HI:=hid hi;have hk0:(0:Int)<=(i:Int):=by omega
 have hk1:(i:Int)<(l.length:Int):=by omega
 have hlen:(l.set i g).length=l.length:=by simp
 clear hk hck hL hv hgw;unfold RDoN;rw [hlen];go_enter Tryz.func29,Tryz.ntmps29
 go_wp2_with (first
  | (go_at_call 46;refine (HCK.out _).mono ?_;rintro e w1 ⟨rfl,hb⟩;have B1:=hid (HB.out.trans (hb.mono HB.out.size));have H1:=hid (H0.out.below hb H0.out.lt);clear hb)
  | (go_at_call 20;((with_reducible refine (HCL.out _ _ _ (HL.out.later B1.out)).mono ?_);rintro e w2 ⟨BL,dL,BO,dO,rfl,⟨xs,ys,hl⟩,hb⟩;obtain ⟨eb,ecs,rfl,hlo,hwh,_,_,_⟩:=zdU hl HI.out;have F2:=hid (And.intro (Nat.le_trans B1.out.size hlo) (And.intro hwh.lt (And.intro B1.out.size (Nat.le_trans B1.out.size hb.size))));have L2:=hid hl;have B2:=hid (B1.out.trans (hb.mono B1.out.size));have H2:=hid (H1.out.below hb H1.out.lt);obtain ⟨a0,a1,a2,a3,a4,a5,a6,a7,a8,a9,a10,a11,f0,f1,f2,f3,f4,f5,f6,f7,f8,f9,f10,f11⟩:=H2.out.tw;clear hl hb hlo hwh))
  | (go_at_call 20;((with_reducible refine (HCV.out _ B2.out).mono ?_);rintro e w3 ⟨CL,CO,eL,eO,rfl,hv,hb⟩;have BA:=zaa w3 (oV g CL eL CO eO);have V3:=hid (And.intro (hv.1.keep (From.of_below BA) (fun _ h _=>h)) (hv.2.keep (From.of_below BA) (fun _ h _=>h)));have L3:=hid ((L2.out.below hb).below BA);have B3:=hid ((B2.out.trans (hb.mono B2.out.size)).trans (BA.mono (Nat.le_trans B2.out.size hb.size)));have H3:=hid ((H2.out.below hb H2.out.lt).alloc (oV g CL eL CO eO));clear BA a0 a1 a2 a3 a4 a5 a6 a7 a8 a9 a10 a11 f0 f1 f2 f3 f4 f5 f6 f7 f8 f9 f10 f11 hv hb;obtain ⟨a0,a1,a2,a3,a4,a5,a6,a7,a8,a9,a10,a11,f0,f1,f2,f3,f4,f5,f6,f7,f8,f9,f10,f11⟩:=H3.out.tw;obtain ⟨eb',ecs',he',_,hwh,_,_,u0,u1,u2,u3,u4,q0,q1,q2,q3,q4⟩:=zdU L3.out HI.out;cases he';have p0:=hwh.frozen (i * 5);have p1:=hwh.frozen (i * 5+1);have p2:=hwh.frozen (i * 5+2);have p3:=hwh.frozen (i * 5+3);have p4:=hwh.frozen (i * 5+4);clear hwh)))
 go_ret2
 have hend:=zkI L3.out HI.out F2.out.2.1 F2.out.2.2.1 F2.out.2.2.2 V3.out;exact ⟨some ⟨eb,0,none⟩,dL,rfl,hend,((((B3.out.setCell (p:=⟨eb,i * 5,none⟩) F2.out.1 _).setCell (p:=⟨eb,i * 5+1,none⟩) F2.out.1 _).setCell (p:=⟨eb,i * 5+2,none⟩) F2.out.1 _).setCell (p:=⟨eb,i * 5+3,none⟩) F2.out.1 _).setCell (p:=⟨eb,i * 5+4,none⟩) F2.out.1 _⟩
theorem zku (A0 c0 l) (k i j:Nat) (g) (A AL AO:Option Addr) (pl cp cL cO:Nat) (ky cs:ByteArray) (n:Int) (w) (hL:ListIn l A0 c0 w) (hk:k=7) (hi:i<l.length) (hj:j<l.length) (hn:l.length<=1000000) (hw:GV.weights l<=900000000) (hv:Vl w g AL AO cL cO) (hgw:g.weight<=1000000000):
  Calls Tryz.prog 29 #[.slice A0 l.length c0,.agg #[.int .u8 k,.slice A pl cp,.string ky,.int .i64 i,.int .i64 j,.int .i64 n,.int .u8 g.kq,.int .i64 g.num,.string g.str,.slice AL g.il.length cL,.slice AO g.vz.length cO,.string cs]] w (RDoN (insL (remL l i) j l[i]) w):=by
 have H0:=hid (Whole.new w 45 #[.int .u8 k,.slice A pl cp,.string ky,.int .i64 i,.int .i64 j,.int .i64 n,.int .u8 g.kq,.int .i64 g.num,.string g.str,.slice AL g.il.length cL,.slice AO g.vz.length cO,.string cs]);have HB:=hid (zaa w (.cells #[.int .u8 k,.slice A pl cp,.string ky,.int .i64 i,.int .i64 j,.int .i64 n,.int .u8 g.kq,.int .i64 g.num,.string g.str,.slice AL g.il.length cL,.slice AO g.vz.length cO,.string cs] 45));have HL:=hid hL;have hck:chk l.length k i j=0:=by subst hk;simp [chk,withinB];omega
 have HCK:=hid (fun W=>za9 l.length k i j g A AL AO pl cp cL cO ky cs n W)
 rw [hck] at HCK;have HCL:=hid (zho hw);have HCV:=hid (fun W (h:Below w.heap.size w W)=>zb6 (hv.later h) hgw)
 have hrl:=zca l i hi;have HW:=hid (fun W (hs:w.heap.size<=W.heap.size) B d (h:LstV (fun k=>w.heap.size<=k) W (.slice B l.length d) l)=>zdE B d i l W (fun k=>w.heap.size<=k) (fun k hk=>Nat.le_trans hs hk) h hi (by omega))
 unfold ListOutQ at HW;have HX:=hid (fun W (hs:w.heap.size<=W.heap.size) B d A1 c1 A2 c2 (h:LstV (fun k=>w.heap.size<=k) W (.slice B (remL l i).length d) (remL l i)) (hv:LstV (fun k=>w.heap.size<=k) W (.slice A1 l[i].il.length c1) l[i].il/\ObjV (fun k=>w.heap.size<=k) W (.slice A2 l[i].vz.length c2) l[i].keys l[i].vz)=>zgM B d j (remL l i) l[i] A1 A2 c1 c2 W (fun k=>w.heap.size<=k) (fun k hk=>Nat.le_trans hs hk) h hv (by omega) (by omega))
 unfold ListOutQ at HX;have HEX:=hid (fun (W:World) B c (h:LstV (fun k=>w.heap.size<=k) W (.slice B l.length c) l)=>(show ∃ b o,B=some ⟨b,o,none⟩/\∃ A1 c1 A2 c2,(∀ W',Below W.heap.size W W'->W'.cell? ⟨b,o+i * 5,none⟩=some (.int .u8 l[i].kq)/\W'.cell? ⟨b,o+i * 5+1,none⟩=some (.int .i64 l[i].num)/\W'.cell? ⟨b,o+i * 5+2,none⟩=some (.string l[i].str)/\W'.cell? ⟨b,o+i * 5+3,none⟩=some (.slice A1 l[i].il.length c1)/\W'.cell? ⟨b,o+i * 5+4,none⟩=some (.slice A2 l[i].vz.length c2))/\(LstV (fun k=>w.heap.size<=k) W (.slice A1 l[i].il.length c1) l[i].il/\ObjV (fun k=>w.heap.size<=k) W (.slice A2 l[i].vz.length c2) l[i].keys l[i].vz) by
  obtain ⟨A',c',he,_,_,hf⟩:=LstV.form h;simp only [Value.slice.injEq] at he;obtain ⟨rfl,_,rfl⟩:=he;obtain ⟨b,o,rfl,hK,hE⟩:=hf (by intro e;rw [e] at hi;simp at hi)
  obtain ⟨L,O,q0,q1,q2,q3,q4,hLi,hOi⟩:=GV.at_iff.1 (GV.els_get hE (List.getElem?_eq_getElem hi));obtain ⟨A1,c1,rfl⟩:=zah hLi;obtain ⟨A2,c2,rfl⟩:=zag hOi;exact ⟨b,o,rfl,A1,c1,A2,c2,fun W hb=>⟨(hb.cell (p:=⟨b,_,none⟩) hK.lt).trans q0,(hb.cell (p:=⟨b,_,none⟩) hK.lt).trans q1,(hb.cell (p:=⟨b,_,none⟩) hK.lt).trans q2,(hb.cell (p:=⟨b,_,none⟩) hK.lt).trans q3,(hb.cell (p:=⟨b,_,none⟩) hK.lt).trans q4⟩,⟨hLi,hOi⟩⟩))
 have hfd:=fun (n:Nat)=>zcj n
 have g4:((k:Int) == 4)=false:=by simp;omega
 have g5:((k:Int) == 5)=false:=by simp;omega
 have g6:((k:Int) == 6)=false:=by simp;omega
 have hk0:(0:Int)<=(i:Int):=by omega
 have hk1:(i:Int)<(l.length:Int):=by omega
 clear hk hck hL hrl hj hv hgw;generalize insL (remL l i) j l[i]=lz at *;generalize remL l i=lr at *;generalize l[i]=x at *;go_enter Tryz.func29,Tryz.ntmps29
 go_wp2_with (first
  | (go_at_call 46;refine (HCK.out _).mono ?_;rintro e w1 ⟨rfl,hb⟩;have B1:=hid (HB.out.trans (hb.mono HB.out.size));have H1:=hid (H0.out.below hb H0.out.lt);clear hb)
  | (go_at_call 20;((with_reducible refine (HCL.out _ _ _ (HL.out.later B1.out)).mono ?_);rintro e w2 ⟨BL,dL,BO,dO,rfl,hl,hb⟩;have L2:=hid (show LstV (fun k=>w.heap.size<=k) w2 (.slice BL l.length dL) l from hl.keep (From.refl _ _) (fun k hk _=>Nat.le_trans B1.out.size hk));have B2:=hid (B1.out.trans (hb.mono B1.out.size));have H2:=hid (H1.out.below hb H1.out.lt);obtain ⟨a0,a1,a2,a3,a4,a5,a6,a7,a8,a9,a10,a11,f0,f1,f2,f3,f4,f5,f6,f7,f8,f9,f10,f11⟩:=H2.out.tw;clear hl hb))
  | (go_at_call 20;((with_reducible refine (HCV.out _ B2.out).mono ?_);rintro e w3 ⟨CL,CO,eL,eO,rfl,hv,hb⟩;have V3:=hid (show LstV (fun k=>w.heap.size<=k) _ (.slice CL g.il.length eL) g.il/\ObjV (fun k=>w.heap.size<=k) _ (.slice CO g.vz.length eO) g.keys g.vz from ⟨hv.1.keep (From.of_below (zaa w3 (oV g CL eL CO eO))) (fun k hk _=>Nat.le_trans B2.out.size hk),hv.2.keep (From.of_below (zaa w3 (oV g CL eL CO eO))) (fun k hk _=>Nat.le_trans B2.out.size hk)⟩);have L3:=hid ((L2.out.keep (From.of_below hb) (fun _ h _=>h)).keep (From.of_below (zaa w3 (oV g CL eL CO eO))) (fun _ h _=>h));have B3:=hid ((B2.out.trans (hb.mono B2.out.size)).alloc (Nat.le_trans B2.out.size hb.size) (oV g CL eL CO eO));have H3:=hid ((H2.out.below hb H2.out.lt).alloc (oV g CL eL CO eO));clear a0 a1 a2 a3 a4 a5 a6 a7 a8 a9 a10 a11 f0 f1 f2 f3 f4 f5 f6 f7 f8 f9 f10 f11 hv hb;obtain ⟨a0,a1,a2,a3,a4,a5,a6,a7,a8,a9,a10,a11,f0,f1,f2,f3,f4,f5,f6,f7,f8,f9,f10,f11⟩:=H3.out.tw)))
 obtain ⟨wq,hwq⟩:∃ W,W=w3.alloc (oV g CL eL CO eO):=⟨_,rfl⟩;rw [<- hwq] at L3 B3 H3 ⊢;clear hwq V3 a0 a1 a2 a3 a4 a5 a6 a7 a8 a9 a10 a11 f0 f1 f2 f3 f4 f5 f6 f7 f8 f9 f10 f11;obtain ⟨b,o,rfl,A1,c1,A2,c2,hcel,hvx⟩:=HEX.out _ _ _ L3.out;have VX:=hid hvx;have HC:=hid (fun (W:World) (hb:Below wq.heap.size wq W)=>(fun q:Tw W w.heap.size _ _ _ _ _ _ _ _ _ _ _ _=>And.intro q.c3 (And.intro q.c4 (hcel W hb))) (H3.out.below hb H3.out.lt).tw)
 obtain ⟨s3,s4,s5,s6,s7,s8,s9⟩:=HC.out wq (Below.refl _ _);clear hcel hvx
 go_region_held3 (fun W=>W.cell? ⟨w.heap.size,3,none⟩=some (.int .i64 i)/\W.cell? ⟨w.heap.size,4,none⟩=some (.int .i64 j)/\W.cell? ⟨b,o+i * 5,none⟩=some (.int .u8 x.kq)/\W.cell? ⟨b,o+i * 5+1,none⟩=some (.int .i64 x.num)/\W.cell? ⟨b,o+i * 5+2,none⟩=some (.string x.str)/\W.cell? ⟨b,o+i * 5+3,none⟩=some (.slice A1 x.il.length c1)/\W.cell? ⟨b,o+i * 5+4,none⟩=some (.slice A2 x.vz.length c2))
  (first | exact HC.out _ HO2.out.2 | exact HC.out _ HO1.out.2 | exact HC.out _ (Below.refl _ _).drew)
  (first
   | (go_at_call 48;refine (HW.out wq.drew (show w.heap.size<=wq.heap.size from B3.out.size) _ _ (L3.out.keep (From.of_below (Below.refl _ _).drew) (fun _ h _=>h))).mono ?_;rintro e w4 ⟨B,d,rfl,hl,hb⟩;have HO1:=hid (And.intro (show LstV (fun k=>w.heap.size<=k) w4 (.slice B lr.length d) lr from hl) ((Below.refl _ _).drew.trans hb));clear hl hb)
   | (go_at_call 47;refine (HX.out _ (Nat.le_trans B3.out.size HO1.out.2.size) _ _ _ _ _ _ HO1.out.1 ⟨VX.out.1.keep (From.of_below HO1.out.2) (fun _ h _=>h),VX.out.2.keep (From.of_below HO1.out.2) (fun _ h _=>h)⟩).mono ?_;rintro e w5 ⟨B2,d2,rfl,hl,hb⟩;have HO2:=hid (And.intro (show LstV (fun k=>w.heap.size<=k) w5 (.slice B2 lz.length d2) lz from hl) (HO1.out.2.trans (hb.mono HO1.out.2.size)));clear hl hb))
 go_wp2
 go_ret2
 exact ⟨B2,d2,rfl,HO2.out.1,B3.out.trans (HO2.out.2.mono B3.out.size)⟩
end Go.Proofs.YtmmgdkpkcoopgaaGreatDoor
