/- Texts in one: OneT, OneB. -/
import Derived.Test.YtamlaknfakaanaaGreatDoorR18
set_option maxRecDepth 100000
set_option maxHeartbeats 2000000
namespace Go.Proofs.YtamlaknfakaanaaGreatDoor
open Go Go.RowKit
set_option linter.unusedVariables false
set_option linter.unusedSimpArgs false
theorem text_none (x:GAct) (AP:Option Addr) (ap:Nat) (AD:Option Addr) (ad:Nat) (P:Option Addr) (np pc n:Nat) (w:World) (hk:0≤x.kind∧x.kind≤255) (hs:x.s.size≤140737488351232) (hn:n≤1000000) (hno:¬ 0<n):
  Calls Tryz.prog 32 #[.agg #[.int .u8 0,.slice P np pc,.string ⟨#[]⟩,.int .i64 0,.int .i64 0,.int .i64 0,.int .u8 0,.int .i64 0,.string ⟨#[]⟩,.slice none 0 0,.slice none 0 0,.string ⟨#[]⟩],.agg #[.slice AP x.path.length ap,.int .u8 x.kind,.int .i64 x.i,.int .i64 x.j,.int .i64 x.n,.string x.s,.slice AD x.v.length ad],.int .i64 n] w (TextIs x P np pc n w):=by
 obtain ⟨a,ha,ha1⟩:=mod_nat' x.i (n+1) (by omega)
 have ha2:max x.i 0 % ((n:Int)+1)=(a:Int):=ha
 have HPL:=Lib.hid (fun W=>plain6_any x.s W (by omega))
 have hpz:=plain_size x.s
 have hadd:=fun W=>run_string_add_sum (P:=Tryz.prog) W ⟨#[120]⟩ (plainB x.s) (by show 1+_≤_;omega)
 have H0:=Lib.hid (TB3.new w #[.int .u8 8,.slice P np pc,.string ⟨#[]⟩,.int .i64 a,.int .i64 0,.int .i64 0,.int .u8 0,.int .i64 0,.string ⟨#[]⟩,.slice none 0 0,.slice none 0 0,.string ⟨#[]⟩] #[.slice AP x.path.length ap,.int .u8 x.kind,.int .i64 x.i,.int .i64 x.j,.int .i64 x.n,.string x.s,.slice AD x.v.length ad] #[.int .u8 0,.slice none 0 0,.string ⟨#[]⟩,.int .i64 0,.int .i64 0,.int .i64 0,.int .u8 0,.int .i64 0,.string ⟨#[]⟩,.slice none 0 0,.slice none 0 0,.string ⟨#[]⟩])
 have HA:=Lib.hid ha1
 clear ha ha1
 go_enter Tryz.func32,Tryz.ntmps32
 go_wp2_with (go_at_call 64;refine (HPL.out _).mono ?_;rintro e w1 ⟨rfl,hb⟩;have H1:=Lib.hid (H0.out.step hb);obtain ⟨c0,c1,c2,c3,c4,c5,c6,c7,c8,c9,c10,c11,y0,y1,y2,y3,y4,y5,y6,y7,y8,y9,y10,y11⟩:=H1.out.c.tw;obtain ⟨a0,a1,a2,a3,a4,a5,a6⟩:=act_cells H1.out.a;obtain ⟨_,_,_,_,_,_,_,_,_,_,_,_,z0,z1,z2,z3,z4,z5,z6,z7,z8,z9,z10,z11⟩:=H1.out.r.tw;clear hb)
 have hR:=H1.out.putC 11 (.string (⟨#[120]⟩++plainB x.s))
 have hX:=put12 hR.r (.int .u8 8) (.slice P np pc) (.string ⟨#[]⟩) (.int .i64 a) (.int .i64 0) (.int .i64 0) (.int .u8 0) (.int .i64 0) (.string ⟨#[]⟩) (.slice none 0 0) (.slice none 0 0) (.string (⟨#[120]⟩++plainB x.s))
 have hB:=((((((((((((hR.below.setCell (p:=⟨w.heap.size+1+1,0,none⟩) (by simp;omega) (.int .u8 8)).setCell (p:=⟨w.heap.size+1+1,1,none⟩) (by simp;omega) (.slice P np pc)).setCell (p:=⟨w.heap.size+1+1,2,none⟩) (by simp;omega) (.string ⟨#[]⟩)).setCell (p:=⟨w.heap.size+1+1,3,none⟩) (by simp;omega) (.int .i64 a)).setCell (p:=⟨w.heap.size+1+1,4,none⟩) (by simp;omega) (.int .i64 0)).setCell (p:=⟨w.heap.size+1+1,5,none⟩) (by simp;omega) (.int .i64 0)).setCell (p:=⟨w.heap.size+1+1,6,none⟩) (by simp;omega) (.int .u8 0)).setCell (p:=⟨w.heap.size+1+1,7,none⟩) (by simp;omega) (.int .i64 0)).setCell (p:=⟨w.heap.size+1+1,8,none⟩) (by simp;omega) (.string ⟨#[]⟩)).setCell (p:=⟨w.heap.size+1+1,9,none⟩) (by simp;omega) (.slice none 0 0)).setCell (p:=⟨w.heap.size+1+1,10,none⟩) (by simp;omega) (.slice none 0 0)).setCell (p:=⟨w.heap.size+1+1,11,none⟩) (by simp;omega) (.string (⟨#[120]⟩++plainB x.s)))
 obtain ⟨d0,d1,d2,d3,d4,d5,d6,d7,d8,d9,d10,d11,_⟩:=hX.tw
 refine bodyPost_ret (v:=.agg #[.int .u8 8,.slice P np pc,.string ⟨#[]⟩,.int .i64 a,.int .i64 0,.int .i64 0,.int .u8 0,.int .i64 0,.string ⟨#[]⟩,.slice none 0 0,.slice none 0 0,.string (⟨#[120]⟩++plainB x.s)]) (by simp [results,Tryz.results32,go_sem,d0,d1,d2,d3,d4,d5,d6,d7,d8,d9,d10,d11]) rfl ?_
 exact ⟨8,a,0,(⟨#[120]⟩++plainB x.s),rfl,hB,.inl ⟨rfl,⟨a,rfl,by have:=HA.out;omega⟩,rfl,rfl⟩⟩
theorem text_odd (x:GAct) (AP:Option Addr) (ap:Nat) (AD:Option Addr) (ad:Nat) (P:Option Addr) (np pc n:Nat) (w:World) (hk:0≤x.kind∧x.kind≤255) (hs:x.s.size≤140737488351232) (hn:n≤1000000) (hno:0<n∧x.kind % 2=1):
  Calls Tryz.prog 32 #[.agg #[.int .u8 0,.slice P np pc,.string ⟨#[]⟩,.int .i64 0,.int .i64 0,.int .i64 0,.int .u8 0,.int .i64 0,.string ⟨#[]⟩,.slice none 0 0,.slice none 0 0,.string ⟨#[]⟩],.agg #[.slice AP x.path.length ap,.int .u8 x.kind,.int .i64 x.i,.int .i64 x.j,.int .i64 x.n,.string x.s,.slice AD x.v.length ad],.int .i64 n] w (TextIs x P np pc n w):=by
 obtain ⟨a,ha,ha1⟩:=mod_nat' x.i (n+1) (by omega)
 have ha2:max x.i 0 % ((n:Int)+1)=(a:Int):=ha
 have HPL:=Lib.hid (fun W=>plain6_any x.s W (by omega))
 have hpz:=plain_size x.s
 have hadd:=fun W=>run_string_add_sum (P:=Tryz.prog) W ⟨#[120]⟩ (plainB x.s) (by show 1+_≤_;omega)
 have H0:=Lib.hid (TB3.new w #[.int .u8 8,.slice P np pc,.string ⟨#[]⟩,.int .i64 a,.int .i64 0,.int .i64 0,.int .u8 0,.int .i64 0,.string ⟨#[]⟩,.slice none 0 0,.slice none 0 0,.string ⟨#[]⟩] #[.slice AP x.path.length ap,.int .u8 x.kind,.int .i64 x.i,.int .i64 x.j,.int .i64 x.n,.string x.s,.slice AD x.v.length ad] #[.int .u8 0,.slice none 0 0,.string ⟨#[]⟩,.int .i64 0,.int .i64 0,.int .i64 0,.int .u8 0,.int .i64 0,.string ⟨#[]⟩,.slice none 0 0,.slice none 0 0,.string ⟨#[]⟩])
 have HA:=Lib.hid ha1
 clear ha ha1
 obtain ⟨hn0,hno⟩:=hno
 go_enter Tryz.func32,Tryz.ntmps32
 go_wp2_with (go_at_call 64;refine (HPL.out _).mono ?_;rintro e w1 ⟨rfl,hb⟩;have H1:=Lib.hid (H0.out.step hb);obtain ⟨c0,c1,c2,c3,c4,c5,c6,c7,c8,c9,c10,c11,y0,y1,y2,y3,y4,y5,y6,y7,y8,y9,y10,y11⟩:=H1.out.c.tw;obtain ⟨a0,a1,a2,a3,a4,a5,a6⟩:=act_cells H1.out.a;obtain ⟨_,_,_,_,_,_,_,_,_,_,_,_,z0,z1,z2,z3,z4,z5,z6,z7,z8,z9,z10,z11⟩:=H1.out.r.tw;clear hb)
 have hR:=H1.out.putC 11 (.string (⟨#[120]⟩++plainB x.s))
 have hX:=put12 hR.r (.int .u8 8) (.slice P np pc) (.string ⟨#[]⟩) (.int .i64 a) (.int .i64 0) (.int .i64 0) (.int .u8 0) (.int .i64 0) (.string ⟨#[]⟩) (.slice none 0 0) (.slice none 0 0) (.string (⟨#[120]⟩++plainB x.s))
 have hB:=((((((((((((hR.below.setCell (p:=⟨w.heap.size+1+1,0,none⟩) (by simp;omega) (.int .u8 8)).setCell (p:=⟨w.heap.size+1+1,1,none⟩) (by simp;omega) (.slice P np pc)).setCell (p:=⟨w.heap.size+1+1,2,none⟩) (by simp;omega) (.string ⟨#[]⟩)).setCell (p:=⟨w.heap.size+1+1,3,none⟩) (by simp;omega) (.int .i64 a)).setCell (p:=⟨w.heap.size+1+1,4,none⟩) (by simp;omega) (.int .i64 0)).setCell (p:=⟨w.heap.size+1+1,5,none⟩) (by simp;omega) (.int .i64 0)).setCell (p:=⟨w.heap.size+1+1,6,none⟩) (by simp;omega) (.int .u8 0)).setCell (p:=⟨w.heap.size+1+1,7,none⟩) (by simp;omega) (.int .i64 0)).setCell (p:=⟨w.heap.size+1+1,8,none⟩) (by simp;omega) (.string ⟨#[]⟩)).setCell (p:=⟨w.heap.size+1+1,9,none⟩) (by simp;omega) (.slice none 0 0)).setCell (p:=⟨w.heap.size+1+1,10,none⟩) (by simp;omega) (.slice none 0 0)).setCell (p:=⟨w.heap.size+1+1,11,none⟩) (by simp;omega) (.string (⟨#[120]⟩++plainB x.s)))
 obtain ⟨d0,d1,d2,d3,d4,d5,d6,d7,d8,d9,d10,d11,_⟩:=hX.tw
 refine bodyPost_ret (v:=.agg #[.int .u8 8,.slice P np pc,.string ⟨#[]⟩,.int .i64 a,.int .i64 0,.int .i64 0,.int .u8 0,.int .i64 0,.string ⟨#[]⟩,.slice none 0 0,.slice none 0 0,.string (⟨#[120]⟩++plainB x.s)]) (by simp [results,Tryz.results32,go_sem,d0,d1,d2,d3,d4,d5,d6,d7,d8,d9,d10,d11]) rfl ?_
 exact ⟨8,a,0,(⟨#[120]⟩++plainB x.s),rfl,hB,.inl ⟨rfl,⟨a,rfl,by have:=HA.out;omega⟩,rfl,rfl⟩⟩
theorem text_del (x:GAct) (AP:Option Addr) (ap:Nat) (AD:Option Addr) (ad:Nat) (P:Option Addr) (np pc n:Nat) (w:World) (hk:0≤x.kind∧x.kind≤255) (hs:x.s.size≤140737488351232) (hn:n≤1000000) (hno:0<n∧x.kind % 2=0):
  Calls Tryz.prog 32 #[.agg #[.int .u8 0,.slice P np pc,.string ⟨#[]⟩,.int .i64 0,.int .i64 0,.int .i64 0,.int .u8 0,.int .i64 0,.string ⟨#[]⟩,.slice none 0 0,.slice none 0 0,.string ⟨#[]⟩],.agg #[.slice AP x.path.length ap,.int .u8 x.kind,.int .i64 x.i,.int .i64 x.j,.int .i64 x.n,.string x.s,.slice AD x.v.length ad],.int .i64 n] w (TextIs x P np pc n w):=by
 obtain ⟨a,ha,ha1⟩:=mod_nat' x.i (n+1) (by omega)
 have ha2:max x.i 0 % ((n:Int)+1)=(a:Int):=ha
 have HPL:=Lib.hid (fun W=>plain6_any x.s W (by omega))
 have hpz:=plain_size x.s
 have hadd:=fun W=>run_string_add_sum (P:=Tryz.prog) W ⟨#[120]⟩ (plainB x.s) (by show 1+_≤_;omega)
 have H0:=Lib.hid (TB3.new w #[.int .u8 8,.slice P np pc,.string ⟨#[]⟩,.int .i64 a,.int .i64 0,.int .i64 0,.int .u8 0,.int .i64 0,.string ⟨#[]⟩,.slice none 0 0,.slice none 0 0,.string ⟨#[]⟩] #[.slice AP x.path.length ap,.int .u8 x.kind,.int .i64 x.i,.int .i64 x.j,.int .i64 x.n,.string x.s,.slice AD x.v.length ad] #[.int .u8 0,.slice none 0 0,.string ⟨#[]⟩,.int .i64 0,.int .i64 0,.int .i64 0,.int .u8 0,.int .i64 0,.string ⟨#[]⟩,.slice none 0 0,.slice none 0 0,.string ⟨#[]⟩])
 have HA:=Lib.hid ha1
 clear ha ha1
 obtain ⟨hn0,hno⟩:=hno
 obtain ⟨i,hi,hi1⟩:=mod_nat' x.i n hn0
 obtain ⟨j,hj,hj1⟩:=mod_nat' x.j (n - i) (by omega)
 have hj2:max x.j 0 % ((n:Int) - (i:Int))=(j:Int):=by rw [← hj];congr 1;omega
 have HI:=Lib.hid (And.intro hi1 hj1)
 have hij:(i:Int)<(n:Int):=by omega
 have hjn:(j:Int)≤1000000:=by omega
 clear hj hj1 hi1
 go_enter Tryz.func32,Tryz.ntmps32
 go_wp2_with (go_at_call 64;refine (HPL.out _).mono ?_;rintro e w1 ⟨rfl,hb⟩;have H1:=Lib.hid (H0.out.step hb);obtain ⟨c0,c1,c2,c3,c4,c5,c6,c7,c8,c9,c10,c11,y0,y1,y2,y3,y4,y5,y6,y7,y8,y9,y10,y11⟩:=H1.out.c.tw;obtain ⟨a0,a1,a2,a3,a4,a5,a6⟩:=act_cells H1.out.a;obtain ⟨_,_,_,_,_,_,_,_,_,_,_,_,z0,z1,z2,z3,z4,z5,z6,z7,z8,z9,z10,z11⟩:=H1.out.r.tw;clear hb)
 have hR:=((((H1.out.putC 11 (.string (⟨#[120]⟩++plainB x.s))).putC 0 (.int .u8 9)).putC 11 (.string ⟨#[]⟩)).putC 3 (.int .i64 i)).putC 5 (.int .i64 (1+(j:Int)))
 have hX:=put12 hR.r (.int .u8 9) (.slice P np pc) (.string ⟨#[]⟩) (.int .i64 i) (.int .i64 0) (.int .i64 ((1:Int)+(j:Int))) (.int .u8 0) (.int .i64 0) (.string ⟨#[]⟩) (.slice none 0 0) (.slice none 0 0) (.string ⟨#[]⟩)
 have hB:=((((((((((((hR.below.setCell (p:=⟨w.heap.size+1+1,0,none⟩) (by simp;omega) (.int .u8 9)).setCell (p:=⟨w.heap.size+1+1,1,none⟩) (by simp;omega) (.slice P np pc)).setCell (p:=⟨w.heap.size+1+1,2,none⟩) (by simp;omega) (.string ⟨#[]⟩)).setCell (p:=⟨w.heap.size+1+1,3,none⟩) (by simp;omega) (.int .i64 i)).setCell (p:=⟨w.heap.size+1+1,4,none⟩) (by simp;omega) (.int .i64 0)).setCell (p:=⟨w.heap.size+1+1,5,none⟩) (by simp;omega) (.int .i64 ((1:Int)+(j:Int)))).setCell (p:=⟨w.heap.size+1+1,6,none⟩) (by simp;omega) (.int .u8 0)).setCell (p:=⟨w.heap.size+1+1,7,none⟩) (by simp;omega) (.int .i64 0)).setCell (p:=⟨w.heap.size+1+1,8,none⟩) (by simp;omega) (.string ⟨#[]⟩)).setCell (p:=⟨w.heap.size+1+1,9,none⟩) (by simp;omega) (.slice none 0 0)).setCell (p:=⟨w.heap.size+1+1,10,none⟩) (by simp;omega) (.slice none 0 0)).setCell (p:=⟨w.heap.size+1+1,11,none⟩) (by simp;omega) (.string ⟨#[]⟩))
 obtain ⟨d0,d1,d2,d3,d4,d5,d6,d7,d8,d9,d10,d11,_⟩:=hX.tw
 refine bodyPost_ret (v:=.agg #[.int .u8 9,.slice P np pc,.string ⟨#[]⟩,.int .i64 i,.int .i64 0,.int .i64 ((1:Int)+(j:Int)),.int .u8 0,.int .i64 0,.string ⟨#[]⟩,.slice none 0 0,.slice none 0 0,.string ⟨#[]⟩]) (by simp [results,Tryz.results32,go_sem,d0,d1,d2,d3,d4,d5,d6,d7,d8,d9,d10,d11]) rfl ?_
 exact ⟨9,i,((1:Int)+(j:Int)),⟨#[]⟩,rfl,hB,.inr ⟨rfl,rfl,i,1+j,rfl,by push_cast;rfl,by omega,by have:=HI.out;omega⟩⟩
def ListIs (P:Option Addr) (np pc n:Nat) (w:World) (e:Ending) (w':World):Prop:=∃ (k i j:Nat) (g:GV) (BL BO:Option Addr) (dL dO:Nat),e=.returned (.agg #[.int .u8 k,.slice P np pc,.string ⟨#[]⟩,.int .i64 i,.int .i64 j,.int .i64 0,.int .u8 g.kind,.int .i64 g.num,.string g.str,.slice BL g.items.length dL,.slice BO g.vals.length dO,.string ⟨#[]⟩])∧(LstV (fun k=>w.heap.size≤k) w' (.slice BL g.items.length dL) g.items∧ObjV (fun k=>w.heap.size≤k) w' (.slice BO g.vals.length dO) g.keys g.vals)∧VOk g∧(4≤k∧k≤7∧chkL n k i j=0∧(k=7∨j=0)∧(k=4∨k=6∨g=noG))∧Below w.heap.size w w'
theorem chkL_4 {n i:Nat} (h:i≤n):chkL n 4 i 0=0:=by unfold chkL;rw [if_pos rfl,if_pos ⟨by omega,by omega⟩]
theorem chkL_56 {n i:Nat} {k:Int} (hk:k=5∨k=6) (h:i<n):chkL n k i 0=0:=by unfold chkL;rw [if_neg (by omega),if_pos hk,if_pos ⟨by omega,by omega⟩]
theorem chkL_7 {n i j:Nat} (h:i<n) (hj:j<n):chkL n 7 i j=0:=by unfold chkL;rw [if_neg (by omega),if_neg (by omega),if_pos rfl,if_pos ⟨⟨by omega,by omega⟩,by omega,by omega⟩]
theorem list_none (x:GAct) (AP:Option Addr) (ap:Nat) (AD:Option Addr) (ad:Nat) (P:Option Addr) (np pc n:Nat) (w:World) (hx:ActOk w x AP ap AD ad) (hn:n≤1000000) (hr:True) (hno:n=0):
  Calls Tryz.prog 33 #[.agg #[.int .u8 0,.slice P np pc,.string ⟨#[]⟩,.int .i64 0,.int .i64 0,.int .i64 0,.int .u8 0,.int .i64 0,.string ⟨#[]⟩,.slice none 0 0,.slice none 0 0,.string ⟨#[]⟩],.agg #[.slice AP x.path.length ap,.int .u8 x.kind,.int .i64 x.i,.int .i64 x.j,.int .i64 x.n,.string x.s,.slice AD x.v.length ad],.int .i64 n] w (ListIs P np pc n w):=by
 have hk:=hx.kind
 have hz:((n:Int) == 0)=true:=by simp;omega
 have HBU:=Lib.hid (fun W (hb:Below w.heap.size w W)=>build_A w.heap.size AD ad x.v W hx.cap.1 hx.cap.2 hb.size (hx.toks.keep hb (Nat.le_refl _)) hx.rng hx.sizes)
 unfold BuildA at HBU
 have H0:=Lib.hid (TB3.new w #[.int .u8 4,.slice P np pc,.string ⟨#[]⟩,.int .i64 0,.int .i64 0,.int .i64 0,.int .u8 0,.int .i64 0,.string ⟨#[]⟩,.slice none 0 0,.slice none 0 0,.string ⟨#[]⟩] #[.slice AP x.path.length ap,.int .u8 x.kind,.int .i64 x.i,.int .i64 x.j,.int .i64 x.n,.string x.s,.slice AD x.v.length ad] #[.int .u8 0,.slice none 0 0,.string ⟨#[]⟩,.int .i64 0,.int .i64 0,.int .i64 0,.int .u8 0,.int .i64 0,.string ⟨#[]⟩,.slice none 0 0,.slice none 0 0,.string ⟨#[]⟩])
 clear hx
 go_enter Tryz.func33,Tryz.ntmps33
 go_wp2_with (go_at_call 7;refine (HBU.out _ H0.out.below).mono ?_;rintro e w1 ⟨g,BL,BO,dL,dO,rfl,hv,hg,hb⟩;have H1:=Lib.hid (And.intro (H0.out.step hb) (And.intro hv (And.intro hg (show w.heap.size+1+1+1≤w1.heap.size from by have:=hb.size;simp at this;omega))));obtain ⟨c0,c1,c2,c3,c4,c5,c6,c7,c8,c9,c10,c11,y0,y1,y2,y3,y4,y5,y6,y7,y8,y9,y10,y11⟩:=H1.out.1.c.tw;obtain ⟨_,_,_,_,_,_,_,_,_,_,_,_,z0,z1,z2,z3,z4,z5,z6,z7,z8,z9,z10,z11⟩:=H1.out.1.r.tw;clear hb hv hg)
 have hR:=(((((H1.out.1.putC 6 (.int .u8 g.kind)).putC 7 (.int .i64 g.num)).putC 8 (.string g.str)).putC 9 (.slice BL g.items.length dL)).putC 10 (.slice BO g.vals.length dO))
 have hX:=put12 hR.r (.int .u8 4) (.slice P np pc) (.string ⟨#[]⟩) (.int .i64 0) (.int .i64 0) (.int .i64 0) (.int .u8 g.kind) (.int .i64 g.num) (.string g.str) (.slice BL g.items.length dL) (.slice BO g.vals.length dO) (.string ⟨#[]⟩)
 have hB:=(below12 (b:=w.heap.size+1+1) (hR.below) (by first | omega | (simp;omega) | simp) (.int .u8 4) (.slice P np pc) (.string ⟨#[]⟩) (.int .i64 0) (.int .i64 0) (.int .i64 0) (.int .u8 g.kind) (.int .i64 g.num) (.string g.str) (.slice BL g.items.length dL) (.slice BO g.vals.length dO) (.string ⟨#[]⟩))
 have hK:=(kp12 (b:=w.heap.size+1+1) (((((((Kp.refl (w.heap.size+1+1+1) w1).set (p:=⟨w.heap.size,6,none⟩) (by simp;try omega) (.int .u8 g.kind)).set (p:=⟨w.heap.size,7,none⟩) (by simp;try omega) (.int .i64 g.num)).set (p:=⟨w.heap.size,8,none⟩) (by simp;try omega) (.string g.str)).set (p:=⟨w.heap.size,9,none⟩) (by simp;try omega) (.slice BL g.items.length dL)).set (p:=⟨w.heap.size,10,none⟩) (by simp;try omega) (.slice BO g.vals.length dO))) (by first | omega | (simp;omega) | simp) (.int .u8 4) (.slice P np pc) (.string ⟨#[]⟩) (.int .i64 0) (.int .i64 0) (.int .i64 0) (.int .u8 g.kind) (.int .i64 g.num) (.string g.str) (.slice BL g.items.length dL) (.slice BO g.vals.length dO) (.string ⟨#[]⟩))
 obtain ⟨d0,d1,d2,d3,d4,d5,d6,d7,d8,d9,d10,d11,_⟩:=hX.tw
 refine bodyPost_ret (v:=.agg #[.int .u8 4,.slice P np pc,.string ⟨#[]⟩,.int .i64 0,.int .i64 0,.int .i64 0,.int .u8 g.kind,.int .i64 g.num,.string g.str,.slice BL g.items.length dL,.slice BO g.vals.length dO,.string ⟨#[]⟩]) (by simp [results,Tryz.results33,go_sem,d0,d1,d2,d3,d4,d5,d6,d7,d8,d9,d10,d11]) rfl ?_
 refine ⟨4,0,0,g,BL,BO,dL,dO,rfl,⟨H1.out.2.1.1.keep (fun k hk1 hl=>hK.2 k ?_ hl) (fun k hk1 _=>?_),H1.out.2.1.2.keep (fun k hk1 hl=>hK.2 k ?_ hl) (fun k hk1 _=>?_)⟩,H1.out.2.2.1,⟨by decide,by decide,chkL_4 (Nat.zero_le _),.inr rfl,.inl rfl⟩,hB⟩
 all_goals (simp at hk1;omega)
theorem list_4 (x:GAct) (AP:Option Addr) (ap:Nat) (AD:Option Addr) (ad:Nat) (P:Option Addr) (np pc n:Nat) (w:World) (hx:ActOk w x AP ap AD ad) (hn:n≤1000000) (hr:4+x.kind % 4=4) (hno:0<n):
  Calls Tryz.prog 33 #[.agg #[.int .u8 0,.slice P np pc,.string ⟨#[]⟩,.int .i64 0,.int .i64 0,.int .i64 0,.int .u8 0,.int .i64 0,.string ⟨#[]⟩,.slice none 0 0,.slice none 0 0,.string ⟨#[]⟩],.agg #[.slice AP x.path.length ap,.int .u8 x.kind,.int .i64 x.i,.int .i64 x.j,.int .i64 x.n,.string x.s,.slice AD x.v.length ad],.int .i64 n] w (ListIs P np pc n w):=by
 have hk:=hx.kind
 have hz:((n:Int) == 0)=false:=by simp;omega
 obtain ⟨a,ha,ha1⟩:=mod_nat' x.i (n+1) (by omega)
 have ha2:max x.i 0 % ((n:Int)+1)=(a:Int):=ha
 clear ha
 have HM:=Lib.hid (ha1)
 clear ha1
 have HBU:=Lib.hid (fun W (hb:Below w.heap.size w W)=>build_A w.heap.size AD ad x.v W hx.cap.1 hx.cap.2 hb.size (hx.toks.keep hb (Nat.le_refl _)) hx.rng hx.sizes)
 unfold BuildA at HBU
 have H0:=Lib.hid (TB3.new w #[.int .u8 4,.slice P np pc,.string ⟨#[]⟩,.int .i64 a,.int .i64 0,.int .i64 0,.int .u8 0,.int .i64 0,.string ⟨#[]⟩,.slice none 0 0,.slice none 0 0,.string ⟨#[]⟩] #[.slice AP x.path.length ap,.int .u8 x.kind,.int .i64 x.i,.int .i64 x.j,.int .i64 x.n,.string x.s,.slice AD x.v.length ad] #[.int .u8 0,.slice none 0 0,.string ⟨#[]⟩,.int .i64 0,.int .i64 0,.int .i64 0,.int .u8 0,.int .i64 0,.string ⟨#[]⟩,.slice none 0 0,.slice none 0 0,.string ⟨#[]⟩])
 clear hx
 go_enter Tryz.func33,Tryz.ntmps33
 go_wp2_with (go_at_call 7;refine (HBU.out _ H0.out.below).mono ?_;rintro e w1 ⟨g,BL,BO,dL,dO,rfl,hv,hg,hb⟩;have H1:=Lib.hid (And.intro (H0.out.step hb) (And.intro hv (And.intro hg (show w.heap.size+1+1+1≤w1.heap.size from by have:=hb.size;simp at this;omega))));obtain ⟨c0,c1,c2,c3,c4,c5,c6,c7,c8,c9,c10,c11,y0,y1,y2,y3,y4,y5,y6,y7,y8,y9,y10,y11⟩:=H1.out.1.c.tw;obtain ⟨_,_,_,_,_,_,_,_,_,_,_,_,z0,z1,z2,z3,z4,z5,z6,z7,z8,z9,z10,z11⟩:=H1.out.1.r.tw;clear hb hv hg)
 have hR:=(((((H1.out.1.putC 6 (.int .u8 g.kind)).putC 7 (.int .i64 g.num)).putC 8 (.string g.str)).putC 9 (.slice BL g.items.length dL)).putC 10 (.slice BO g.vals.length dO))
 have hX:=put12 hR.r (.int .u8 4) (.slice P np pc) (.string ⟨#[]⟩) (.int .i64 a) (.int .i64 0) (.int .i64 0) (.int .u8 g.kind) (.int .i64 g.num) (.string g.str) (.slice BL g.items.length dL) (.slice BO g.vals.length dO) (.string ⟨#[]⟩)
 have hB:=(below12 (b:=w.heap.size+1+1) (hR.below) (by first | omega | (simp;omega) | simp) (.int .u8 4) (.slice P np pc) (.string ⟨#[]⟩) (.int .i64 a) (.int .i64 0) (.int .i64 0) (.int .u8 g.kind) (.int .i64 g.num) (.string g.str) (.slice BL g.items.length dL) (.slice BO g.vals.length dO) (.string ⟨#[]⟩))
 have hK:=(kp12 (b:=w.heap.size+1+1) (((((((Kp.refl (w.heap.size+1+1+1) w1).set (p:=⟨w.heap.size,6,none⟩) (by simp;try omega) (.int .u8 g.kind)).set (p:=⟨w.heap.size,7,none⟩) (by simp;try omega) (.int .i64 g.num)).set (p:=⟨w.heap.size,8,none⟩) (by simp;try omega) (.string g.str)).set (p:=⟨w.heap.size,9,none⟩) (by simp;try omega) (.slice BL g.items.length dL)).set (p:=⟨w.heap.size,10,none⟩) (by simp;try omega) (.slice BO g.vals.length dO))) (by first | omega | (simp;omega) | simp) (.int .u8 4) (.slice P np pc) (.string ⟨#[]⟩) (.int .i64 a) (.int .i64 0) (.int .i64 0) (.int .u8 g.kind) (.int .i64 g.num) (.string g.str) (.slice BL g.items.length dL) (.slice BO g.vals.length dO) (.string ⟨#[]⟩))
 obtain ⟨d0,d1,d2,d3,d4,d5,d6,d7,d8,d9,d10,d11,_⟩:=hX.tw
 refine bodyPost_ret (v:=.agg #[.int .u8 4,.slice P np pc,.string ⟨#[]⟩,.int .i64 a,.int .i64 0,.int .i64 0,.int .u8 g.kind,.int .i64 g.num,.string g.str,.slice BL g.items.length dL,.slice BO g.vals.length dO,.string ⟨#[]⟩]) (by simp [results,Tryz.results33,go_sem,d0,d1,d2,d3,d4,d5,d6,d7,d8,d9,d10,d11]) rfl ?_
 refine ⟨4,a,0,g,BL,BO,dL,dO,rfl,⟨H1.out.2.1.1.keep (fun k hk1 hl=>hK.2 k ?_ hl) (fun k hk1 _=>?_),H1.out.2.1.2.keep (fun k hk1 hl=>hK.2 k ?_ hl) (fun k hk1 _=>?_)⟩,H1.out.2.2.1,⟨by decide,by decide,chkL_4 (by have:=HM.out;omega),.inr rfl,.inl rfl⟩,hB⟩
 all_goals (simp at hk1;omega)
theorem list_6 (x:GAct) (AP:Option Addr) (ap:Nat) (AD:Option Addr) (ad:Nat) (P:Option Addr) (np pc n:Nat) (w:World) (hx:ActOk w x AP ap AD ad) (hn:n≤1000000) (hr:4+x.kind % 4=6) (hno:0<n):
  Calls Tryz.prog 33 #[.agg #[.int .u8 0,.slice P np pc,.string ⟨#[]⟩,.int .i64 0,.int .i64 0,.int .i64 0,.int .u8 0,.int .i64 0,.string ⟨#[]⟩,.slice none 0 0,.slice none 0 0,.string ⟨#[]⟩],.agg #[.slice AP x.path.length ap,.int .u8 x.kind,.int .i64 x.i,.int .i64 x.j,.int .i64 x.n,.string x.s,.slice AD x.v.length ad],.int .i64 n] w (ListIs P np pc n w):=by
 have hk:=hx.kind
 have hz:((n:Int) == 0)=false:=by simp;omega
 obtain ⟨a,ha,ha1⟩:=mod_nat' x.i n (by omega)
 have HM:=Lib.hid (ha1)
 clear ha1
 have HBU:=Lib.hid (fun W (hb:Below w.heap.size w W)=>build_A w.heap.size AD ad x.v W hx.cap.1 hx.cap.2 hb.size (hx.toks.keep hb (Nat.le_refl _)) hx.rng hx.sizes)
 unfold BuildA at HBU
 have H0:=Lib.hid (TB3.new w #[.int .u8 6,.slice P np pc,.string ⟨#[]⟩,.int .i64 a,.int .i64 0,.int .i64 0,.int .u8 0,.int .i64 0,.string ⟨#[]⟩,.slice none 0 0,.slice none 0 0,.string ⟨#[]⟩] #[.slice AP x.path.length ap,.int .u8 x.kind,.int .i64 x.i,.int .i64 x.j,.int .i64 x.n,.string x.s,.slice AD x.v.length ad] #[.int .u8 0,.slice none 0 0,.string ⟨#[]⟩,.int .i64 0,.int .i64 0,.int .i64 0,.int .u8 0,.int .i64 0,.string ⟨#[]⟩,.slice none 0 0,.slice none 0 0,.string ⟨#[]⟩])
 clear hx
 go_enter Tryz.func33,Tryz.ntmps33
 go_wp2_with (go_at_call 7;refine (HBU.out _ H0.out.below).mono ?_;rintro e w1 ⟨g,BL,BO,dL,dO,rfl,hv,hg,hb⟩;have H1:=Lib.hid (And.intro (H0.out.step hb) (And.intro hv (And.intro hg (show w.heap.size+1+1+1≤w1.heap.size from by have:=hb.size;simp at this;omega))));obtain ⟨c0,c1,c2,c3,c4,c5,c6,c7,c8,c9,c10,c11,y0,y1,y2,y3,y4,y5,y6,y7,y8,y9,y10,y11⟩:=H1.out.1.c.tw;obtain ⟨_,_,_,_,_,_,_,_,_,_,_,_,z0,z1,z2,z3,z4,z5,z6,z7,z8,z9,z10,z11⟩:=H1.out.1.r.tw;clear hb hv hg)
 have hR:=(((((H1.out.1.putC 6 (.int .u8 g.kind)).putC 7 (.int .i64 g.num)).putC 8 (.string g.str)).putC 9 (.slice BL g.items.length dL)).putC 10 (.slice BO g.vals.length dO))
 have hX:=put12 hR.r (.int .u8 6) (.slice P np pc) (.string ⟨#[]⟩) (.int .i64 a) (.int .i64 0) (.int .i64 0) (.int .u8 g.kind) (.int .i64 g.num) (.string g.str) (.slice BL g.items.length dL) (.slice BO g.vals.length dO) (.string ⟨#[]⟩)
 have hB:=(below12 (b:=w.heap.size+1+1) (hR.below) (by first | omega | (simp;omega) | simp) (.int .u8 6) (.slice P np pc) (.string ⟨#[]⟩) (.int .i64 a) (.int .i64 0) (.int .i64 0) (.int .u8 g.kind) (.int .i64 g.num) (.string g.str) (.slice BL g.items.length dL) (.slice BO g.vals.length dO) (.string ⟨#[]⟩))
 have hK:=(kp12 (b:=w.heap.size+1+1) (((((((Kp.refl (w.heap.size+1+1+1) w1).set (p:=⟨w.heap.size,6,none⟩) (by simp;try omega) (.int .u8 g.kind)).set (p:=⟨w.heap.size,7,none⟩) (by simp;try omega) (.int .i64 g.num)).set (p:=⟨w.heap.size,8,none⟩) (by simp;try omega) (.string g.str)).set (p:=⟨w.heap.size,9,none⟩) (by simp;try omega) (.slice BL g.items.length dL)).set (p:=⟨w.heap.size,10,none⟩) (by simp;try omega) (.slice BO g.vals.length dO))) (by first | omega | (simp;omega) | simp) (.int .u8 6) (.slice P np pc) (.string ⟨#[]⟩) (.int .i64 a) (.int .i64 0) (.int .i64 0) (.int .u8 g.kind) (.int .i64 g.num) (.string g.str) (.slice BL g.items.length dL) (.slice BO g.vals.length dO) (.string ⟨#[]⟩))
 obtain ⟨d0,d1,d2,d3,d4,d5,d6,d7,d8,d9,d10,d11,_⟩:=hX.tw
 refine bodyPost_ret (v:=.agg #[.int .u8 6,.slice P np pc,.string ⟨#[]⟩,.int .i64 a,.int .i64 0,.int .i64 0,.int .u8 g.kind,.int .i64 g.num,.string g.str,.slice BL g.items.length dL,.slice BO g.vals.length dO,.string ⟨#[]⟩]) (by simp [results,Tryz.results33,go_sem,d0,d1,d2,d3,d4,d5,d6,d7,d8,d9,d10,d11]) rfl ?_
 refine ⟨6,a,0,g,BL,BO,dL,dO,rfl,⟨H1.out.2.1.1.keep (fun k hk1 hl=>hK.2 k ?_ hl) (fun k hk1 _=>?_),H1.out.2.1.2.keep (fun k hk1 hl=>hK.2 k ?_ hl) (fun k hk1 _=>?_)⟩,H1.out.2.2.1,⟨by decide,by decide,chkL_56 (.inr rfl) HM.out,.inr rfl,.inr (.inl rfl)⟩,hB⟩
 all_goals (simp at hk1;omega)
theorem list_5 (x:GAct) (AP:Option Addr) (ap:Nat) (AD:Option Addr) (ad:Nat) (P:Option Addr) (np pc n:Nat) (w:World) (hx:ActOk w x AP ap AD ad) (hn:n≤1000000) (hr:4+x.kind % 4=5) (hno:0<n):
  Calls Tryz.prog 33 #[.agg #[.int .u8 0,.slice P np pc,.string ⟨#[]⟩,.int .i64 0,.int .i64 0,.int .i64 0,.int .u8 0,.int .i64 0,.string ⟨#[]⟩,.slice none 0 0,.slice none 0 0,.string ⟨#[]⟩],.agg #[.slice AP x.path.length ap,.int .u8 x.kind,.int .i64 x.i,.int .i64 x.j,.int .i64 x.n,.string x.s,.slice AD x.v.length ad],.int .i64 n] w (ListIs P np pc n w):=by
 have hk:=hx.kind
 have hz:((n:Int) == 0)=false:=by simp;omega
 obtain ⟨a,ha,ha1⟩:=mod_nat' x.i n (by omega)
 have HM:=Lib.hid (ha1)
 clear ha1
 clear hx
 go_enter Tryz.func33,Tryz.ntmps33
 go_wp2
 exact bodyPost_ret (v:=.agg #[.int .u8 5,.slice P np pc,.string ⟨#[]⟩,.int .i64 a,.int .i64 0,.int .i64 0,.int .u8 0,.int .i64 0,.string ⟨#[]⟩,.slice none 0 0,.slice none 0 0,.string ⟨#[]⟩]) (by simp [results,Tryz.results33,go_sem]) rfl ⟨5,a,0,noG,none,none,0,0,rfl,lv_noG _ _,vok_no,⟨by decide,by decide,chkL_56 (.inl rfl) HM.out,.inr rfl,.inr (.inr rfl)⟩,(((Below.refl _ _).alloc (Nat.le_refl _) _).alloc (by simp) _).alloc (by simp;omega) _⟩
theorem list_7 (x:GAct) (AP:Option Addr) (ap:Nat) (AD:Option Addr) (ad:Nat) (P:Option Addr) (np pc n:Nat) (w:World) (hx:ActOk w x AP ap AD ad) (hn:n≤1000000) (hr:4+x.kind % 4=7) (hno:0<n):
  Calls Tryz.prog 33 #[.agg #[.int .u8 0,.slice P np pc,.string ⟨#[]⟩,.int .i64 0,.int .i64 0,.int .i64 0,.int .u8 0,.int .i64 0,.string ⟨#[]⟩,.slice none 0 0,.slice none 0 0,.string ⟨#[]⟩],.agg #[.slice AP x.path.length ap,.int .u8 x.kind,.int .i64 x.i,.int .i64 x.j,.int .i64 x.n,.string x.s,.slice AD x.v.length ad],.int .i64 n] w (ListIs P np pc n w):=by
 have hk:=hx.kind
 have hz:((n:Int) == 0)=false:=by simp;omega
 obtain ⟨a,ha,ha1⟩:=mod_nat' x.i n (by omega)
 obtain ⟨b,hb,hb1⟩:=mod_nat' x.j n (by omega)
 have HM:=Lib.hid (And.intro ha1 hb1)
 clear ha1
 clear hb1
 clear hx
 go_enter Tryz.func33,Tryz.ntmps33
 go_wp2
 exact bodyPost_ret (v:=.agg #[.int .u8 7,.slice P np pc,.string ⟨#[]⟩,.int .i64 a,.int .i64 b,.int .i64 0,.int .u8 0,.int .i64 0,.string ⟨#[]⟩,.slice none 0 0,.slice none 0 0,.string ⟨#[]⟩]) (by simp [results,Tryz.results33,go_sem]) rfl ⟨7,a,b,noG,none,none,0,0,rfl,lv_noG _ _,vok_no,⟨by decide,by decide,chkL_7 HM.out.1 HM.out.2,.inl rfl,.inr (.inr rfl)⟩,(((Below.refl _ _).alloc (Nat.le_refl _) _).alloc (by simp) _).alloc (by simp;omega) _⟩
theorem list_any (x:GAct) (AP:Option Addr) (ap:Nat) (AD:Option Addr) (ad:Nat) (P:Option Addr) (np pc n:Nat) (w:World) (hx:ActOk w x AP ap AD ad) (hn:n≤1000000):
  Calls Tryz.prog 33 #[.agg #[.int .u8 0,.slice P np pc,.string ⟨#[]⟩,.int .i64 0,.int .i64 0,.int .i64 0,.int .u8 0,.int .i64 0,.string ⟨#[]⟩,.slice none 0 0,.slice none 0 0,.string ⟨#[]⟩],.agg #[.slice AP x.path.length ap,.int .u8 x.kind,.int .i64 x.i,.int .i64 x.j,.int .i64 x.n,.string x.s,.slice AD x.v.length ad],.int .i64 n] w (ListIs P np pc n w):=by
 have hk:=hx.kind
 rcases Nat.eq_zero_or_pos n with h | h
 ·exact list_none x AP ap AD ad P np pc n w hx hn trivial h
 ·rcases (show 4+x.kind % 4=4∨4+x.kind % 4=5∨4+x.kind % 4=6∨4+x.kind % 4=7 by omega) with q | q | q | q
  ·exact list_4 x AP ap AD ad P np pc n w hx hn q h
  ·exact list_5 x AP ap AD ad P np pc n w hx hn q h
  ·exact list_6 x AP ap AD ad P np pc n w hx hn q h
  ·exact list_7 x AP ap AD ad P np pc n w hx hn q h
end Go.Proofs.YtamlaknfakaanaaGreatDoor
