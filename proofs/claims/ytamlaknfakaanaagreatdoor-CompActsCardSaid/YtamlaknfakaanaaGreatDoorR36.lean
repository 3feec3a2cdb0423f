/- field: what it makes of an act. -/
import Derived.Test.YtamlaknfakaanaaGreatDoorR18
set_option maxRecDepth 100000
set_option maxHeartbeats 2000000
namespace Go.Proofs.YtamlaknfakaanaaGreatDoor
open Go Go.RowKit
set_option linter.unusedVariables false
set_option linter.unusedSimpArgs false
def FieldIs (h:GV) (P:Option Addr) (np pc:Nat) (w:World) (e:Ending) (w':World):Prop:=∃ (k:Nat) (key:ByteArray) (g:GV) (BL BO:Option Addr) (dL dO:Nat),e=.returned (.agg #[.int .u8 k,.slice P np pc,.string key,.int .i64 0,.int .i64 0,.int .i64 0,.int .u8 g.kind,.int .i64 g.num,.string g.str,.slice BL g.items.length dL,.slice BO g.vals.length dO,.string ⟨#[]⟩])∧(LstV (fun k=>w.heap.size≤k) w' (.slice BL g.items.length dL) g.items∧ObjV (fun k=>w.heap.size≤k) w' (.slice BO g.vals.length dO) g.keys g.vals)∧VOk g∧((k=2∨(k=3∧there key h.keys=true∧g=noG))∧valid key=true∧key.size≤6001)∧Below w.heap.size w w'
structure TB4 (w W:World) (cc ca cv cr:Array Value):Prop where
 c:Whole W w.heap.size 35 cc
 a:Whole W (w.heap.size+1) 48 ca
 v:Whole W (w.heap.size+1+1) 31 cv
 r:Whole W (w.heap.size+1+1+1) 35 cr
 below:Below w.heap.size w W
theorem TB4.new (w:World) (cc ca cv cr:Array Value):TB4 w ((((w.alloc (.cells cc 35)).alloc (.cells ca 48)).alloc (.cells cv 31)).alloc (.cells cr 35)) cc ca cv cr:=by
 have h1:=((Whole.new (w.alloc (.cells cc 35)) 48 ca).alloc (.cells cv 31)).alloc (.cells cr 35)
 have h2:=(Whole.new ((w.alloc (.cells cc 35)).alloc (.cells ca 48)) 31 cv).alloc (.cells cr 35)
 have h3:=Whole.new (((w.alloc (.cells cc 35)).alloc (.cells ca 48)).alloc (.cells cv 31)) 35 cr
 rw [World.size_alloc] at h1
 rw [World.size_alloc,World.size_alloc] at h2
 rw [World.size_alloc,World.size_alloc,World.size_alloc] at h3
 exact ⟨(((Whole.new w _ _).alloc _).alloc _).alloc _,h1,h2,h3,((((Below.refl _ w).alloc (Nat.le_refl _) _).alloc (by simp) _).alloc (by simp;omega) _).alloc (by simp;omega) _⟩
theorem TB4.step {w W W':World} {cc ca cv cr:Array Value} (h:TB4 w W cc ca cv cr) (hb:Below W.heap.size W W'):TB4 w W' cc ca cv cr:=
 ⟨h.c.below hb h.c.lt,h.a.below hb h.a.lt,h.v.below hb h.v.lt,h.r.below hb h.r.lt,h.below.trans (hb.mono h.below.size)⟩
theorem TB4.drew {w W:World} {cc ca cv cr:Array Value} (h:TB4 w W cc ca cv cr):TB4 w W.drew cc ca cv cr:=⟨h.c.of_eq rfl,h.a.of_eq rfl,h.v.of_eq rfl,h.r.of_eq rfl,h.below.drew⟩
theorem TB4.putC {w W:World} {cc ca cv cr:Array Value} (h:TB4 w W cc ca cv cr) (i:Nat) (u:Value):TB4 w (W.setCell ⟨w.heap.size,i,none⟩ u) (cc.setIfInBounds i u) ca cv cr:=
 ⟨h.c.put i u,h.a.far (by simp) u,h.v.far (by simp;omega) u,h.r.far (by simp;omega) u,h.below.setCell (Nat.le_refl _) u⟩
theorem field_none_del (x:GAct) (AP:Option Addr) (ap:Nat) (AD:Option Addr) (ad:Nat) (P:Option Addr) (np pc:Nat) (h:GV) (HL HO:Option Addr) (dL dO:Nat) (w:World) (hx:ActOk w x AP ap AD ad) (hv:Vl w h HL HO dL dO) (hkv:∀ k∈h.keys,valid k=true∧k.size≤6001) (hm:h.vals.length≤1000000) (hn:¬ 0<h.vals.length) (ht:there (plainB x.s) h.keys=true) (hd:x.kind % 2=0):
  Calls Tryz.prog 34 #[.agg #[.int .u8 0,.slice P np pc,.string ⟨#[]⟩,.int .i64 0,.int .i64 0,.int .i64 0,.int .u8 0,.int .i64 0,.string ⟨#[]⟩,.slice none 0 0,.slice none 0 0,.string ⟨#[]⟩],.agg #[.slice AP x.path.length ap,.int .u8 x.kind,.int .i64 x.i,.int .i64 x.j,.int .i64 x.n,.string x.s,.slice AD x.v.length ad],.agg #[.int .u8 h.kind,.int .i64 h.num,.string h.str,.slice HL h.items.length dL,.slice HO h.vals.length dO]] w (FieldIs h P np pc w):=by
 have hk:=hx.kind
 have hstr:=hx.str
 have hpz:=plain_size x.s
 have HPL:=Lib.hid (fun W=>plain6_any x.s W (by omega))
 have HFD:=Lib.hid (fun W (hb:Below w.heap.size w W)=>(ref_Field (fun _=>True) _ h (plainB x.s) W (hv.later hb).val).mono (R':=fun e w'=>e=.returned (.tuple #[.int .i64 (place (plainB x.s) h.keys),.bool true])∧Below W.heap.size W w') fun e w' ⟨he,hb'⟩=>⟨by rw [he,ht],hb'⟩)
 have H0:=Lib.hid (TB4.new w #[.int .u8 2,.slice P np pc,.string ⟨#[]⟩,.int .i64 0,.int .i64 0,.int .i64 0,.int .u8 0,.int .i64 0,.string ⟨#[]⟩,.slice none 0 0,.slice none 0 0,.string ⟨#[]⟩] #[.slice AP x.path.length ap,.int .u8 x.kind,.int .i64 x.i,.int .i64 x.j,.int .i64 x.n,.string x.s,.slice AD x.v.length ad] #[.int .u8 h.kind,.int .i64 h.num,.string h.str,.slice HL h.items.length dL,.slice HO h.vals.length dO] #[.int .u8 0,.slice none 0 0,.string ⟨#[]⟩,.int .i64 0,.int .i64 0,.int .i64 0,.int .u8 0,.int .i64 0,.string ⟨#[]⟩,.slice none 0 0,.slice none 0 0,.string ⟨#[]⟩])
 have HT:=Lib.hid (And.intro ht hkv)
 have hpl1:∃ pz,place (plainB x.s) h.keys=pz:=⟨_,rfl⟩
 obtain ⟨pz,hpl1⟩:=hpl1
 rw [hpl1] at HFD
 clear hpl1
 clear hx hv ht hkv hstr
 generalize hno:h.vals.length=no at *
 clear hno
 go_enter Tryz.func34,Tryz.ntmps34
 go_wp2_with (first | (go_at_call 64;refine (HPL.out _).mono ?_;rintro e w1 ⟨rfl,hb⟩;have H1:=Lib.hid (H0.out.step hb);obtain ⟨c0,c1,c2,c3,c4,c5,c6,c7,c8,c9,c10,c11,y0,y1,y2,y3,y4,y5,y6,y7,y8,y9,y10,y11⟩:=H1.out.c.tw;obtain ⟨a0,a1,a2,a3,a4,a5,a6⟩:=act_cells H1.out.a;obtain ⟨v0,v1,v2,v3,v4,_⟩:=H1.out.v.five;obtain ⟨_,_,_,_,_,_,_,_,_,_,_,_,z0,z1,z2,z3,z4,z5,z6,z7,z8,z9,z10,z11⟩:=H1.out.r.tw;clear hb) | (go_at_call 63;refine (HFD.out _ (H1.out.putC 2 (.string (plainB x.s))).below).mono ?_;rintro e w3 ⟨rfl,hb⟩;have H3:=Lib.hid ((H1.out.putC 2 (.string (plainB x.s))).step hb);clear c0 c1 c2 c3 c4 c5 c6 c7 c8 c9 c10 c11 y0 y1 y2 y3 y4 y5 y6 y7 y8 y9 y10 y11 a0 a1 a2 a3 a4 a5 a6 v0 v1 v2 v3 v4 z0 z1 z2 z3 z4 z5 z6 z7 z8 z9 z10 z11;obtain ⟨c0,c1,c2,c3,c4,c5,c6,c7,c8,c9,c10,c11,y0,y1,y2,y3,y4,y5,y6,y7,y8,y9,y10,y11⟩:=H3.out.c.tw;obtain ⟨a0,a1,a2,a3,a4,a5,a6⟩:=act_cells H3.out.a;obtain ⟨v0,v1,v2,v3,v4,_⟩:=H3.out.v.five;obtain ⟨_,_,_,_,_,_,_,_,_,_,_,_,z0,z1,z2,z3,z4,z5,z6,z7,z8,z9,z10,z11⟩:=H3.out.r.tw;clear hb))
 have hR:=H3.out.putC 0 (.int .u8 3)
 have hX:=put12 hR.r (.int .u8 3) (.slice P np pc) (.string (plainB x.s)) (.int .i64 0) (.int .i64 0) (.int .i64 0) (.int .u8 0) (.int .i64 0) (.string ⟨#[]⟩) (.slice none 0 0) (.slice none 0 0) (.string ⟨#[]⟩)
 have hB:=(below12 (b:=w.heap.size+1+1+1) (hR.below) (by first | omega | (simp;omega) | simp) (.int .u8 3) (.slice P np pc) (.string (plainB x.s)) (.int .i64 0) (.int .i64 0) (.int .i64 0) (.int .u8 0) (.int .i64 0) (.string ⟨#[]⟩) (.slice none 0 0) (.slice none 0 0) (.string ⟨#[]⟩))
 obtain ⟨d0,d1,d2,d3,d4,d5,d6,d7,d8,d9,d10,d11,_⟩:=hX.tw
 refine bodyPost_ret (v:=.agg #[.int .u8 3,.slice P np pc,.string (plainB x.s),.int .i64 0,.int .i64 0,.int .i64 0,.int .u8 0,.int .i64 0,.string ⟨#[]⟩,.slice none 0 0,.slice none 0 0,.string ⟨#[]⟩]) (by simp [results,Tryz.results34,go_sem,d0,d1,d2,d3,d4,d5,d6,d7,d8,d9,d10,d11]) rfl ?_
 exact ⟨3,(plainB x.s),noG,none,none,0,0,rfl,lv_noG _ _,vok_no,⟨.inr ⟨rfl,HT.out.1,rfl⟩,⟨plain_valid _,by omega⟩⟩,hB⟩
theorem field_none_new (x:GAct) (AP:Option Addr) (ap:Nat) (AD:Option Addr) (ad:Nat) (P:Option Addr) (np pc:Nat) (h:GV) (HL HO:Option Addr) (dL dO:Nat) (w:World) (hx:ActOk w x AP ap AD ad) (hv:Vl w h HL HO dL dO) (hkv:∀ k∈h.keys,valid k=true∧k.size≤6001) (hm:h.vals.length≤1000000) (hn:¬ 0<h.vals.length) (ht:there (plainB x.s) h.keys=false):
  Calls Tryz.prog 34 #[.agg #[.int .u8 0,.slice P np pc,.string ⟨#[]⟩,.int .i64 0,.int .i64 0,.int .i64 0,.int .u8 0,.int .i64 0,.string ⟨#[]⟩,.slice none 0 0,.slice none 0 0,.string ⟨#[]⟩],.agg #[.slice AP x.path.length ap,.int .u8 x.kind,.int .i64 x.i,.int .i64 x.j,.int .i64 x.n,.string x.s,.slice AD x.v.length ad],.agg #[.int .u8 h.kind,.int .i64 h.num,.string h.str,.slice HL h.items.length dL,.slice HO h.vals.length dO]] w (FieldIs h P np pc w):=by
 have hk:=hx.kind
 have hstr:=hx.str
 have hpz:=plain_size x.s
 have HPL:=Lib.hid (fun W=>plain6_any x.s W (by omega))
 have HFD:=Lib.hid (fun W (hb:Below w.heap.size w W)=>(ref_Field (fun _=>True) _ h (plainB x.s) W (hv.later hb).val).mono (R':=fun e w'=>e=.returned (.tuple #[.int .i64 (place (plainB x.s) h.keys),.bool false])∧Below W.heap.size W w') fun e w' ⟨he,hb'⟩=>⟨by rw [he,ht],hb'⟩)
 have HBU:=Lib.hid (fun W (hb:Below w.heap.size w W)=>build_A w.heap.size AD ad x.v W hx.cap.1 hx.cap.2 hb.size (hx.toks.keep hb (Nat.le_refl _)) hx.rng hx.sizes)
 unfold BuildA at HBU
 have H0:=Lib.hid (TB4.new w #[.int .u8 2,.slice P np pc,.string ⟨#[]⟩,.int .i64 0,.int .i64 0,.int .i64 0,.int .u8 0,.int .i64 0,.string ⟨#[]⟩,.slice none 0 0,.slice none 0 0,.string ⟨#[]⟩] #[.slice AP x.path.length ap,.int .u8 x.kind,.int .i64 x.i,.int .i64 x.j,.int .i64 x.n,.string x.s,.slice AD x.v.length ad] #[.int .u8 h.kind,.int .i64 h.num,.string h.str,.slice HL h.items.length dL,.slice HO h.vals.length dO] #[.int .u8 0,.slice none 0 0,.string ⟨#[]⟩,.int .i64 0,.int .i64 0,.int .i64 0,.int .u8 0,.int .i64 0,.string ⟨#[]⟩,.slice none 0 0,.slice none 0 0,.string ⟨#[]⟩])
 have HT:=Lib.hid (And.intro ht hkv)
 have hpl1:∃ pz,place (plainB x.s) h.keys=pz:=⟨_,rfl⟩
 obtain ⟨pz,hpl1⟩:=hpl1
 rw [hpl1] at HFD
 clear hpl1
 clear hx hv ht hkv hstr
 generalize hno:h.vals.length=no at *
 clear hno
 go_enter Tryz.func34,Tryz.ntmps34
 go_wp2_with (first | (go_at_call 64;refine (HPL.out _).mono ?_;rintro e w1 ⟨rfl,hb⟩;have H1:=Lib.hid (H0.out.step hb);obtain ⟨c0,c1,c2,c3,c4,c5,c6,c7,c8,c9,c10,c11,y0,y1,y2,y3,y4,y5,y6,y7,y8,y9,y10,y11⟩:=H1.out.c.tw;obtain ⟨a0,a1,a2,a3,a4,a5,a6⟩:=act_cells H1.out.a;obtain ⟨v0,v1,v2,v3,v4,_⟩:=H1.out.v.five;obtain ⟨_,_,_,_,_,_,_,_,_,_,_,_,z0,z1,z2,z3,z4,z5,z6,z7,z8,z9,z10,z11⟩:=H1.out.r.tw;clear hb) | (go_at_call 63;refine (HFD.out _ (H1.out.putC 2 (.string (plainB x.s))).below).mono ?_;rintro e w3 ⟨rfl,hb⟩;have H3:=Lib.hid ((H1.out.putC 2 (.string (plainB x.s))).step hb);clear c0 c1 c2 c3 c4 c5 c6 c7 c8 c9 c10 c11 y0 y1 y2 y3 y4 y5 y6 y7 y8 y9 y10 y11 a0 a1 a2 a3 a4 a5 a6 v0 v1 v2 v3 v4 z0 z1 z2 z3 z4 z5 z6 z7 z8 z9 z10 z11;obtain ⟨c0,c1,c2,c3,c4,c5,c6,c7,c8,c9,c10,c11,y0,y1,y2,y3,y4,y5,y6,y7,y8,y9,y10,y11⟩:=H3.out.c.tw;obtain ⟨a0,a1,a2,a3,a4,a5,a6⟩:=act_cells H3.out.a;obtain ⟨v0,v1,v2,v3,v4,_⟩:=H3.out.v.five;obtain ⟨_,_,_,_,_,_,_,_,_,_,_,_,z0,z1,z2,z3,z4,z5,z6,z7,z8,z9,z10,z11⟩:=H3.out.r.tw;clear hb) | (go_at_call 7;refine (HBU.out _ H3.out.below).mono ?_;rintro e w4 ⟨g,BL,BO,eL,eO,rfl,hv,hg,hb⟩;have H4:=Lib.hid (And.intro (H3.out.step hb) (And.intro hv (And.intro hg (show w.heap.size+1+1+1+1≤w4.heap.size from by have:=hb.size;have:=H3.out.r.lt;omega))));clear c0 c1 c2 c3 c4 c5 c6 c7 c8 c9 c10 c11 y0 y1 y2 y3 y4 y5 y6 y7 y8 y9 y10 y11 a0 a1 a2 a3 a4 a5 a6 v0 v1 v2 v3 v4 z0 z1 z2 z3 z4 z5 z6 z7 z8 z9 z10 z11;obtain ⟨c0,c1,c2,c3,c4,c5,c6,c7,c8,c9,c10,c11,y0,y1,y2,y3,y4,y5,y6,y7,y8,y9,y10,y11⟩:=H4.out.1.c.tw;obtain ⟨a0,a1,a2,a3,a4,a5,a6⟩:=act_cells H4.out.1.a;obtain ⟨v0,v1,v2,v3,v4,_⟩:=H4.out.1.v.five;obtain ⟨_,_,_,_,_,_,_,_,_,_,_,_,z0,z1,z2,z3,z4,z5,z6,z7,z8,z9,z10,z11⟩:=H4.out.1.r.tw;clear hb hv hg))
 have hR:=(((((H4.out.1.putC 6 (.int .u8 g.kind)).putC 7 (.int .i64 g.num)).putC 8 (.string g.str)).putC 9 (.slice BL g.items.length eL)).putC 10 (.slice BO g.vals.length eO))
 have hX:=put12 hR.r (.int .u8 2) (.slice P np pc) (.string (plainB x.s)) (.int .i64 0) (.int .i64 0) (.int .i64 0) (.int .u8 g.kind) (.int .i64 g.num) (.string g.str) (.slice BL g.items.length eL) (.slice BO g.vals.length eO) (.string ⟨#[]⟩)
 have hB:=(below12 (b:=w.heap.size+1+1+1) (hR.below) (by first | omega | (simp;omega) | simp) (.int .u8 2) (.slice P np pc) (.string (plainB x.s)) (.int .i64 0) (.int .i64 0) (.int .i64 0) (.int .u8 g.kind) (.int .i64 g.num) (.string g.str) (.slice BL g.items.length eL) (.slice BO g.vals.length eO) (.string ⟨#[]⟩))
 have hK:=(kp12 (b:=w.heap.size+1+1+1) (((((((Kp.refl (w.heap.size+1+1+1+1) w4).set (p:=⟨w.heap.size,6,none⟩) (by simp;try omega) (.int .u8 g.kind)).set (p:=⟨w.heap.size,7,none⟩) (by simp;try omega) (.int .i64 g.num)).set (p:=⟨w.heap.size,8,none⟩) (by simp;try omega) (.string g.str)).set (p:=⟨w.heap.size,9,none⟩) (by simp;try omega) (.slice BL g.items.length eL)).set (p:=⟨w.heap.size,10,none⟩) (by simp;try omega) (.slice BO g.vals.length eO))) (by first | omega | (simp;omega) | simp) (.int .u8 2) (.slice P np pc) (.string (plainB x.s)) (.int .i64 0) (.int .i64 0) (.int .i64 0) (.int .u8 g.kind) (.int .i64 g.num) (.string g.str) (.slice BL g.items.length eL) (.slice BO g.vals.length eO) (.string ⟨#[]⟩))
 obtain ⟨d0,d1,d2,d3,d4,d5,d6,d7,d8,d9,d10,d11,_⟩:=hX.tw
 refine bodyPost_ret (v:=.agg #[.int .u8 2,.slice P np pc,.string (plainB x.s),.int .i64 0,.int .i64 0,.int .i64 0,.int .u8 g.kind,.int .i64 g.num,.string g.str,.slice BL g.items.length eL,.slice BO g.vals.length eO,.string ⟨#[]⟩]) (by simp [results,Tryz.results34,go_sem,d0,d1,d2,d3,d4,d5,d6,d7,d8,d9,d10,d11]) rfl ?_
 exact ⟨2,(plainB x.s),g,BL,BO,eL,eO,rfl,⟨H4.out.2.1.1.keep (fun k hk1 hl=>hK.2 k (by have:=H3.out.r.lt;omega) hl) (fun k hk1 _=>by have:=H3.out.r.lt;omega),H4.out.2.1.2.keep (fun k hk1 hl=>hK.2 k (by have:=H3.out.r.lt;omega) hl) (fun k hk1 _=>by have:=H3.out.r.lt;omega)⟩,H4.out.2.2.1,⟨.inl rfl,⟨plain_valid _,by omega⟩⟩,hB⟩
theorem field_none_odd (x:GAct) (AP:Option Addr) (ap:Nat) (AD:Option Addr) (ad:Nat) (P:Option Addr) (np pc:Nat) (h:GV) (HL HO:Option Addr) (dL dO:Nat) (w:World) (hx:ActOk w x AP ap AD ad) (hv:Vl w h HL HO dL dO) (hkv:∀ k∈h.keys,valid k=true∧k.size≤6001) (hm:h.vals.length≤1000000) (hn:¬ 0<h.vals.length) (ht:there (plainB x.s) h.keys=true) (hd:x.kind % 2=1):
  Calls Tryz.prog 34 #[.agg #[.int .u8 0,.slice P np pc,.string ⟨#[]⟩,.int .i64 0,.int .i64 0,.int .i64 0,.int .u8 0,.int .i64 0,.string ⟨#[]⟩,.slice none 0 0,.slice none 0 0,.string ⟨#[]⟩],.agg #[.slice AP x.path.length ap,.int .u8 x.kind,.int .i64 x.i,.int .i64 x.j,.int .i64 x.n,.string x.s,.slice AD x.v.length ad],.agg #[.int .u8 h.kind,.int .i64 h.num,.string h.str,.slice HL h.items.length dL,.slice HO h.vals.length dO]] w (FieldIs h P np pc w):=by
 have hk:=hx.kind
 have hstr:=hx.str
 have hpz:=plain_size x.s
 have HPL:=Lib.hid (fun W=>plain6_any x.s W (by omega))
 have HFD:=Lib.hid (fun W (hb:Below w.heap.size w W)=>(ref_Field (fun _=>True) _ h (plainB x.s) W (hv.later hb).val).mono (R':=fun e w'=>e=.returned (.tuple #[.int .i64 (place (plainB x.s) h.keys),.bool true])∧Below W.heap.size W w') fun e w' ⟨he,hb'⟩=>⟨by rw [he,ht],hb'⟩)
 have HBU:=Lib.hid (fun W (hb:Below w.heap.size w W)=>build_A w.heap.size AD ad x.v W hx.cap.1 hx.cap.2 hb.size (hx.toks.keep hb (Nat.le_refl _)) hx.rng hx.sizes)
 unfold BuildA at HBU
 have H0:=Lib.hid (TB4.new w #[.int .u8 2,.slice P np pc,.string ⟨#[]⟩,.int .i64 0,.int .i64 0,.int .i64 0,.int .u8 0,.int .i64 0,.string ⟨#[]⟩,.slice none 0 0,.slice none 0 0,.string ⟨#[]⟩] #[.slice AP x.path.length ap,.int .u8 x.kind,.int .i64 x.i,.int .i64 x.j,.int .i64 x.n,.string x.s,.slice AD x.v.length ad] #[.int .u8 h.kind,.int .i64 h.num,.string h.str,.slice HL h.items.length dL,.slice HO h.vals.length dO] #[.int .u8 0,.slice none 0 0,.string ⟨#[]⟩,.int .i64 0,.int .i64 0,.int .i64 0,.int .u8 0,.int .i64 0,.string ⟨#[]⟩,.slice none 0 0,.slice none 0 0,.string ⟨#[]⟩])
 have HT:=Lib.hid (And.intro ht hkv)
 have hpl1:∃ pz,place (plainB x.s) h.keys=pz:=⟨_,rfl⟩
 obtain ⟨pz,hpl1⟩:=hpl1
 rw [hpl1] at HFD
 clear hpl1
 clear hx hv ht hkv hstr
 generalize hno:h.vals.length=no at *
 clear hno
 go_enter Tryz.func34,Tryz.ntmps34
 go_wp2_with (first | (go_at_call 64;refine (HPL.out _).mono ?_;rintro e w1 ⟨rfl,hb⟩;have H1:=Lib.hid (H0.out.step hb);obtain ⟨c0,c1,c2,c3,c4,c5,c6,c7,c8,c9,c10,c11,y0,y1,y2,y3,y4,y5,y6,y7,y8,y9,y10,y11⟩:=H1.out.c.tw;obtain ⟨a0,a1,a2,a3,a4,a5,a6⟩:=act_cells H1.out.a;obtain ⟨v0,v1,v2,v3,v4,_⟩:=H1.out.v.five;obtain ⟨_,_,_,_,_,_,_,_,_,_,_,_,z0,z1,z2,z3,z4,z5,z6,z7,z8,z9,z10,z11⟩:=H1.out.r.tw;clear hb) | (go_at_call 63;refine (HFD.out _ (H1.out.putC 2 (.string (plainB x.s))).below).mono ?_;rintro e w3 ⟨rfl,hb⟩;have H3:=Lib.hid ((H1.out.putC 2 (.string (plainB x.s))).step hb);clear c0 c1 c2 c3 c4 c5 c6 c7 c8 c9 c10 c11 y0 y1 y2 y3 y4 y5 y6 y7 y8 y9 y10 y11 a0 a1 a2 a3 a4 a5 a6 v0 v1 v2 v3 v4 z0 z1 z2 z3 z4 z5 z6 z7 z8 z9 z10 z11;obtain ⟨c0,c1,c2,c3,c4,c5,c6,c7,c8,c9,c10,c11,y0,y1,y2,y3,y4,y5,y6,y7,y8,y9,y10,y11⟩:=H3.out.c.tw;obtain ⟨a0,a1,a2,a3,a4,a5,a6⟩:=act_cells H3.out.a;obtain ⟨v0,v1,v2,v3,v4,_⟩:=H3.out.v.five;obtain ⟨_,_,_,_,_,_,_,_,_,_,_,_,z0,z1,z2,z3,z4,z5,z6,z7,z8,z9,z10,z11⟩:=H3.out.r.tw;clear hb) | (go_at_call 7;refine (HBU.out _ H3.out.below).mono ?_;rintro e w4 ⟨g,BL,BO,eL,eO,rfl,hv,hg,hb⟩;have H4:=Lib.hid (And.intro (H3.out.step hb) (And.intro hv (And.intro hg (show w.heap.size+1+1+1+1≤w4.heap.size from by have:=hb.size;have:=H3.out.r.lt;omega))));clear c0 c1 c2 c3 c4 c5 c6 c7 c8 c9 c10 c11 y0 y1 y2 y3 y4 y5 y6 y7 y8 y9 y10 y11 a0 a1 a2 a3 a4 a5 a6 v0 v1 v2 v3 v4 z0 z1 z2 z3 z4 z5 z6 z7 z8 z9 z10 z11;obtain ⟨c0,c1,c2,c3,c4,c5,c6,c7,c8,c9,c10,c11,y0,y1,y2,y3,y4,y5,y6,y7,y8,y9,y10,y11⟩:=H4.out.1.c.tw;obtain ⟨a0,a1,a2,a3,a4,a5,a6⟩:=act_cells H4.out.1.a;obtain ⟨v0,v1,v2,v3,v4,_⟩:=H4.out.1.v.five;obtain ⟨_,_,_,_,_,_,_,_,_,_,_,_,z0,z1,z2,z3,z4,z5,z6,z7,z8,z9,z10,z11⟩:=H4.out.1.r.tw;clear hb hv hg))
 have hR:=(((((H4.out.1.putC 6 (.int .u8 g.kind)).putC 7 (.int .i64 g.num)).putC 8 (.string g.str)).putC 9 (.slice BL g.items.length eL)).putC 10 (.slice BO g.vals.length eO))
 have hX:=put12 hR.r (.int .u8 2) (.slice P np pc) (.string (plainB x.s)) (.int .i64 0) (.int .i64 0) (.int .i64 0) (.int .u8 g.kind) (.int .i64 g.num) (.string g.str) (.slice BL g.items.length eL) (.slice BO g.vals.length eO) (.string ⟨#[]⟩)
 have hB:=(below12 (b:=w.heap.size+1+1+1) (hR.below) (by first | omega | (simp;omega) | simp) (.int .u8 2) (.slice P np pc) (.string (plainB x.s)) (.int .i64 0) (.int .i64 0) (.int .i64 0) (.int .u8 g.kind) (.int .i64 g.num) (.string g.str) (.slice BL g.items.length eL) (.slice BO g.vals.length eO) (.string ⟨#[]⟩))
 have hK:=(kp12 (b:=w.heap.size+1+1+1) (((((((Kp.refl (w.heap.size+1+1+1+1) w4).set (p:=⟨w.heap.size,6,none⟩) (by simp;try omega) (.int .u8 g.kind)).set (p:=⟨w.heap.size,7,none⟩) (by simp;try omega) (.int .i64 g.num)).set (p:=⟨w.heap.size,8,none⟩) (by simp;try omega) (.string g.str)).set (p:=⟨w.heap.size,9,none⟩) (by simp;try omega) (.slice BL g.items.length eL)).set (p:=⟨w.heap.size,10,none⟩) (by simp;try omega) (.slice BO g.vals.length eO))) (by first | omega | (simp;omega) | simp) (.int .u8 2) (.slice P np pc) (.string (plainB x.s)) (.int .i64 0) (.int .i64 0) (.int .i64 0) (.int .u8 g.kind) (.int .i64 g.num) (.string g.str) (.slice BL g.items.length eL) (.slice BO g.vals.length eO) (.string ⟨#[]⟩))
 obtain ⟨d0,d1,d2,d3,d4,d5,d6,d7,d8,d9,d10,d11,_⟩:=hX.tw
 refine bodyPost_ret (v:=.agg #[.int .u8 2,.slice P np pc,.string (plainB x.s),.int .i64 0,.int .i64 0,.int .i64 0,.int .u8 g.kind,.int .i64 g.num,.string g.str,.slice BL g.items.length eL,.slice BO g.vals.length eO,.string ⟨#[]⟩]) (by simp [results,Tryz.results34,go_sem,d0,d1,d2,d3,d4,d5,d6,d7,d8,d9,d10,d11]) rfl ?_
 exact ⟨2,(plainB x.s),g,BL,BO,eL,eO,rfl,⟨H4.out.2.1.1.keep (fun k hk1 hl=>hK.2 k (by have:=H3.out.r.lt;omega) hl) (fun k hk1 _=>by have:=H3.out.r.lt;omega),H4.out.2.1.2.keep (fun k hk1 hl=>hK.2 k (by have:=H3.out.r.lt;omega) hl) (fun k hk1 _=>by have:=H3.out.r.lt;omega)⟩,H4.out.2.2.1,⟨.inl rfl,⟨plain_valid _,by omega⟩⟩,hB⟩
theorem field_plain_del (x:GAct) (AP:Option Addr) (ap:Nat) (AD:Option Addr) (ad:Nat) (P:Option Addr) (np pc:Nat) (h:GV) (HL HO:Option Addr) (dL dO:Nat) (w:World) (hx:ActOk w x AP ap AD ad) (hv:Vl w h HL HO dL dO) (hkv:∀ k∈h.keys,valid k=true∧k.size≤6001) (hm:h.vals.length≤1000000) (hn:0<h.vals.length) (hr:x.kind % 3=0) (ht:there (plainB x.s) h.keys=true) (hd:x.kind % 2=0):
  Calls Tryz.prog 34 #[.agg #[.int .u8 0,.slice P np pc,.string ⟨#[]⟩,.int .i64 0,.int .i64 0,.int .i64 0,.int .u8 0,.int .i64 0,.string ⟨#[]⟩,.slice none 0 0,.slice none 0 0,.string ⟨#[]⟩],.agg #[.slice AP x.path.length ap,.int .u8 x.kind,.int .i64 x.i,.int .i64 x.j,.int .i64 x.n,.string x.s,.slice AD x.v.length ad],.agg #[.int .u8 h.kind,.int .i64 h.num,.string h.str,.slice HL h.items.length dL,.slice HO h.vals.length dO]] w (FieldIs h P np pc w):=by
 have hk:=hx.kind
 have hstr:=hx.str
 have hpz:=plain_size x.s
 have HPL:=Lib.hid (fun W=>plain6_any x.s W (by omega))
 have HFD:=Lib.hid (fun W (hb:Below w.heap.size w W)=>(ref_Field (fun _=>True) _ h (plainB x.s) W (hv.later hb).val).mono (R':=fun e w'=>e=.returned (.tuple #[.int .i64 (place (plainB x.s) h.keys),.bool true])∧Below W.heap.size W w') fun e w' ⟨he,hb'⟩=>⟨by rw [he,ht],hb'⟩)
 have H0:=Lib.hid (TB4.new w #[.int .u8 2,.slice P np pc,.string ⟨#[]⟩,.int .i64 0,.int .i64 0,.int .i64 0,.int .u8 0,.int .i64 0,.string ⟨#[]⟩,.slice none 0 0,.slice none 0 0,.string ⟨#[]⟩] #[.slice AP x.path.length ap,.int .u8 x.kind,.int .i64 x.i,.int .i64 x.j,.int .i64 x.n,.string x.s,.slice AD x.v.length ad] #[.int .u8 h.kind,.int .i64 h.num,.string h.str,.slice HL h.items.length dL,.slice HO h.vals.length dO] #[.int .u8 0,.slice none 0 0,.string ⟨#[]⟩,.int .i64 0,.int .i64 0,.int .i64 0,.int .u8 0,.int .i64 0,.string ⟨#[]⟩,.slice none 0 0,.slice none 0 0,.string ⟨#[]⟩])
 have HT:=Lib.hid (And.intro ht hkv)
 have hpl1:∃ pz,place (plainB x.s) h.keys=pz:=⟨_,rfl⟩
 obtain ⟨pz,hpl1⟩:=hpl1
 rw [hpl1] at HFD
 clear hpl1
 clear hx hv ht hkv hstr
 generalize hno:h.vals.length=no at *
 clear hno
 go_enter Tryz.func34,Tryz.ntmps34
 go_wp2_with (first | (go_at_call 64;refine (HPL.out _).mono ?_;rintro e w1 ⟨rfl,hb⟩;have H1:=Lib.hid (H0.out.step hb);obtain ⟨c0,c1,c2,c3,c4,c5,c6,c7,c8,c9,c10,c11,y0,y1,y2,y3,y4,y5,y6,y7,y8,y9,y10,y11⟩:=H1.out.c.tw;obtain ⟨a0,a1,a2,a3,a4,a5,a6⟩:=act_cells H1.out.a;obtain ⟨v0,v1,v2,v3,v4,_⟩:=H1.out.v.five;obtain ⟨_,_,_,_,_,_,_,_,_,_,_,_,z0,z1,z2,z3,z4,z5,z6,z7,z8,z9,z10,z11⟩:=H1.out.r.tw;clear hb) | (go_at_call 63;refine (HFD.out _ (H1.out.putC 2 (.string (plainB x.s))).below).mono ?_;rintro e w3 ⟨rfl,hb⟩;have H3:=Lib.hid ((H1.out.putC 2 (.string (plainB x.s))).step hb);clear c0 c1 c2 c3 c4 c5 c6 c7 c8 c9 c10 c11 y0 y1 y2 y3 y4 y5 y6 y7 y8 y9 y10 y11 a0 a1 a2 a3 a4 a5 a6 v0 v1 v2 v3 v4 z0 z1 z2 z3 z4 z5 z6 z7 z8 z9 z10 z11;obtain ⟨c0,c1,c2,c3,c4,c5,c6,c7,c8,c9,c10,c11,y0,y1,y2,y3,y4,y5,y6,y7,y8,y9,y10,y11⟩:=H3.out.c.tw;obtain ⟨a0,a1,a2,a3,a4,a5,a6⟩:=act_cells H3.out.a;obtain ⟨v0,v1,v2,v3,v4,_⟩:=H3.out.v.five;obtain ⟨_,_,_,_,_,_,_,_,_,_,_,_,z0,z1,z2,z3,z4,z5,z6,z7,z8,z9,z10,z11⟩:=H3.out.r.tw;clear hb))
 have hR:=H3.out.putC 0 (.int .u8 3)
 have hX:=put12 hR.r (.int .u8 3) (.slice P np pc) (.string (plainB x.s)) (.int .i64 0) (.int .i64 0) (.int .i64 0) (.int .u8 0) (.int .i64 0) (.string ⟨#[]⟩) (.slice none 0 0) (.slice none 0 0) (.string ⟨#[]⟩)
 have hB:=(below12 (b:=w.heap.size+1+1+1) (hR.below) (by first | omega | (simp;omega) | simp) (.int .u8 3) (.slice P np pc) (.string (plainB x.s)) (.int .i64 0) (.int .i64 0) (.int .i64 0) (.int .u8 0) (.int .i64 0) (.string ⟨#[]⟩) (.slice none 0 0) (.slice none 0 0) (.string ⟨#[]⟩))
 obtain ⟨d0,d1,d2,d3,d4,d5,d6,d7,d8,d9,d10,d11,_⟩:=hX.tw
 refine bodyPost_ret (v:=.agg #[.int .u8 3,.slice P np pc,.string (plainB x.s),.int .i64 0,.int .i64 0,.int .i64 0,.int .u8 0,.int .i64 0,.string ⟨#[]⟩,.slice none 0 0,.slice none 0 0,.string ⟨#[]⟩]) (by simp [results,Tryz.results34,go_sem,d0,d1,d2,d3,d4,d5,d6,d7,d8,d9,d10,d11]) rfl ?_
 exact ⟨3,(plainB x.s),noG,none,none,0,0,rfl,lv_noG _ _,vok_no,⟨.inr ⟨rfl,HT.out.1,rfl⟩,⟨plain_valid _,by omega⟩⟩,hB⟩
theorem field_plain_new (x:GAct) (AP:Option Addr) (ap:Nat) (AD:Option Addr) (ad:Nat) (P:Option Addr) (np pc:Nat) (h:GV) (HL HO:Option Addr) (dL dO:Nat) (w:World) (hx:ActOk w x AP ap AD ad) (hv:Vl w h HL HO dL dO) (hkv:∀ k∈h.keys,valid k=true∧k.size≤6001) (hm:h.vals.length≤1000000) (hn:0<h.vals.length) (hr:x.kind % 3=0) (ht:there (plainB x.s) h.keys=false):
  Calls Tryz.prog 34 #[.agg #[.int .u8 0,.slice P np pc,.string ⟨#[]⟩,.int .i64 0,.int .i64 0,.int .i64 0,.int .u8 0,.int .i64 0,.string ⟨#[]⟩,.slice none 0 0,.slice none 0 0,.string ⟨#[]⟩],.agg #[.slice AP x.path.length ap,.int .u8 x.kind,.int .i64 x.i,.int .i64 x.j,.int .i64 x.n,.string x.s,.slice AD x.v.length ad],.agg #[.int .u8 h.kind,.int .i64 h.num,.string h.str,.slice HL h.items.length dL,.slice HO h.vals.length dO]] w (FieldIs h P np pc w):=by
 have hk:=hx.kind
 have hstr:=hx.str
 have hpz:=plain_size x.s
 have HPL:=Lib.hid (fun W=>plain6_any x.s W (by omega))
 have HFD:=Lib.hid (fun W (hb:Below w.heap.size w W)=>(ref_Field (fun _=>True) _ h (plainB x.s) W (hv.later hb).val).mono (R':=fun e w'=>e=.returned (.tuple #[.int .i64 (place (plainB x.s) h.keys),.bool false])∧Below W.heap.size W w') fun e w' ⟨he,hb'⟩=>⟨by rw [he,ht],hb'⟩)
 have HBU:=Lib.hid (fun W (hb:Below w.heap.size w W)=>build_A w.heap.size AD ad x.v W hx.cap.1 hx.cap.2 hb.size (hx.toks.keep hb (Nat.le_refl _)) hx.rng hx.sizes)
 unfold BuildA at HBU
 have H0:=Lib.hid (TB4.new w #[.int .u8 2,.slice P np pc,.string ⟨#[]⟩,.int .i64 0,.int .i64 0,.int .i64 0,.int .u8 0,.int .i64 0,.string ⟨#[]⟩,.slice none 0 0,.slice none 0 0,.string ⟨#[]⟩] #[.slice AP x.path.length ap,.int .u8 x.kind,.int .i64 x.i,.int .i64 x.j,.int .i64 x.n,.string x.s,.slice AD x.v.length ad] #[.int .u8 h.kind,.int .i64 h.num,.string h.str,.slice HL h.items.length dL,.slice HO h.vals.length dO] #[.int .u8 0,.slice none 0 0,.string ⟨#[]⟩,.int .i64 0,.int .i64 0,.int .i64 0,.int .u8 0,.int .i64 0,.string ⟨#[]⟩,.slice none 0 0,.slice none 0 0,.string ⟨#[]⟩])
 have HT:=Lib.hid (And.intro ht hkv)
 have hpl1:∃ pz,place (plainB x.s) h.keys=pz:=⟨_,rfl⟩
 obtain ⟨pz,hpl1⟩:=hpl1
 rw [hpl1] at HFD
 clear hpl1
 clear hx hv ht hkv hstr
 generalize hno:h.vals.length=no at *
 clear hno
 go_enter Tryz.func34,Tryz.ntmps34
 go_wp2_with (first | (go_at_call 64;refine (HPL.out _).mono ?_;rintro e w1 ⟨rfl,hb⟩;have H1:=Lib.hid (H0.out.step hb);obtain ⟨c0,c1,c2,c3,c4,c5,c6,c7,c8,c9,c10,c11,y0,y1,y2,y3,y4,y5,y6,y7,y8,y9,y10,y11⟩:=H1.out.c.tw;obtain ⟨a0,a1,a2,a3,a4,a5,a6⟩:=act_cells H1.out.a;obtain ⟨v0,v1,v2,v3,v4,_⟩:=H1.out.v.five;obtain ⟨_,_,_,_,_,_,_,_,_,_,_,_,z0,z1,z2,z3,z4,z5,z6,z7,z8,z9,z10,z11⟩:=H1.out.r.tw;clear hb) | (go_at_call 63;refine (HFD.out _ (H1.out.putC 2 (.string (plainB x.s))).below).mono ?_;rintro e w3 ⟨rfl,hb⟩;have H3:=Lib.hid ((H1.out.putC 2 (.string (plainB x.s))).step hb);clear c0 c1 c2 c3 c4 c5 c6 c7 c8 c9 c10 c11 y0 y1 y2 y3 y4 y5 y6 y7 y8 y9 y10 y11 a0 a1 a2 a3 a4 a5 a6 v0 v1 v2 v3 v4 z0 z1 z2 z3 z4 z5 z6 z7 z8 z9 z10 z11;obtain ⟨c0,c1,c2,c3,c4,c5,c6,c7,c8,c9,c10,c11,y0,y1,y2,y3,y4,y5,y6,y7,y8,y9,y10,y11⟩:=H3.out.c.tw;obtain ⟨a0,a1,a2,a3,a4,a5,a6⟩:=act_cells H3.out.a;obtain ⟨v0,v1,v2,v3,v4,_⟩:=H3.out.v.five;obtain ⟨_,_,_,_,_,_,_,_,_,_,_,_,z0,z1,z2,z3,z4,z5,z6,z7,z8,z9,z10,z11⟩:=H3.out.r.tw;clear hb) | (go_at_call 7;refine (HBU.out _ H3.out.below).mono ?_;rintro e w4 ⟨g,BL,BO,eL,eO,rfl,hv,hg,hb⟩;have H4:=Lib.hid (And.intro (H3.out.step hb) (And.intro hv (And.intro hg (show w.heap.size+1+1+1+1≤w4.heap.size from by have:=hb.size;have:=H3.out.r.lt;omega))));clear c0 c1 c2 c3 c4 c5 c6 c7 c8 c9 c10 c11 y0 y1 y2 y3 y4 y5 y6 y7 y8 y9 y10 y11 a0 a1 a2 a3 a4 a5 a6 v0 v1 v2 v3 v4 z0 z1 z2 z3 z4 z5 z6 z7 z8 z9 z10 z11;obtain ⟨c0,c1,c2,c3,c4,c5,c6,c7,c8,c9,c10,c11,y0,y1,y2,y3,y4,y5,y6,y7,y8,y9,y10,y11⟩:=H4.out.1.c.tw;obtain ⟨a0,a1,a2,a3,a4,a5,a6⟩:=act_cells H4.out.1.a;obtain ⟨v0,v1,v2,v3,v4,_⟩:=H4.out.1.v.five;obtain ⟨_,_,_,_,_,_,_,_,_,_,_,_,z0,z1,z2,z3,z4,z5,z6,z7,z8,z9,z10,z11⟩:=H4.out.1.r.tw;clear hb hv hg))
 have hR:=(((((H4.out.1.putC 6 (.int .u8 g.kind)).putC 7 (.int .i64 g.num)).putC 8 (.string g.str)).putC 9 (.slice BL g.items.length eL)).putC 10 (.slice BO g.vals.length eO))
 have hX:=put12 hR.r (.int .u8 2) (.slice P np pc) (.string (plainB x.s)) (.int .i64 0) (.int .i64 0) (.int .i64 0) (.int .u8 g.kind) (.int .i64 g.num) (.string g.str) (.slice BL g.items.length eL) (.slice BO g.vals.length eO) (.string ⟨#[]⟩)
 have hB:=(below12 (b:=w.heap.size+1+1+1) (hR.below) (by first | omega | (simp;omega) | simp) (.int .u8 2) (.slice P np pc) (.string (plainB x.s)) (.int .i64 0) (.int .i64 0) (.int .i64 0) (.int .u8 g.kind) (.int .i64 g.num) (.string g.str) (.slice BL g.items.length eL) (.slice BO g.vals.length eO) (.string ⟨#[]⟩))
 have hK:=(kp12 (b:=w.heap.size+1+1+1) (((((((Kp.refl (w.heap.size+1+1+1+1) w4).set (p:=⟨w.heap.size,6,none⟩) (by simp;try omega) (.int .u8 g.kind)).set (p:=⟨w.heap.size,7,none⟩) (by simp;try omega) (.int .i64 g.num)).set (p:=⟨w.heap.size,8,none⟩) (by simp;try omega) (.string g.str)).set (p:=⟨w.heap.size,9,none⟩) (by simp;try omega) (.slice BL g.items.length eL)).set (p:=⟨w.heap.size,10,none⟩) (by simp;try omega) (.slice BO g.vals.length eO))) (by first | omega | (simp;omega) | simp) (.int .u8 2) (.slice P np pc) (.string (plainB x.s)) (.int .i64 0) (.int .i64 0) (.int .i64 0) (.int .u8 g.kind) (.int .i64 g.num) (.string g.str) (.slice BL g.items.length eL) (.slice BO g.vals.length eO) (.string ⟨#[]⟩))
 obtain ⟨d0,d1,d2,d3,d4,d5,d6,d7,d8,d9,d10,d11,_⟩:=hX.tw
 refine bodyPost_ret (v:=.agg #[.int .u8 2,.slice P np pc,.string (plainB x.s),.int .i64 0,.int .i64 0,.int .i64 0,.int .u8 g.kind,.int .i64 g.num,.string g.str,.slice BL g.items.length eL,.slice BO g.vals.length eO,.string ⟨#[]⟩]) (by simp [results,Tryz.results34,go_sem,d0,d1,d2,d3,d4,d5,d6,d7,d8,d9,d10,d11]) rfl ?_
 exact ⟨2,(plainB x.s),g,BL,BO,eL,eO,rfl,⟨H4.out.2.1.1.keep (fun k hk1 hl=>hK.2 k (by have:=H3.out.r.lt;omega) hl) (fun k hk1 _=>by have:=H3.out.r.lt;omega),H4.out.2.1.2.keep (fun k hk1 hl=>hK.2 k (by have:=H3.out.r.lt;omega) hl) (fun k hk1 _=>by have:=H3.out.r.lt;omega)⟩,H4.out.2.2.1,⟨.inl rfl,⟨plain_valid _,by omega⟩⟩,hB⟩
theorem field_plain_odd (x:GAct) (AP:Option Addr) (ap:Nat) (AD:Option Addr) (ad:Nat) (P:Option Addr) (np pc:Nat) (h:GV) (HL HO:Option Addr) (dL dO:Nat) (w:World) (hx:ActOk w x AP ap AD ad) (hv:Vl w h HL HO dL dO) (hkv:∀ k∈h.keys,valid k=true∧k.size≤6001) (hm:h.vals.length≤1000000) (hn:0<h.vals.length) (hr:x.kind % 3=0) (ht:there (plainB x.s) h.keys=true) (hd:x.kind % 2=1):
  Calls Tryz.prog 34 #[.agg #[.int .u8 0,.slice P np pc,.string ⟨#[]⟩,.int .i64 0,.int .i64 0,.int .i64 0,.int .u8 0,.int .i64 0,.string ⟨#[]⟩,.slice none 0 0,.slice none 0 0,.string ⟨#[]⟩],.agg #[.slice AP x.path.length ap,.int .u8 x.kind,.int .i64 x.i,.int .i64 x.j,.int .i64 x.n,.string x.s,.slice AD x.v.length ad],.agg #[.int .u8 h.kind,.int .i64 h.num,.string h.str,.slice HL h.items.length dL,.slice HO h.vals.length dO]] w (FieldIs h P np pc w):=by
 have hk:=hx.kind
 have hstr:=hx.str
 have hpz:=plain_size x.s
 have HPL:=Lib.hid (fun W=>plain6_any x.s W (by omega))
 have HFD:=Lib.hid (fun W (hb:Below w.heap.size w W)=>(ref_Field (fun _=>True) _ h (plainB x.s) W (hv.later hb).val).mono (R':=fun e w'=>e=.returned (.tuple #[.int .i64 (place (plainB x.s) h.keys),.bool true])∧Below W.heap.size W w') fun e w' ⟨he,hb'⟩=>⟨by rw [he,ht],hb'⟩)
 have HBU:=Lib.hid (fun W (hb:Below w.heap.size w W)=>build_A w.heap.size AD ad x.v W hx.cap.1 hx.cap.2 hb.size (hx.toks.keep hb (Nat.le_refl _)) hx.rng hx.sizes)
 unfold BuildA at HBU
 have H0:=Lib.hid (TB4.new w #[.int .u8 2,.slice P np pc,.string ⟨#[]⟩,.int .i64 0,.int .i64 0,.int .i64 0,.int .u8 0,.int .i64 0,.string ⟨#[]⟩,.slice none 0 0,.slice none 0 0,.string ⟨#[]⟩] #[.slice AP x.path.length ap,.int .u8 x.kind,.int .i64 x.i,.int .i64 x.j,.int .i64 x.n,.string x.s,.slice AD x.v.length ad] #[.int .u8 h.kind,.int .i64 h.num,.string h.str,.slice HL h.items.length dL,.slice HO h.vals.length dO] #[.int .u8 0,.slice none 0 0,.string ⟨#[]⟩,.int .i64 0,.int .i64 0,.int .i64 0,.int .u8 0,.int .i64 0,.string ⟨#[]⟩,.slice none 0 0,.slice none 0 0,.string ⟨#[]⟩])
 have HT:=Lib.hid (And.intro ht hkv)
 have hpl1:∃ pz,place (plainB x.s) h.keys=pz:=⟨_,rfl⟩
 obtain ⟨pz,hpl1⟩:=hpl1
 rw [hpl1] at HFD
 clear hpl1
 clear hx hv ht hkv hstr
 generalize hno:h.vals.length=no at *
 clear hno
 go_enter Tryz.func34,Tryz.ntmps34
 go_wp2_with (first | (go_at_call 64;refine (HPL.out _).mono ?_;rintro e w1 ⟨rfl,hb⟩;have H1:=Lib.hid (H0.out.step hb);obtain ⟨c0,c1,c2,c3,c4,c5,c6,c7,c8,c9,c10,c11,y0,y1,y2,y3,y4,y5,y6,y7,y8,y9,y10,y11⟩:=H1.out.c.tw;obtain ⟨a0,a1,a2,a3,a4,a5,a6⟩:=act_cells H1.out.a;obtain ⟨v0,v1,v2,v3,v4,_⟩:=H1.out.v.five;obtain ⟨_,_,_,_,_,_,_,_,_,_,_,_,z0,z1,z2,z3,z4,z5,z6,z7,z8,z9,z10,z11⟩:=H1.out.r.tw;clear hb) | (go_at_call 63;refine (HFD.out _ (H1.out.putC 2 (.string (plainB x.s))).below).mono ?_;rintro e w3 ⟨rfl,hb⟩;have H3:=Lib.hid ((H1.out.putC 2 (.string (plainB x.s))).step hb);clear c0 c1 c2 c3 c4 c5 c6 c7 c8 c9 c10 c11 y0 y1 y2 y3 y4 y5 y6 y7 y8 y9 y10 y11 a0 a1 a2 a3 a4 a5 a6 v0 v1 v2 v3 v4 z0 z1 z2 z3 z4 z5 z6 z7 z8 z9 z10 z11;obtain ⟨c0,c1,c2,c3,c4,c5,c6,c7,c8,c9,c10,c11,y0,y1,y2,y3,y4,y5,y6,y7,y8,y9,y10,y11⟩:=H3.out.c.tw;obtain ⟨a0,a1,a2,a3,a4,a5,a6⟩:=act_cells H3.out.a;obtain ⟨v0,v1,v2,v3,v4,_⟩:=H3.out.v.five;obtain ⟨_,_,_,_,_,_,_,_,_,_,_,_,z0,z1,z2,z3,z4,z5,z6,z7,z8,z9,z10,z11⟩:=H3.out.r.tw;clear hb) | (go_at_call 7;refine (HBU.out _ H3.out.below).mono ?_;rintro e w4 ⟨g,BL,BO,eL,eO,rfl,hv,hg,hb⟩;have H4:=Lib.hid (And.intro (H3.out.step hb) (And.intro hv (And.intro hg (show w.heap.size+1+1+1+1≤w4.heap.size from by have:=hb.size;have:=H3.out.r.lt;omega))));clear c0 c1 c2 c3 c4 c5 c6 c7 c8 c9 c10 c11 y0 y1 y2 y3 y4 y5 y6 y7 y8 y9 y10 y11 a0 a1 a2 a3 a4 a5 a6 v0 v1 v2 v3 v4 z0 z1 z2 z3 z4 z5 z6 z7 z8 z9 z10 z11;obtain ⟨c0,c1,c2,c3,c4,c5,c6,c7,c8,c9,c10,c11,y0,y1,y2,y3,y4,y5,y6,y7,y8,y9,y10,y11⟩:=H4.out.1.c.tw;obtain ⟨a0,a1,a2,a3,a4,a5,a6⟩:=act_cells H4.out.1.a;obtain ⟨v0,v1,v2,v3,v4,_⟩:=H4.out.1.v.five;obtain ⟨_,_,_,_,_,_,_,_,_,_,_,_,z0,z1,z2,z3,z4,z5,z6,z7,z8,z9,z10,z11⟩:=H4.out.1.r.tw;clear hb hv hg))
 have hR:=(((((H4.out.1.putC 6 (.int .u8 g.kind)).putC 7 (.int .i64 g.num)).putC 8 (.string g.str)).putC 9 (.slice BL g.items.length eL)).putC 10 (.slice BO g.vals.length eO))
 have hX:=put12 hR.r (.int .u8 2) (.slice P np pc) (.string (plainB x.s)) (.int .i64 0) (.int .i64 0) (.int .i64 0) (.int .u8 g.kind) (.int .i64 g.num) (.string g.str) (.slice BL g.items.length eL) (.slice BO g.vals.length eO) (.string ⟨#[]⟩)
 have hB:=(below12 (b:=w.heap.size+1+1+1) (hR.below) (by first | omega | (simp;omega) | simp) (.int .u8 2) (.slice P np pc) (.string (plainB x.s)) (.int .i64 0) (.int .i64 0) (.int .i64 0) (.int .u8 g.kind) (.int .i64 g.num) (.string g.str) (.slice BL g.items.length eL) (.slice BO g.vals.length eO) (.string ⟨#[]⟩))
 have hK:=(kp12 (b:=w.heap.size+1+1+1) (((((((Kp.refl (w.heap.size+1+1+1+1) w4).set (p:=⟨w.heap.size,6,none⟩) (by simp;try omega) (.int .u8 g.kind)).set (p:=⟨w.heap.size,7,none⟩) (by simp;try omega) (.int .i64 g.num)).set (p:=⟨w.heap.size,8,none⟩) (by simp;try omega) (.string g.str)).set (p:=⟨w.heap.size,9,none⟩) (by simp;try omega) (.slice BL g.items.length eL)).set (p:=⟨w.heap.size,10,none⟩) (by simp;try omega) (.slice BO g.vals.length eO))) (by first | omega | (simp;omega) | simp) (.int .u8 2) (.slice P np pc) (.string (plainB x.s)) (.int .i64 0) (.int .i64 0) (.int .i64 0) (.int .u8 g.kind) (.int .i64 g.num) (.string g.str) (.slice BL g.items.length eL) (.slice BO g.vals.length eO) (.string ⟨#[]⟩))
 obtain ⟨d0,d1,d2,d3,d4,d5,d6,d7,d8,d9,d10,d11,_⟩:=hX.tw
 refine bodyPost_ret (v:=.agg #[.int .u8 2,.slice P np pc,.string (plainB x.s),.int .i64 0,.int .i64 0,.int .i64 0,.int .u8 g.kind,.int .i64 g.num,.string g.str,.slice BL g.items.length eL,.slice BO g.vals.length eO,.string ⟨#[]⟩]) (by simp [results,Tryz.results34,go_sem,d0,d1,d2,d3,d4,d5,d6,d7,d8,d9,d10,d11]) rfl ?_
 exact ⟨2,(plainB x.s),g,BL,BO,eL,eO,rfl,⟨H4.out.2.1.1.keep (fun k hk1 hl=>hK.2 k (by have:=H3.out.r.lt;omega) hl) (fun k hk1 _=>by have:=H3.out.r.lt;omega),H4.out.2.1.2.keep (fun k hk1 hl=>hK.2 k (by have:=H3.out.r.lt;omega) hl) (fun k hk1 _=>by have:=H3.out.r.lt;omega)⟩,H4.out.2.2.1,⟨.inl rfl,⟨plain_valid _,by omega⟩⟩,hB⟩
theorem field_own_del (x:GAct) (AP:Option Addr) (ap:Nat) (AD:Option Addr) (ad:Nat) (P:Option Addr) (np pc:Nat) (h:GV) (HL HO:Option Addr) (dL dO:Nat) (w:World) (hx:ActOk w x AP ap AD ad) (hv:Vl w h HL HO dL dO) (hkv:∀ k∈h.keys,valid k=true∧k.size≤6001) (hm:h.vals.length≤1000000) (k:Nat) (hn:k<h.vals.length) (hi:max x.i 0 % (h.vals.length:Int)=k) (hr:0<x.kind % 3) (key:ByteArray) (hkey:h.keys[k]? = some key) (ht:there key h.keys=true) (hd:x.kind % 2=0):
  Calls Tryz.prog 34 #[.agg #[.int .u8 0,.slice P np pc,.string ⟨#[]⟩,.int .i64 0,.int .i64 0,.int .i64 0,.int .u8 0,.int .i64 0,.string ⟨#[]⟩,.slice none 0 0,.slice none 0 0,.string ⟨#[]⟩],.agg #[.slice AP x.path.length ap,.int .u8 x.kind,.int .i64 x.i,.int .i64 x.j,.int .i64 x.n,.string x.s,.slice AD x.v.length ad],.agg #[.int .u8 h.kind,.int .i64 h.num,.string h.str,.slice HL h.items.length dL,.slice HO h.vals.length dO]] w (FieldIs h P np pc w):=by
 have hk:=hx.kind
 have hstr:=hx.str
 have hpz:=plain_size x.s
 have HPL:=Lib.hid (fun W=>plain6_any x.s W (by omega))
 have HFD:=Lib.hid (fun W (hb:Below w.heap.size w W)=>(ref_Field (fun _=>True) _ h key W (hv.later hb).val).mono (R':=fun e w'=>e=.returned (.tuple #[.int .i64 (place key h.keys),.bool true])∧Below W.heap.size W w') fun e w' ⟨he,hb'⟩=>⟨by rw [he,ht],hb'⟩)
 have H0:=Lib.hid (TB4.new w #[.int .u8 2,.slice P np pc,.string ⟨#[]⟩,.int .i64 0,.int .i64 0,.int .i64 0,.int .u8 0,.int .i64 0,.string ⟨#[]⟩,.slice none 0 0,.slice none 0 0,.string ⟨#[]⟩] #[.slice AP x.path.length ap,.int .u8 x.kind,.int .i64 x.i,.int .i64 x.j,.int .i64 x.n,.string x.s,.slice AD x.v.length ad] #[.int .u8 h.kind,.int .i64 h.num,.string h.str,.slice HL h.items.length dL,.slice HO h.vals.length dO] #[.int .u8 0,.slice none 0 0,.string ⟨#[]⟩,.int .i64 0,.int .i64 0,.int .i64 0,.int .u8 0,.int .i64 0,.string ⟨#[]⟩,.slice none 0 0,.slice none 0 0,.string ⟨#[]⟩])
 have HT:=Lib.hid (And.intro ht hkv)
 have hpl1:∃ pz,place key h.keys=pz:=⟨_,rfl⟩
 obtain ⟨pz,hpl1⟩:=hpl1
 rw [hpl1] at HFD
 clear hpl1
 obtain ⟨lb,lo,rfl⟩:∃ lb lo,HO=some ⟨lb,lo,none⟩:=by
  rcases hv.obj.2 with ⟨h0,_⟩ | ⟨b',o',d',he,_⟩
  ·rw [h0] at hn;cases hn
  ·simp only [Value.slice.injEq] at he
   exact ⟨b',o',he.1⟩
 have hkc:=obj_key hv.obj hkey
 have hlb:lb<w.heap.size:=by have:=World.block_lt_of_cell? w _ hkc;exact this
 have HKC:=Lib.hid (fun W (hb:Below w.heap.size w W)=>(hb.cell (p:=⟨lb,lo+k * 6,none⟩) hlb).trans hkc)
 have HKM:=Lib.hid (hkv key (List.mem_of_getElem? hkey))
 have hne:(lb=w.heap.size)=False:=by simp;omega
 clear hkc hkey
 clear hx hv ht hkv hstr
 generalize hno:h.vals.length=no at *
 clear hno
 go_enter Tryz.func34,Tryz.ntmps34
 go_wp2_with (go_at_call 64;refine (HPL.out _).mono ?_;rintro e w1 ⟨rfl,hb⟩;have H1:=Lib.hid (H0.out.step hb);obtain ⟨c0,c1,c2,c3,c4,c5,c6,c7,c8,c9,c10,c11,y0,y1,y2,y3,y4,y5,y6,y7,y8,y9,y10,y11⟩:=H1.out.c.tw;obtain ⟨a0,a1,a2,a3,a4,a5,a6⟩:=act_cells H1.out.a;obtain ⟨v0,v1,v2,v3,v4,_⟩:=H1.out.v.five;obtain ⟨_,_,_,_,_,_,_,_,_,_,_,_,z0,z1,z2,z3,z4,z5,z6,z7,z8,z9,z10,z11⟩:=H1.out.r.tw;have hkc:=fun u=>HKC.out (w1.setCell ⟨w.heap.size,2,none⟩ u) (H1.out.putC 2 u).below;clear hb)
 go_region
 all_goals
  go_wp2_with (first | (go_at_call 63;refine (HFD.out _ ((H1.out.putC 2 (.string (plainB x.s))).putC 2 (.string key)).drew.below).mono ?_;rintro e w3 ⟨rfl,hb⟩;have H3:=Lib.hid (((H1.out.putC 2 (.string (plainB x.s))).putC 2 (.string key)).drew.step hb);clear c0 c1 c2 c3 c4 c5 c6 c7 c8 c9 c10 c11 y0 y1 y2 y3 y4 y5 y6 y7 y8 y9 y10 y11 a0 a1 a2 a3 a4 a5 a6 v0 v1 v2 v3 v4 z0 z1 z2 z3 z4 z5 z6 z7 z8 z9 z10 z11;obtain ⟨c0,c1,c2,c3,c4,c5,c6,c7,c8,c9,c10,c11,y0,y1,y2,y3,y4,y5,y6,y7,y8,y9,y10,y11⟩:=H3.out.c.tw;obtain ⟨a0,a1,a2,a3,a4,a5,a6⟩:=act_cells H3.out.a;obtain ⟨v0,v1,v2,v3,v4,_⟩:=H3.out.v.five;obtain ⟨_,_,_,_,_,_,_,_,_,_,_,_,z0,z1,z2,z3,z4,z5,z6,z7,z8,z9,z10,z11⟩:=H3.out.r.tw;clear hkc;clear hb))
  have hR:=H3.out.putC 0 (.int .u8 3)
  have hX:=put12 hR.r (.int .u8 3) (.slice P np pc) (.string key) (.int .i64 0) (.int .i64 0) (.int .i64 0) (.int .u8 0) (.int .i64 0) (.string ⟨#[]⟩) (.slice none 0 0) (.slice none 0 0) (.string ⟨#[]⟩)
  have hB:=(below12 (b:=w.heap.size+1+1+1) (hR.below) (by first | omega | (simp;omega) | simp) (.int .u8 3) (.slice P np pc) (.string key) (.int .i64 0) (.int .i64 0) (.int .i64 0) (.int .u8 0) (.int .i64 0) (.string ⟨#[]⟩) (.slice none 0 0) (.slice none 0 0) (.string ⟨#[]⟩))
  obtain ⟨d0,d1,d2,d3,d4,d5,d6,d7,d8,d9,d10,d11,_⟩:=hX.tw
  refine bodyPost_ret (v:=.agg #[.int .u8 3,.slice P np pc,.string key,.int .i64 0,.int .i64 0,.int .i64 0,.int .u8 0,.int .i64 0,.string ⟨#[]⟩,.slice none 0 0,.slice none 0 0,.string ⟨#[]⟩]) (by simp [results,Tryz.results34,go_sem,d0,d1,d2,d3,d4,d5,d6,d7,d8,d9,d10,d11]) rfl ?_
  exact ⟨3,key,noG,none,none,0,0,rfl,lv_noG _ _,vok_no,⟨.inr ⟨rfl,HT.out.1,rfl⟩,HKM.out⟩,hB⟩
theorem field_own_new (x:GAct) (AP:Option Addr) (ap:Nat) (AD:Option Addr) (ad:Nat) (P:Option Addr) (np pc:Nat) (h:GV) (HL HO:Option Addr) (dL dO:Nat) (w:World) (hx:ActOk w x AP ap AD ad) (hv:Vl w h HL HO dL dO) (hkv:∀ k∈h.keys,valid k=true∧k.size≤6001) (hm:h.vals.length≤1000000) (k:Nat) (hn:k<h.vals.length) (hi:max x.i 0 % (h.vals.length:Int)=k) (hr:0<x.kind % 3) (key:ByteArray) (hkey:h.keys[k]? = some key) (ht:there key h.keys=false):
  Calls Tryz.prog 34 #[.agg #[.int .u8 0,.slice P np pc,.string ⟨#[]⟩,.int .i64 0,.int .i64 0,.int .i64 0,.int .u8 0,.int .i64 0,.string ⟨#[]⟩,.slice none 0 0,.slice none 0 0,.string ⟨#[]⟩],.agg #[.slice AP x.path.length ap,.int .u8 x.kind,.int .i64 x.i,.int .i64 x.j,.int .i64 x.n,.string x.s,.slice AD x.v.length ad],.agg #[.int .u8 h.kind,.int .i64 h.num,.string h.str,.slice HL h.items.length dL,.slice HO h.vals.length dO]] w (FieldIs h P np pc w):=by
 have hk:=hx.kind
 have hstr:=hx.str
 have hpz:=plain_size x.s
 have HPL:=Lib.hid (fun W=>plain6_any x.s W (by omega))
 have HFD:=Lib.hid (fun W (hb:Below w.heap.size w W)=>(ref_Field (fun _=>True) _ h key W (hv.later hb).val).mono (R':=fun e w'=>e=.returned (.tuple #[.int .i64 (place key h.keys),.bool false])∧Below W.heap.size W w') fun e w' ⟨he,hb'⟩=>⟨by rw [he,ht],hb'⟩)
 have HBU:=Lib.hid (fun W (hb:Below w.heap.size w W)=>build_A w.heap.size AD ad x.v W hx.cap.1 hx.cap.2 hb.size (hx.toks.keep hb (Nat.le_refl _)) hx.rng hx.sizes)
 unfold BuildA at HBU
 have H0:=Lib.hid (TB4.new w #[.int .u8 2,.slice P np pc,.string ⟨#[]⟩,.int .i64 0,.int .i64 0,.int .i64 0,.int .u8 0,.int .i64 0,.string ⟨#[]⟩,.slice none 0 0,.slice none 0 0,.string ⟨#[]⟩] #[.slice AP x.path.length ap,.int .u8 x.kind,.int .i64 x.i,.int .i64 x.j,.int .i64 x.n,.string x.s,.slice AD x.v.length ad] #[.int .u8 h.kind,.int .i64 h.num,.string h.str,.slice HL h.items.length dL,.slice HO h.vals.length dO] #[.int .u8 0,.slice none 0 0,.string ⟨#[]⟩,.int .i64 0,.int .i64 0,.int .i64 0,.int .u8 0,.int .i64 0,.string ⟨#[]⟩,.slice none 0 0,.slice none 0 0,.string ⟨#[]⟩])
 have HT:=Lib.hid (And.intro ht hkv)
 have hpl1:∃ pz,place key h.keys=pz:=⟨_,rfl⟩
 obtain ⟨pz,hpl1⟩:=hpl1
 rw [hpl1] at HFD
 clear hpl1
 obtain ⟨lb,lo,rfl⟩:∃ lb lo,HO=some ⟨lb,lo,none⟩:=by
  rcases hv.obj.2 with ⟨h0,_⟩ | ⟨b',o',d',he,_⟩
  ·rw [h0] at hn;cases hn
  ·simp only [Value.slice.injEq] at he
   exact ⟨b',o',he.1⟩
 have hkc:=obj_key hv.obj hkey
 have hlb:lb<w.heap.size:=by have:=World.block_lt_of_cell? w _ hkc;exact this
 have HKC:=Lib.hid (fun W (hb:Below w.heap.size w W)=>(hb.cell (p:=⟨lb,lo+k * 6,none⟩) hlb).trans hkc)
 have HKM:=Lib.hid (hkv key (List.mem_of_getElem? hkey))
 have hne:(lb=w.heap.size)=False:=by simp;omega
 clear hkc hkey
 clear hx hv ht hkv hstr
 generalize hno:h.vals.length=no at *
 clear hno
 go_enter Tryz.func34,Tryz.ntmps34
 go_wp2_with (go_at_call 64;refine (HPL.out _).mono ?_;rintro e w1 ⟨rfl,hb⟩;have H1:=Lib.hid (H0.out.step hb);obtain ⟨c0,c1,c2,c3,c4,c5,c6,c7,c8,c9,c10,c11,y0,y1,y2,y3,y4,y5,y6,y7,y8,y9,y10,y11⟩:=H1.out.c.tw;obtain ⟨a0,a1,a2,a3,a4,a5,a6⟩:=act_cells H1.out.a;obtain ⟨v0,v1,v2,v3,v4,_⟩:=H1.out.v.five;obtain ⟨_,_,_,_,_,_,_,_,_,_,_,_,z0,z1,z2,z3,z4,z5,z6,z7,z8,z9,z10,z11⟩:=H1.out.r.tw;have hkc:=fun u=>HKC.out (w1.setCell ⟨w.heap.size,2,none⟩ u) (H1.out.putC 2 u).below;clear hb)
 go_region
 all_goals
  go_wp2_with (first | (go_at_call 63;refine (HFD.out _ ((H1.out.putC 2 (.string (plainB x.s))).putC 2 (.string key)).drew.below).mono ?_;rintro e w3 ⟨rfl,hb⟩;have H3:=Lib.hid (((H1.out.putC 2 (.string (plainB x.s))).putC 2 (.string key)).drew.step hb);clear c0 c1 c2 c3 c4 c5 c6 c7 c8 c9 c10 c11 y0 y1 y2 y3 y4 y5 y6 y7 y8 y9 y10 y11 a0 a1 a2 a3 a4 a5 a6 v0 v1 v2 v3 v4 z0 z1 z2 z3 z4 z5 z6 z7 z8 z9 z10 z11;obtain ⟨c0,c1,c2,c3,c4,c5,c6,c7,c8,c9,c10,c11,y0,y1,y2,y3,y4,y5,y6,y7,y8,y9,y10,y11⟩:=H3.out.c.tw;obtain ⟨a0,a1,a2,a3,a4,a5,a6⟩:=act_cells H3.out.a;obtain ⟨v0,v1,v2,v3,v4,_⟩:=H3.out.v.five;obtain ⟨_,_,_,_,_,_,_,_,_,_,_,_,z0,z1,z2,z3,z4,z5,z6,z7,z8,z9,z10,z11⟩:=H3.out.r.tw;clear hkc;clear hb) | (go_at_call 7;refine (HBU.out _ H3.out.below).mono ?_;rintro e w4 ⟨g,BL,BO,eL,eO,rfl,hv,hg,hb⟩;have H4:=Lib.hid (And.intro (H3.out.step hb) (And.intro hv (And.intro hg (show w.heap.size+1+1+1+1≤w4.heap.size from by have:=hb.size;have:=H3.out.r.lt;omega))));clear c0 c1 c2 c3 c4 c5 c6 c7 c8 c9 c10 c11 y0 y1 y2 y3 y4 y5 y6 y7 y8 y9 y10 y11 a0 a1 a2 a3 a4 a5 a6 v0 v1 v2 v3 v4 z0 z1 z2 z3 z4 z5 z6 z7 z8 z9 z10 z11;obtain ⟨c0,c1,c2,c3,c4,c5,c6,c7,c8,c9,c10,c11,y0,y1,y2,y3,y4,y5,y6,y7,y8,y9,y10,y11⟩:=H4.out.1.c.tw;obtain ⟨a0,a1,a2,a3,a4,a5,a6⟩:=act_cells H4.out.1.a;obtain ⟨v0,v1,v2,v3,v4,_⟩:=H4.out.1.v.five;obtain ⟨_,_,_,_,_,_,_,_,_,_,_,_,z0,z1,z2,z3,z4,z5,z6,z7,z8,z9,z10,z11⟩:=H4.out.1.r.tw;clear hb hv hg))
  have hR:=(((((H4.out.1.putC 6 (.int .u8 g.kind)).putC 7 (.int .i64 g.num)).putC 8 (.string g.str)).putC 9 (.slice BL g.items.length eL)).putC 10 (.slice BO g.vals.length eO))
  have hX:=put12 hR.r (.int .u8 2) (.slice P np pc) (.string key) (.int .i64 0) (.int .i64 0) (.int .i64 0) (.int .u8 g.kind) (.int .i64 g.num) (.string g.str) (.slice BL g.items.length eL) (.slice BO g.vals.length eO) (.string ⟨#[]⟩)
  have hB:=(below12 (b:=w.heap.size+1+1+1) (hR.below) (by first | omega | (simp;omega) | simp) (.int .u8 2) (.slice P np pc) (.string key) (.int .i64 0) (.int .i64 0) (.int .i64 0) (.int .u8 g.kind) (.int .i64 g.num) (.string g.str) (.slice BL g.items.length eL) (.slice BO g.vals.length eO) (.string ⟨#[]⟩))
  have hK:=(kp12 (b:=w.heap.size+1+1+1) (((((((Kp.refl (w.heap.size+1+1+1+1) w4).set (p:=⟨w.heap.size,6,none⟩) (by simp;try omega) (.int .u8 g.kind)).set (p:=⟨w.heap.size,7,none⟩) (by simp;try omega) (.int .i64 g.num)).set (p:=⟨w.heap.size,8,none⟩) (by simp;try omega) (.string g.str)).set (p:=⟨w.heap.size,9,none⟩) (by simp;try omega) (.slice BL g.items.length eL)).set (p:=⟨w.heap.size,10,none⟩) (by simp;try omega) (.slice BO g.vals.length eO))) (by first | omega | (simp;omega) | simp) (.int .u8 2) (.slice P np pc) (.string key) (.int .i64 0) (.int .i64 0) (.int .i64 0) (.int .u8 g.kind) (.int .i64 g.num) (.string g.str) (.slice BL g.items.length eL) (.slice BO g.vals.length eO) (.string ⟨#[]⟩))
  obtain ⟨d0,d1,d2,d3,d4,d5,d6,d7,d8,d9,d10,d11,_⟩:=hX.tw
  refine bodyPost_ret (v:=.agg #[.int .u8 2,.slice P np pc,.string key,.int .i64 0,.int .i64 0,.int .i64 0,.int .u8 g.kind,.int .i64 g.num,.string g.str,.slice BL g.items.length eL,.slice BO g.vals.length eO,.string ⟨#[]⟩]) (by simp [results,Tryz.results34,go_sem,d0,d1,d2,d3,d4,d5,d6,d7,d8,d9,d10,d11]) rfl ?_
  exact ⟨2,key,g,BL,BO,eL,eO,rfl,⟨H4.out.2.1.1.keep (fun k hk1 hl=>hK.2 k (by have:=H3.out.r.lt;omega) hl) (fun k hk1 _=>by have:=H3.out.r.lt;omega),H4.out.2.1.2.keep (fun k hk1 hl=>hK.2 k (by have:=H3.out.r.lt;omega) hl) (fun k hk1 _=>by have:=H3.out.r.lt;omega)⟩,H4.out.2.2.1,⟨.inl rfl,HKM.out⟩,hB⟩
theorem field_own_odd (x:GAct) (AP:Option Addr) (ap:Nat) (AD:Option Addr) (ad:Nat) (P:Option Addr) (np pc:Nat) (h:GV) (HL HO:Option Addr) (dL dO:Nat) (w:World) (hx:ActOk w x AP ap AD ad) (hv:Vl w h HL HO dL dO) (hkv:∀ k∈h.keys,valid k=true∧k.size≤6001) (hm:h.vals.length≤1000000) (k:Nat) (hn:k<h.vals.length) (hi:max x.i 0 % (h.vals.length:Int)=k) (hr:0<x.kind % 3) (key:ByteArray) (hkey:h.keys[k]? = some key) (ht:there key h.keys=true) (hd:x.kind % 2=1):
  Calls Tryz.prog 34 #[.agg #[.int .u8 0,.slice P np pc,.string ⟨#[]⟩,.int .i64 0,.int .i64 0,.int .i64 0,.int .u8 0,.int .i64 0,.string ⟨#[]⟩,.slice none 0 0,.slice none 0 0,.string ⟨#[]⟩],.agg #[.slice AP x.path.length ap,.int .u8 x.kind,.int .i64 x.i,.int .i64 x.j,.int .i64 x.n,.string x.s,.slice AD x.v.length ad],.agg #[.int .u8 h.kind,.int .i64 h.num,.string h.str,.slice HL h.items.length dL,.slice HO h.vals.length dO]] w (FieldIs h P np pc w):=by
 have hk:=hx.kind
 have hstr:=hx.str
 have hpz:=plain_size x.s
 have HPL:=Lib.hid (fun W=>plain6_any x.s W (by omega))
 have HFD:=Lib.hid (fun W (hb:Below w.heap.size w W)=>(ref_Field (fun _=>True) _ h key W (hv.later hb).val).mono (R':=fun e w'=>e=.returned (.tuple #[.int .i64 (place key h.keys),.bool true])∧Below W.heap.size W w') fun e w' ⟨he,hb'⟩=>⟨by rw [he,ht],hb'⟩)
 have HBU:=Lib.hid (fun W (hb:Below w.heap.size w W)=>build_A w.heap.size AD ad x.v W hx.cap.1 hx.cap.2 hb.size (hx.toks.keep hb (Nat.le_refl _)) hx.rng hx.sizes)
 unfold BuildA at HBU
 have H0:=Lib.hid (TB4.new w #[.int .u8 2,.slice P np pc,.string ⟨#[]⟩,.int .i64 0,.int .i64 0,.int .i64 0,.int .u8 0,.int .i64 0,.string ⟨#[]⟩,.slice none 0 0,.slice none 0 0,.string ⟨#[]⟩] #[.slice AP x.path.length ap,.int .u8 x.kind,.int .i64 x.i,.int .i64 x.j,.int .i64 x.n,.string x.s,.slice AD x.v.length ad] #[.int .u8 h.kind,.int .i64 h.num,.string h.str,.slice HL h.items.length dL,.slice HO h.vals.length dO] #[.int .u8 0,.slice none 0 0,.string ⟨#[]⟩,.int .i64 0,.int .i64 0,.int .i64 0,.int .u8 0,.int .i64 0,.string ⟨#[]⟩,.slice none 0 0,.slice none 0 0,.string ⟨#[]⟩])
 have HT:=Lib.hid (And.intro ht hkv)
 have hpl1:∃ pz,place key h.keys=pz:=⟨_,rfl⟩
 obtain ⟨pz,hpl1⟩:=hpl1
 rw [hpl1] at HFD
 clear hpl1
 obtain ⟨lb,lo,rfl⟩:∃ lb lo,HO=some ⟨lb,lo,none⟩:=by
  rcases hv.obj.2 with ⟨h0,_⟩ | ⟨b',o',d',he,_⟩
  ·rw [h0] at hn;cases hn
  ·simp only [Value.slice.injEq] at he
   exact ⟨b',o',he.1⟩
 have hkc:=obj_key hv.obj hkey
 have hlb:lb<w.heap.size:=by have:=World.block_lt_of_cell? w _ hkc;exact this
 have HKC:=Lib.hid (fun W (hb:Below w.heap.size w W)=>(hb.cell (p:=⟨lb,lo+k * 6,none⟩) hlb).trans hkc)
 have HKM:=Lib.hid (hkv key (List.mem_of_getElem? hkey))
 have hne:(lb=w.heap.size)=False:=by simp;omega
 clear hkc hkey
 clear hx hv ht hkv hstr
 generalize hno:h.vals.length=no at *
 clear hno
 go_enter Tryz.func34,Tryz.ntmps34
 go_wp2_with (go_at_call 64;refine (HPL.out _).mono ?_;rintro e w1 ⟨rfl,hb⟩;have H1:=Lib.hid (H0.out.step hb);obtain ⟨c0,c1,c2,c3,c4,c5,c6,c7,c8,c9,c10,c11,y0,y1,y2,y3,y4,y5,y6,y7,y8,y9,y10,y11⟩:=H1.out.c.tw;obtain ⟨a0,a1,a2,a3,a4,a5,a6⟩:=act_cells H1.out.a;obtain ⟨v0,v1,v2,v3,v4,_⟩:=H1.out.v.five;obtain ⟨_,_,_,_,_,_,_,_,_,_,_,_,z0,z1,z2,z3,z4,z5,z6,z7,z8,z9,z10,z11⟩:=H1.out.r.tw;have hkc:=fun u=>HKC.out (w1.setCell ⟨w.heap.size,2,none⟩ u) (H1.out.putC 2 u).below;clear hb)
 go_region
 all_goals
  go_wp2_with (first | (go_at_call 63;refine (HFD.out _ ((H1.out.putC 2 (.string (plainB x.s))).putC 2 (.string key)).drew.below).mono ?_;rintro e w3 ⟨rfl,hb⟩;have H3:=Lib.hid (((H1.out.putC 2 (.string (plainB x.s))).putC 2 (.string key)).drew.step hb);clear c0 c1 c2 c3 c4 c5 c6 c7 c8 c9 c10 c11 y0 y1 y2 y3 y4 y5 y6 y7 y8 y9 y10 y11 a0 a1 a2 a3 a4 a5 a6 v0 v1 v2 v3 v4 z0 z1 z2 z3 z4 z5 z6 z7 z8 z9 z10 z11;obtain ⟨c0,c1,c2,c3,c4,c5,c6,c7,c8,c9,c10,c11,y0,y1,y2,y3,y4,y5,y6,y7,y8,y9,y10,y11⟩:=H3.out.c.tw;obtain ⟨a0,a1,a2,a3,a4,a5,a6⟩:=act_cells H3.out.a;obtain ⟨v0,v1,v2,v3,v4,_⟩:=H3.out.v.five;obtain ⟨_,_,_,_,_,_,_,_,_,_,_,_,z0,z1,z2,z3,z4,z5,z6,z7,z8,z9,z10,z11⟩:=H3.out.r.tw;clear hkc;clear hb) | (go_at_call 7;refine (HBU.out _ H3.out.below).mono ?_;rintro e w4 ⟨g,BL,BO,eL,eO,rfl,hv,hg,hb⟩;have H4:=Lib.hid (And.intro (H3.out.step hb) (And.intro hv (And.intro hg (show w.heap.size+1+1+1+1≤w4.heap.size from by have:=hb.size;have:=H3.out.r.lt;omega))));clear c0 c1 c2 c3 c4 c5 c6 c7 c8 c9 c10 c11 y0 y1 y2 y3 y4 y5 y6 y7 y8 y9 y10 y11 a0 a1 a2 a3 a4 a5 a6 v0 v1 v2 v3 v4 z0 z1 z2 z3 z4 z5 z6 z7 z8 z9 z10 z11;obtain ⟨c0,c1,c2,c3,c4,c5,c6,c7,c8,c9,c10,c11,y0,y1,y2,y3,y4,y5,y6,y7,y8,y9,y10,y11⟩:=H4.out.1.c.tw;obtain ⟨a0,a1,a2,a3,a4,a5,a6⟩:=act_cells H4.out.1.a;obtain ⟨v0,v1,v2,v3,v4,_⟩:=H4.out.1.v.five;obtain ⟨_,_,_,_,_,_,_,_,_,_,_,_,z0,z1,z2,z3,z4,z5,z6,z7,z8,z9,z10,z11⟩:=H4.out.1.r.tw;clear hb hv hg))
  have hR:=(((((H4.out.1.putC 6 (.int .u8 g.kind)).putC 7 (.int .i64 g.num)).putC 8 (.string g.str)).putC 9 (.slice BL g.items.length eL)).putC 10 (.slice BO g.vals.length eO))
  have hX:=put12 hR.r (.int .u8 2) (.slice P np pc) (.string key) (.int .i64 0) (.int .i64 0) (.int .i64 0) (.int .u8 g.kind) (.int .i64 g.num) (.string g.str) (.slice BL g.items.length eL) (.slice BO g.vals.length eO) (.string ⟨#[]⟩)
  have hB:=(below12 (b:=w.heap.size+1+1+1) (hR.below) (by first | omega | (simp;omega) | simp) (.int .u8 2) (.slice P np pc) (.string key) (.int .i64 0) (.int .i64 0) (.int .i64 0) (.int .u8 g.kind) (.int .i64 g.num) (.string g.str) (.slice BL g.items.length eL) (.slice BO g.vals.length eO) (.string ⟨#[]⟩))
  have hK:=(kp12 (b:=w.heap.size+1+1+1) (((((((Kp.refl (w.heap.size+1+1+1+1) w4).set (p:=⟨w.heap.size,6,none⟩) (by simp;try omega) (.int .u8 g.kind)).set (p:=⟨w.heap.size,7,none⟩) (by simp;try omega) (.int .i64 g.num)).set (p:=⟨w.heap.size,8,none⟩) (by simp;try omega) (.string g.str)).set (p:=⟨w.heap.size,9,none⟩) (by simp;try omega) (.slice BL g.items.length eL)).set (p:=⟨w.heap.size,10,none⟩) (by simp;try omega) (.slice BO g.vals.length eO))) (by first | omega | (simp;omega) | simp) (.int .u8 2) (.slice P np pc) (.string key) (.int .i64 0) (.int .i64 0) (.int .i64 0) (.int .u8 g.kind) (.int .i64 g.num) (.string g.str) (.slice BL g.items.length eL) (.slice BO g.vals.length eO) (.string ⟨#[]⟩))
  obtain ⟨d0,d1,d2,d3,d4,d5,d6,d7,d8,d9,d10,d11,_⟩:=hX.tw
  refine bodyPost_ret (v:=.agg #[.int .u8 2,.slice P np pc,.string key,.int .i64 0,.int .i64 0,.int .i64 0,.int .u8 g.kind,.int .i64 g.num,.string g.str,.slice BL g.items.length eL,.slice BO g.vals.length eO,.string ⟨#[]⟩]) (by simp [results,Tryz.results34,go_sem,d0,d1,d2,d3,d4,d5,d6,d7,d8,d9,d10,d11]) rfl ?_
  exact ⟨2,key,g,BL,BO,eL,eO,rfl,⟨H4.out.2.1.1.keep (fun k hk1 hl=>hK.2 k (by have:=H3.out.r.lt;omega) hl) (fun k hk1 _=>by have:=H3.out.r.lt;omega),H4.out.2.1.2.keep (fun k hk1 hl=>hK.2 k (by have:=H3.out.r.lt;omega) hl) (fun k hk1 _=>by have:=H3.out.r.lt;omega)⟩,H4.out.2.2.1,⟨.inl rfl,HKM.out⟩,hB⟩
theorem field_any (x:GAct) (AP:Option Addr) (ap:Nat) (AD:Option Addr) (ad:Nat) (P:Option Addr) (np pc:Nat) (h:GV) (HL HO:Option Addr) (dL dO:Nat) (w:World) (hx:ActOk w x AP ap AD ad) (hv:Vl w h HL HO dL dO) (hkv:∀ k∈h.keys,valid k=true∧k.size≤6001) (hm:h.vals.length≤1000000):
  Calls Tryz.prog 34 #[.agg #[.int .u8 0,.slice P np pc,.string ⟨#[]⟩,.int .i64 0,.int .i64 0,.int .i64 0,.int .u8 0,.int .i64 0,.string ⟨#[]⟩,.slice none 0 0,.slice none 0 0,.string ⟨#[]⟩],.agg #[.slice AP x.path.length ap,.int .u8 x.kind,.int .i64 x.i,.int .i64 x.j,.int .i64 x.n,.string x.s,.slice AD x.v.length ad],.agg #[.int .u8 h.kind,.int .i64 h.num,.string h.str,.slice HL h.items.length dL,.slice HO h.vals.length dO]] w (FieldIs h P np pc w):=by
 have hk:=hx.kind
 rcases Nat.eq_zero_or_pos h.vals.length with hn | hn
 ·cases ht:there (plainB x.s) h.keys with
  | false=>exact field_none_new x AP ap AD ad P np pc h HL HO dL dO w hx hv hkv hm (by omega) ht
  | true=>
   rcases (show x.kind % 2=0∨x.kind % 2=1 by omega) with q | q
   ·exact field_none_del x AP ap AD ad P np pc h HL HO dL dO w hx hv hkv hm (by omega) ht q
   ·exact field_none_odd x AP ap AD ad P np pc h HL HO dL dO w hx hv hkv hm (by omega) ht q
 ·rcases (show x.kind % 3=0∨0<x.kind % 3 by omega) with hr | hr
  ·cases ht:there (plainB x.s) h.keys with
   | false=>exact field_plain_new x AP ap AD ad P np pc h HL HO dL dO w hx hv hkv hm hn hr ht
   | true=>
    rcases (show x.kind % 2=0∨x.kind % 2=1 by omega) with q | q
    ·exact field_plain_del x AP ap AD ad P np pc h HL HO dL dO w hx hv hkv hm hn hr ht q
    ·exact field_plain_odd x AP ap AD ad P np pc h HL HO dL dO w hx hv hkv hm hn hr ht q
  ·obtain ⟨k,hi,hk1⟩:=mod_nat' x.i h.vals.length hn
   have hkl:k<h.keys.length:=by have:=hv.obj.1;omega
   have hkey:=List.getElem?_eq_getElem hkl
   cases ht:there h.keys[k] h.keys with
   | false=>exact field_own_new x AP ap AD ad P np pc h HL HO dL dO w hx hv hkv hm k hk1 hi hr _ hkey ht
   | true=>
    rcases (show x.kind % 2=0∨x.kind % 2=1 by omega) with q | q
    ·exact field_own_del x AP ap AD ad P np pc h HL HO dL dO w hx hv hkv hm k hk1 hi hr _ hkey ht q
    ·exact field_own_odd x AP ap AD ad P np pc h HL HO dL dO w hx hv hkv hm k hk1 hi hr _ hkey ht q
end Go.Proofs.YtamlaknfakaanaaGreatDoor
