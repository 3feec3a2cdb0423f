/- Texts in one: LawXA, LawXR, LawXE. -/
import Derived.Test.YtamlaknfakaanaaGreatDoorR43
import Derived.Test.YtamlaknfakaanaaGreatDoorR49
import Derived.Test.YtamlaknfakaanaaGreatDoorR50
import Derived.Test.YtamlaknfakaanaaGreatDoorR16
import Derived.Lib.QuietBelow
import Derived.Test.YtamlaknfakaanaaGreatDoorR41
import Derived.Test.YtamlaknfakaanaaGreatDoorR18
import Derived.Test.YtamlaknfakaanaaGreatDoorR1
import Derived.WalkKit
import Derived.WalkSpells
import Derived.WalkLawsBesides
import Derived.Lib.Hide
import Derived.Deep.RegionHeld3
import Derived.BigQuiet
import Derived.Deep.QuietTactic
set_option maxRecDepth 100000
set_option maxHeartbeats 8000000
namespace Go.Proofs.YtamlaknfakaanaaGreatDoor
open Go Go.RowKit
open Go.Sort (grow)
set_option linter.unusedVariables false
set_option linter.unusedSimpArgs false
structure AB1 (w W:World) (ca:Array Value):Prop where
 a:Whole W w.heap.size 48 ca
 below:Below w.heap.size w W
theorem AB1.new (w:World) (ca:Array Value):AB1 w (w.alloc (.cells ca 48)) ca:=
 ⟨Whole.new w _ ca,below_alloc w _⟩
theorem AB1.step {w W W':World} {ca:Array Value} (h:AB1 w W ca) (hb:Below W.heap.size W W'):AB1 w W' ca:=
 ⟨h.a.below hb h.a.lt,h.below.trans (hb.mono h.below.size)⟩
theorem AB1.alloc {w W:World} {ca:Array Value} (h:AB1 w W ca) (o:Obj):AB1 w (W.alloc o) ca:=h.step (below_alloc W o)
theorem one_of {g:GV} {c:GC} {m:Int} (h:OneG g c m) (hm:¬ m=0):OneG g c 1:=
 ⟨h.len,h.clean,h.v,h.key,h.s,by
  rcases h.fits with e | e
  ·exact absurd e hm
  ·exact .inr ⟨rfl,e.2⟩⟩
theorem one_is6 (g:GV) (GL GO:Option Addr) (gl go:Nat) (x:GAct) (AP:Option Addr) (ap:Nat) (AD:Option Addr) (ad:Nat) (w:World) (hv:Vl w g GL GO gl go) (hg:VOk g) (hx:ActOk w x AP ap AD ad):Calls Tryz.prog 16 #[.agg #[.int .u8 g.kind,.int .i64 g.num,.string g.str,.slice GL g.items.length gl,.slice GO g.vals.length go],.agg #[.slice AP x.path.length ap,.int .u8 x.kind,.int .i64 x.i,.int .i64 x.j,.int .i64 x.n,.string x.s,.slice AD x.v.length ad]] w (OneIs g w):=one_comp g GL GO gl go x AP ap AD ad w hv hg.1 hg.2.2.1 hx
end Go.Proofs.YtamlaknfakaanaaGreatDoor
namespace Go.Proofs.YtamlaknfakaanaaGreatDoor
open Go Go.RowKit
set_option linter.unusedVariables false
set_option linter.unusedSimpArgs false
theorem comp_SoundA (c:GC) (A AL AO:Option Addr) (cp cL cO:Nat) (w:World) (hc:Cc w c A AL AO cp cL cO) (hs:Small c) (hT:Tabs w) (hcs:c.Sound):
  Calls Tryz.prog 18 #[.agg #[.int .u8 c.kind,.slice A c.path.length cp,.string c.key,.int .i64 c.i,.int .i64 c.j,.int .i64 c.n,.int .u8 c.v.kind,.int .i64 c.v.num,.string c.v.str,.slice AL c.v.items.length cL,.slice AO c.v.vals.length cO,.string c.s]] w fun e w'=>e=.returned (.bool true)∧Below w.heap.size w w':=
 (comp_Sound c A AL AO cp cL cO w hc (by have:=hs.v;omega) (by have:=hs.k;omega) (by have:=hs.s;omega) hs.pk hT).mono fun e w' ⟨b,he,hb,hw⟩=>⟨by rw [he,hb.2 hcs],hw⟩
end Go.Proofs.YtamlaknfakaanaaGreatDoor
namespace Go.Proofs.YtamlaknfakaanaaGreatDoor
open Go Go.RowKit
open Go.Sort (grow)
set_option linter.unusedVariables false
set_option linter.unusedSimpArgs false
theorem one_out {g:GV} {c:GC} (h:OneG g c 1) (hg:VOk g):∃ y,Outc g c y 0:=by
 obtain ⟨hS,h1,h2,h3⟩:=fit_ok h hg.1 hg.2.2.2
 obtain ⟨y,n,ho⟩:=outc_some g c
 have h0:=chk_one ho.1 (.inr ⟨hS,.inr ⟨h1,h2,h3.symm⟩⟩)
 rw [h0] at ho
 exact ⟨y,ho⟩
theorem Outc.ok {g:GV} {c:GC} {y:GV} (h:Outc g c y 0):c.Sound:=by
 rcases h.2 with ⟨h0,_⟩ | ⟨_,h,_⟩
 ·exact absurd rfl h0
 ·exact h
theorem cacts_true (hi:Nat) (L:Option Addr) (lc:Nat) (ts:List GTok) (x:GAct) (AP:Option Addr) (ap:Nat) (AD:Option Addr) (ad:Nat) (w:World) (hT:Toks hi w L ts) (hhi:hi≤w.heap.size) (hcap:ts.length≤lc) (hm:lc≤maxLen) (hr:∀ t∈ts,0≤t.k∧t.k≤255∧0≤t.m∧t.m≤255) (hss:∀ t∈ts,t.s.size≤140737488351232) (hx:ActOk w x AP ap AD ad) (hU:Tabs w):
  Calls Tryz.prog 4 #[.slice L ts.length lc,.agg #[.slice AP x.path.length ap,.int .u8 x.kind,.int .i64 x.i,.int .i64 x.j,.int .i64 x.n,.string x.s,.slice AD x.v.length ad]] w (TrueBelow w):=by
 have HHV:=Lib.hid (fun W (h:Below w.heap.size w W)=>heavyz_any hi L lc ts W (hT.keep (h.mono hhi) (Nat.le_refl _)) (Nat.le_trans hhi h.size) hcap hm)
 have HBU:=Lib.hid (fun W (h:Below w.heap.size w W)=>build_A hi L lc ts W hcap hm (Nat.le_trans hhi h.size) (hT.keep (h.mono hhi) (Nat.le_refl _)) hr hss)
 have HKN:=Lib.hid (fun W (hb:Below w.heap.size w W)=>cknown_true W (hU.below hb (Nat.le_refl _)))
 have HTB:=Lib.hid (fun W (hb:Below w.heap.size w W)=>hU.below hb (Nat.le_refl _))
 have HAC:=Lib.hid (fun W (h:Below w.heap.size w W)=>hx.later h)
 have HON:=Lib.hid (fun (g:GV) (GL GO:Option Addr) (gl go:Nat) (W:World) (h:Below w.heap.size w W) (hv:Vl W g GL GO gl go) (hg:VOk g)=>one_is6 g GL GO gl go x AP ap AD ad W hv hg (hx.later h))
 unfold AnyBool at HHV
 unfold BuildA at HBU
 unfold OneIs at HON
 unfold TrueBelow at HKN
 have H0:=Lib.hid (AB1.new w #[.slice AP x.path.length ap,.int .u8 x.kind,.int .i64 x.i,.int .i64 x.j,.int .i64 x.n,.string x.s,.slice AD x.v.length ad])
 clear hT hhi hcap hm hr hss hx hU
 generalize hn:ts.length=n at *
 clear hn
 go_enter Tryz.func4,Tryz.ntmps4
 go_wp2_with (first
  | (go_at_call 5;refine (HHV.out _ H0.out.below).mono ?_;rintro e w1 ⟨bh,rfl,hb⟩;have H1:=Lib.hid (H0.out.step hb);clear hb;obtain ⟨p0,p1,p2,p3,p4,p5,p6⟩:=act_cells H1.out.a)
  | (go_at_call 15;refine (Heavy_any [⟨x,AP,ap,AD,ad⟩] w1.heap.size 1 _ (fun i e he=>by
     match i,he with
     | 0,he=>simp at he;subst he;exact ⟨(Whole.new w1 _ _).cell 0,(Whole.new w1 _ _).cell 5,(Whole.new w1 _ _).cell 6⟩
     | i+1,he=>simp at he) (by simp) (fun e he=>by
     simp only [List.mem_cons,List.mem_nil_iff,or_false] at he
     subst he
     exact HAC.out _ (H1.out.alloc _).below) (by simp) (by simp)).mono ?_;rintro e w2 ⟨z1,rfl,hb⟩;have H2:=Lib.hid ((H1.out.alloc _).step hb);clear hb p0 p1 p2 p3 p4 p5 p6)
  | (go_at_call 6;refine (HKN.out _ H2.out.below).mono ?_;rintro e w3 ⟨rfl,hb⟩;have H3:=Lib.hid (H2.out.step hb);clear hb)
  | (go_at_call 6;refine (HKN.out _ H1.out.below).mono ?_;rintro e w3 ⟨rfl,hb⟩;have H3:=Lib.hid (H1.out.step hb);clear hb)
  | (go_at_call 7;refine (HBU.out _ H3.out.below).mono ?_;rintro e w4 ⟨g,GL,GO,gl,go,rfl,hv,hg,hb⟩;have H4:=Lib.hid (H3.out.step hb);have HG:=Lib.hid hg;have B4:=Lib.hid (Bx.new (W:=w4) (g:=g) (AL:=GL) (AO:=GO) (cL:=gl) (cO:=go) ⟨hv.1.keep (From.refl _ _) (fun _ _ _=>trivial),hv.2.keep (From.refl _ _) (fun _ _ _=>trivial)⟩);obtain ⟨p0,p1,p2,p3,p4,p5,p6⟩:=act_cells H4.out.a;replace p0:=fun o=>cell_alloc o p0;replace p1:=fun o=>cell_alloc o p1;replace p2:=fun o=>cell_alloc o p2;replace p3:=fun o=>cell_alloc o p3;replace p4:=fun o=>cell_alloc o p4;replace p5:=fun o=>cell_alloc o p5;replace p6:=fun o=>cell_alloc o p6;clear hv hg hb)
  | (go_at_call 16;((with_reducible refine (HON.out g GL GO gl go _ (H4.out.alloc _).below B4.out.vl HG.out).mono ?_);rintro e w5 ⟨hb,c,A,AL,AO,cp,cL,cO,m1,rfl,hc,ho⟩;have H5:=Lib.hid ((H4.out.alloc (.cells #[.int .u8 g.kind,.int .i64 g.num,.string g.str,.slice GL g.items.length gl,.slice GO g.vals.length go] 31)).step hb);have B5:=Lib.hid (B4.out.later hb);have C5:=Lib.hid (And.intro hc ho);clear p0 p1 p2 p3 p4 p5 p6;obtain ⟨v0,v1,v2,v3,v4⟩:=B5.out.cellsA;clear hb hc ho))
  | (go_at_call 10;obtain ⟨y,ho⟩:=one_out (one_of C5.out.2 (by first | assumption | (simpa using ‹(m1 == 0)=false›))) HG.out;have HO:=Lib.hid ho;clear ho;have hgw:g.weight≤1000000:=(by have:=HG.out.2.2.1;omega);have hsm:=small_one C5.out.2;((with_reducible refine (comp_DoO g GL GO gl go c A AL AO cp cL cO _ (B5.out.vl.later (below_alloc _ _)) (C5.out.1.later (below_alloc _ _)) hgw hsm (HTB.out _ (H5.out.alloc _).below) HO.out).mono ?_);clear hgw hsm;rintro e w6 ⟨XL,XO,xl,xo,rfl,hv,hb⟩;have H6:=Lib.hid (((H5.out.alloc (.cells #[.int .u8 c.kind,.slice A c.path.length cp,.string c.key,.int .i64 c.i,.int .i64 c.j,.int .i64 c.n,.int .u8 c.v.kind,.int .i64 c.v.num,.string c.v.str,.slice AL c.v.items.length cL,.slice AO c.v.vals.length cO,.string c.s] 35)).step hb).alloc (.cells #[.int .u8 y.kind,.int .i64 y.num,.string y.str,.slice XL y.items.length xl,.slice XO y.vals.length xo] 31));have B6:=Lib.hid (((B5.out.later (below_alloc w5 (.cells #[.int .u8 c.kind,.slice A c.path.length cp,.string c.key,.int .i64 c.i,.int .i64 c.j,.int .i64 c.n,.int .u8 c.v.kind,.int .i64 c.v.num,.string c.v.str,.slice AL c.v.items.length cL,.slice AO c.v.vals.length cO,.string c.s] 35))).later hb).later (below_alloc w6 (.cells #[.int .u8 y.kind,.int .i64 y.num,.string y.str,.slice XL y.items.length xl,.slice XO y.vals.length xo] 31)));have C6:=Lib.hid (And.intro (((C5.out.1.later (below_alloc w5 (.cells #[.int .u8 c.kind,.slice A c.path.length cp,.string c.key,.int .i64 c.i,.int .i64 c.j,.int .i64 c.n,.int .u8 c.v.kind,.int .i64 c.v.num,.string c.v.str,.slice AL c.v.items.length cL,.slice AO c.v.vals.length cO,.string c.s] 35))).later hb).later (below_alloc w6 (.cells #[.int .u8 y.kind,.int .i64 y.num,.string y.str,.slice XL y.items.length xl,.slice XO y.vals.length xo] 31))) (((Whole.new w5 35 #[.int .u8 c.kind,.slice A c.path.length cp,.string c.key,.int .i64 c.i,.int .i64 c.j,.int .i64 c.n,.int .u8 c.v.kind,.int .i64 c.v.num,.string c.v.str,.slice AL c.v.items.length cL,.slice AO c.v.vals.length cO,.string c.s]).below hb (by simp)).alloc (.cells #[.int .u8 y.kind,.int .i64 y.num,.string y.str,.slice XL y.items.length xl,.slice XO y.vals.length xo] 31)));have X6:=Lib.hid (Bx.new hv.vl);clear v0 v1 v2 v3 v4 hv hb;obtain ⟨v0,v1,v2,v3,v4⟩:=B6.out.cells;obtain ⟨c0,c1,c2,c3,c4,c5,c6,c7,c8,c9,c10,c11,_⟩:=C6.out.2.tw))
  | (go_at_call 11;have hgw:g.weight≤1000000:=(by have:=HG.out.2.2.1;omega);have hsm:=small_one C5.out.2;have hgs:g.Sound:=HG.out.1;have hps:=sound_pos _ HO.out.ok.2.2.2.2.2.1;((with_reducible refine (ref_DoO g GL GO gl go c A AL AO cp cL cO _ B6.out.vl C6.out.1 hgw hsm hps hgs (HTB.out _ H6.out.below) HO.out).mono ?_);clear hgw hgs hsm hps;rintro e w7 ⟨YL,YO,yl,yo,rfl,hv,hb⟩;have H7:=Lib.hid ((H6.out.step hb).alloc (.cells #[.int .u8 y.kind,.int .i64 y.num,.string y.str,.slice YL y.items.length yl,.slice YO y.vals.length yo] 31));have C7:=Lib.hid (And.intro ((C6.out.1.later hb).later (below_alloc w7 (.cells #[.int .u8 y.kind,.int .i64 y.num,.string y.str,.slice YL y.items.length yl,.slice YO y.vals.length yo] 31))) ((C6.out.2.below hb C6.out.2.lt).alloc (.cells #[.int .u8 y.kind,.int .i64 y.num,.string y.str,.slice YL y.items.length yl,.slice YO y.vals.length yo] 31)));have X7:=Lib.hid ((X6.out.later hb).later (below_alloc w7 (.cells #[.int .u8 y.kind,.int .i64 y.num,.string y.str,.slice YL y.items.length yl,.slice YO y.vals.length yo] 31)));have Y7:=Lib.hid (Bx.new hv.vl);clear v0 v1 v2 v3 v4 c0 c1 c2 c3 c4 c5 c6 c7 c8 c9 c10 c11 hv hb;obtain ⟨v0,v1,v2,v3,v4⟩:=X7.out.cells;obtain ⟨u0,u1,u2,u3,u4⟩:=Y7.out.cells))
  | (go_at_call 12;have hyw:y.weight≤1000000000:=(by have h1:=HO.out.weight (small_one C5.out.2);have h2:=HG.out.2.2.1;omega);((with_reducible refine (same_is X7.out.vl Y7.out.vl hyw).mono ?_);clear hyw;rintro e w8 ⟨rfl,hb⟩;have H8:=Lib.hid (H7.out.step hb);have C8:=Lib.hid (And.intro (C7.out.1.later hb) (C7.out.2.below hb C7.out.2.lt));have X8:=Lib.hid (X7.out.later hb);clear v0 v1 v2 v3 v4 u0 u1 u2 u3 u4 hb;obtain ⟨v0,v1,v2,v3,v4⟩:=X8.out.cells))
  | (go_at_call 17;have hyw:y.weight≤1000000000:=(by have h1:=HO.out.weight (small_one C5.out.2);have h2:=HG.out.2.2.1;omega);have hys:=HO.out.sound HG.out.1;((with_reducible refine (sound_is X8.out.vl hys hyw (HTB.out _ H8.out.below)).mono ?_);clear hyw hys;rintro e w9 ⟨rfl,hb⟩;have H9:=Lib.hid (H8.out.step hb);have C9:=Lib.hid (And.intro (C8.out.1.later hb) (C8.out.2.below hb C8.out.2.lt));clear v0 v1 v2 v3 v4 hb;obtain ⟨c0,c1,c2,c3,c4,c5,c6,c7,c8,c9,c10,c11,_⟩:=C9.out.2.tw))
  | (go_at_call 18;have hsm:=small_one C5.out.2;have hok:=HO.out.ok;((with_reducible refine (comp_SoundA c A AL AO cp cL cO _ C9.out.1 hsm (HTB.out _ H9.out.below) hok).mono ?_);clear hsm hok;rintro e w10 ⟨rfl,hb⟩;have H10:=Lib.hid (H9.out.step hb);clear hb)))
 all_goals (go_ret;first | exact ⟨rfl,H3.out.below⟩ | exact ⟨rfl,H5.out.below.alloc H5.out.below.size _⟩ | exact ⟨rfl,H10.out.below⟩)
end Go.Proofs.YtamlaknfakaanaaGreatDoor
