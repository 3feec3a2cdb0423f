/- Check and Do of a component, the program's. -/
import Derived.Test.YtamlaknfakaanaaGreatDoorR29
import Derived.Test.YtamlaknfakaanaaGreatDoorR30
set_option maxRecDepth 100000
set_option maxHeartbeats 8000000
namespace Go.Proofs.YtamlaknfakaanaaGreatDoor
open Go Go.RowKit
set_option linter.unusedVariables false
set_option linter.unusedSimpArgs false
theorem find_any (g:GV) (GL GO:Option Addr) (eL eO:Nat) (c:GC) (A AL AO:Option Addr) (cp cL cO:Nat) (w:World) (hg:Vl w g GL GO eL eO) (hc:Cc w c A AL AO cp cL cO) (hgw:g.weight≤400000000) (hcw:c.v.weight≤1000000000) (hkey:c.key.size≤9223372036854775807) (hs:c.s.size≤9223372036854775807) (hpk:∀ s∈c.path,s.key.size≤9223372036854775807) (hT:Tabs w) (htx:TextChecks w c A AL AO cp cL cO):
  Calls Tryz.prog 21 #[.agg #[.int .u8 g.kind,.int .i64 g.num,.string g.str,.slice GL g.items.length eL,.slice GO g.vals.length eO],.agg #[.int .u8 c.kind,.slice A c.path.length cp,.string c.key,.int .i64 c.i,.int .i64 c.j,.int .i64 c.n,.int .u8 c.v.kind,.int .i64 c.v.num,.string c.v.str,.slice AL c.v.items.length cL,.slice AO c.v.vals.length cO,.string c.s]] w fun e w'=>∃ (k m:Int) (s:ByteArray) (HL HO:Option Addr) (nl dL no dO:Nat) (n:Int),e=.returned (.tuple #[.agg #[.int .u8 k,.int .i64 m,.string s,.slice HL nl dL,.slice HO no dO],.int .u16 n])∧ChkIs g c n∧Below w.heap.size w w':=
 (comp_find g GL GO eL eO c A AL AO cp cL cO w hg hc hgw hcw hkey hs hpk hT htx).mono fun e w' ⟨hb,hq⟩=>by
  rcases hq with ⟨h1,he⟩ | ⟨h1,h2,he⟩ | ⟨h1,h,HL,HO,dL,h2,he,_⟩
  ·exact ⟨_,_,_,_,_,_,_,_,_,_,he,.inl ⟨h1,rfl⟩,hb⟩
  ·exact ⟨_,_,_,_,_,_,_,_,_,_,he,.inr ⟨h1,.inl ⟨h2,rfl⟩⟩,hb⟩
  ·exact ⟨_,_,_,_,_,_,_,_,_,_,he,.inr ⟨h1,.inr ⟨h,h2,rfl⟩⟩,hb⟩
theorem comp_Check (g:GV) (GL GO:Option Addr) (eL eO:Nat) (c:GC) (A AL AO:Option Addr) (cp cL cO:Nat) (w:World) (hg:Vl w g GL GO eL eO) (hc:Cc w c A AL AO cp cL cO) (hgw:g.weight≤400000000) (hcw:c.v.weight≤1000000000) (hkey:c.key.size≤9223372036854775807) (hs:c.s.size≤9223372036854775807) (hpk:∀ s∈c.path,s.key.size≤9223372036854775807) (hT:Tabs w) (htx:TextChecks w c A AL AO cp cL cO):
  Calls Tryz.prog 13 #[.agg #[.int .u8 g.kind,.int .i64 g.num,.string g.str,.slice GL g.items.length eL,.slice GO g.vals.length eO],.agg #[.int .u8 c.kind,.slice A c.path.length cp,.string c.key,.int .i64 c.i,.int .i64 c.j,.int .i64 c.n,.int .u8 c.v.kind,.int .i64 c.v.num,.string c.v.str,.slice AL c.v.items.length cL,.slice AO c.v.vals.length cO,.string c.s]] w fun e w'=>∃ n:Int,e=.returned (.int .u16 n)∧ChkIs g c n∧Below w.heap.size w w':=by
 have HB:=Lib.hid ((below_alloc w (.cells #[.int .u8 g.kind,.int .i64 g.num,.string g.str,.slice GL g.items.length eL,.slice GO g.vals.length eO] 31)).alloc (by simp) (.cells #[.int .u8 c.kind,.slice A c.path.length cp,.string c.key,.int .i64 c.i,.int .i64 c.j,.int .i64 c.n,.int .u8 c.v.kind,.int .i64 c.v.num,.string c.v.str,.slice AL c.v.items.length cL,.slice AO c.v.vals.length cO,.string c.s] 35))
 have HF:=Lib.hid (fun W (hb:Below w.heap.size w W)=>find_any g GL GO eL eO c A AL AO cp cL cO W (hg.later hb) (hc.later hb) hgw hcw hkey hs hpk (hT.below hb (Nat.le_refl _)) (fun h h3 hw w3 W' hb'=>htx h h3 hw w3 W' (hb.trans (hb'.mono hb.size))))
 clear hg hc hgw hcw hkey hs hpk hT htx
 go_enter Tryz.func13,Tryz.ntmps13
 go_wp2_with (go_at_call 21;refine (HF.out _ HB.out).mono ?_;rintro e w1 ⟨k,m,s,HL,HO,nl,dL,no,dO,n,rfl,hn,hb⟩;have H1:=Lib.hid (And.intro hn (HB.out.trans (hb.mono HB.out.size)));clear hn hb)
 go_ret
 exact ⟨n,rfl,H1.out.1,H1.out.2.alloc H1.out.2.size _⟩
structure DB (w W:World) (cg cc cr:Array Value):Prop where
 g:Whole W w.heap.size 31 cg
 c:Whole W (w.heap.size+1) 35 cc
 r:Whole W (w.heap.size+1+1) 31 cr
 below:Below w.heap.size w W
theorem DB.new (w:World) (cg cc cr:Array Value):DB w (((w.alloc (.cells cg 31)).alloc (.cells cc 35)).alloc (.cells cr 31)) cg cc cr:=by
 have h1:=(Whole.new (w.alloc (.cells cg 31)) 35 cc).alloc (.cells cr 31)
 have h2:=Whole.new ((w.alloc (.cells cg 31)).alloc (.cells cc 35)) 31 cr
 rw [World.size_alloc] at h1
 rw [World.size_alloc,World.size_alloc] at h2
 exact ⟨((Whole.new w _ _).alloc _).alloc _,h1,h2,(((Below.refl _ w).alloc (Nat.le_refl _) _).alloc (by simp) _).alloc (by simp;omega) _⟩
theorem DB.step {w W W':World} {cg cc cr:Array Value} (h:DB w W cg cc cr) {B:Nat} (hB:w.heap.size+1+1+1≤B) (hb:Below B W W'):DB w W' cg cc cr:=
 ⟨h.g.below hb (by omega),h.c.below hb (by omega),h.r.below hb (by omega),h.below.trans (hb.mono (by omega))⟩
theorem DB.size (w:World) (cg cc cr:Array Value):(((w.alloc (.cells cg 31)).alloc (.cells cc 35)).alloc (.cells cr 31)).heap.size=w.heap.size+1+1+1:=by simp
def PlaceDoes (h:GV) (c:GC) (A AL AO:Option Addr) (cp cL cO:Nat) (w:World):Prop:=∀ (HL HO:Option Addr) (dL lo:Nat) (W:World),Below w.heap.size w W→w.heap.size≤lo→lo≤W.heap.size→h.val (fun k=>lo≤k) W (.agg #[.int .u8 h.kind,.int .i64 h.num,.string h.str,.slice HL h.items.length dL,.slice HO h.vals.length h.vals.length])→FullO lo W h (.agg #[.int .u8 h.kind,.int .i64 h.num,.string h.str,.slice HL h.items.length dL,.slice HO h.vals.length h.vals.length]) →
 Calls Tryz.prog 22 #[.pointer (some ⟨W.heap.size,0,none⟩),.agg #[.int .u8 c.kind,.slice A c.path.length cp,.string c.key,.int .i64 c.i,.int .i64 c.j,.int .i64 c.n,.int .u8 c.v.kind,.int .i64 c.v.num,.string c.v.str,.slice AL c.v.items.length cL,.slice AO c.v.vals.length cO,.string c.s]] (W.alloc (.cells #[.int .u8 h.kind,.int .i64 h.num,.string h.str,.slice HL h.items.length dL,.slice HO h.vals.length h.vals.length] 64)) (PlaceIs lo W.heap.size (doH h c) (W.alloc (.cells #[.int .u8 h.kind,.int .i64 h.num,.string h.str,.slice HL h.items.length dL,.slice HO h.vals.length h.vals.length] 64)))
def VlNew (n:Nat) (W:World) (y:GV) (BL BO:Option Addr) (dL dO:Nat):Prop:=LstV (fun k=>n≤k) W (.slice BL y.items.length dL) y.items∧ObjV (fun k=>n≤k) W (.slice BO y.vals.length dO) y.keys y.vals
def DoesOut (g:GV) (c:GC) (w:World) (e:Ending) (w':World):Prop:=Below w.heap.size w w'∧∃ n:Int,ChkIs g c n ∧
 ((n≠0∧e=.returned (.tuple #[.agg #[.int .u8 0,.int .i64 0,.string ⟨#[]⟩,.slice none 0 0,.slice none 0 0],.int .u16 n]))∨(n=0∧∃ h y BL BO dL dO,g.get c.path=some h∧chkH h c=0∧g.put (doH h c) c.path=some y∧e=.returned (.tuple #[.agg #[.int .u8 y.kind,.int .i64 y.num,.string y.str,.slice BL y.items.length dL,.slice BO y.vals.length dO],.int .u16 0])∧Vl w' y BL BO dL dO∧VlNew w.heap.size w' y BL BO dL dO))
theorem put_some {g h:GV} {ps:List GStep} (x:GV) (e:g.get ps=some h):∃ y,g.put x ps=some y:=put_some_of e
theorem comp_Do (g:GV) (GL GO:Option Addr) (eL eO:Nat) (c:GC) (A AL AO:Option Addr) (cp cL cO:Nat) (w:World) (hg:Vl w g GL GO eL eO) (hc:Cc w c A AL AO cp cL cO) (hgw:g.weight≤400000000) (hcw:c.v.weight≤1000000000) (hkey:c.key.size≤9223372036854775807) (hs:c.s.size≤9223372036854775807) (hpk:∀ s∈c.path,s.key.size≤9223372036854775807) (hT:Tabs w) (htx:TextChecks w c A AL AO cp cL cO) (hdo:∀ h,g.get c.path=some h→chkH h c=0→c.Sound→PlaceDoes h c A AL AO cp cL cO w) (hdw:∀ h,g.get c.path=some h→chkH h c=0→(doH h c).weight≤400000000):
  Calls Tryz.prog 10 #[.agg #[.int .u8 g.kind,.int .i64 g.num,.string g.str,.slice GL g.items.length eL,.slice GO g.vals.length eO],.agg #[.int .u8 c.kind,.slice A c.path.length cp,.string c.key,.int .i64 c.i,.int .i64 c.j,.int .i64 c.n,.int .u8 c.v.kind,.int .i64 c.v.num,.string c.v.str,.slice AL c.v.items.length cL,.slice AO c.v.vals.length cO,.string c.s]] w (DoesOut g c w):=by
 have H0:=Lib.hid (DB.new w #[.int .u8 g.kind,.int .i64 g.num,.string g.str,.slice GL g.items.length eL,.slice GO g.vals.length eO] #[.int .u8 c.kind,.slice A c.path.length cp,.string c.key,.int .i64 c.i,.int .i64 c.j,.int .i64 c.n,.int .u8 c.v.kind,.int .i64 c.v.num,.string c.v.str,.slice AL c.v.items.length cL,.slice AO c.v.vals.length cO,.string c.s] #[.int .u8 0,.int .i64 0,.string ⟨#[]⟩,.slice none 0 0,.slice none 0 0])
 have hex:∃ n,ChkIs g c n:=by
  by_cases hS:c.Sound
  ·cases hget:g.get c.path with
   | none=>exact ⟨30,.inr ⟨hS,.inl ⟨hget,rfl⟩⟩⟩
   | some h=>exact ⟨chkH h c,.inr ⟨hS,.inr ⟨h,hget,rfl⟩⟩⟩
  ·exact ⟨60,.inl ⟨hS,rfl⟩⟩
 obtain ⟨n,hn⟩:=hex
 by_cases h0:n=0
 ·subst h0
  obtain ⟨h,hS,hget,hk⟩:∃ h,c.Sound∧g.get c.path=some h∧chkH h c=0:=by
   rcases hn with ⟨_,h⟩ | ⟨hS,⟨_,h⟩ | ⟨h,h1,h2⟩⟩
   ·cases h
   ·cases h
   ·exact ⟨h,hS,h1,h2.symm⟩
  obtain ⟨y,hput⟩:=put_some (doH h c) hget
  have HN:=Lib.hid hn
  have HG:=Lib.hid (And.intro hget (And.intro hk hput))
  have HF:=Lib.hid (fun W (hb:Below w.heap.size w W)=>(comp_find g GL GO eL eO c A AL AO cp cL cO W (hg.later hb) (hc.later hb) hgw hcw hkey hs hpk (hT.below hb (Nat.le_refl _)) (fun h h3 hw w3 W' hb'=>htx h h3 hw w3 W' (hb.trans (hb'.mono hb.size)))).mono (R':=fun e w'=>∃ HL HO dL,e=.returned (.tuple #[.agg #[.int .u8 h.kind,.int .i64 h.num,.string h.str,.slice HL h.items.length dL,.slice HO h.vals.length h.vals.length],.int .u16 0])∧(h.val (fun k=>W.heap.size≤k) w' (.agg #[.int .u8 h.kind,.int .i64 h.num,.string h.str,.slice HL h.items.length dL,.slice HO h.vals.length h.vals.length])∧FullO W.heap.size w' h (.agg #[.int .u8 h.kind,.int .i64 h.num,.string h.str,.slice HL h.items.length dL,.slice HO h.vals.length h.vals.length]))∧Below W.heap.size W w') fun e w' ⟨hb',hq⟩=>by
   rcases hq with ⟨h1,_⟩ | ⟨_,h2,_⟩ | ⟨_,h',HL,HO,dL,h2,he,hv,hf⟩
   ·exact absurd hS h1
   ·rw [hget] at h2;cases h2
   ·rw [hget] at h2
    cases h2
    rw [hk] at he
    exact ⟨HL,HO,dL,he,⟨hv,hf⟩,hb'⟩)
  have HD:=Lib.hid (hdo h hget hk hS)
  have HP:=Lib.hid (fun W (hb:Below w.heap.size w W) (XL XO:Option Addr) (xL xO:Nat) (hx:Vl W (doH h c) XL XO xL xO)=>(path_Put (fun _=>True) _ _ g (doH h c) W.heap.size A cp c.path W (hg.later hb).val hx.val (hc.path.later hb).steps (Nat.le_refl _) hc.path.le hc.path.cap hgw (hdw h hget hk)).mono (R':=fun e w'=>∃ (BL BO:Option Addr) (yL yO:Nat),e=.returned (.tuple #[.agg #[.int .u8 y.kind,.int .i64 y.num,.string y.str,.slice BL y.items.length yL,.slice BO y.vals.length yO],.int .u16 0])∧(LstV (fun k=>W.heap.size≤k) w' (.slice BL y.items.length yL) y.items∧ObjV (fun k=>W.heap.size≤k) w' (.slice BO y.vals.length yO) y.keys y.vals)∧Below W.heap.size W w') fun e w' ⟨hb',hq⟩=>by
   rcases hq with ⟨h1,_⟩ | ⟨y',v',h1,he,L,O,hv,hL,hO⟩
   ·rw [hput] at h1;cases h1
   ·rw [hput] at h1
    cases h1
    subst hv
    obtain ⟨BL,yL,rfl⟩:=lst_form hL
    obtain ⟨BO,yO,rfl⟩:=obj_form hO
    exact ⟨BL,BO,yL,yO,he,⟨hL,hO⟩,hb'⟩)
  clear hn hg hc hgw hcw hkey hs hpk hT htx hdo hdw hput hget hk hS
  go_enter Tryz.func10,Tryz.ntmps10
  go_wp2_with (first
   | (go_at_call 21;refine (HF.out _ (DB.new w _ _ _).below).mono ?_;rintro e w1 ⟨HL,HO,dL,rfl,hv,hb⟩;have hz:=DB.size w #[.int .u8 g.kind,.int .i64 g.num,.string g.str,.slice GL g.items.length eL,.slice GO g.vals.length eO] #[.int .u8 c.kind,.slice A c.path.length cp,.string c.key,.int .i64 c.i,.int .i64 c.j,.int .i64 c.n,.int .u8 c.v.kind,.int .i64 c.v.num,.string c.v.str,.slice AL c.v.items.length cL,.slice AO c.v.vals.length cO,.string c.s] #[.int .u8 0,.int .i64 0,.string ⟨#[]⟩,.slice none 0 0,.slice none 0 0];rw [hz] at hv hb;have H1:=Lib.hid (And.intro (H0.out.step (Nat.le_refl _) hb) (And.intro hv (show w.heap.size+1+1+1≤w1.heap.size from by have:=hb.size;rw [hz] at this;exact this)));clear hb hv hz;have c0:=fun o=>cell_alloc o H1.out.1.c.tw.c0;have c1:=fun o=>cell_alloc o H1.out.1.c.tw.c1;have c2:=fun o=>cell_alloc o H1.out.1.c.tw.c2;have c3:=fun o=>cell_alloc o H1.out.1.c.tw.c3;have c4:=fun o=>cell_alloc o H1.out.1.c.tw.c4;have c5:=fun o=>cell_alloc o H1.out.1.c.tw.c5;have c6:=fun o=>cell_alloc o H1.out.1.c.tw.c6;have c7:=fun o=>cell_alloc o H1.out.1.c.tw.c7;have c8:=fun o=>cell_alloc o H1.out.1.c.tw.c8;have c9:=fun o=>cell_alloc o H1.out.1.c.tw.c9;have c10:=fun o=>cell_alloc o H1.out.1.c.tw.c10;have c11:=fun o=>cell_alloc o H1.out.1.c.tw.c11)
   | (go_at_call 22;refine (HD.out HL HO dL (w.heap.size+1+1+1) w1 H1.out.1.below (by omega) H1.out.2.2 H1.out.2.1.1 H1.out.2.1.2).mono ?_;rintro e w2 ⟨rfl,XL,XO,xL,xO,hwh,hvl,hb⟩;have H2:=Lib.hid (And.intro ((H1.out.1.step (B:=w1.heap.size) H1.out.2.2 (below_alloc w1 (.cells #[.int .u8 h.kind,.int .i64 h.num,.string h.str,.slice HL h.items.length dL,.slice HO h.vals.length h.vals.length] 64))).step (Nat.le_refl _) hb) (And.intro hwh hvl));clear hb hwh hvl c0 c1 c2 c3 c4 c5 c6 c7 c8 c9 c10 c11;obtain ⟨p0,p1,p2,p3,p4,_⟩:=H2.out.2.1.five;obtain ⟨g0,g1,g2,g3,g4,_⟩:=H2.out.1.g.five;have c1:=H2.out.1.c.tw.c1)
   | (go_at_call 23;refine (HP.out _ H2.out.1.below _ _ _ _ H2.out.2.2).mono ?_;rintro e w3 ⟨BL,BO,yL,yO,rfl,hv,hb⟩;have H3:=Lib.hid (And.intro (H2.out.1.step (Nat.succ_le_of_lt H2.out.1.r.lt) hb) (And.intro hv (And.intro H2.out.1.r.lt hb.size)));clear hb hv;obtain ⟨r0,r1,r2,r3,r4,f0,f1,f2,f3,f4⟩:=H3.out.1.r.five))
  have h5:=whole_put5 H3.out.1.r (.int .u8 y.kind) (.int .i64 y.num) (.string y.str) (.slice BL y.items.length yL) (.slice BO y.vals.length yO)
  obtain ⟨d0,d1,d2,d3,d4,_⟩:=h5.five
  unfold put5 at d0 d1 d2 d3 d4
  refine bodyPost_ret (v:=.tuple #[.agg #[.int .u8 y.kind,.int .i64 y.num,.string y.str,.slice BL y.items.length yL,.slice BO y.vals.length yO],.int .u16 0]) (by simp [results,Tryz.results10,go_sem,d0,d1,d2,d3,d4]) rfl ?_
  refine ⟨put5_below H3.out.1.below (by omega) _ _ _ _ _,0,HN.out,.inr ⟨rfl,h,y,BL,BO,yL,yO,HG.out.1,HG.out.2.1,HG.out.2.2,rfl,?_⟩⟩
  have hr2:=H3.out.2.2.1
  have hz2:=H2.out.1.below.size
  exact ⟨⟨H3.out.2.1.1.keep (fun k hk _=>put5_block _ _ _ _ _ _ _ _ (by omega)) (fun _ _ _=>trivial),H3.out.2.1.2.keep (fun k hk _=>put5_block _ _ _ _ _ _ _ _ (by omega)) (fun _ _ _=>trivial)⟩,H3.out.2.1.1.keep (fun k hk _=>put5_block _ _ _ _ _ _ _ _ (by omega)) (fun k hk _=>Nat.le_trans hz2 hk),H3.out.2.1.2.keep (fun k hk _=>put5_block _ _ _ _ _ _ _ _ (by omega)) (fun k hk _=>Nat.le_trans hz2 hk)⟩
 ·have HN:=Lib.hid hn
  have HN0:=Lib.hid h0
  have hne:(n != 0)=true:=by simpa using h0
  have hnq:(n == 0)=false:=by simpa using h0
  have HF:=Lib.hid (fun W (hb:Below w.heap.size w W)=>(find_any g GL GO eL eO c A AL AO cp cL cO W (hg.later hb) (hc.later hb) hgw hcw hkey hs hpk (hT.below hb (Nat.le_refl _)) (fun h h3 hw w3 W' hb'=>htx h h3 hw w3 W' (hb.trans (hb'.mono hb.size)))).mono (R':=fun e w'=>∃ (k m:Int) (s:ByteArray) (HL HO:Option Addr) (nl dL no dO:Nat),e=.returned (.tuple #[.agg #[.int .u8 k,.int .i64 m,.string s,.slice HL nl dL,.slice HO no dO],.int .u16 n])∧Below W.heap.size W w') fun e w' ⟨k,m,s,HL,HO,nl,dL,no,dO,n',he,hn',hb'⟩=>⟨k,m,s,HL,HO,nl,dL,no,dO,by rw [he,chk_one hn' hn],hb'⟩)
  clear hg hc hgw hcw hkey hs hpk hT htx hdo hdw hn h0
  go_enter Tryz.func10,Tryz.ntmps10
  go_wp2_with (go_at_call 21;refine (HF.out _ (DB.new w _ _ _).below).mono ?_;rintro e w1 ⟨k,m,s,HL,HO,nl,dL,no,dO,rfl,hb⟩;have H1:=Lib.hid (H0.out.step (Nat.le_of_eq (DB.size w _ _ _).symm) hb);clear hb;have r0:=fun o=>(H1.out.r.alloc o).five.c0;have r1:=fun o=>(H1.out.r.alloc o).five.c1;have r2:=fun o=>(H1.out.r.alloc o).five.c2;have r3:=fun o=>(H1.out.r.alloc o).five.c3;have r4:=fun o=>(H1.out.r.alloc o).five.c4;have f0:=fun o=>(H1.out.r.alloc o).five.f0;have f1:=fun o=>(H1.out.r.alloc o).five.f1;have f2:=fun o=>(H1.out.r.alloc o).five.f2;have f3:=fun o=>(H1.out.r.alloc o).five.f3;have f4:=fun o=>(H1.out.r.alloc o).five.f4)
  have h1:=H1.out.r.alloc (.cells #[.int .u8 k,.int .i64 m,.string s,.slice HL nl dL,.slice HO no dO] 64)
  have h5:=whole_put5 h1 (.int .u8 0) (.int .i64 0) (.string ⟨#[]⟩) (.slice none 0 0) (.slice none 0 0)
  obtain ⟨d0,d1,d2,d3,d4,_⟩:=h5.five
  unfold put5 at d0 d1 d2 d3 d4
  refine bodyPost_ret (v:=.tuple #[.agg #[.int .u8 0,.int .i64 0,.string ⟨#[]⟩,.slice none 0 0,.slice none 0 0],.int .u16 n]) (by simp [results,Tryz.results10,go_sem,d0,d1,d2,d3,d4]) rfl ?_
  exact ⟨put5_below (H1.out.below.alloc H1.out.below.size _) (by omega) _ _ _ _ _,n,HN.out,.inl ⟨HN0.out,rfl⟩⟩
end Go.Proofs.YtamlaknfakaanaaGreatDoor
