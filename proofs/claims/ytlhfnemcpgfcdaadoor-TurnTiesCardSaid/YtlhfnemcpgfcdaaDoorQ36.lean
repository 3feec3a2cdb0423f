/- Texts in one: RcE, TieA, TurnI, TurnK, HeavyX. -/
import Derived.Test.YtlhfnemcpgfcdaaDoorQ35
import Derived.Test.YtlhfnemcpgfcdaaDoorQ30
import Derived.Test.YtlhfnemcpgfcdaaDoorQ21
import Derived.Deep.RegionHeld3
import Derived.Deep.CutRange
import Derived.Deep.DeepCutAuto
import Derived.Test.YtlhfnemcpgfcdaaDoorLaysS
import Derived.Lib.QuietBelow
import Derived.Test.YtlhfnemcpgfcdaaDoorQ22
import Derived.Test.YtlhfnemcpgfcdaaDoorQ19
import Derived.Test.YtlhfnemcpgfcdaaDoorQ6
import Derived.Test.YtlhfnemcpgfcdaaDoorQ1
import Derived.Test.YtlhfnemcpgfcdaaDoorQ14
import Derived.WalkKit
import Derived.WalkSpells
import Derived.WalkLawsBesides
import Derived.Lib.Hide
set_option maxRecDepth 100000
set_option maxHeartbeats 8000000
namespace Go.Proofs.YtlhfnemcpgfcdaaDoor
open Go Go.RowKit Go.Shelf
set_option linter.unusedVariables false
set_option linter.unusedSimpArgs false
theorem docD_no (g:GV) (GL GO:Option Addr) (eL eO:Nat) (c:GC) (A AL AO:Option Addr) (cp cL cO:Nat) (w:World) (hg:Vl w g GL GO eL eO) (hc:Cc w c A AL AO cp cL cO) (hgw:g.weight≤1000000) (hs:Small c) (hpos:c.v.Pos) (hT:Tabs w) (n:Int) (hn:ChkIs g c n) (h0:n≠0):
  Calls Tryd.prog 10 #[.agg #[.int .u8 g.kind,.int .i64 g.num,.string g.str,.slice GL g.items.length eL,.slice GO g.vals.length eO],.agg #[.int .u8 c.kind,.slice A c.path.length cp,.string c.key,.int .i64 c.i,.int .i64 c.j,.int .i64 c.n,.int .u8 c.v.kind,.int .i64 c.v.num,.string c.v.str,.slice AL c.v.items.length cL,.slice AO c.v.vals.length cO,.string c.s]] w fun e w'=>e=.returned (.tuple #[.agg #[.int .u8 0,.int .i64 0,.string ⟨#[]⟩,.slice none 0 0,.slice none 0 0],.int .i64 n])∧Below w.heap.size w w':=by
 have H0:=Lib.hid (DB.new w #[.int .u8 g.kind,.int .i64 g.num,.string g.str,.slice GL g.items.length eL,.slice GO g.vals.length eO] #[.int .u8 c.kind,.slice A c.path.length cp,.string c.key,.int .i64 c.i,.int .i64 c.j,.int .i64 c.n,.int .u8 c.v.kind,.int .i64 c.v.num,.string c.v.str,.slice AL c.v.items.length cL,.slice AO c.v.vals.length cO,.string c.s] #[.int .u8 0,.int .i64 0,.string ⟨#[]⟩,.slice none 0 0,.slice none 0 0])
 have HCK:=Lib.hid (fun W (hb:Below w.heap.size w W)=>(ref_CheckC g GL GO eL eO c A AL AO cp cL cO W (hg.later hb) (hc.later hb) (by omega) hs hpos (hT.below hb (Nat.le_refl _))).mono (R':=fun e w'=>e=.returned (.int .i64 n)∧Below W.heap.size W w') fun e w' ⟨m,he,hm,hb'⟩=>⟨by rw [he,chk_one hm hn],hb'⟩)
 have hne:(n != 0)=true:=by simpa using h0
 have HN0:=Lib.hid h0
 clear hg hc hgw hs hpos hT hn h0
 obtain ⟨g0,g1,g2,g3,g4,_⟩:=H0.out.g.five
 obtain ⟨c0,c1,c2,c3,c4,c5,c6,c7,c8,c9,c10,c11,_⟩:=H0.out.c.tw
 go_enter Tryd.func10,Tryd.ntmps10
 go_wp2_with (go_at_call 19;refine (HCK.out _ H0.out.below).mono ?_;rintro e w1 ⟨rfl,hb⟩;have H1:=Lib.hid (H0.out.later hb);clear hb g0 g1 g2 g3 g4 c0 c1 c2 c3 c4 c5 c6 c7 c8 c9 c10 c11;obtain ⟨r0,r1,r2,r3,r4,f0,f1,f2,f3,f4⟩:=H1.out.r.five)
 have h5:=whole_put5 H1.out.r (.int .u8 0) (.int .i64 0) (.string ⟨#[]⟩) (.slice none 0 0) (.slice none 0 0)
 obtain ⟨d0,d1,d2,d3,d4,_⟩:=h5.five
 unfold put5 at d0 d1 d2 d3 d4
 refine bodyPost_ret (v:=.tuple #[.agg #[.int .u8 0,.int .i64 0,.string ⟨#[]⟩,.slice none 0 0,.slice none 0 0],.int .i64 n]) (by simp [results,Tryd.results10,go_sem,d0,d1,d2,d3,d4]) rfl ?_
 exact ⟨rfl,put5_below H1.out.below (by omega) _ _ _ _ _⟩
def Outc (g:GV) (c:GC) (y:GV) (n:Int):Prop:=ChkIs g c n∧((n≠0∧y=noG)∨(n=0∧c.Sound∧∃ h,g.get c.path=some h∧chkH h c=0∧g.put (doH h c) c.path=some y))
theorem Outc.sound {g:GV} {c:GC} {y:GV} {n:Int} (h:Outc g c y n) (hg:g.Sound):y.Sound:=by
 obtain ⟨_,⟨_,rfl⟩ | ⟨_,hS,k,h1,h2,h3⟩⟩:=h
 ·exact vok_no.1
 ·exact put_sound (doH_sound (get_soundG _ _ _ hg h1) hS h2) _ _ _ hg h3
def DoA (y:GV) (r:Value) (w:World) (e:Ending) (w':World):Prop:=∃ BL BO dB dP,e=.returned (.tuple #[.agg #[.int .u8 y.kind,.int .i64 y.num,.string y.str,.slice BL y.items.length dB,.slice BO y.vals.length dP],r])∧VlNew w.heap.size w' y BL BO dB dP∧Below w.heap.size w w'
theorem vlnew_no (n:Nat) (W:World):VlNew n W noG none none 0 0:=⟨.inl ⟨rfl,rfl⟩,⟨rfl,.inl ⟨rfl,rfl⟩⟩⟩
theorem ref_DoO (g:GV) (GL GO:Option Addr) (eL eO:Nat) (c:GC) (A AL AO:Option Addr) (cp cL cO:Nat) (w:World) (hg:Vl w g GL GO eL eO) (hc:Cc w c A AL AO cp cL cO) (hgw:g.weight≤1000000) (hs:Small c) (hpos:c.v.Pos) (hgs:g.Sound) (hT:Tabs w) {y:GV} {n:Int} (ho:Outc g c y n):
  Calls Tryd.prog 10 #[.agg #[.int .u8 g.kind,.int .i64 g.num,.string g.str,.slice GL g.items.length eL,.slice GO g.vals.length eO],.agg #[.int .u8 c.kind,.slice A c.path.length cp,.string c.key,.int .i64 c.i,.int .i64 c.j,.int .i64 c.n,.int .u8 c.v.kind,.int .i64 c.v.num,.string c.v.str,.slice AL c.v.items.length cL,.slice AO c.v.vals.length cO,.string c.s]] w (DoA y (.int .i64 n) w):=by
 obtain ⟨hn,⟨h0,rfl⟩ | ⟨rfl,hS,h,h1,h2,h3⟩⟩:=ho
 ·exact (docD_no g GL GO eL eO c A AL AO cp cL cO w hg hc hgw hs hpos hT n hn h0).mono fun e w' ⟨he,hb⟩=>⟨none,none,0,0,he,vlnew_no _ _,hb⟩
 ·have hgh:=get_soundG _ _ _ hgs h1
  have hk:=hS.2.2.2.2.1.1
  rcases (show c.kind=1∨c.kind=2∨c.kind=3∨(4≤c.kind∧c.kind≤7)∨c.kind=8∨c.kind=9 by omega) with q | q | q | q | q | q
  ·exact docD_a g GL GO eL eO c A AL AO cp cL cO w hg hc hgw hs hpos hT h y hS h1 h2 h3 hgh q
  ·exact docD_f2 g GL GO eL eO c A AL AO cp cL cO w hg hc hgw hs hpos hT h y hS h1 h2 h3 hgh q
  ·exact docD_f3 g GL GO eL eO c A AL AO cp cL cO w hg hc hgw hs hpos hT h y hS h1 h2 h3 hgh q
  ·exact docD_l g GL GO eL eO c A AL AO cp cL cO w hg hc hgw hs hpos hT h y hS h1 h2 h3 hgh q
  ·exact docD_s g GL GO eL eO c A AL AO cp cL cO w hg hc hgw hs hpos hT h y hS h1 h2 h3 hgh q
  ·exact docD_d g GL GO eL eO c A AL AO cp cL cO w hg hc hgw hs hpos hT h y hS h1 h2 h3 hgh q
end Go.Proofs.YtlhfnemcpgfcdaaDoor
namespace Go.Proofs.YtlhfnemcpgfcdaaDoor
open Go Go.RowKit
set_option linter.unusedVariables false
set_option linter.unusedSimpArgs false
theorem runs_at {y:GV}:∀ {es:List EC} {g:GV},Runs g es y→∀ (k:Nat) (E:EC),es[k]? = some E→∃ a z,Runs g (es.take k) a∧Does1 a E.c z
 | [],_,_,k,E,hE=>by simp at hE
 | e :: r,g,⟨z,hz,hr⟩,0,E,hE=>by
  simp at hE
  subst hE
  exact ⟨g,z,rfl,hz⟩
 | e :: r,g,⟨z,hz,hr⟩,k+1,E,hE=>by
  obtain ⟨a,u,h1,h2⟩:=runs_at hr k E (by simpa using hE)
  exact ⟨a,u,⟨z,hz,h1⟩,h2⟩
theorem does_outc {g z:GV} {c:GC} (h:Does1 g c z):Outc g c z 0:=by
 obtain ⟨hc,h,h1,h2,h3⟩:=h
 refine ⟨hc,.inr ⟨rfl,?_,h,h1,h2,h3⟩⟩
 rcases hc with ⟨_,e⟩ | ⟨hS,_⟩
 ·exact absurd e (by decide)
 ·exact hS
theorem runs_sound {y:GV}:∀ {es:List EC} {g:GV},Runs g es y→g.Sound→y.Sound
 | [],g,h,hg=>by rw [show y=g from h];exact hg
 | e :: r,g,⟨z,hz,hr⟩,hg=>runs_sound hr ((does_outc hz).sound hg)
def DoneIs (ok:Nat→Prop) (y:GV) (w:World) (e:Ending) (w':World):Prop:=∃ BL BO dL dO,e=.returned (.tuple #[.agg #[.int .u8 y.kind,.int .i64 y.num,.string y.str,.slice BL y.items.length dL,.slice BO y.vals.length dO],.bool true])∧VlIn (fun k=>ok k∨w.heap.size≤k) w' y BL BO dL dO∧Below w.heap.size w w'
theorem tie_ba {w W:World} (h:Below w.heap.size w W) (o:Obj):Below w.heap.size w (W.alloc o):=h.alloc h.size o
theorem tie_bd {w W:World} (h:Below w.heap.size w W):Below w.heap.size w W.drew:=h.drew
theorem tie_wa {W:World} {b:Nat} {t:TypeId} {cs:Array Value} (h:Whole W b t cs) (o:Obj):Whole (W.alloc o) b t cs:=h.alloc o
theorem tie_wd {W:World} {b:Nat} {t:TypeId} {cs:Array Value} (h:Whole W b t cs):Whole W.drew b t cs:=h.of_eq rfl
theorem tie_wb {W W':World} {b:Nat} {t:TypeId} {cs:Array Value} (hb:Below W.heap.size W W') (h:Whole W b t cs):Whole W' b t cs:=h.below hb h.lt
theorem tie_wn {W:World} {b:Nat} {t:TypeId} {cs:Array Value} (hb:b=W.heap.size):Whole (W.alloc (.cells cs t)) b t cs:=by subst hb;exact Whole.new W t cs
structure DStep (w:World) (y:GV) (BL BO:Option Addr) (dL dO:Nat) (z:GV) (p q:Value) (W:World):Prop where
 at7:∃ (b:Nat) (ZL ZO:Option Addr) (zL zO:Nat),p=.pointer (some ⟨b,0,none⟩)∧q=.int .i64 0∧Whole W b 31 #[.int .u8 z.kind,.int .i64 z.num,.string z.str,.slice ZL z.items.length zL,.slice ZO z.vals.length zO]∧VlNew (w.heap.size+1+1) W z ZL ZO zL zO
 v:Whole W w.heap.size 31 #[.int .u8 y.kind,.int .i64 y.num,.string y.str,.slice BL y.items.length dL,.slice BO y.vals.length dO]
 r:Whole W (w.heap.size+1) 31 #[.int .u8 0,.int .i64 0,.string ⟨#[]⟩,.slice none 0 0,.slice none 0 0]
 below:Below w.heap.size w W
theorem VlNew.put5 {n b:Nat} {W:World} {y:GV} {BL BO:Option Addr} {dL dO:Nat} (h:VlNew n W y BL BO dL dO) (hb:b<n) (a0 a1 a2 a3 a4:Value):VlNew n (put5 W b a0 a1 a2 a3 a4) y BL BO dL dO:=
 ⟨h.1.keep (fun k hk _=>put5_block _ _ _ _ _ _ _ _ (by omega)) (fun _ hk _=>hk),h.2.keep (fun k hk _=>put5_block _ _ _ _ _ _ _ _ (by omega)) (fun _ hk _=>hk)⟩
theorem DStep.put {ok:Nat→Prop} {w:World} {y:GV} {BL BO:Option Addr} {dL dO:Nat} {z:GV} {p q:Value} {W:World} (h:DStep w y BL BO dL dO z p q W) {ZL ZO:Option Addr} {zL zO:Nat} (hz:VlNew (w.heap.size+1+1) W z ZL ZO zL zO):
  NB ok w (Go.Proofs.YtlhfnemcpgfcdaaDoor.put5 W w.heap.size (.int .u8 z.kind) (.int .i64 z.num) (.string z.str) (.slice ZL z.items.length zL) (.slice ZO z.vals.length zO)) z ZL ZO zL zO:=
 ⟨whole_put5 h.v _ _ _ _ _,h.r.of_eq (put5_block _ _ _ _ _ _ _ _ (by omega)),⟨hz.1.keep (fun k hk _=>put5_block _ _ _ _ _ _ _ _ (by omega)) (fun k hk _=>.inr hk),hz.2.keep (fun k hk _=>put5_block _ _ _ _ _ _ _ _ (by omega)) (fun k hk _=>.inr hk)⟩,put5_below h.below (Nat.le_refl _) _ _ _ _ _⟩
theorem law7_done (ok:Nat→Prop) (g:GV) (GL GO:Option Addr) (eL eO:Nat) (es:List EC) (A:Option Addr) (cap:Nat) (t:GV) (w:World) (hg:VlIn ok w g GL GO eL eO) (ho:Ops w A cap es) (hgs:g.Sound) (hpos:∀ e∈es,e.c.v.Pos) (hr:Runs g es t) (hw:g.weight+loads es≤1000000) (hT:Tabs w):
  Calls Tryd.prog 8 #[.agg #[.int .u8 g.kind,.int .i64 g.num,.string g.str,.slice GL g.items.length eL,.slice GO g.vals.length eO],.slice A es.length cap] w (DoneIs ok t w):=by
 have HO:=Lib.hid ho
 have HT:=Lib.hid hT
 have HRR:=Lib.hid hr
 have HS:=Lib.hid (fun k y (h:Runs g (es.take k) y)=>runs_sound h hgs)
 have HP:=Lib.hid hpos
 have HW:=Lib.hid (runs_light hw)
 have H0:=Lib.hid (NB.new hg)
 have h1:=ho.le
 have h2:=ho.cap
 unfold maxLen at h2
 clear ho hg hT hw hgs hpos hr
 generalize hn:es.length=n at *
 have HN:=Lib.hid hn
 clear hn
 go_enter Tryd.func8,Tryd.ntmps8
 go_wp2
 generalize hW0:((w.alloc (.cells #[.int .u8 g.kind,.int .i64 g.num,.string g.str,.slice GL g.items.length eL,.slice GO g.vals.length eO] 31)).alloc (.cells #[.int .u8 0,.int .i64 0,.string ⟨#[]⟩,.slice none 0 0,.slice none 0 0] 31))=W0 at *
 clear hW0
 go_loopw [6] (fun i wr=>DRel ok g es n w i wr) (fun i _=>n - (intOf i).toNat)
 case atStart=>exact ⟨0,g,GL,GO,eL,eO,rfl,Nat.zero_le _,rfl,H0.out⟩
 case round=>
  obtain ⟨k,y,BL,BO,dL,dO,rfl,hk,hr,hB⟩:=hrel
  have HR:=Lib.hid hr
  have HB:=Lib.hid hB
  clear hr hB
  by_cases hlt:k<n
  ·have hke:k<es.length:=by have:=HN.out;omega
   obtain ⟨b,o,rfl,hbl,hc⟩:=HO.out.here (by intro e;simp [e] at hke)
   obtain ⟨h12,hok⟩:=hc k es[k] (List.getElem?_eq_getElem hke)
   have HE:=Lib.hid (List.getElem?_eq_getElem hke)
   have hpe:=HP.out es[k] (List.getElem_mem hke)
   generalize es[k]=E at *
   have h12w:=h12.below HB.out.below hbl
   obtain ⟨c0,c1,c2,c3,c4,c5,c6,c7,c8,c9,c10,c11⟩:=id h12w
   obtain ⟨a,z,ha,hd⟩:=runs_at HRR.out k E HE.out
   obtain rfl:=runs_one HR.out ha
   have HD:=Lib.hid hd
   have HC:=Lib.hid (fun W' (hb:Below wr.heap.size wr W')=>ref_DoO y BL BO dL dO E.c E.A E.AL E.AO E.cp E.cL E.cO W' (HB.out.vl.later hb) ((hok.1.later HB.out.below).later hb) (HW.out k y HR.out) hok.2 hpe (HS.out k y HR.out) ((HT.out.below HB.out.below (Nat.le_refl _)).below hb (by have:=HB.out.below.size;omega)) (does_outc HD.out))
   clear hc h12 hok hke hpe ha hd
   have KEEP:=Lib.hid (fun (W:World) (hb:Below wr.heap.size wr W)=>(fun (q:C12 W b (o+k * 12) E) (v:Five W w.heap.size _ _ _ _ _)=>And.intro v.c0 (And.intro v.c1 (And.intro v.c2 (And.intro v.c3 (And.intro v.c4 (And.intro q.c0 (And.intro q.c1 (And.intro q.c2 (And.intro q.c3 (And.intro q.c4 (And.intro q.c5 (And.intro q.c6 (And.intro q.c7 (And.intro q.c8 (And.intro q.c9 (And.intro q.c10 q.c11)))))))))))))))) (h12w.below hb (Nat.lt_of_lt_of_le hbl HB.out.below.size)) (HB.out.v.below hb HB.out.v.lt).five)
   clear h12w hbl
   obtain ⟨v0,v1,v2,v3,v4,_⟩:=HB.out.v.five
   go_wp2_with fail
   go_cut [7,8] from 9 to 27 (DStep w y BL BO dL dO z)
   case first=>
    go_region_held3 (fun W=>W.cell? ⟨w.heap.size,0,none⟩=some (.int .u8 y.kind)∧W.cell? ⟨w.heap.size,1,none⟩=some (.int .i64 y.num)∧W.cell? ⟨w.heap.size,2,none⟩=some (.string y.str)∧W.cell? ⟨w.heap.size,3,none⟩=some (.slice BL y.items.length dL)∧W.cell? ⟨w.heap.size,4,none⟩=some (.slice BO y.vals.length dO)∧W.cell? ⟨b,o+k * 12,none⟩=some (.int .u8 E.c.kind)∧W.cell? ⟨b,o+k * 12+1,none⟩=some (.slice E.A E.c.path.length E.cp)∧W.cell? ⟨b,o+k * 12+2,none⟩=some (.string E.c.key)∧W.cell? ⟨b,o+k * 12+3,none⟩=some (.int .i64 E.c.i)∧W.cell? ⟨b,o+k * 12+4,none⟩=some (.int .i64 E.c.j)∧W.cell? ⟨b,o+k * 12+5,none⟩=some (.int .i64 E.c.n)∧W.cell? ⟨b,o+k * 12+6,none⟩=some (.int .u8 E.c.v.kind)∧W.cell? ⟨b,o+k * 12+7,none⟩=some (.int .i64 E.c.v.num)∧W.cell? ⟨b,o+k * 12+8,none⟩=some (.string E.c.v.str)∧W.cell? ⟨b,o+k * 12+9,none⟩=some (.slice E.AL E.c.v.items.length E.cL)∧W.cell? ⟨b,o+k * 12+10,none⟩=some (.slice E.AO E.c.v.vals.length E.cO)∧W.cell? ⟨b,o+k * 12+11,none⟩=some (.string E.c.s))
     (first | exact KEEP.out _ B1.out | exact KEEP.out _ (put5_below B1.out (Nat.le_refl _) _ _ _ _ _) | exact KEEP.out _ (tie_ba B1.out _) | exact KEEP.out _ (by repeat (first | with_reducible exact Below.refl _ _ | with_reducible refine tie_bd ?_ | with_reducible refine tie_ba ?_ _)))
     (first
      | (go_at_call 10;((with_reducible refine (HC.out _ (show Below wr.heap.size wr wr.drew from (tie_bd (Below.refl _ _)))).mono ?_);rintro e w1 ⟨ZL,ZO,zL,zO,rfl,hv,hb⟩;have HV1:=Lib.hid hv;have B1:=Lib.hid (show Below wr.heap.size wr w1 from Below.trans (show Below wr.heap.size wr wr.drew from (tie_bd (Below.refl _ _))) (hb.mono (by simp)));clear hv hb))
      | (go_at_call 10;((with_reducible refine (HC.out _ (show Below wr.heap.size wr (wr.alloc (.cells #[.int .u8 0,.int .i64 0,.string ⟨#[]⟩,.slice none 0 0,.slice none 0 0] 31)).drew from (tie_bd (tie_ba (Below.refl _ _) _)))).mono ?_);rintro e w1 ⟨ZL,ZO,zL,zO,rfl,hv,hb⟩;have HV1:=Lib.hid hv;have B1:=Lib.hid (show Below wr.heap.size wr w1 from Below.trans (show Below wr.heap.size wr (wr.alloc (.cells #[.int .u8 0,.int .i64 0,.string ⟨#[]⟩,.slice none 0 0,.slice none 0 0] 31)).drew from (tie_bd (tie_ba (Below.refl _ _) _))) (hb.mono (by simp)));have Z1:=Lib.hid ((tie_wd (tie_wn (W:=wr) (b:=wr.heap.size) (t:=31) (cs:=#[.int .u8 0,.int .i64 0,.string ⟨#[]⟩,.slice none 0 0,.slice none 0 0]) rfl)).below hb (by simp));obtain ⟨z0,z1,z2,z3,z4,f0,f1,f2,f3,f4⟩:=Z1.out.five;clear hv hb)))
    all_goals go_wp2_with fail
    all_goals go_meet
    ·have h1:=HB.out.step B1.out
     exact ⟨⟨w1.heap.size,ZL,ZO,zL,zO,rfl,rfl,tie_wn rfl,(HV1.out.mono (by have:=HB.out.size;simp;omega)).alloc _⟩,h1.v.alloc _,h1.r.alloc _,tie_ba h1.below _⟩
    ·have h1:=HB.out.step B1.out
     have hsz:=HB.out.size
     exact ⟨⟨wr.heap.size,ZL,ZO,zL,zO,rfl,rfl,whole_put5 Z1.out _ _ _ _ _,(VlNew.put5 (HV1.out.mono (m:=wr.heap.size+1) (by simp)) (by omega) _ _ _ _ _).mono (by omega)⟩,h1.v.of_eq (put5_block _ _ _ _ _ _ _ _ (by omega)),h1.r.of_eq (put5_block _ _ _ _ _ _ _ _ (by omega)),put5_below h1.below (by omega) _ _ _ _ _⟩
   case rest=>
    obtain ⟨⟨b7,ZL,ZO,zL,zO,rfl,rfl,h7,hz⟩,hv,hr7,hb7⟩:=hcut
    have H5:=Lib.hid (DStep.put (ok:=ok) (DStep.mk (z:=z) (p:=.pointer (some ⟨b7,0,none⟩)) (q:=.int .i64 0) ⟨b7,ZL,ZO,zL,zO,rfl,rfl,h7,hz⟩ hv hr7 hb7) hz)
    obtain ⟨d0,d1,d2,d3,d4,_⟩:=h7.five
    obtain ⟨v0,v1,v2,v3,v4,f0,f1,f2,f3,f4⟩:=hv.five
    clear h7 hz hv hr7 hb7 KEEP
    go_wp2_with fail
    have h5:=H5.out
    unfold put5 at h5
    go_roundw
    case rel=>exact ⟨k+1,z,ZL,ZO,zL,zO,by go_num,by omega,runs_next HR.out HE.out HD.out,h5⟩
    case measure=>simp [intOf];omega
  ·obtain ⟨v0,v1,v2,v3,v4,_⟩:=HB.out.v.five
   obtain ⟨r0,r1,r2,r3,r4,f0,f1,f2,f3,f4⟩:=HB.out.r.five
   go_wp2
   have h5:=whole_put5 HB.out.r (.int .u8 y.kind) (.int .i64 y.num) (.string y.str) (.slice BL y.items.length dL) (.slice BO y.vals.length dO)
   obtain ⟨d0,d1,d2,d3,d4,_⟩:=h5.five
   unfold put5 at d0 d1 d2 d3 d4
   refine bodyPost_ret (v:=.tuple #[.agg #[.int .u8 y.kind,.int .i64 y.num,.string y.str,.slice BL y.items.length dL,.slice BO y.vals.length dO],.bool true]) (by simp [results,Tryd.results8,go_sem,d0,d1,d2,d3,d4]) rfl ?_
   have hrn:Runs g es y:=by
    have h1:=HN.out
    have h2:=HR.out
    rwa [List.take_of_length_le (by omega)] at h2
   obtain rfl:=runs_one hrn HRR.out
   refine ⟨BL,BO,dL,dO,rfl,?_,put5_below HB.out.below (by omega) _ _ _ _ _⟩
   have hsz:∀ k,Off ok w.heap.size k→ok k∨w.heap.size≤k:=fun k hk=>by
    rcases hk with ⟨hk,_⟩ | hk
    ·exact .inl hk
    ·exact .inr (by omega)
   exact ⟨HB.out.off.1.keep (fun k hk _=>put5_block _ _ _ _ _ _ _ _ (by have:=hk.ne.2;omega)) (fun k hk _=>hsz k hk),HB.out.off.2.keep (fun k hk _=>put5_block _ _ _ _ _ _ _ _ (by have:=hk.ne.2;omega)) (fun k hk _=>hsz k hk)⟩
end Go.Proofs.YtlhfnemcpgfcdaaDoor
namespace Go.Proofs.YtlhfnemcpgfcdaaDoor
open Go Go.RowKit Go.Shelf
open Go.Sort (grow)
set_option linter.unusedVariables false
set_option linter.unusedSimpArgs false
theorem turn_alone' (c:GC) (A AL AO:Option Addr) (cp cL cO n:Nat) (w:World) (hn:c.path.length=n) (hc:Cc w c A AL AO cp cL cO) (hb:CBd c):Calls Tryd.prog 16 #[.agg #[.int .u8 c.kind,.slice A n cp,.string c.key,.int .i64 c.i,.int .i64 c.j,.int .i64 c.n,.int .u8 c.v.kind,.int .i64 c.v.num,.string c.v.str,.slice AL c.v.items.length cL,.slice AO c.v.vals.length cO,.string c.s]] w (AloneIs c w):=by
 subst hn
 exact turn_alone c A AL AO cp cL cO w hc hb
theorem clone_steps {w:World} {A:Option Addr} {cp:Nat} {ps:List GStep} (hp:Wy w A cp ps) (hne:ps≠[]) (hsz:ps.length≤1000000000):Calls Tryd.prog 45 #[.slice A ps.length cp] w fun e w'=>∃ g d cur,e=.returned (.slice (some ⟨g,0,none⟩) ps.length d)∧w.heap.size≤g∧Whole w' g 50 cur∧StepsAt w' ⟨g,0,none⟩ ps∧(ps.length≤d∧d≤maxLen)∧Below w.heap.size w w':=by
 obtain ⟨⟨b,o,sp⟩,rfl,hs,hlt,hc⟩:=hp.steps hne
 simp only at hs
 subst hs
 obtain ⟨i0,hi,hz0,hz1,hz2⟩:=info_parts infoStep
 have hle:=hp.le
 have hcap:=hp.cap
 refine Calls.mono (AnyE.slices_Clone Tryd.cloneS i0 _ 3 32 hi hz0 hz1 hz2 rfl (by decide) Tryd.sizeOf50 b o ps.length cp (ps.flatMap encG) w (flat_len ps) (by unfold maxLen;omega) (by omega) (fun j u hj=>by simpa [addr_add0] using steps_cells hc j u hj) (flat_one ps)) fun e w' ⟨v',he,ho,_,hb⟩=>?_
 rcases ho.2 with ⟨_,hn⟩ | ⟨g,cap,cur,rfl,hg,hcell,h1,h2,h3,h4⟩
 ·exact absurd (List.length_eq_zero_iff.1 hn) hne
 ·refine ⟨g,cap,cur,he,hg,hcell,cells_steps fun j u hj=>?_,⟨h1,h2⟩,hb⟩
  have:=ho.cells (g:=g) rfl j u hj
  simpa [addr_add0] using this
theorem steps_store {W:World} {g at':Nat} {ps:List GStep} {s:GStep} {i:Int} {cur:Array Value} (hW:Whole W g 50 cur) (hst:StepsAt W ⟨g,0,none⟩ ps) (hs:ps[at']? = some s):
  StepsAt (W.setCell ⟨g,at' * 3+1,none⟩ (.int .i64 i)) ⟨g,0,none⟩ (ps.set at' ⟨s.list,i,s.key⟩):=by
 have hl:=(List.getElem?_eq_some_iff.1 hs).1
 intro j t hj
 simp only [Nat.zero_add]
 have h1:(W.setCell ⟨g,at' * 3+1,none⟩ (.int .i64 i)).cell? ⟨g,at' * 3+1,none⟩=some (.int .i64 i):=World.cell?_setCell_same' _ _ _ (by have:=(hst at' s hs).2.1;simp only [Nat.zero_add] at this;rw [this];rfl)
 have hoth:∀ o,o≠at' * 3+1→(W.setCell ⟨g,at' * 3+1,none⟩ (.int .i64 i)).cell? ⟨g,o,none⟩=W.cell? ⟨g,o,none⟩:=fun o ho=>World.cell?_setCell_other _ _ _ _ (by intro h;cases h;exact ho rfl)
 by_cases e:j=at'
 ·subst e
  rw [List.getElem?_set_self hl] at hj
  cases hj
  obtain ⟨q0,_,q2⟩:=hst j s hs
  simp only [Nat.zero_add] at q0 q2
  exact ⟨(hoth _ (by omega)).trans q0,h1,(hoth _ (by omega)).trans q2⟩
 ·rw [List.getElem?_set_ne (by omega)] at hj
  obtain ⟨q0,q1,q2⟩:=hst j t hj
  simp only [Nat.zero_add] at q0 q1 q2
  exact ⟨(hoth _ (by omega)).trans q0,(hoth _ (by omega)).trans q1,(hoth _ (by omega)).trans q2⟩
theorem cc_store {w w3:World} {a:GC} {A AL AO:Option Addr} {ap aL aO g d at':Nat} {s:GStep} {i:Int} {cur:Array Value} (ha:Cc w a A AL AO ap aL aO) (hb:Below w.heap.size w w3) (hg:w.heap.size<g) (hcur:Whole w3 g 50 cur) (hst:StepsAt w3 ⟨g,0,none⟩ a.path) (hd:a.path.length≤d∧d≤maxLen) (hs:a.path[at']? = some s) (u:Value):
  Cc ((w3.setCell ⟨w.heap.size,1,none⟩ u).setCell ⟨g,at' * 3+1,none⟩ (.int .i64 i)) ⟨a.kind,a.path.set at' ⟨s.list,i,s.key⟩,a.key,a.i,a.j,a.n,a.v,a.s⟩ (some ⟨g,0,none⟩) AL AO d aL aO∧Below w.heap.size w ((w3.setCell ⟨w.heap.size,1,none⟩ u).setCell ⟨g,at' * 3+1,none⟩ (.int .i64 i)):=by
 have hB:=(hb.setCell (p:=⟨w.heap.size,1,none⟩) (Nat.le_refl _) u).setCell (p:=⟨g,at' * 3+1,none⟩) (by simp only;omega) (.int .i64 i)
 refine ⟨⟨⟨fun _=>⟨_,rfl,rfl,?_,steps_store (hcur.far (by simp only;omega) u) (fun j t hj=>?_) hs⟩,by simpa using hd.1,hd.2⟩,ha.v.later hB⟩,hB⟩
 ·have:=hcur.lt
  rw [size_set,size_set]
  exact this
 ·obtain ⟨q0,q1,q2⟩:=hst j t hj
  have hoth:∀ o,(w3.setCell ⟨w.heap.size,1,none⟩ u).cell? ⟨g,o,none⟩=w3.cell? ⟨g,o,none⟩:=fun o=>World.cell?_setCell_other _ _ _ _ (by intro h;cases h;omega)
  exact ⟨(hoth _).trans q0,(hoth _).trans q1,(hoth _).trans q2⟩
theorem cbd_set {a:GC} (h:CBd a) {at':Nat} {s:GStep} (hs:a.path[at']? = some s) (i:Int):CBd ⟨a.kind,a.path.set at' ⟨s.list,i,s.key⟩,a.key,a.i,a.j,a.n,a.v,a.s⟩:=
 ⟨h.v,by simpa using h.p,h.k,h.s,fun t ht=>by
  rcases List.mem_or_eq_of_mem_set ht with h1 | h1
  ·exact h.pk t h1
  ·rw [h1];exact h.pk s (List.mem_of_getElem? hs)⟩
theorem inside_there (a:GC) (A AL AO B BL BO:Option Addr) (ap aL aO bp bL bO kd bi bj x at':Nat) (bpath:List GStep) (bkey bs:ByteArray) (bn:Int) (bv:GV) (s:GStep) (w:World) (ha:Cc w a A AL AO ap aL aO) (hba:CBd a) (hs:a.path[at']? = some s) (hx:s.i=x) (hx1:x≤549755813888) (hi1:bi≤549755813888) (hj1:bj≤549755813888) (hatb:atB x kd bi=true):Calls Tryd.prog 28 #[.agg #[.int .u8 a.kind,.slice A a.path.length ap,.string a.key,.int .i64 a.i,.int .i64 a.j,.int .i64 a.n,.int .u8 a.v.kind,.int .i64 a.v.num,.string a.v.str,.slice AL a.v.items.length aL,.slice AO a.v.vals.length aO,.string a.s],.int .i64 at',.agg #[.int .u8 kd,.slice B bpath.length bp,.string bkey,.int .i64 bi,.int .i64 bj,.int .i64 bn,.int .u8 bv.kind,.int .i64 bv.num,.string bv.str,.slice BL bv.items.length bL,.slice BO bv.vals.length bO,.string bs]] w (AloneIs ⟨a.kind,a.path.set at' ⟨s.list,(atV x kd bi bj:Nat),s.key⟩,a.key,a.i,a.j,a.n,a.v,a.s⟩ w):=by
 have hat:=(List.getElem?_eq_some_iff.1 hs).1
 have hne:a.path≠[]:=by intro e;rw [e] at hs;cases hs
 obtain ⟨⟨pb,po,sp⟩,rfl,hsp,hplt,hcells⟩:=ha.path.steps hne
 simp only at hsp
 subst hsp
 have hxc:=(hcells at' s hs).2.1
 rw [hx] at hxc
 simp only at hxc
 have hle:=ha.path.le
 have hcap:=ha.path.cap
 unfold maxLen at hcap
 have hpl:=hba.p
 have H0:=Lib.hid (CTwo.new w #[.int .u8 a.kind,.slice (some ⟨pb,po,none⟩) a.path.length ap,.string a.key,.int .i64 a.i,.int .i64 a.j,.int .i64 a.n,.int .u8 a.v.kind,.int .i64 a.v.num,.string a.v.str,.slice AL a.v.items.length aL,.slice AO a.v.vals.length aO,.string a.s] #[.int .u8 kd,.slice B bpath.length bp,.string bkey,.int .i64 bi,.int .i64 bj,.int .i64 bn,.int .u8 bv.kind,.int .i64 bv.num,.string bv.str,.slice BL bv.items.length bL,.slice BO bv.vals.length bO,.string bs])
 have hxw:=H0.out.below.cell (p:=⟨pb,po+at' * 3+1,none⟩) hplt
 rw [hxc] at hxw
 have D1:=Lib.hid (fun (W0:World) (d:Nat) (os:Array Obj)=>Calls.regrown_of (at_any x bi bj kd B BL BO bpath.length bp bv.items.length bL bv.vals.length bO bkey bv.str bs bn bv.kind bv.num (grow (redrawn W0 d) os) hx1 hi1 hj1))
 rw [hatb] at D1
 have HN:=Lib.hid (And.intro hs (And.intro hne ha))
 have HBA:=Lib.hid hba
 clear hs hx hxc hcells hne ha hba hx1 hi1 hj1 hatb
 generalize hn:a.path.length=n at *
 have HNN:=Lib.hid hn
 clear hn
 go_enter Tryd.func28,Tryd.ntmps28
 go_wp2_with fail
 obtain ⟨p0,p1,p2,p3,p4,p5,p6,p7,p8,p9,p10,p11,_⟩:=H0.out.a.tw
 obtain ⟨q0,q1,q2,q3,q4,q5,q6,q7,q8,q9,q10,q11,_⟩:=H0.out.b.tw
 generalize ((w.alloc (.cells #[.int .u8 a.kind,.slice (some ⟨pb,po,none⟩) n ap,.string a.key,.int .i64 a.i,.int .i64 a.j,.int .i64 a.n,.int .u8 a.v.kind,.int .i64 a.v.num,.string a.v.str,.slice AL a.v.items.length aL,.slice AO a.v.vals.length aO,.string a.s] 36)).alloc (.cells #[.int .u8 kd,.slice B bpath.length bp,.string bkey,.int .i64 bi,.int .i64 bj,.int .i64 bn,.int .u8 bv.kind,.int .i64 bv.num,.string bv.str,.slice BL bv.items.length bL,.slice BO bv.vals.length bO,.string bs] 36))=W1 at *
 have u1:=cell_regrown p1
 have ux:=cell_regrown hxw
 have r0:=cell_regrown q0;have r1:=cell_regrown q1;have r2:=cell_regrown q2;have r3:=cell_regrown q3;have r4:=cell_regrown q4;have r5:=cell_regrown q5;have r6:=cell_regrown q6;have r7:=cell_regrown q7;have r8:=cell_regrown q8;have r9:=cell_regrown q9;have r10:=cell_regrown q10;have r11:=cell_regrown q11
 clear p0 p1 p2 p3 p4 p5 p6 p7 p8 p9 p10 p11 q0 q1 q2 q3 q4 q5 q6 q7 q8 q9 q10 q11 hxw
 refine wp_region_quiet_below (by kernel_rfl) (by kernel_rfl) ?_
 repeat (any_goals (go_big_quiet_step (first | with_reducible exact D1.out _ _ _)))
 refine wpQuiet_nil ?_
 intro _ hw'
 obtain ⟨⟨dq,osq⟩,hw''⟩:=hw'
 subst hw''
 have HB2:=Lib.hid (below_regrown W1 dq osq)
 clear u1 ux r0 r1 r2 r3 r4 r5 r6 r7 r8 r9 r10 r11
 generalize (grow (redrawn W1 dq) osq)=W2 at *
 have HCL:=Lib.hid (fun W (h:Below w.heap.size w W)=>clone_steps (HN.out.2.2.path.later h) HN.out.2.1 (by have:=HNN.out;omega))
 rw [HNN.out] at HCL
 have H2:=Lib.hid (H0.out.step HB2.out)
 obtain ⟨p0,p1,p2,p3,p4,p5,p6,p7,p8,p9,p10,p11,f0,f1,_⟩:=H2.out.a.tw
 go_wp2_with (first
  | (go_at_call 45;refine (HCL.out _ H2.out.below).mono ?_;rintro e w3 ⟨g,d,cur,rfl,hg,hcur,hst,hd,hb⟩;have H3:=Lib.hid (And.intro (H2.out.step hb) (And.intro hg (And.intro hcur (And.intro hst (And.intro hd hb)))));clear hg hcur hst hd hb p0 p1 p2 p3 p4 p5 p6 p7 p8 p9 p10 p11 f0 f1;obtain ⟨p0,p1,p2,p3,p4,p5,p6,p7,p8,p9,p10,p11,f0,f1,_⟩:=H3.out.1.a.tw;have hgc:=(H3.out.2.2.2.1 at' s HN.out.1).2.1;simp only [Nat.zero_add] at hgc;have hgf:=H3.out.2.2.1.frozen (at' * 3+1);have hgd:=H3.out.2.2.2.2.1.1;have hne1:(g=w.heap.size)=False:=(by have:=H2.out.below.size;have:=H2.out.b.lt;have:=H3.out.2.1;simp;omega);have hne2:(w.heap.size=g)=False:=(by simp at hne1 ⊢;omega))
  | (go_at_call 16;go_loud (have HST:=Lib.hid (cc_store (i:=(atV x kd bi bj:Nat)) HN.out.2.2 H3.out.1.below (by have:=H2.out.below.size;have:=H2.out.b.lt;have:=H3.out.2.1;omega) H3.out.2.2.1 H3.out.2.2.2.1 (by rw [HNN.out];exact H3.out.2.2.2.2.1) HN.out.1 (.slice (some ⟨g,0,none⟩) n d));refine (turn_alone' ⟨a.kind,a.path.set at' ⟨s.list,(atV x kd bi bj:Nat),s.key⟩,a.key,a.i,a.j,a.n,a.v,a.s⟩ (some ⟨g,0,none⟩) AL AO d aL aO n _ (by have:=HNN.out;simpa using this) HST.out.1 (cbd_set HBA.out HN.out.1 _)).mono ?_;rintro e w5 ⟨b',A',AL',AO',cp',cL',cO',rfl,h1,h2,h3,h4⟩;have H5:=Lib.hid (And.intro h1 (And.intro h2 (And.intro h3 h4)));clear h1 h2 h3 h4)))
 go_ret
 exact ⟨b',A',AL',AO',cp',cL',cO',rfl,Nat.le_trans HST.out.2.size H5.out.1,H5.out.2.1,H5.out.2.2.1,HST.out.2.trans (H5.out.2.2.2.mono HST.out.2.size)⟩
end Go.Proofs.YtlhfnemcpgfcdaaDoor
namespace Go.Proofs.YtlhfnemcpgfcdaaDoor
open Go Go.RowKit
set_option linter.unusedVariables false
set_option linter.unusedSimpArgs false
theorem wy_step' {W:World} {S:Nat} {l:Bool} {i:Int} {k:ByteArray} (h:Whole W S 50 #[.bool l,.int .i64 i,.string k]):Wy W (some ⟨S,0,none⟩) 1 [⟨l,i,k⟩]:=⟨fun _=>⟨_,rfl,rfl,h.lt,fun j s hs=>by
 match j,hs with
 | 0,hs=>simp at hs;subst hs;exact ⟨h.cell 0,h.cell 1,h.cell 2⟩
 | j+1,hs=>simp at hs⟩,Nat.le_refl _,by decide⟩
def tkA:GC:=⟨1,[⟨true,1,⟨#[]⟩⟩],⟨#[]⟩,0,0,1,noG,⟨#[]⟩⟩
def tkB:GC:=⟨4,[],⟨#[]⟩,0,0,0,noG,⟨#[]⟩⟩
def tkC:GC:=⟨1,[⟨true,2,⟨#[]⟩⟩],⟨#[]⟩,0,0,1,noG,⟨#[]⟩⟩
def tkP:GC:=⟨2,[],⟨#[97]⟩,0,0,0,noG,⟨#[]⟩⟩
theorem noG_w:noG.weight≤1000000000:=by unfold noG;simp only [GV.weight,GV.weights,List.map_nil,List.sum_nil];decide
theorem tkA_bd:CBd tkA:=⟨noG_w,by decide,by decide,by decide,fun s hs=>by simp [tkA] at hs;subst hs;decide⟩
theorem tkP_bd:CBd tkP:=⟨noG_w,by decide,by decide,by decide,fun s hs=>by simp [tkP] at hs⟩
theorem tk_at:atV 1 4 0 0=2∧atB 1 4 0=true:=by decide +kernel
theorem tk_begins:begins tkA.path tkB.path=true:=by simp [tkA,tkB,begins,Lib.allEq]
theorem tk_begins2:begins tkP.path tkP.path=true:=by simp [tkP,begins,Lib.allEq]
theorem tk_one {W:World} {S:Nat} (h:Whole W S 50 #[.bool true,.int .i64 1,.string ⟨#[]⟩]):
  Calls Tryd.prog 9 #[.agg #[.int .u8 1,.slice (some ⟨S,0,none⟩) 1 1,.string ⟨#[]⟩,.int .i64 0,.int .i64 0,.int .i64 1,.int .u8 0,.int .i64 0,.string ⟨#[]⟩,.slice none 0 0,.slice none 0 0,.string ⟨#[]⟩],.agg #[.int .u8 4,.slice none 0 0,.string ⟨#[]⟩,.int .i64 0,.int .i64 0,.int .i64 0,.int .u8 0,.int .i64 0,.string ⟨#[]⟩,.slice none 0 0,.slice none 0 0,.string ⟨#[]⟩],.bool true] W (AloneIs tkC W):=by
 have ha:Cc W tkA (some ⟨S,0,none⟩) none none 1 0 0:=⟨wy_step' h,vl_noG W⟩
 have hb:Cc W tkB none none none 0 0 0:=⟨wy_nil W,vl_noG W⟩
 have key:Calls Tryd.prog 9 _ W (Ret fun v w'=>AloneIs tkC W (.returned v) w'):=
  turn_longer tkA tkB _ _ _ _ _ _ _ _ _ _ _ _ W ha hb true (fun v w'=>AloneIs tkC W (.returned v) w') tk_begins (by decide) fun W1 hb1=>
   in_list4 tkA _ _ _ none none none _ _ _ 0 0 0 4 0 0 [] ⟨#[]⟩ ⟨#[]⟩ 0 noG ⟨true,1,⟨#[]⟩⟩ W1 (ha.later hb1) rfl rfl rfl _ fun W2 hb2=>
    (inside_there tkA _ _ _ none none none _ _ _ 0 0 0 4 0 0 1 0 [] ⟨#[]⟩ ⟨#[]⟩ 0 noG ⟨true,1,⟨#[]⟩⟩ W2 ((ha.later hb1).later hb2) tkA_bd rfl rfl (by decide) (by decide) (by decide) tk_at.2).mono fun e w' hq=>by
     rw [tk_at.1] at hq
     obtain ⟨b,A,AL,AO,cp,cL,cO,rfl,h1,h2,h3,h4⟩:=hq
     exact ⟨_,rfl,b,A,AL,AO,cp,cL,cO,rfl,Nat.le_trans (Nat.le_trans hb1.size hb2.size) h1,h2,h3,(hb1.trans (hb2.mono hb1.size)).trans (h4.mono (Nat.le_trans hb1.size hb2.size))⟩
 exact key.mono fun e w' ⟨v,he,hq⟩=>by rw [he];exact hq
theorem tk_two (W:World):
  Calls Tryd.prog 9 #[.agg #[.int .u8 2,.slice none 0 0,.string ⟨#[97]⟩,.int .i64 0,.int .i64 0,.int .i64 0,.int .u8 0,.int .i64 0,.string ⟨#[]⟩,.slice none 0 0,.slice none 0 0,.string ⟨#[]⟩],.agg #[.int .u8 2,.slice none 0 0,.string ⟨#[97]⟩,.int .i64 0,.int .i64 0,.int .i64 0,.int .u8 0,.int .i64 0,.string ⟨#[]⟩,.slice none 0 0,.slice none 0 0,.string ⟨#[]⟩],.bool false] W fun e w'=>e=.returned (.slice none 0 0)∧Below W.heap.size W w':=by
 have ha:Cc W tkP none none none 0 0 0:=⟨wy_nil W,vl_noG W⟩
 have key:Calls Tryd.prog 9 _ W (Ret fun v w'=>v=.slice none 0 0∧Below W.heap.size W w'):=
  turn_same tkP tkP _ _ _ _ _ _ _ _ _ _ _ _ W ha ha false (fun v w'=>v=.slice none 0 0∧Below W.heap.size W w') tk_begins2 (by decide) fun W1 hb1=>
   (same_put_put_right tkP tkP _ _ _ _ _ _ _ _ _ _ _ _ W1 (ha.later hb1) tkP_bd rfl rfl (by decide +kernel)).mono fun e w' ⟨he,hb⟩=>⟨_,he,rfl,hb1.trans (hb.mono hb1.size)⟩
 exact key.mono fun e w' ⟨v,he,hv,hb⟩=>by rw [he,hv];exact ⟨rfl,hb⟩
theorem tknown_true (w:World):Calls Tryd.prog 5 #[] w fun e w'=>e=.returned (.bool true)∧Below w.heap.size w w':=by
 have H0:=Lib.hid (Whole.new w 50 #[.bool true,.int .i64 1,.string ⟨#[]⟩])
 have HB0:=Lib.hid (below_alloc w (.cells #[.bool true,.int .i64 1,.string ⟨#[]⟩] 50))
 have HT2:=Lib.hid tk_two
 go_enter Tryd.func5,Tryd.ntmps5
 go_wp2_with (first
  | (go_at_call 9;(with_reducible refine (tk_one H0.out).mono ?_);rintro e w1 ⟨b,A,AL,AO,cp,cL,cO,rfl,h1,h2,h3,h4⟩;have H1:=Lib.hid (And.intro h2 (And.intro h3 (And.intro (HB0.out.trans (h4.mono (by simp))) (H0.out.below h4 (by simp)))));clear h1 h2 h3 h4)
  | (go_at_call 9;(with_reducible refine (HT2.out _).mono ?_);rintro e w2 ⟨rfl,hb⟩;have H2:=Lib.hid (And.intro (H1.out.1.below hb H1.out.1.lt) (And.intro (H1.out.2.1.later hb) (And.intro (H1.out.2.2.1.trans (hb.mono H1.out.2.2.1.size)) (H1.out.2.2.2.below hb H1.out.2.2.2.lt))));clear hb;obtain ⟨d0,d1,d2,d3,d4,d5,d6,d7,d8,d9,d10,d11,_⟩:=H2.out.1.tw;have hp1:=(H2.out.2.2.2.cell 1).trans rfl;obtain ⟨⟨pb,po,sp⟩,rfl,hsp,_,hst⟩:=H2.out.2.1.path.steps (by simp [tkC]);simp only at hsp;subst hsp;have hx:=(hst 0 _ rfl).2.1;simp only [Nat.zero_mul,Nat.add_zero] at hx))
 go_ret
 exact ⟨rfl,H2.out.2.2.1⟩
end Go.Proofs.YtlhfnemcpgfcdaaDoor
namespace Go.Proofs.YtlhfnemcpgfcdaaDoor
open Go Go.RowKit
set_option linter.unusedVariables false
set_option linter.unusedSimpArgs false
structure EAct where
 x:GAct
 P:Option Addr
 pc:Nat
 D:Option Addr
 dc:Nat
def EAct.Ok (w:World) (e:EAct):Prop:=ActOk w e.x e.P e.pc e.D e.dc
def ActsAt (w:World) (b:Nat) (es:List EAct):Prop:=∀ i e,es[i]? = some e→w.cell? ⟨b,i * 7,none⟩=some (.slice e.P e.x.path.length e.pc)∧w.cell? ⟨b,i * 7+5,none⟩=some (.string e.x.s)∧w.cell? ⟨b,i * 7+6,none⟩=some (.slice e.D e.x.v.length e.dc)
def IntBelow (w:World) (e:Ending) (w':World):Prop:=∃ z,e=.returned (.int .i64 z)∧Below w.heap.size w w'
def AnyBool (w:World) (e:Ending) (w':World):Prop:=∃ b,e=.returned (.bool b)∧Below w.heap.size w w'
def HARel (w:World) (m:Nat) (n i:Value) (wr:World):Prop:=∃ (k:Nat) (z:Int),i=.int .i64 k∧n=.int .i64 z∧k≤m∧Below w.heap.size w wr
theorem Heavy_any (es:List EAct) (b c:Nat) (w:World) (hrow:ActsAt w b es) (hbl:b<w.heap.size) (hok:∀ e∈es,e.Ok w) (hn:es.length≤1000) (hc:es.length≤c):Calls Tryd.prog 12 #[.slice (some ⟨b,0,none⟩) es.length c] w (IntBelow w):=by
 have HROW:=Lib.hid hrow
 have HOK:=Lib.hid hok
 clear hrow hok
 generalize hm:es.length=m at *
 have HM:=Lib.hid hm
 clear hm
 go_enter Tryd.func12,Tryd.ntmps12
 go_wp2
 go_loopw [3,4] (HARel w m) (fun _ i _=>m - (intOf i).toNat)
 case atStart=>exact ⟨0,0,rfl,rfl,Nat.zero_le _,Below.refl _ _⟩
 case round=>
  obtain ⟨k,z,rfl,rfl,hk,hB⟩:=hrel
  have HB:=Lib.hid hB
  clear hB
  by_cases hlt:k<m
  ·have hke:k<es.length:=by have:=HM.out;omega
   obtain ⟨x0,x5,x6⟩:=HROW.out k es[k] (List.getElem?_eq_getElem hke)
   have hE:=HOK.out es[k] (List.getElem_mem hke)
   generalize es[k]=E at *
   obtain ⟨x,P,pc,D,dc⟩:=E
   simp only at x0 x5 x6
   have HE:=Lib.hid (show ActOk w x P pc D dc from hE)
   have y0:=(HB.out.cell (p:=⟨b,k * 7,none⟩) hbl).trans x0
   have y5:=(HB.out.cell (p:=⟨b,k * 7+5,none⟩) hbl).trans x5
   have hvl:x.v.length≤9223372036854775807:=by have:=HE.out.cap.1;have:=HE.out.cap.2;unfold maxLen at this;omega
   have hpl:x.path.length≤9223372036854775807:=by have:=HE.out.capp.1;have:=HE.out.capp.2;unfold maxLen at this;omega
   have X6:=Lib.hid x6
   clear x0 x5 x6 hE hke
   generalize hvn:x.v.length=vn at *
   have HVN:=Lib.hid hvn
   clear hvn
   go_wp2_with fail
   go_quiet (fail)
   have HB2:=Lib.hid (HB.out.trans ((below_draws wr nq).mono HB.out.size))
   clear y0 y5
   generalize wr.drewN nq=W1 at *
   go_wp2
   go_loopw [3,5] (HARel w vn) (fun _ i _=>vn - (intOf i).toNat)
   case atStart=>exact ⟨0,_,rfl,rfl,Nat.zero_le _,HB2.out⟩
   case round=>
    obtain ⟨j,y,rfl,rfl,hj,hB3⟩:=hrel
    have HB3:=Lib.hid hB3
    clear hB3
    have y6:=(HB3.out.cell (p:=⟨b,k * 7+6,none⟩) hbl).trans X6.out
    by_cases hlt2:j<vn
    ·have hje:j<x.v.length:=by have:=HVN.out;omega
     obtain ⟨⟨ab,ao,_⟩,rfl,rfl,hl3,hcs⟩:=HE.out.toks (by intro e;simp [e] at hje)
     have hc2:=(hcs j x.v[j] (List.getElem?_eq_getElem hje)).2.2.1
     simp only at hc2 hl3
     have hc3:=(HB3.out.cell (p:=⟨ab,ao+j * 4+2,none⟩) hl3).trans hc2
     clear hc2 hcs
     generalize x.v[j].s=sj at *
     go_wp2
     go_roundw
     case rel=>exact ⟨j+1,_,by go_num,rfl,by omega,HB3.out⟩
     case measure=>simp [intOf];omega
    ·go_wp2
     go_roundw
     case rel=>exact ⟨k+1,_,by go_num,rfl,by omega,HB3.out⟩
     case measure=>simp [intOf];omega
  ·go_wp2
   go_ret
   exact ⟨_,rfl,HB.out⟩
theorem heavy7_any (hi:Nat) (A:Option Addr) (cap:Nat) (ts:List GTok) (x:GAct) (AP:Option Addr) (ap:Nat) (AD:Option Addr) (ad:Nat) (y:GAct) (BP:Option Addr) (bp:Nat) (BD:Option Addr) (bd:Nat) (w:World) (hT:Toks hi w A ts) (hhi:hi≤w.heap.size) (hcap:ts.length≤cap) (hm:cap≤maxLen) (hx:ActOk w x AP ap AD ad) (hy:ActOk w y BP bp BD bd):
  Calls Tryd.prog 4 #[.slice A ts.length cap,.agg #[.slice AP x.path.length ap,.int .u8 x.kind,.int .i64 x.i,.int .i64 x.j,.int .i64 x.n,.string x.s,.slice AD x.v.length ad],.agg #[.slice BP y.path.length bp,.int .u8 y.kind,.int .i64 y.i,.int .i64 y.j,.int .i64 y.n,.string y.s,.slice BD y.v.length bd]] w (AnyBool w):=by
 have hB0:Below w.heap.size w ((w.alloc (.cells #[.slice AP x.path.length ap,.int .u8 x.kind,.int .i64 x.i,.int .i64 x.j,.int .i64 x.n,.string x.s,.slice AD x.v.length ad] 25)).alloc (.cells #[.slice BP y.path.length bp,.int .u8 y.kind,.int .i64 y.i,.int .i64 y.j,.int .i64 y.n,.string y.s,.slice BD y.v.length bd] 25)):=((Below.refl _ w).alloc (Nat.le_refl _) _).alloc (by simp) _
 have h1:=(Whole.new w 25 #[.slice AP x.path.length ap,.int .u8 x.kind,.int .i64 x.i,.int .i64 x.j,.int .i64 x.n,.string x.s,.slice AD x.v.length ad]).alloc (.cells #[.slice BP y.path.length bp,.int .u8 y.kind,.int .i64 y.i,.int .i64 y.j,.int .i64 y.n,.string y.s,.slice BD y.v.length bd] 25)
 have h2:=Whole.new (w.alloc (.cells #[.slice AP x.path.length ap,.int .u8 x.kind,.int .i64 x.i,.int .i64 x.j,.int .i64 x.n,.string x.s,.slice AD x.v.length ad] 25)) 25 #[.slice BP y.path.length bp,.int .u8 y.kind,.int .i64 y.i,.int .i64 y.j,.int .i64 y.n,.string y.s,.slice BD y.v.length bd]
 rw [World.size_alloc] at h2
 have HB0:=Lib.hid hB0
 have HWX:=Lib.hid (And.intro h1 h2)
 have HTS:=Lib.hid hT
 have HXY:=Lib.hid (And.intro hx hy)
 unfold maxLen at hm
 clear hB0 h1 h2 hT hx hy
 generalize hn:ts.length=n at *
 have HN:=Lib.hid hn
 clear hn
 go_enter Tryd.func4,Tryd.ntmps4
 go_wp2
 generalize ((w.alloc (.cells #[.slice AP x.path.length ap,.int .u8 x.kind,.int .i64 x.i,.int .i64 x.j,.int .i64 x.n,.string x.s,.slice AD x.v.length ad] 25)).alloc (.cells #[.slice BP y.path.length bp,.int .u8 y.kind,.int .i64 y.i,.int .i64 y.j,.int .i64 y.n,.string y.s,.slice BD y.v.length bd] 25))=W0 at *
 go_loopw [7,8] (fun a i wr=>wr=W0∧HARel w n a i wr) (fun _ i _=>n - (intOf i).toNat)
 case atStart=>exact ⟨rfl,0,0,rfl,rfl,Nat.zero_le _,HB0.out⟩
 case round=>
  obtain ⟨rfl,k,z,rfl,rfl,hk,_⟩:=hrel
  by_cases hlt:k<n
  ·have hke:k<ts.length:=by have:=HN.out;omega
   obtain ⟨⟨ab,ao,_⟩,rfl,rfl,hl3,hcs⟩:=HTS.out (by intro e;simp [e] at hke)
   have hc2:=(hcs k ts[k] (List.getElem?_eq_getElem hke)).2.2.1
   simp only at hc2 hl3
   have hc3:=(HB0.out.cell (p:=⟨ab,ao+k * 4+2,none⟩) (by simp only;omega)).trans hc2
   clear hc2 hcs
   generalize ts[k].s=sk at *
   go_wp2
   go_roundw
   case rel=>exact ⟨by first | exact trivial | rfl,k+1,_,by go_num,rfl,by omega,HB0.out⟩
   case measure=>simp [intOf];omega
  ·obtain ⟨a0,a1,a2,a3,a4,a5,a6⟩:=act_cells HWX.out.1
   obtain ⟨b0,b1,b2,b3,b4,b5,b6⟩:=act_cells HWX.out.2
   by_cases hz:2000<z
   ·go_wp2
    go_ret
    exact ⟨_,rfl,HB0.out⟩
   ·go_wp2_with (go_at_call 12;refine (Heavy_any [⟨x,AP,ap,AD,ad⟩,⟨y,BP,bp,BD,bd⟩] wr.heap.size 2 _ (fun i e he=>by
     match i,he with
     | 0,he=>simp at he;subst he;exact ⟨(Whole.new wr _ _).cell 0,(Whole.new wr _ _).cell 5,(Whole.new wr _ _).cell 6⟩
     | 1,he=>simp at he;subst he;exact ⟨(Whole.new wr _ _).cell 7,(Whole.new wr _ _).cell 12,(Whole.new wr _ _).cell 13⟩
     | i+2,he=>simp at he) (by simp) (fun e he=>by
     simp only [List.mem_cons,List.mem_nil_iff,or_false] at he
     rcases he with rfl | rfl
     ·exact HXY.out.1.later (HB0.out.alloc HB0.out.size _)
     ·exact HXY.out.2.later (HB0.out.alloc HB0.out.size _)) (by simp) (by simp)).mono ?_;rintro e w1 ⟨z1,rfl,hb⟩;have H1:=Lib.hid ((HB0.out.alloc HB0.out.size _).trans (hb.mono (by have:=HB0.out.size;simp;omega)));clear hb)
    go_ret
    exact ⟨_,rfl,H1.out⟩
end Go.Proofs.YtlhfnemcpgfcdaaDoor
