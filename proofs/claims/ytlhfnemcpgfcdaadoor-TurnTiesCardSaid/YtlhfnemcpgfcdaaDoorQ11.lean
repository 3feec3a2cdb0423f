/- Texts in one: Just, Loosen, ReachP, RStep, Put. -/
import Derived.Test.YtlhfnemcpgfcdaaDoorQ6
import Derived.Test.YtlhfnemcpgfcdaaDoorLaysP
import Derived.Test.YtlhfnemcpgfcdaaDoorQ5
import Derived.BigQuiet
import Derived.BigRegion
import Derived.RegionTactic
set_option maxHeartbeats 1000000
namespace Go.Proofs.YtlhfnemcpgfcdaaDoor
open Go Go.RowKit
structure Just (b lo n:Nat) (W W':World):Prop where
 os:W'.os=W.os
 tape:W'.tape=W.tape
 output:W'.output=W.output
 size:W.heap.size≤W'.heap.size
 far:∀ k,k<W.heap.size→k≠b→W'.heap[k]? = W.heap[k]?
 near:∀ j,(j<lo∨lo+n≤j)→W'.cell? ⟨b,j,none⟩=W.cell? ⟨b,j,none⟩
 row:∀ t cs,Whole W b t cs→∃ cs',Whole W' b t cs'
theorem Just.trans {b lo n:Nat} {W W' W'':World} (h:Just b lo n W W') (k:Just b lo n W' W''):Just b lo n W W'':=
 ⟨k.os.trans h.os,k.tape.trans h.tape,k.output.trans h.output,Nat.le_trans h.size k.size,fun i hi hn=>(k.far i (Nat.lt_of_lt_of_le hi h.size) hn).trans (h.far i hi hn),fun j hj=>(k.near j hj).trans (h.near j hj),
  fun t cs hw=>by obtain ⟨cs',h'⟩:=h.row t cs hw;exact k.row t cs' h'⟩
theorem Just.set {b lo n:Nat} (W:World) {j:Nat} (h1:lo≤j) (h2:j<lo+n) (u:Value):Just b lo n W (W.setCell ⟨b,j,none⟩ u):=by
 refine ⟨rfl,rfl,rfl,by simp,fun k _ hn=>Below.heap_setCell W ⟨b,j,none⟩ u k hn,fun i hi=>?_,fun t cs hw=>⟨_,hw.put j u⟩⟩
 rw [World.cell?_setCell_other]
 intro e
 cases e
 omega
theorem Just.below {b lo n B:Nat} {W W':World} (h:Just b lo n W W') (hB:B≤b) (hs:B≤W.heap.size):Below B W W':=
 ⟨h.os,h.tape,h.output,h.size,fun k hk=>h.far k (by omega) (by omega)⟩
theorem Just.from {b lo n:Nat} {ok:Nat→Prop} {W W':World} (h:Just b lo n W W') (hb:¬ ok b):From ok W W':=fun k hk hl=>h.far k hl (fun e=>hb (e ▸ hk))
theorem just_put5 {b off:Nat} (W:World) (a0 a1 a2 a3 a4:Value):Just b off 5 W (((((W.setCell ⟨b,off,none⟩ a0).setCell ⟨b,off+1,none⟩ a1).setCell ⟨b,off+2,none⟩ a2).setCell ⟨b,off+3,none⟩ a3).setCell ⟨b,off+4,none⟩ a4):=
 ((((Just.set W (Nat.le_refl _) (by omega) a0).trans (Just.set _ (by omega) (by omega) a1)).trans (Just.set _ (by omega) (by omega) a2)).trans (Just.set _ (by omega) (by omega) a3)).trans (Just.set _ (by omega) (by omega) a4)
theorem addr_add0 (b o j:Nat):(⟨b,o,none⟩:Addr).add j =⟨b,o+j,none⟩:=by
 by_cases e:j=0
 ·subst e;simp [Addr.add]
 ·simp [Addr.add,e]
theorem cell_far (w:World) {b i j:Nat} (h:i≠j) (u:Value):(w.setCell ⟨b,i,none⟩ u).cell? ⟨b,j,none⟩=w.cell? ⟨b,j,none⟩:=by
 rw [World.cell?_setCell_other]
 intro e
 cases e
 exact h rfl
section
variable {w W W1 W2:World} {R root:Nat} {g x:GV} {ps:List GStep} {k b off:Nat} {h:GV} {F:GV→GV}
end
open Go Go.RowKit
def StepPost (ok:Nat→Prop) (g:GV) (s:GStep) (w:World) (e:Ending) (w':World):Prop:=
 Below w.heap.size w w'∧((g.inside s=none∧e=.returned (.tuple #[.agg #[.int .u8 0,.int .i64 0,.string ⟨#[]⟩,.slice none 0 0,.slice none 0 0],.int .i64 0,.int .i64 30])) ∨
  ∃ (h:GV) (BL BO:Option Addr) (dL dO k:Nat),g.inside s=some h∧e=.returned (.tuple #[.agg #[.int .u8 h.kind,.int .i64 h.num,.string h.str,.slice BL h.items.length dL,.slice BO h.vals.length dO],.int .i64 k,.int .i64 0]) ∧
   LstV ok w (.slice BL h.items.length dL) h.items∧ObjV ok w (.slice BO h.vals.length dO) h.keys h.vals∧((s.list=true∧s.i=k∧k<g.items.length)∨(s.list=false∧place s.key g.keys=k∧k<g.vals.length)))
structure Stepped (w:World) (W:World):Prop where
 below:Below w.heap.size w W
 x:Whole W (w.heap.size+1+1) 31 ZC
theorem stepped (w:World) (a b:Obj):Stepped w (((w.alloc a).alloc b).alloc (.cells ZC 31)):=by
 have h3:=Whole.new ((w.alloc a).alloc b) 31 ZC
 rw [World.size_alloc,World.size_alloc] at h3
 exact ⟨(((Below.refl _ w).alloc (Nat.le_refl _) _).alloc (by simp) _).alloc (by simp;omega) _,h3⟩
theorem boxes (w:World) (cs ds:Array Value) (t u:TypeId):Whole (((w.alloc (.cells cs t)).alloc (.cells ds u)).alloc (.cells ZC 31)) w.heap.size t cs∧Whole (((w.alloc (.cells cs t)).alloc (.cells ds u)).alloc (.cells ZC 31)) (w.heap.size+1) u ds:=by
 refine ⟨((Whole.new w t cs).alloc _).alloc _,?_⟩
 have:=(Whole.new (w.alloc (.cells cs t)) u ds).alloc (.cells ZC 31)
 rwa [World.size_alloc] at this
theorem Stepped.later {w W W':World} (h:Stepped w W) (hb:Below W.heap.size W W'):Stepped w W':=⟨h.below.trans (hb.mono h.below.size),h.x.below hb h.x.lt⟩
theorem Stepped.none {ok:Nat→Prop} {g:GV} {s:GStep} {w W:World} (h:Stepped w W) (hn:g.inside s=none) (a0 a1 a2 a3 a4:Value):
  StepPost ok g s w (.returned (.tuple #[.agg #[.int .u8 0,.int .i64 0,.string ⟨#[]⟩,.slice none 0 0,.slice none 0 0],.int .i64 0,.int .i64 30])) (put5 W (w.heap.size+1+1) a0 a1 a2 a3 a4):=
 ⟨put5_below h.below (by omega) _ _ _ _ _,.inl ⟨hn,rfl⟩⟩
theorem Stepped.five {w W:World} (h:Stepped w W) (a0 a1 a2 a3 a4:Value):Five (put5 W (w.heap.size+1+1) a0 a1 a2 a3 a4) (w.heap.size+1+1) a0 a1 a2 a3 a4:=(whole_put5 h.x a0 a1 a2 a3 a4).five
theorem step_five (w:World) (a b:Obj):Five (((w.alloc a).alloc b).alloc (.cells #[.int .u8 0,.int .i64 0,.string ⟨#[]⟩,.slice none 0 0,.slice none 0 0] 31)) (w.heap.size+1+1) (.int .u8 0) (.int .i64 0) (.string ⟨#[]⟩) (.slice none 0 0) (.slice none 0 0):=by
 have h:=(stepped w a b).x
 unfold ZC at h
 exact h.five
theorem step_none {ok:Nat→Prop} {g:GV} {s:GStep} (w:World) (a b:Obj) (hn:g.inside s=none):
  StepPost ok g s w (.returned (.tuple #[.agg #[.int .u8 0,.int .i64 0,.string ⟨#[]⟩,.slice none 0 0,.slice none 0 0],.int .i64 0,.int .i64 30])) (((w.alloc a).alloc b).alloc (.cells #[.int .u8 0,.int .i64 0,.string ⟨#[]⟩,.slice none 0 0,.slice none 0 0] 31)):=by
 have h:=(stepped w a b).below
 unfold ZC at h
 exact ⟨h,.inl ⟨hn,rfl⟩⟩
theorem Stepped.some {ok:Nat→Prop} {g h:GV} {s:GStep} {w W:World} {BL BO:Option Addr} {dL dO k:Nat} (hS:Stepped w W) (hi:g.inside s=some h) (hL:LstV ok w (.slice BL h.items.length dL) h.items) (hO:ObjV ok w (.slice BO h.vals.length dO) h.keys h.vals)
  (hk:(s.list=true∧s.i=k∧k<g.items.length)∨(s.list=false∧place s.key g.keys=k∧k<g.vals.length)) (a0 a1 a2 a3 a4:Value):
  StepPost ok g s w (.returned (.tuple #[.agg #[.int .u8 h.kind,.int .i64 h.num,.string h.str,.slice BL h.items.length dL,.slice BO h.vals.length dO],.int .i64 k,.int .i64 0])) (put5 W (w.heap.size+1+1) a0 a1 a2 a3 a4):=
 ⟨put5_below hS.below (by omega) _ _ _ _ _,.inr ⟨h,BL,BO,dL,dO,k,hi,rfl,hL,hO,hk⟩⟩
theorem StepPost.drew {ok:Nat→Prop} {g:GV} {s:GStep} {w W:World} {e:Ending} (h:StepPost ok g s w e W):StepPost ok g s w e W.drew:=⟨h.1.drew,h.2⟩
theorem ref_step (ok:Nat→Prop) (v:Value) (g:GV) (s:GStep) (w:World) (hv:g.val ok w v):
  Calls Tryd.prog 34 #[v,.agg #[.bool s.list,.int .i64 s.i,.string s.key]] w (StepPost ok g s w):=by
 obtain ⟨L,O,rfl,hL,hO⟩:=hv
 obtain ⟨AL,cL,rfl⟩:=lst_form hL
 obtain ⟨AO,cO,rfl⟩:=obj_form hO
 obtain ⟨_,_,he,hl1,hl2,hlf⟩:=hL.form
 cases he
 obtain ⟨_,_,he,ho1,ho2,hof⟩:=hO.form
 cases he
 unfold maxLen at hl2 ho2
 have hlen:=hO.1
 have hfield:=fun (W:World) (hb:Below w.heap.size w W)=>(ref_Field ok (.agg #[.int .u8 g.kind,.int .i64 g.num,.string g.str,.slice AL g.items.length cL,.slice AO g.vals.length cO]) g s.key W ⟨_,_,rfl,hL.keep (From.of_below hb) (fun _ h _=>h),hO.keep (From.of_below hb) (fun _ h _=>h)⟩)
 have HF:=Lib.hid hfield
 clear hfield
 have hnl:s.list=true→(g.kind≠4∨s.i<0∨(g.items.length:Int)≤s.i)→g.inside s=none:=fun hs h=>by
  unfold GV.inside
  rw [if_pos hs]
  split
  ·rename_i hc
   exact List.getElem?_eq_none (by omega)
  ·rfl
 have hno:s.list=false→(g.kind≠5∨there s.key g.keys=false)→g.inside s=none:=fun hs h=>by
  unfold GV.inside
  rw [if_neg (by simp [hs])]
  split
  ·rename_i hc
   rcases h with h | h
   ·exact absurd hc.1 h
   ·rw [h] at hc;simp at hc
  ·rfl
 have HNL:=Lib.hid hnl
 have HNO:=Lib.hid hno
 clear hnl hno
 cases hs:s.list with
 | true=>
  have HS:=Lib.hid hs
  clear hof hlen HF HNO hs hO
  by_cases hk:g.kind=4
  ·have HK:=Lib.hid hk
   by_cases hneg:s.i<0
   ·have HN:=HNL.out HS.out (.inr (.inl hneg))
    clear hlf hL
    rw [hk]
    clear hk
    generalize s.i=i at *
    go_enter Tryd.func34,Tryd.ntmps34
    go_wp2
    obtain ⟨d0,d1,d2,d3,d4,_⟩:=step_five w (.cells #[.int .u8 4,.int .i64 g.num,.string g.str,.slice AL g.items.length cL,.slice AO g.vals.length cO] 31) (.cells #[.bool true,.int .i64 i,.string s.key] 50)
    refine bodyPost_ret (v:=.tuple #[.agg #[.int .u8 0,.int .i64 0,.string ⟨#[]⟩,.slice none 0 0,.slice none 0 0],.int .i64 0,.int .i64 30]) (by simp [results,Tryd.results34,go_sem,d0,d1,d2,d3,d4]) rfl ?_
    exact step_none w _ _ HN
   ·obtain ⟨k,hki⟩:∃ k:Nat,s.i=k:=⟨s.i.toNat,by omega⟩
    by_cases hlt:k<g.items.length
    ·obtain ⟨lb,lo,rfl,hK,hE⟩:=hlf (by intro e;rw [e] at hlt;simp at hlt)
     have hin:=inside_list HS.out HK.out hki hlt
     have hat:=GV.els_get hE (List.getElem?_eq_getElem hlt)
     generalize g.items[k]=h at *
     obtain ⟨BL,BO,dL,dO,hsp⟩:=hat.spot
     have HIN:=Lib.hid hin
     have HKI:=Lib.hid hki
     have HV:=Lib.hid (And.intro hsp.lst hsp.obj)
     have hbl:=hsp.lt
     obtain ⟨c0,c1,c2,c3,c4,_,_⟩:=hsp
     clear hin hat hL hE hK hlf HNL
     rw [hk,hki]
     clear hk hki
     generalize hn:g.items.length=n at *
     go_enter Tryd.func34,Tryd.ntmps34
     go_wp2
     have hst:=stepped w (.cells #[.int .u8 4,.int .i64 g.num,.string g.str,.slice (some ⟨lb,lo,none⟩) n cL,.slice AO g.vals.length cO] 31) (.cells #[.bool true,.int .i64 k,.string s.key] 50)
     have hv:=boxes w #[.int .u8 4,.int .i64 g.num,.string g.str,.slice (some ⟨lb,lo,none⟩) n cL,.slice AO g.vals.length cO] #[.bool true,.int .i64 k,.string s.key] 31 50
     change Code.wp _ _ _ _ (((w.alloc (.cells #[.int .u8 4,.int .i64 g.num,.string g.str,.slice (some ⟨lb,lo,none⟩) n cL,.slice AO g.vals.length cO] 31)).alloc (.cells #[.bool true,.int .i64 k,.string s.key] 50)).alloc (.cells ZC 31))
     generalize ((w.alloc (.cells #[.int .u8 4,.int .i64 g.num,.string g.str,.slice (some ⟨lb,lo,none⟩) n cL,.slice AO g.vals.length cO] 31)).alloc (.cells #[.bool true,.int .i64 k,.string s.key] 50)).alloc (.cells ZC 31)=W3 at *
     have b3:W3.cell? ⟨w.heap.size,3,none⟩=some (.slice (some ⟨lb,lo,none⟩) n cL):=(hv.1.cell 3).trans rfl
     have s1:W3.cell? ⟨w.heap.size+1,1,none⟩=some (.int .i64 k):=(hv.2.cell 1).trans rfl
     replace c0:=(hst.below.cell (p:=⟨lb,lo+k * 5,none⟩) hbl).trans c0
     replace c1:=(hst.below.cell (p:=⟨lb,lo+k * 5+1,none⟩) hbl).trans c1
     replace c2:=(hst.below.cell (p:=⟨lb,lo+k * 5+2,none⟩) hbl).trans c2
     replace c3:=(hst.below.cell (p:=⟨lb,lo+k * 5+3,none⟩) hbl).trans c3
     replace c4:=(hst.below.cell (p:=⟨lb,lo+k * 5+4,none⟩) hbl).trans c4
     obtain ⟨x0,x1,x2,x3,x4,y0,y1,y2,y3,y4⟩:=hst.x.five
     have HST:=Lib.hid hst
     clear hst hv
     go_region
     obtain ⟨d0,d1,d2,d3,d4,_⟩:=HST.out.five (.int .u8 h.kind) (.int .i64 h.num) (.string h.str) (.slice BL h.items.length dL) (.slice BO h.vals.length dO)
     unfold put5 at d0 d1 d2 d3 d4
     go_wp2
     refine bodyPost_ret (v:=.tuple #[.agg #[.int .u8 h.kind,.int .i64 h.num,.string h.str,.slice BL h.items.length dL,.slice BO h.vals.length dO],.int .i64 k,.int .i64 0]) (by simp [results,Tryd.results34,go_sem,d0,d1,d2,d3,d4]) rfl ?_
     exact (HST.out.some HIN.out HV.out.1 HV.out.2 (.inl ⟨HS.out,HKI.out,by rw [hn];exact hlt⟩) _ _ _ _ _).drew
    ·have HN:=HNL.out HS.out (.inr (.inr (by omega)))
     clear hlf hL
     rw [hk,hki]
     clear hk hki hneg HNL
     generalize hn:g.items.length=n at *
     go_enter Tryd.func34,Tryd.ntmps34
     go_wp2
     obtain ⟨d0,d1,d2,d3,d4,_⟩:=step_five w (.cells #[.int .u8 4,.int .i64 g.num,.string g.str,.slice AL n cL,.slice AO g.vals.length cO] 31) (.cells #[.bool true,.int .i64 k,.string s.key] 50)
     refine bodyPost_ret (v:=.tuple #[.agg #[.int .u8 0,.int .i64 0,.string ⟨#[]⟩,.slice none 0 0,.slice none 0 0],.int .i64 0,.int .i64 30]) (by simp [results,Tryd.results34,go_sem,d0,d1,d2,d3,d4]) rfl ?_
     exact step_none w _ _ HN
  ·have HN:=HNL.out HS.out (.inl hk)
   have hk1:(g.kind == 4)=false:=by simpa using hk
   have hk2:(g.kind != 4)=true:=by simpa using hk
   clear hlf hL HNL hk
   go_enter Tryd.func34,Tryd.ntmps34
   go_wp2
   obtain ⟨d0,d1,d2,d3,d4,_⟩:=step_five w (.cells #[.int .u8 g.kind,.int .i64 g.num,.string g.str,.slice AL g.items.length cL,.slice AO g.vals.length cO] 31) (.cells #[.bool true,.int .i64 s.i,.string s.key] 50)
   refine bodyPost_ret (v:=.tuple #[.agg #[.int .u8 0,.int .i64 0,.string ⟨#[]⟩,.slice none 0 0,.slice none 0 0],.int .i64 0,.int .i64 30]) (by simp [results,Tryd.results34,go_sem,d0,d1,d2,d3,d4]) rfl ?_
   exact step_none w _ _ HN
 | false=>
  have HS:=Lib.hid hs
  clear hlf hs hL
  unfold FieldPost at HF
  by_cases hk:g.kind=5
  ·cases ht:there s.key g.keys with
   | true=>
    have hlt:=there_lt ht
    rw [hlen] at hlt
    obtain ⟨ob,oo,rfl,hK,_,hE⟩:=hof (by intro e;rw [e] at hlt;simp at hlt)
    have hin:=inside_key HS.out hk ht hlt
    have hat:=GV.els_get hE (List.getElem?_eq_getElem hlt)
    rw [show oo+1+place s.key g.keys * 6=oo+place s.key g.keys * 6+1 by omega] at hat
    generalize g.vals[place s.key g.keys]=h at *
    obtain ⟨BL,BO,dL,dO,hsp⟩:=hat.spot
    have HIN:=Lib.hid hin
    have HV:=Lib.hid (And.intro hsp.lst hsp.obj)
    have hbl:=hsp.lt
    obtain ⟨c0,c1,c2,c3,c4,_,_⟩:=hsp
    have HCC:=Lib.hid (And.intro c0 (And.intro c1 (And.intro c2 (And.intro c3 c4))))
    clear hin hat hE hK hof HNO HNL hlen hO c0 c1 c2 c3 c4
    rw [ht,hk] at HF
    generalize hpl:place s.key g.keys=pl at *
    have HPL:=Lib.hid hpl
    rw [hk]
    clear hk hpl ht
    generalize hn:g.vals.length=n at *
    have HNN:=Lib.hid hn
    clear hn
    have hst:=stepped w (.cells #[.int .u8 5,.int .i64 g.num,.string g.str,.slice AL g.items.length cL,.slice (some ⟨ob,oo,none⟩) n cO] 31) (.cells #[.bool false,.int .i64 s.i,.string s.key] 50)
    have hv:=boxes w #[.int .u8 5,.int .i64 g.num,.string g.str,.slice AL g.items.length cL,.slice (some ⟨ob,oo,none⟩) n cO] #[.bool false,.int .i64 s.i,.string s.key] 31 50
    have HST:=Lib.hid hst
    have HV3:=Lib.hid hv
    clear hst hv
    unfold ZC at HST HV3
    go_enter Tryd.func34,Tryd.ntmps34
    go_wp2_with (go_at_call 14;refine (HF.out _ HST.out.below).mono ?_;rintro e w1 ⟨rfl,hb1⟩;have hbw:=HST.out.below.trans (hb1.mono HST.out.below.size);have z0:w1.cell? ⟨w.heap.size,0,none⟩=some (.int .u8 5):=((HV3.out.1.below hb1 HV3.out.1.lt).cell 0).trans rfl;have z4:w1.cell? ⟨w.heap.size,4,none⟩=some (.slice (some ⟨ob,oo,none⟩) n cO):=((HV3.out.1.below hb1 HV3.out.1.lt).cell 4).trans rfl;have c0:=(hbw.cell (p:=⟨ob,oo+pl * 6+1,none⟩) hbl).trans HCC.out.1;have c1:=(hbw.cell (p:=⟨ob,oo+pl * 6+1+1,none⟩) hbl).trans HCC.out.2.1;have c2:=(hbw.cell (p:=⟨ob,oo+pl * 6+1+2,none⟩) hbl).trans HCC.out.2.2.1;have c3:=(hbw.cell (p:=⟨ob,oo+pl * 6+1+3,none⟩) hbl).trans HCC.out.2.2.2.1;have c4:=(hbw.cell (p:=⟨ob,oo+pl * 6+1+4,none⟩) hbl).trans HCC.out.2.2.2.2;obtain ⟨x0,x1,x2,x3,x4,y0,y1,y2,y3,y4⟩:=(HST.out.x.below hb1 HST.out.x.lt).five;have HB1:=Lib.hid hb1;clear hb1 hbw)
    obtain ⟨d0,d1,d2,d3,d4,_⟩:=(HST.out.later HB1.out).five (.int .u8 h.kind) (.int .i64 h.num) (.string h.str) (.slice BL h.items.length dL) (.slice BO h.vals.length dO)
    unfold put5 at d0 d1 d2 d3 d4
    refine bodyPost_ret (v:=.tuple #[.agg #[.int .u8 h.kind,.int .i64 h.num,.string h.str,.slice BL h.items.length dL,.slice BO h.vals.length dO],.int .i64 pl,.int .i64 0]) (by simp [results,Tryd.results34,go_sem,d0,d1,d2,d3,d4]) rfl ?_
    exact (HST.out.later HB1.out).some HIN.out HV.out.1 HV.out.2 (.inr ⟨HS.out,HPL.out,by rw [HNN.out];exact hlt⟩) _ _ _ _ _
   | false=>
    have HN:=HNO.out HS.out (.inr ht)
    rw [ht,hk] at HF
    rw [hk]
    clear hof HNO HNL hlen hO hk ht
    have hst:=stepped w (.cells #[.int .u8 5,.int .i64 g.num,.string g.str,.slice AL g.items.length cL,.slice AO g.vals.length cO] 31) (.cells #[.bool false,.int .i64 s.i,.string s.key] 50)
    have hv:=boxes w #[.int .u8 5,.int .i64 g.num,.string g.str,.slice AL g.items.length cL,.slice AO g.vals.length cO] #[.bool false,.int .i64 s.i,.string s.key] 31 50
    have HST:=Lib.hid hst
    have HV3:=Lib.hid hv
    clear hst hv
    unfold ZC at HST HV3
    go_enter Tryd.func34,Tryd.ntmps34
    go_wp2_with (go_at_call 14;refine (HF.out _ HST.out.below).mono ?_;rintro e w1 ⟨rfl,hb1⟩;have z0:w1.cell? ⟨w.heap.size,0,none⟩=some (.int .u8 5):=((HV3.out.1.below hb1 HV3.out.1.lt).cell 0).trans rfl;obtain ⟨x0,x1,x2,x3,x4,y0,y1,y2,y3,y4⟩:=(HST.out.x.below hb1 HST.out.x.lt).five;have HB1:=Lib.hid hb1;clear hb1)
    obtain ⟨d0,d1,d2,d3,d4,_⟩:=(HST.out.later HB1.out).five (.int .u8 0) (.int .i64 0) (.string ⟨#[]⟩) (.slice none 0 0) (.slice none 0 0)
    unfold put5 at d0 d1 d2 d3 d4
    refine bodyPost_ret (v:=.tuple #[.agg #[.int .u8 0,.int .i64 0,.string ⟨#[]⟩,.slice none 0 0,.slice none 0 0],.int .i64 0,.int .i64 30]) (by simp [results,Tryd.results34,go_sem,d0,d1,d2,d3,d4]) rfl ?_
    exact (HST.out.later HB1.out).none HN _ _ _ _ _
  ·have HN:=HNO.out HS.out (.inl hk)
   have hk1:(g.kind == 5)=false:=by simpa using hk
   have hk2:(g.kind != 5)=true:=by simpa using hk
   clear hof HNO HNL hlen hO hk
   have hst:=stepped w (.cells #[.int .u8 g.kind,.int .i64 g.num,.string g.str,.slice AL g.items.length cL,.slice AO g.vals.length cO] 31) (.cells #[.bool false,.int .i64 s.i,.string s.key] 50)
   have hv:=boxes w #[.int .u8 g.kind,.int .i64 g.num,.string g.str,.slice AL g.items.length cL,.slice AO g.vals.length cO] #[.bool false,.int .i64 s.i,.string s.key] 31 50
   have HST:=Lib.hid hst
   have HV3:=Lib.hid hv
   clear hst hv
   unfold ZC at HST HV3
   go_enter Tryd.func34,Tryd.ntmps34
   go_wp2_with (go_at_call 14;refine (HF.out _ HST.out.below).mono ?_;rintro e w1 ⟨rfl,hb1⟩;have z0:w1.cell? ⟨w.heap.size,0,none⟩=some (.int .u8 g.kind):=((HV3.out.1.below hb1 HV3.out.1.lt).cell 0).trans rfl;obtain ⟨x0,x1,x2,x3,x4,y0,y1,y2,y3,y4⟩:=(HST.out.x.below hb1 HST.out.x.lt).five;have HB1:=Lib.hid hb1;clear hb1)
   obtain ⟨d0,d1,d2,d3,d4,_⟩:=(HST.out.later HB1.out).five (.int .u8 0) (.int .i64 0) (.string ⟨#[]⟩) (.slice none 0 0) (.slice none 0 0)
   unfold put5 at d0 d1 d2 d3 d4
   refine bodyPost_ret (v:=.tuple #[.agg #[.int .u8 0,.int .i64 0,.string ⟨#[]⟩,.slice none 0 0,.slice none 0 0],.int .i64 0,.int .i64 30]) (by simp [results,Tryd.results34,go_sem,d0,d1,d2,d3,d4]) rfl ?_
   exact (HST.out.later HB1.out).none HN _ _ _ _ _
structure PBox (w:World) (g x:GV) (AL AO CL CO:Option Addr) (cL cO eL eO:Nat) (W:World):Prop where
 size:W.heap.size=w.heap.size+1+1+1
 below:Below w.heap.size w W
 root:Whole W w.heap.size 31 #[.int .u8 g.kind,.int .i64 g.num,.string g.str,.slice AL g.items.length cL,.slice AO g.vals.length cO]
 x:Whole W (w.heap.size+1) 31 #[.int .u8 x.kind,.int .i64 x.num,.string x.str,.slice CL x.items.length eL,.slice CO x.vals.length eO]
 res:Whole W (w.heap.size+1+1) 31 ZC
theorem pboxed (w:World) (g x:GV) (AL AO CL CO:Option Addr) (cL cO eL eO:Nat):
  PBox w g x AL AO CL CO cL cO eL eO (((w.alloc (.cells #[.int .u8 g.kind,.int .i64 g.num,.string g.str,.slice AL g.items.length cL,.slice AO g.vals.length cO] 31)).alloc (.cells #[.int .u8 x.kind,.int .i64 x.num,.string x.str,.slice CL x.items.length eL,.slice CO x.vals.length eO] 31)).alloc (.cells ZC 31)):=by
 have hb:=stepped w (.cells #[.int .u8 g.kind,.int .i64 g.num,.string g.str,.slice AL g.items.length cL,.slice AO g.vals.length cO] 31) (.cells #[.int .u8 x.kind,.int .i64 x.num,.string x.str,.slice CL x.items.length eL,.slice CO x.vals.length eO] 31)
 have h2:=boxes w #[.int .u8 g.kind,.int .i64 g.num,.string g.str,.slice AL g.items.length cL,.slice AO g.vals.length cO] #[.int .u8 x.kind,.int .i64 x.num,.string x.str,.slice CL x.items.length eL,.slice CO x.vals.length eO] 31 31
 exact ⟨by simp,hb.below,h2.1,h2.2,hb.x⟩
end Go.Proofs.YtlhfnemcpgfcdaaDoor
