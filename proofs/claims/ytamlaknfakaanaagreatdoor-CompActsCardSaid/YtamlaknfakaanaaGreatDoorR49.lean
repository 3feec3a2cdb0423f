/- Texts in one: RcE, HeavyX. -/
import Derived.Test.YtamlaknfakaanaaGreatDoorR48
import Derived.Test.YtamlaknfakaanaaGreatDoorR43
import Derived.Test.YtamlaknfakaanaaGreatDoorR18
import Derived.Test.YtamlaknfakaanaaGreatDoorR6
import Derived.Test.YtamlaknfakaanaaGreatDoorR1
import Derived.Test.YtamlaknfakaanaaGreatDoorR15
import Derived.WalkKit
import Derived.WalkSpells
import Derived.WalkLawsBesides
import Derived.Lib.Hide
set_option maxRecDepth 100000
set_option maxHeartbeats 4000000
namespace Go.Proofs.YtamlaknfakaanaaGreatDoor
open Go Go.RowKit Go.Shelf
set_option linter.unusedVariables false
set_option linter.unusedSimpArgs false
theorem docD_no (g:GV) (GL GO:Option Addr) (eL eO:Nat) (c:GC) (A AL AO:Option Addr) (cp cL cO:Nat) (w:World) (hg:Vl w g GL GO eL eO) (hc:Cc w c A AL AO cp cL cO) (hgw:g.weight≤1000000) (hs:Small c) (hpos:c.v.Pos) (hT:Tabs w) (n:Int) (hn:ChkIs g c n) (h0:n≠0):
  Calls Tryz.prog 11 #[.agg #[.int .u8 g.kind,.int .i64 g.num,.string g.str,.slice GL g.items.length eL,.slice GO g.vals.length eO],.agg #[.int .u8 c.kind,.slice A c.path.length cp,.string c.key,.int .i64 c.i,.int .i64 c.j,.int .i64 c.n,.int .u8 c.v.kind,.int .i64 c.v.num,.string c.v.str,.slice AL c.v.items.length cL,.slice AO c.v.vals.length cO,.string c.s]] w fun e w'=>e=.returned (.tuple #[.agg #[.int .u8 0,.int .i64 0,.string ⟨#[]⟩,.slice none 0 0,.slice none 0 0],.int .i64 n])∧Below w.heap.size w w':=by
 have H0:=Lib.hid (DB.new w #[.int .u8 g.kind,.int .i64 g.num,.string g.str,.slice GL g.items.length eL,.slice GO g.vals.length eO] #[.int .u8 c.kind,.slice A c.path.length cp,.string c.key,.int .i64 c.i,.int .i64 c.j,.int .i64 c.n,.int .u8 c.v.kind,.int .i64 c.v.num,.string c.v.str,.slice AL c.v.items.length cL,.slice AO c.v.vals.length cO,.string c.s] #[.int .u8 0,.int .i64 0,.string ⟨#[]⟩,.slice none 0 0,.slice none 0 0])
 have HCK:=Lib.hid (fun W (hb:Below w.heap.size w W)=>(ref_CheckC g GL GO eL eO c A AL AO cp cL cO W (hg.later hb) (hc.later hb) (by omega) hs hpos (hT.below hb (Nat.le_refl _))).mono (R':=fun e w'=>e=.returned (.int .i64 n)∧Below W.heap.size W w') fun e w' ⟨m,he,hm,hb'⟩=>⟨by rw [he,chk_one hm hn],hb'⟩)
 have hne:(n != 0)=true:=by simpa using h0
 have HN0:=Lib.hid h0
 clear hg hc hgw hs hpos hT hn h0
 obtain ⟨g0,g1,g2,g3,g4,_⟩:=H0.out.g.five
 obtain ⟨c0,c1,c2,c3,c4,c5,c6,c7,c8,c9,c10,c11,_⟩:=H0.out.c.tw
 go_enter Tryz.func11,Tryz.ntmps11
 go_wp2_with (go_at_call 14;refine (HCK.out _ H0.out.below).mono ?_;rintro e w1 ⟨rfl,hb⟩;have H1:=Lib.hid (H0.out.later hb);clear hb g0 g1 g2 g3 g4 c0 c1 c2 c3 c4 c5 c6 c7 c8 c9 c10 c11;obtain ⟨r0,r1,r2,r3,r4,f0,f1,f2,f3,f4⟩:=H1.out.r.five)
 have h5:=whole_put5 H1.out.r (.int .u8 0) (.int .i64 0) (.string ⟨#[]⟩) (.slice none 0 0) (.slice none 0 0)
 obtain ⟨d0,d1,d2,d3,d4,_⟩:=h5.five
 unfold put5 at d0 d1 d2 d3 d4
 refine bodyPost_ret (v:=.tuple #[.agg #[.int .u8 0,.int .i64 0,.string ⟨#[]⟩,.slice none 0 0,.slice none 0 0],.int .i64 n]) (by simp [results,Tryz.results11,go_sem,d0,d1,d2,d3,d4]) rfl ?_
 exact ⟨rfl,put5_below H1.out.below (by omega) _ _ _ _ _⟩
def Outc (g:GV) (c:GC) (y:GV) (n:Int):Prop:=ChkIs g c n∧((n≠0∧y=noG)∨(n=0∧c.Sound∧∃ h,g.get c.path=some h∧chkH h c=0∧g.put (doH h c) c.path=some y))
theorem chk_ex (g:GV) (c:GC):∃ n,ChkIs g c n:=by
 by_cases hS:c.Sound
 ·cases hget:g.get c.path with
  | none=>exact ⟨30,.inr ⟨hS,.inl ⟨hget,rfl⟩⟩⟩
  | some h=>exact ⟨chkH h c,.inr ⟨hS,.inr ⟨h,hget,rfl⟩⟩⟩
 ·exact ⟨60,.inl ⟨hS,rfl⟩⟩
theorem outc_some (g:GV) (c:GC):∃ y n,Outc g c y n:=by
 obtain ⟨n,hn⟩:=chk_ex g c
 by_cases h0:n=0
 ·subst h0
  rcases hn with ⟨_,h⟩ | ⟨hS,⟨_,h⟩ | ⟨h,h1,h2⟩⟩
  ·cases h
  ·cases h
  ·obtain ⟨y,hy⟩:=put_some (doH h c) h1
   exact ⟨y,0,.inr ⟨hS,.inr ⟨h,h1,h2⟩⟩,.inr ⟨rfl,hS,h,h1,h2.symm,hy⟩⟩
 ·exact ⟨noG,n,hn,.inl ⟨h0,rfl⟩⟩
theorem Outc.sound {g:GV} {c:GC} {y:GV} {n:Int} (h:Outc g c y n) (hg:g.Sound):y.Sound:=by
 obtain ⟨_,⟨_,rfl⟩ | ⟨_,hS,k,h1,h2,h3⟩⟩:=h
 ·exact vok_no.1
 ·exact put_sound (doH_sound (get_soundG _ _ _ hg h1) hS h2) _ _ _ hg h3
theorem Outc.weight {g:GV} {c:GC} {y:GV} {n:Int} (h:Outc g c y n) (hs:Small c):y.weight≤3 * g.weight+3000100:=by
 obtain ⟨_,⟨_,rfl⟩ | ⟨_,hS,k,h1,h2,h3⟩⟩:=h
 ·have:=vok_no.2.2.1;omega
 ·have h4:=put_weight _ _ _ h3
  have h5:=get_weight _ _ _ h1
  have h6:=doH_weight k c
  have h7:=hs.v
  have h8:=hs.k
  have h9:=hs.s
  omega
def DoA (y:GV) (r:Value) (w:World) (e:Ending) (w':World):Prop:=∃ BL BO dB dP,e=.returned (.tuple #[.agg #[.int .u8 y.kind,.int .i64 y.num,.string y.str,.slice BL y.items.length dB,.slice BO y.vals.length dP],r])∧VlNew w.heap.size w' y BL BO dB dP∧Below w.heap.size w w'
theorem vlnew_no (n:Nat) (W:World):VlNew n W noG none none 0 0:=⟨.inl ⟨rfl,rfl⟩,⟨rfl,.inl ⟨rfl,rfl⟩⟩⟩
theorem VlNew.vl {n:Nat} {W:World} {y:GV} {BL BO:Option Addr} {dL dO:Nat} (h:VlNew n W y BL BO dL dO):Vl W y BL BO dL dO:=⟨h.1.keep (From.refl _ _) (fun _ _ _=>trivial),h.2.keep (From.refl _ _) (fun _ _ _=>trivial)⟩
theorem comp_DoO (g:GV) (GL GO:Option Addr) (eL eO:Nat) (c:GC) (A AL AO:Option Addr) (cp cL cO:Nat) (w:World) (hg:Vl w g GL GO eL eO) (hc:Cc w c A AL AO cp cL cO) (hgw:g.weight≤1000000) (hs:Small c) (hT:Tabs w) {y:GV} {n:Int} (ho:Outc g c y n):
  Calls Tryz.prog 10 #[.agg #[.int .u8 g.kind,.int .i64 g.num,.string g.str,.slice GL g.items.length eL,.slice GO g.vals.length eO],.agg #[.int .u8 c.kind,.slice A c.path.length cp,.string c.key,.int .i64 c.i,.int .i64 c.j,.int .i64 c.n,.int .u8 c.v.kind,.int .i64 c.v.num,.string c.v.str,.slice AL c.v.items.length cL,.slice AO c.v.vals.length cO,.string c.s]] w (DoA y (.int .u16 n) w):=
 (comp_DoA g GL GO eL eO c A AL AO cp cL cO w hg hc hgw hs hT).mono fun e w' ⟨hb,m,hm,hr⟩=>by
  obtain rfl:=chk_one hm ho.1
  rcases hr with ⟨h0,he⟩ | ⟨h0,h,y',BL,BO,dL,dO,h1,h2,h3,he,_,hv⟩
  ·rcases ho.2 with ⟨_,rfl⟩ | ⟨h,_⟩
   ·exact ⟨none,none,0,0,he,vlnew_no _ _,hb⟩
   ·exact absurd h h0
  ·rcases ho.2 with ⟨h,_⟩ | ⟨_,_,k,k1,k2,k3⟩
   ·exact absurd h0 h
   ·rw [h1] at k1
    cases k1
    rw [h3] at k3
    cases k3
    exact ⟨BL,BO,dL,dO,by rw [he,h0],hv,hb⟩
theorem ref_DoO (g:GV) (GL GO:Option Addr) (eL eO:Nat) (c:GC) (A AL AO:Option Addr) (cp cL cO:Nat) (w:World) (hg:Vl w g GL GO eL eO) (hc:Cc w c A AL AO cp cL cO) (hgw:g.weight≤1000000) (hs:Small c) (hpos:c.v.Pos) (hgs:g.Sound) (hT:Tabs w) {y:GV} {n:Int} (ho:Outc g c y n):
  Calls Tryz.prog 11 #[.agg #[.int .u8 g.kind,.int .i64 g.num,.string g.str,.slice GL g.items.length eL,.slice GO g.vals.length eO],.agg #[.int .u8 c.kind,.slice A c.path.length cp,.string c.key,.int .i64 c.i,.int .i64 c.j,.int .i64 c.n,.int .u8 c.v.kind,.int .i64 c.v.num,.string c.v.str,.slice AL c.v.items.length cL,.slice AO c.v.vals.length cO,.string c.s]] w (DoA y (.int .i64 n) w):=by
 obtain ⟨hn,⟨h0,rfl⟩ | ⟨rfl,hS,h,h1,h2,h3⟩⟩:=ho
 ·exact (docD_no g GL GO eL eO c A AL AO cp cL cO w hg hc hgw hs hpos hT n hn h0).mono fun e w' ⟨he,hb⟩=>⟨none,none,0,0,he,vlnew_no _ _,hb⟩
 ·have hgh:=get_soundG _ _ _ hgs h1
  have hk:=hS.2.2.2.2.1.1
  rcases (show c.kind=1∨c.kind=2∨c.kind=3∨(4≤c.kind∧c.kind≤7)∨c.kind=8∨c.kind=9 by omega) with q | q | q | q | q | q
  ·exact docD_a g GL GO eL eO c A AL AO cp cL cO w hg hc hgw hs hpos hT h y hS h1 h2 h3 hgh q
  ·exact docD_f2 g GL GO eL eO c A AL AO cp cL cO w hg hc hgw hs hpos hT h y hS h1 h2 h3 hgh q
  ·exact docD_f3 g GL GO eL eO c A AL AO cp cL cO w hg hc hgw hs hpos hT h y hS h1 h2 h3 hgh q
  ·exact docD_l g GL GO eL eO c A AL AO cp cL cO w hg hc hgw hs hpos hT h y hS h1 h2 h3 hgh q
  ·exact docD_s g GL GO eL eO c A AL AO cp cL cO w hg hc hgw hs hpos hT h y hS h1 h2 h3 hgh q
  ·exact docD_d g GL GO eL eO c A AL AO cp cL cO w hg hc hgw hs hpos hT h y hS h1 h2 h3 hgh q
end Go.Proofs.YtamlaknfakaanaaGreatDoor
namespace Go.Proofs.YtamlaknfakaanaaGreatDoor
open Go Go.RowKit
set_option linter.unusedVariables false
set_option linter.unusedSimpArgs false
structure EAct where
 x:GAct
 P:Option Addr
 pc:Nat
 D:Option Addr
 dc:Nat
def EAct.Ok (w:World) (e:EAct):Prop:=ActOk w e.x e.P e.pc e.D e.dc
def ActsAt (w:World) (b:Nat) (es:List EAct):Prop:=∀ i e,es[i]? = some e→w.cell? ⟨b,i * 7,none⟩=some (.slice e.P e.x.path.length e.pc)∧w.cell? ⟨b,i * 7+5,none⟩=some (.string e.x.s)∧w.cell? ⟨b,i * 7+6,none⟩=some (.slice e.D e.x.v.length e.dc)
def IntBelow (w:World) (e:Ending) (w':World):Prop:=∃ z,e=.returned (.int .i64 z)∧Below w.heap.size w w'
def AnyBool (w:World) (e:Ending) (w':World):Prop:=∃ b,e=.returned (.bool b)∧Below w.heap.size w w'
def HARel (w:World) (m:Nat) (n i:Value) (wr:World):Prop:=∃ (k:Nat) (z:Int),i=.int .i64 k∧n=.int .i64 z∧k≤m∧Below w.heap.size w wr
theorem Heavy_any (es:List EAct) (b c:Nat) (w:World) (hrow:ActsAt w b es) (hbl:b<w.heap.size) (hok:∀ e∈es,e.Ok w) (hn:es.length≤1000) (hc:es.length≤c):Calls Tryz.prog 15 #[.slice (some ⟨b,0,none⟩) es.length c] w (IntBelow w):=by
 have HROW:=Lib.hid hrow
 have HOK:=Lib.hid hok
 clear hrow hok
 generalize hm:es.length=m at *
 have HM:=Lib.hid hm
 clear hm
 go_enter Tryz.func15,Tryz.ntmps15
 go_wp2
 go_loopw [3,4] (HARel w m) (fun _ i _=>m - (intOf i).toNat)
 case atStart=>exact ⟨0,0,rfl,rfl,Nat.zero_le _,Below.refl _ _⟩
 case round=>
  obtain ⟨k,z,rfl,rfl,hk,hB⟩:=hrel
  have HB:=Lib.hid hB
  clear hB
  by_cases hlt:k<m
  ·have hke:k<es.length:=by have:=HM.out;omega
   obtain ⟨x0,x5,x6⟩:=HROW.out k es[k] (List.getElem?_eq_getElem hke)
   have hE:=HOK.out es[k] (List.getElem_mem hke)
   generalize es[k]=E at *
   obtain ⟨x,P,pc,D,dc⟩:=E
   simp only at x0 x5 x6
   have HE:=Lib.hid (show ActOk w x P pc D dc from hE)
   have y0:=(HB.out.cell (p:=⟨b,k * 7,none⟩) hbl).trans x0
   have y5:=(HB.out.cell (p:=⟨b,k * 7+5,none⟩) hbl).trans x5
   have hvl:x.v.length≤9223372036854775807:=by have:=HE.out.cap.1;have:=HE.out.cap.2;unfold maxLen at this;omega
   have hpl:x.path.length≤9223372036854775807:=by have:=HE.out.capp.1;have:=HE.out.capp.2;unfold maxLen at this;omega
   have X6:=Lib.hid x6
   clear x0 x5 x6 hE hke
   generalize hvn:x.v.length=vn at *
   have HVN:=Lib.hid hvn
   clear hvn
   go_wp2_with fail
   go_quiet (fail)
   have HB2:=Lib.hid (HB.out.trans ((below_draws wr nq).mono HB.out.size))
   clear y0 y5
   generalize wr.drewN nq=W1 at *
   go_wp2
   go_loopw [3,5] (HARel w vn) (fun _ i _=>vn - (intOf i).toNat)
   case atStart=>exact ⟨0,_,rfl,rfl,Nat.zero_le _,HB2.out⟩
   case round=>
    obtain ⟨j,y,rfl,rfl,hj,hB3⟩:=hrel
    have HB3:=Lib.hid hB3
    clear hB3
    have y6:=(HB3.out.cell (p:=⟨b,k * 7+6,none⟩) hbl).trans X6.out
    by_cases hlt2:j<vn
    ·have hje:j<x.v.length:=by have:=HVN.out;omega
     obtain ⟨⟨ab,ao,_⟩,rfl,rfl,hl3,hcs⟩:=HE.out.toks (by intro e;simp [e] at hje)
     have hc2:=(hcs j x.v[j] (List.getElem?_eq_getElem hje)).2.2.1
     simp only at hc2 hl3
     have hc3:=(HB3.out.cell (p:=⟨ab,ao+j * 4+2,none⟩) hl3).trans hc2
     clear hc2 hcs
     generalize x.v[j].s=sj at *
     go_wp2
     go_roundw
     case rel=>exact ⟨j+1,_,by go_num,rfl,by omega,HB3.out⟩
     case measure=>simp [intOf];omega
    ·go_wp2
     go_roundw
     case rel=>exact ⟨k+1,_,by go_num,rfl,by omega,HB3.out⟩
     case measure=>simp [intOf];omega
  ·go_wp2
   go_ret
   exact ⟨_,rfl,HB.out⟩
theorem heavyz_any (hi:Nat) (A:Option Addr) (cap:Nat) (ts:List GTok) (w:World) (hT:Toks hi w A ts) (hhi:hi≤w.heap.size) (hcap:ts.length≤cap) (hm:cap≤maxLen):
  Calls Tryz.prog 5 #[.slice A ts.length cap,.agg #[.int .u8 0,.slice none 0 0,.string ⟨#[]⟩,.int .i64 0,.int .i64 0,.int .i64 0,.string ⟨#[]⟩,.slice none 0 0]] w (AnyBool w):=by
 have HB0:=Lib.hid (below_alloc w (.cells #[.int .u8 0,.slice none 0 0,.string ⟨#[]⟩,.int .i64 0,.int .i64 0,.int .i64 0,.string ⟨#[]⟩,.slice none 0 0] 25))
 have HW:=Lib.hid (Whole.new w 25 #[.int .u8 0,.slice none 0 0,.string ⟨#[]⟩,.int .i64 0,.int .i64 0,.int .i64 0,.string ⟨#[]⟩,.slice none 0 0])
 have HTS:=Lib.hid hT
 unfold maxLen at hm
 clear hT
 generalize hn:ts.length=n at *
 have HN:=Lib.hid hn
 clear hn
 go_enter Tryz.func5,Tryz.ntmps5
 go_wp2
 generalize (w.alloc (.cells #[.int .u8 0,.slice none 0 0,.string ⟨#[]⟩,.int .i64 0,.int .i64 0,.int .i64 0,.string ⟨#[]⟩,.slice none 0 0] 25))=W0 at *
 have b1:=(HW.out.cell 1).trans rfl
 have b7:=(HW.out.cell 7).trans rfl
 go_loopw [5,6] (fun a i wr=>wr=W0∧HARel w n a i wr) (fun _ i _=>n - (intOf i).toNat)
 case atStart=>exact ⟨rfl,0,_,rfl,rfl,Nat.zero_le _,HB0.out⟩
 case round=>
  obtain ⟨rfl,k,z,rfl,rfl,hk,_⟩:=hrel
  by_cases hlt:k<n
  ·have hke:k<ts.length:=by have:=HN.out;omega
   obtain ⟨⟨ab,ao,_⟩,rfl,rfl,hl3,hcs⟩:=HTS.out (by intro e;simp [e] at hke)
   have hc2:=(hcs k ts[k] (List.getElem?_eq_getElem hke)).2.2.1
   simp only at hc2 hl3
   have hc3:=(HB0.out.cell (p:=⟨ab,ao+k * 4+2,none⟩) (by simp only;omega)).trans hc2
   clear hc2 hcs
   generalize ts[k].s=sk at *
   go_wp2
   go_roundw
   case rel=>exact ⟨by first | exact trivial | rfl,k+1,_,by go_num,rfl,by omega,HB0.out⟩
   case measure=>simp [intOf];omega
  ·go_wp2
   go_loopw [5,7] (fun a i W=>W=wr∧∃ y:Int,i=.int .i64 0∧a=.int .i64 y) (fun _ i _=>0)
   case atStart=>exact ⟨rfl,_,rfl,rfl⟩
   case round=>
    obtain ⟨rfl,y,rfl,rfl⟩:=hrel
    by_cases hy:3000<y
    ·go_wp2
     go_ret
     exact ⟨_,rfl,HB0.out⟩
    ·go_wp2
     go_ret
     exact ⟨_,rfl,HB0.out⟩
end Go.Proofs.YtamlaknfakaanaaGreatDoor
