/- Texts in one: KeysAt, Walk, WalkT. -/
import Derived.Test.YtmmgdkpkcoopgaaGreatDoorP10
import Derived.Sort.Walk0
import Derived.Test.YtmmgdkpkcoopgaaGreatDoorP5
import Derived.Test.YtmmgdkpkcoopgaaGreatDoorP8
import Derived.Test.YtmmgdkpkcoopgaaGreatDoorP9
import Derived.Test.YtmmgdkpkcoopgaaGreatDoorP6
import Derived.BigQuiet
import Derived.Deep.QuietTactic
set_option maxRecDepth 100000
set_option maxHeartbeats 4000000
namespace Go.Proofs.YtmmgdkpkcoopgaaGreatDoor
open Go.Lib(hid)
open Go Go.RowKit Go.Sort
theorem zhY {x y z:List UInt8} (h1:Op.bytesLess x y=true) (h2:Op.bytesLess y z=true):Op.bytesLess x z=true:=by
 rw [bytesLess_eq,decide_eq_true_eq] at h1 h2 ⊢;exact List.lt_trans h1 h2
theorem zdT {x y:List UInt8} (h1:Op.bytesLess x y=true):Op.bytesLess y x=false/\(x == y)=false/\(y == x)=false:=by
 have h2:=zcl y x;rw [h1] at h2;have h3:Op.bytesLess y x=false/\(y == x)=false:=by simpa using h2
 refine ⟨h3.1,?_,h3.2⟩
 have:¬ y=x:=by simpa using h3.2
 simpa using fun e=>this e.symm
theorem zj8 (key:ByteArray) {ks:List ByteArray} (h:KeysOk ks) (i:Nat) (x:ByteArray) (hx:ks[i]? = some x):
  (i<place key ks/\Op.bytesLess x.toList key.toList=true/\(x.toList == key.toList)=false/\((i:Int) == (place key ks:Int))=false/\(i == place key ks)=false) \/
  (i=place key ks/\Op.bytesLess x.toList key.toList=false/\(x.toList == key.toList)=there key ks) \/
  (¬ i<place key ks/\Op.bytesLess x.toList key.toList=false/\(x.toList == key.toList)=false/\((i:Int) == (place key ks:Int))=false/\(i == place key ks)=false):=by
 have hlen:∀ j y,ks[j]? = some y->j<ks.length:=fun j y hy=>(List.getElem?_eq_some_iff.1 hy).1
 rcases Nat.lt_trichotomy i (place key ks) with hi | hi | hi
 ·have hl:=zdV key ks i x hx hi
  exact .inl ⟨hi,hl,(zdT hl).2.1,by simp;omega,by simp;omega⟩
 ·subst hi
  exact .inr (.inl ⟨rfl,zbM key ks x hx,by unfold there;rw [hx]⟩)
 ·have habove:∀ j y,place key ks<j->ks[j]? = some y->Op.bytesLess key.toList y.toList=true:=by
   intro j
   induction j with
   | zero=>intro y hj;omega
   | succ j ih=>
    intro y hj hy;have hjl:=hlen _ _ hy;obtain ⟨z, hz⟩ : ∃ z, ks[j]? = some z := ⟨ks[j]'(by omega), List.getElem?_eq_getElem (by omega)⟩
    have hzy:Op.bytesLess z.toList y.toList=true:=(h (j+1) y hjl hy).2 j z rfl hz;by_cases e:j=place key ks
    ·have hst:Op.bytesLess z.toList key.toList=false:=zbM key ks z (by rw [<- e];exact hz)
     have h2:=zcl key.toList z.toList;rw [hst] at h2;have h3:Op.bytesLess key.toList z.toList=true\/key.toList=z.toList:=by simpa using h2
     rcases h3 with h3 | h3
     ·exact zhY h3 hzy
     ·rw [h3];exact hzy
    ·exact zhY (ih z (by omega) hz) hzy
  have ha:=zdT (habove i x hi hx);exact .inr (.inr ⟨by omega,ha.1,ha.2.2,by simp;omega,by simp;omega⟩)
theorem zgy {ks:List ByteArray} (h:KeysOk ks) {k:Nat} {key:ByteArray} (hk:ks[k]? = some key):place key ks=k/\there key ks=true:=by
 rcases zj8 key h k key hk with ⟨_,_,he,_⟩ | ⟨e,_,ht⟩ | ⟨_,_,he,_⟩
 ·simp at he
 ·exact ⟨e.symm,by rw [<- ht];simp⟩
 ·simp at he
open Go Go.RowKit
theorem zfn {s:GStep} {h':GV}:∀ (ps:List GStep) (g h:GV),g.get ps=some h->h.inside s=some h'->g.get (ps++[s])=some h'
 | [],g,h,e,hi=>by simp [GV.get] at e;subst e;simp [GV.get,hi]
 | t :: r,g,h,e,hi=>by
  simp only [GV.get] at e;cases ht:g.inside t with
  | none=>rw [ht] at e;cases e
  | some y=>
   rw [ht] at e;simp only [List.cons_append,GV.get,ht,Option.bind_some];exact zfn r y h e hi
def cellsP (ps:List GStep):List Value:=ps.flatMap encG
theorem zed (ps:List GStep) (s:GStep):cellsP (ps++[s])=cellsP ps++encG s:=by simp [cellsP]
theorem ze5:∀ (ps:List GStep) (i:Nat) (s:GStep),ps[i]? = some s->(cellsP ps)[i * 3]? = some (.bool s.list)/\(cellsP ps)[i * 3+1]? = some (.int .i64 s.i)/\(cellsP ps)[i * 3+2]? = some (.string s.key)
 | [],i,s,h=>by simp at h
 | x :: r,0,s,h=>by simp at h;subst h;simp [cellsP,encG]
 | x :: r,i+1,s,h=>by
  have:=ze5 r i s (by simpa using h)
  have e:cellsP (x :: r)=encG x++cellsP r:=by simp [cellsP]
  rw [e,show (i+1) * 3=i * 3+3 by omega,show i * 3+3+1=i * 3+1+3 by omega,show i * 3+3+2=i * 3+2+3 by omega]
  simpa [encG] using this
theorem zej {W:World} {base:Nat} {v:Value} {ps:List GStep} (h:W.ownsRow base 85 3 v ps.length (cellsP ps)):∃ A c,v=.slice A ps.length c/\ps.length<=c/\c<=maxLen/\Steps W.heap.size W A ps:=by
 rcases h.2 with ⟨rfl,hn⟩ | ⟨g,cap,cur,rfl,hb,hg,h1,h2,h3,h4⟩
 ·exact ⟨none,0,by rw [hn],by omega,by decide,fun hne=>absurd (List.length_eq_zero_iff.1 hn) hne⟩
 ·refine ⟨_,cap,rfl,h1,h2,fun _=>⟨_,rfl,rfl,(Array.getElem?_eq_some_iff.1 hg).1,fun i s hs=>?_⟩⟩
  obtain ⟨e0,e1,e2⟩:=ze5 ps i s hs;have hc:=fun j u (hj:(cellsP ps)[j]? = some u)=>h.cells (g:=g) rfl j u hj
  simp only [zbu] at hc;exact ⟨hc _ _ e0,hc _ _ e1,hc _ _ e2⟩
theorem zaN {g:GV} (h:g.Sound):SelfOk g/\(∀ x∈g.il,x.Sound)/\∀ x∈g.vz,x.Sound:=by
 cases g with
 | mk k n s l ks ov=>
  simp only [GV.Sound] at h;exact ⟨h.1,(zap l).1 h.2.1,(zap ov).1 h.2.2⟩
theorem zie {g:GV} (h:g.Sound) (hn:g.il≠[]):g.kq=4:=((zaN h).1.2.2.2.1).resolve_right hn
theorem zjv {g:GV} (h:g.Sound) (hn:g.vz≠[]):g.kq=5/\KeysOk g.keys:=by
 rcases (zaN h).1.2.2.2.2 with h | h
 ·exact h
 ·exact absurd h.2 hn
def Clean (s:GStep):Prop:=s.key.size<=1000000000/\(s.list=true->s.key.toList=[])/\(s.list=false->s.i=0)
structure WG (w:World) (h:GV) (BL BO:Option Addr) (dL dO:Nat) (ps:List GStep) (v:Value) (W:World):Prop where
 below:Below w.heap.size w W
 box:Whole W w.heap.size 29 #[.int .u8 h.kq,.int .i64 h.num,.string h.str,.slice BL h.il.length dL,.slice BO h.vz.length dO]
 lst:LstV (fun k=>k<w.heap.size) W (.slice BL h.il.length dL) h.il
 obj:ObjV (fun k=>k<w.heap.size) W (.slice BO h.vz.length dO) h.keys h.vz
 own:W.ownsRow (w.heap.size+1) 85 3 v ps.length (cellsP ps)
def WalkRel (w:World) (g:GV) (n:Nat) (out i:Value) (wr:World):Prop:=
 ∃ (j:Nat) (h:GV) (BL BO:Option Addr) (dL dO:Nat) (ps:List GStep),i=.int .i64 j/\j<=n/\j<=8/\ps.length<=j/\g.get ps=some h/\h.Sound/\(∀ s∈ps,Clean s)/\WG w h BL BO dL dO ps out wr
def WalkPost (g:GV) (w:World) (e:Ending) (w':World):Prop:=
 ∃ (A:Option Addr) (c:Nat) (ps:List GStep) (h:GV),e=.returned (.slice A ps.length c)/\ps.length<=c/\c<=maxLen/\ps.length<=8/\Steps w'.heap.size w' A ps/\g.get ps=some h/\(∀ s∈ps,Clean s)/\(∀ p,A=some p->w.heap.size<=p.block)/\Below w.heap.size w w'
theorem zfO {W:World} {base n c k s:Nat} {A:Option Addr} {t:TypeId} {xs:List Value} (h:W.ownsRow (base+1) t s (.slice A n c) k xs):∀ p,A=some p->base<=p.block:=fun p hp=>by
 subst hp;have:=(h.lt p.block rfl).1;omega
theorem WG.later {w W W':World} {h:GV} {BL BO:Option Addr} {dL dO:Nat} {ps:List GStep} {v:Value} (q:WG w h BL BO dL dO ps v W) (hb:Below W.heap.size W W'):WG w h BL BO dL dO ps v W':=
 ⟨q.below.trans (hb.mono q.below.size),q.box.below hb q.box.lt,q.lst.keep (From.of_below hb) (fun _ h _=>h),q.obj.keep (From.of_below hb) (fun _ h _=>h),zaz q.own hb⟩
theorem zcC (W:World) (n:Nat):Below W.heap.size W (W.drewN n):=⟨rfl,rfl,rfl,Nat.le_refl _,fun _ _=>rfl⟩
theorem infoStep:(Tryz.prog.info? 85).map (fun i=>(i.zero,i.size,i.bytes))=some (some (.agg #[.bool false,.int .i64 0,.string ⟨#[]⟩]),3,32):=by kernel_rfl
theorem zin {ok:Nat->Prop} {w:World} {g:GV} {AL AO:Option Addr} {cL cO:Nat} (hL:LstV ok w (.slice AL g.il.length cL) g.il) (hO:ObjV ok w (.slice AO g.vz.length cO) g.keys g.vz):
  WG w g AL AO cL cO [] (.slice none 0 0) (w.alloc (.cells #[.int .u8 g.kq,.int .i64 g.num,.string g.str,.slice AL g.il.length cL,.slice AO g.vz.length cO] 29)):=by
 have hb:=(Below.refl _ w).alloc (Nat.le_refl _) (.cells #[.int .u8 g.kq,.int .i64 g.num,.string g.str,.slice AL g.il.length cL,.slice AO g.vz.length cO] 29);exact ⟨hb,Whole.new w _ _,hL.keep (From.of_below hb) (fun _ _ h=>h),hO.keep (From.of_below hb) (fun _ _ h=>h),World.ownsRow_nil _ _ _ _⟩
theorem WG.app {w W W3:World} {h:GV} {BL BO:Option Addr} {dL dO:Nat} {ps:List GStep} {v v':Value} (q:WG w h BL BO dL dO ps v W) {s:GStep} (hown:W3.ownsRow (w.heap.size+1) 85 3 v' (ps.length+1) (cellsP ps++encG s)) (hgrow:W.grownBy W3 v.ownBlock):
  WG w h BL BO dL dO (ps++[s]) v' W3:=by
 have hrow:∀ k,v.ownBlock=some k->w.heap.size+1<=k:=fun k hk=>(q.own.lt k hk).1
 have hF:From (fun k=>k<w.heap.size) W W3:=fun k hk hlt=>hgrow.block k hlt (fun e=>by have:=hrow k e.symm;omega)
 refine ⟨q.below.grown hgrow (by have:=q.box.lt;omega) (fun k hk=>by have:=hrow k hk;omega),q.box.grown hgrow (fun e=>by have:=hrow _ e.symm;omega),q.lst.keep hF (fun _ h _=>h),q.obj.keep hF (fun _ h _=>h),?_⟩
 rw [zed,List.length_append];exact hown
theorem WG.put {w W:World} {h h':GV} {BL BO EL EO:Option Addr} {dL dO eL eO:Nat} {ps:List GStep} {v:Value} (q:WG w h BL BO dL dO ps v W) (hL:LstV (fun k=>k<w.heap.size) W (.slice EL h'.il.length eL) h'.il) (hO:ObjV (fun k=>k<w.heap.size) W (.slice EO h'.vz.length eO) h'.keys h'.vz):
  WG w h' EL EO eL eO ps v (put5 W w.heap.size (.int .u8 h'.kq) (.int .i64 h'.num) (.string h'.str) (.slice EL h'.il.length eL) (.slice EO h'.vz.length eO)):=by
 have hF:From (fun k=>k<w.heap.size) W (put5 W w.heap.size (.int .u8 h'.kq) (.int .i64 h'.num) (.string h'.str) (.slice EL h'.il.length eL) (.slice EO h'.vz.length eO)):=fun k hk _=>zac _ _ _ _ _ _ _ _ (by omega)
 exact ⟨zae q.below (Nat.le_refl _) _ _ _ _ _,zai q.box _ _ _ _ _,hL.keep hF (fun _ h _=>h),hO.keep hF (fun _ h _=>h),zbo q.own (fun k hk=>zac _ _ _ _ _ _ _ _ (by have:=(q.own.lt k hk).1;omega))⟩
theorem zmH {ok:Nat->Prop} {W:World} {b o n c k:Nat} {l:List GV} {x:GV} (h:LstV ok W (.slice (some ⟨b,o,none⟩) n c) l) (hk:l[k]? = some x):∃ AL AO cL cO,Spot ok W b (o+k * 5) x AL AO cL cO:=by
 rcases h with ⟨rfl,_⟩ | ⟨b',o',c',he,_,_,_,hE⟩
 ·simp at hk
 ·cases he
  exact (GV.els_get hE hk).spot
theorem zmC {ok:Nat->Prop} {W:World} {b o n c k:Nat} {ks:List ByteArray} {l:List GV} {x:GV} (h:ObjV ok W (.slice (some ⟨b,o,none⟩) n c) ks l) (hk:l[k]? = some x):∃ AL AO cL cO,Spot ok W b (o+k * 6+1) x AL AO cL cO:=by
 rcases h.2 with ⟨rfl,_⟩ | ⟨b',o',c',he,_,_,_,_,hE⟩
 ·simp at hk
 ·cases he
  have:=GV.els_get hE hk;rw [show o+1+k * 6=o+k * 6+1 by omega] at this
  exact this.spot
theorem zfK {ok:Nat->Prop} {W:World} {b o n c k:Nat} {ks:List ByteArray} {l:List GV} {x:ByteArray} (h:ObjV ok W (.slice (some ⟨b,o,none⟩) n c) ks l) (hk:ks[k]? = some x):W.cell? ⟨b,o+k * 6,none⟩=some (.string x):=by
 rcases h.2 with ⟨rfl,_⟩ | ⟨b',o',c',he,_,_,_,hks,_⟩
 ·have:=h.1
  have:ks=[]:=List.length_eq_zero_iff.1 (by simpa using this)
  rw [this] at hk;simp at hk
 ·cases he
  exact hks.get hk
theorem zlH:∀ (ks:List ByteArray) (x:ByteArray),x∈ks->x.size<=(ks.map (·.size)).sum
 | [],x,h=>by simp at h
 | a :: r,x,h=>by
  rcases List.mem_cons.1 h with rfl | h
  ·simp
  ·have:=zlH r x h
   simp only [List.map_cons,List.sum_cons];omega
theorem zhI {g:GV} {k:Nat} {x:ByteArray} (hk:g.keys[k]? = some x):x.size<=g.weight:=by
 cases g with
 | mk a n s l ks ov=>
  simp only [GV.keys] at hk;have:x.size<=(ks.map (·.size)).sum:=zlH ks x (List.mem_of_getElem? hk)
  simp only [GV.weight];omega
theorem zlC (ok:Nat->Prop) (v:Value) (g:GV) (hi:Nat) (A:Option Addr) (cap:Nat) (bs:List Int) (w:World) (hv:g.val ok w v) (hg:g.Sound) (hgw:g.weight<=1000000000) (hB:Bytes hi w A bs) (hb255:∀ x∈bs,0<=x/\x<=255) (hhi:hi<=w.heap.size) (_hcap:bs.length<=cap) (_hm:cap<=maxLen):
  Calls Tryz.prog 21 #[v,.slice A bs.length cap] w (WalkPost g w):=by
 obtain ⟨L,O,rfl,hL,hO⟩:=hv;obtain ⟨AL,cL,rfl⟩:=zah hL;obtain ⟨AO,cO,rfl⟩:=zag hO;have HST:=hid (zin hL hO);have HBY:=hid hB;have H255:=hid hb255;clear hL hO hB hb255;unfold maxLen at _hm;go_enter Tryz.func21,Tryz.ntmps21
 go_wp2
 go_loopw [5,6] (WalkRel w g bs.length) (fun _ i _=>bs.length - (intOf i).toNat)
 case atStart=>exact ⟨0,g,AL,AO,cL,cO,[],rfl,Nat.zero_le _,Nat.zero_le _,Nat.le_refl _,rfl,hg,fun s hs=>by simp at hs,HST.out⟩
 case round=>
  obtain ⟨j,h,BL,BO,dL,dO,ps,rfl,hj,hj8,hpj,hget,hhs,hks,hq⟩:=hrel;obtain ⟨UA,uc,rfl⟩:=zaf hq.own;have hq':=hq;have HQ:=hid hq';clear hq';by_cases hlt:j<bs.length
  ·by_cases h8:j<8
   ·obtain ⟨pb,po,rfl,hpb,hcell⟩:=HBY.out (by intro e;rw [e] at hlt;simp at hlt)
    have hx:=(hq.below.cell (p:=⟨pb,po+j,none⟩) (by simp only;omega)).trans (hcell j bs[j] (List.getElem?_eq_getElem hlt))
    have hxr:=H255.out bs[j] (List.getElem_mem hlt);obtain ⟨v0,v1,v2,v3,v4,f0,f1,f2,f3,f4⟩:=hq.box.five;have hgx:=zas ps g h hget;have HG:=hid (And.intro hget (And.intro hhs hks));clear hq hcell hget hhs hks;generalize bs[j]=x at *;obtain ⟨nl,hnl⟩:∃ n,h.il.length=n:=⟨_,rfl⟩;obtain ⟨no,hno⟩:∃ n,h.vz.length=n:=⟨_,rfl⟩;rw [hnl] at v3;rw [hno] at v4;by_cases h1:0<nl
    ·have hk:∃ k:Nat,k<nl/\x % (nl:Int)=k:=⟨(x % (nl:Int)).toNat,by
      have q1:=Int.emod_nonneg x (show (nl:Int)≠0 by omega)
      have q2:=Int.emod_lt_of_pos x (show (0:Int)<(nl:Int) by omega)
      constructor<;>omega⟩
     obtain ⟨k,hkl,hmod⟩:=hk;have hmod2:x.tmod (nl:Int)=k:=by rw [Int.tmod_eq_emod_of_nonneg hxr.1];exact hmod
     have hkl':k<h.il.length:=by omega
     have hki:h.il[k]? = some h.il[k]:=List.getElem?_eq_getElem hkl';have hin:=zbS (g:=h) (s:=⟨true,(k:Int),⟨#[]⟩⟩) rfl (zie HG.out.2.1 (by intro e;rw [e] at hkl';simp at hkl')) rfl hkl'
     have hsd:=(zaN HG.out.2.1).2.1 h.il[k] (List.getElem_mem hkl');obtain ⟨_,_,hbl,hl1,hl2,hlf⟩:=HQ.out.lst.form;cases hbl
     obtain ⟨lb,lo,rfl,_,_⟩:=hlf (by intro e;rw [e] at hkl';simp at hkl')
     unfold maxLen at hl2;generalize h.il[k]=h' at *;have HKI:=hid hki;have HIN:=hid (And.intro hin hsd);clear hki hin hsd hlf hkl';rw [hnl] at hl1;obtain ⟨i0,hi0,hz0,hz1,hz2⟩:=info_parts infoStep;have HI0:=hid hi0;have HZ0:=hid (And.intro hz0 (And.intro hz1 hz2));clear hi0 hz0 hz1 hz2;have b1:ps.length+1<=maxLen:=by unfold maxLen;omega
     have b2:(ps.length+1) * 32<=140737488355328:=by omega
     have BB:=hid (And.intro b1 b2);clear b1 b2
     go_wp2_with fail
     go_quiet (fail)
     have hq1:=HQ.out.later (zcC wr nq);have w0:=hq1.box.five;generalize wr.drewN nq=W1 at *;have HQ1:=hid hq1;obtain ⟨u0,u1,u2,u3,u4,_⟩:=w0;rw [hnl] at u3;have a3:=fun o=>zab o u3
     clear hq1 v0 v1 v2 v3 v4 f0 f1 f2 f3 f4 hx u0 u1 u2 u4
     go_wp2_with (at_builtin;refine wpList_append_own_at _ rfl (.tmp 32) (.tmp 35) 43 rfl (w.heap.size+1) 85 i0 _ 3 32 Tryz.underlying43 HI0.out HZ0.out.1 HZ0.out.2.1 HZ0.out.2.2 rfl (by decide) (.slice UA ps.length uc) ps.length (cellsP ps) rfl (HQ1.out.later ((Below.refl _ W1).alloc (Nat.le_refl _) _)).own ⟨W1.heap.size,0,none⟩ 1 1 (encG ⟨true,(k:Int),⟨#[]⟩⟩) rfl rfl (row_cells' W1 _ rfl _ _) (by simp [encG,Value.oneCell']) BB.out.1 BB.out.2 (by have:=HQ1.out.box.lt;simp;omega) ?_;intro v' W3 hown' hgrow _ _;obtain ⟨A3,c3,rfl⟩:=zaf hown';have hq3:=(HQ1.out.later ((Below.refl _ W1).alloc (Nat.le_refl _) _)).app (s:=⟨true,(k:Int),⟨#[]⟩⟩) hown' hgrow;obtain ⟨y0,y1,y2,y3,y4,g0,g1,g2,g3,g4⟩:=hq3.box.five;obtain ⟨EL,EO,eL,eO,hsp⟩:=zmH hq3.lst HKI.out;have HSP:=hid hsp;obtain ⟨e0,e1,e2,e3,e4,_,_⟩:=hsp;have HQ3:=hid hq3;clear hown' hgrow hq3)
     refine ⟨⟨j+1,h',EL,EO,eL,eO,ps++[⟨true,(k:Int),⟨#[]⟩⟩],by go_num,by omega,by omega,by simp;omega,zfn ps g h HG.out.1 HIN.out.1,HIN.out.2,fun t ht=>?_,?_⟩,by simp [intOf];omega⟩
     ·rcases List.mem_append.1 ht with ht | ht
      ·exact HG.out.2.2 t ht
      ·simp only [List.mem_singleton] at ht
       subst ht;exact ⟨Nat.zero_le _,fun _=>(show (⟨#[]⟩:ByteArray).toList=[] by decide +kernel),fun hc=>Bool.noConfusion hc⟩
     ·exact HQ3.out.put HSP.out.lst HSP.out.obj
    ·by_cases h2:0<no
     ·have hk:∃ k:Nat,k<no/\x % (no:Int)=k:=⟨(x % (no:Int)).toNat,by
       have q1:=Int.emod_nonneg x (show (no:Int)≠0 by omega)
       have q2:=Int.emod_lt_of_pos x (show (0:Int)<(no:Int) by omega)
       constructor<;>omega⟩
      obtain ⟨k,hkl,hmod⟩:=hk;have hmod2:x.tmod (no:Int)=k:=by rw [Int.tmod_eq_emod_of_nonneg hxr.1];exact hmod
      have hkl':k<h.vz.length:=by omega
      have hkk:k<h.keys.length:=by have:=HQ.out.obj.1;omega
      have hki:h.vz[k]? = some h.vz[k]:=List.getElem?_eq_getElem hkl';have hkey:h.keys[k]? = some h.keys[k]:=List.getElem?_eq_getElem hkk;have hkv:=zjv HG.out.2.1 (by intro e;rw [e] at hkl';simp at hkl')
      have hpl:=zgy hkv.2 hkey;have hin:h.inside ⟨false,(0:Int),h.keys[k]⟩=some h.vz[k]:=by
       simp only [GV.inside,hkv.1,hpl.1,hpl.2];simp
      have hsd:=(zaN HG.out.2.1).2.2 h.vz[k] (List.getElem_mem hkl');have hksz:=zhI hkey;obtain ⟨_,_,hbl,hl1,hl2,hlf⟩:=HQ.out.obj.form;cases hbl
      obtain ⟨lb,lo,rfl,_,_⟩:=hlf (by intro e;rw [e] at hkl';simp at hkl')
      have hkc:=zfK HQ.out.obj hkey;unfold maxLen at hl2;have HKEY:=hid (And.intro hksz (Nat.le_trans hgx hgw));clear hpl hkey hksz;generalize h.vz[k]=h' at *;generalize h.keys[k]=key at *;have HKI:=hid hki;have HIN:=hid (And.intro hin hsd);clear hki hin hsd hlf hkl';rw [hno] at hl1;obtain ⟨i0,hi0,hz0,hz1,hz2⟩:=info_parts infoStep;have HI0:=hid hi0;have HZ0:=hid (And.intro hz0 (And.intro hz1 hz2));clear hi0 hz0 hz1 hz2;have b1:ps.length+1<=maxLen:=by unfold maxLen;omega
      have b2:(ps.length+1) * 32<=140737488355328:=by omega
      have BB:=hid (And.intro b1 b2);clear b1 b2
      go_wp2_with fail
      go_quiet (fail)
      have hq1:=HQ.out.later (zcC wr nq);have w0:=hq1.box.five;have hkc1:(wr.drewN nq).cell? ⟨lb,lo+k * 6,none⟩=some (.string key):=hkc;generalize wr.drewN nq=W1 at *;have HQ1:=hid hq1;obtain ⟨u0,u1,u2,u3,u4,_⟩:=w0;rw [hno] at u4;have a3:=fun o=>zab o u4
      clear hq1 v0 v1 v2 v3 v4 f0 f1 f2 f3 f4 hx u0 u1 u2 u3 hkc
      go_wp2_with (at_builtin;refine wpList_append_own_at _ rfl (.tmp 55) (.tmp 63) 43 rfl (w.heap.size+1) 85 i0 _ 3 32 Tryz.underlying43 HI0.out HZ0.out.1 HZ0.out.2.1 HZ0.out.2.2 rfl (by decide) (.slice UA ps.length uc) ps.length (cellsP ps) rfl (HQ1.out.later ((Below.refl _ W1).alloc (Nat.le_refl _) _)).own ⟨W1.heap.size,0,none⟩ 1 1 (encG ⟨false,(0:Int),key⟩) rfl rfl (row_cells' W1 _ rfl _ _) (by simp [encG,Value.oneCell']) BB.out.1 BB.out.2 (by have:=HQ1.out.box.lt;simp;omega) ?_;intro v' W3 hown' hgrow _ _;obtain ⟨A3,c3,rfl⟩:=zaf hown';have hq3:=(HQ1.out.later ((Below.refl _ W1).alloc (Nat.le_refl _) _)).app (s:=⟨false,(0:Int),key⟩) hown' hgrow;obtain ⟨y0,y1,y2,y3,y4,g0,g1,g2,g3,g4⟩:=hq3.box.five;obtain ⟨EL,EO,eL,eO,hsp⟩:=zmC hq3.obj HKI.out;have HSP:=hid hsp;obtain ⟨e0,e1,e2,e3,e4,_,_⟩:=hsp;have HQ3:=hid hq3;clear hown' hgrow hq3)
      refine ⟨⟨j+1,h',EL,EO,eL,eO,ps++[⟨false,(0:Int),key⟩],by go_num,by omega,by omega,by simp;omega,zfn ps g h HG.out.1 HIN.out.1,HIN.out.2,fun t ht=>?_,?_⟩,by simp [intOf];omega⟩
      ·rcases List.mem_append.1 ht with ht | ht
       ·exact HG.out.2.2 t ht
       ·simp only [List.mem_singleton] at ht
        subst ht;exact ⟨Nat.le_trans HKEY.out.1 HKEY.out.2,fun hc=>Bool.noConfusion hc,fun _=>rfl⟩
      ·exact HQ3.out.put HSP.out.lst HSP.out.obj
     ·go_wp2
      exact ⟨⟨j+1,h,BL,BO,dL,dO,ps,by go_num,by omega,by omega,by omega,HG.out.1,HG.out.2.1,HG.out.2.2,HQ.out⟩,by simp [intOf];omega⟩
   ·clear hq
    go_wp2
    go_ret
    obtain ⟨A',c',he,q1,q2,q3⟩:=zej HQ.out.own;cases he
    exact ⟨UA,uc,ps,h,rfl,q1,q2,by omega,q3,hget,hks,zfO HQ.out.own,HQ.out.below⟩
  ·clear hq
   go_wp2
   go_ret
   obtain ⟨A',c',he,q1,q2,q3⟩:=zej HQ.out.own;cases he
   exact ⟨UA,uc,ps,h,rfl,q1,q2,by omega,q3,hget,hks,zfO HQ.out.own,HQ.out.below⟩
end Go.Proofs.YtmmgdkpkcoopgaaGreatDoor
