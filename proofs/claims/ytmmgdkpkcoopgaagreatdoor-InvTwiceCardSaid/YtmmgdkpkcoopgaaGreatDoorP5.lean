/- Texts in one: PathG, Inside, Look, Get, GetF. -/
import Derived.Test.YtmmgdkpkcoopgaaGreatDoorP2
import Derived.Test.YtmmgdkpkcoopgaaGreatDoorP1
import Derived.Shelf.Abstract
import Derived.Test.YtmmgdkpkcoopgaaGreatDoorP4
set_option maxHeartbeats 4000000
namespace Go.Proofs.YtmmgdkpkcoopgaaGreatDoor
open Go.Lib(hid)
open Go Go.RowKit
structure GStep where
 list:Bool
 i:Int
 key:ByteArray
def GV.inside (g:GV) (s:GStep):Option GV:=
 if s.list then (if g.kq=4/\0<=s.i then g.il[s.i.toNat]? else none)
 else if g.kq=5/\there s.key g.keys=true then g.vz[place s.key g.keys]? else none
def GV.setIn (g:GV) (s:GStep) (y:GV):GV:=
 if s.list then .mk g.kq g.num g.str (g.il.set s.i.toNat y) g.keys g.vz else .mk g.kq g.num g.str g.il g.keys (g.vz.set (place s.key g.keys) y)
def GV.get (g:GV):List GStep->Option GV
 | []=>some g
 | s :: r=>(g.inside s).bind fun h=>h.get r
def GV.put (g:GV) (x:GV):List GStep->Option GV
 | []=>some x
 | s :: r=>(g.inside s).bind fun h=>(h.put x r).map (g.setIn s)
theorem zdJ (x:GV):∀ (p:List GStep) (g:GV),g.put x p=none↔g.get p=none
 | [],g=>by simp [GV.put,GV.get]
 | s :: r,g=>by
  simp only [GV.put,GV.get];cases h:g.inside s with
  | none=>simp
  | some y=>simpa using zdJ x r y
theorem zhe {x g h:GV} {p:List GStep} (e:g.get p=some h):∃ y,g.put x p=some y:=by
 cases hp:g.put x p with
 | none=>rw [(zdJ x p g).1 hp] at e;cases e
 | some y=>exact ⟨y,rfl⟩
theorem zbS {g:GV} {s:GStep} (hs:s.list=true) {k:Nat} (hk:g.kq=4) (hi:s.i=k) (hl:k<g.il.length):g.inside s=some g.il[k]:=by
 simp [GV.inside,hs,hk,hi,hl]
theorem zdw {g:GV} {s:GStep} (hs:s.list=false) (hk:g.kq=5) (ht:there s.key g.keys=true) (hl:place s.key g.keys<g.vz.length):g.inside s=some (g.vz[place s.key g.keys]):=by
 simp [GV.inside,hs,hk,ht,hl]
theorem zaE {g h:GV} {s:GStep} (hi:g.inside s=some h):
  (s.list=true/\g.kq=4/\∃ k:Nat,s.i=k/\g.il[k]? = some h)\/(s.list=false/\g.kq=5/\there s.key g.keys=true/\g.vz[place s.key g.keys]? = some h):=by
 unfold GV.inside at hi;split at hi
 ·rename_i hl
  split at hi
  ·rename_i hc
   exact .inl ⟨hl,hc.1,s.i.toNat,by omega,hi⟩
  ·cases hi
 ·rename_i hl
  split at hi
  ·rename_i hc
   exact .inr ⟨by simpa using hl,hc.1,hc.2,hi⟩
  ·cases hi
theorem zbP {key:ByteArray} {ks:List ByteArray} (h:there key ks=true):place key ks<ks.length:=by
 unfold there at h;by_cases hl:place key ks<ks.length
 ·exact hl
 ·rw [List.getElem?_eq_none (by omega)] at h;simp at h
@[simp] theorem setIn_kind (g:GV) (s:GStep) (y:GV):(g.setIn s y).kq=g.kq:=by unfold GV.setIn;split<;>rfl
@[simp] theorem setIn_num (g:GV) (s:GStep) (y:GV):(g.setIn s y).num=g.num:=by unfold GV.setIn;split<;>rfl
@[simp] theorem setIn_str (g:GV) (s:GStep) (y:GV):(g.setIn s y).str=g.str:=by unfold GV.setIn;split<;>rfl
@[simp] theorem setIn_keys (g:GV) (s:GStep) (y:GV):(g.setIn s y).keys=g.keys:=by unfold GV.setIn;split<;>rfl
theorem zbQ {g:GV} {s:GStep} {y:GV} (h:s.list=true):(g.setIn s y).il=g.il.set s.i.toNat y/\(g.setIn s y).vz=g.vz:=by unfold GV.setIn;simp [h,GV.il,GV.vz]
theorem zcm {g:GV} {s:GStep} {y:GV} (h:s.list=false):(g.setIn s y).il=g.il/\(g.setIn s y).vz=g.vz.set (place s.key g.keys) y:=by unfold GV.setIn;simp [h,GV.il,GV.vz]
theorem zaO:∀ (l:List GV) (k:Nat) (h y:GV),l[k]? = some h->GV.weights (l.set k y)+h.weight=GV.weights l+y.weight
 | [],k,h,y,e=>by simp at e
 | x :: r,0,h,y,e=>by simp at e;subst e;simp [GV.weights];omega
 | x :: r,k+1,h,y,e=>by
  have:=zaO r k h y (by simpa using e)
  simp only [List.set_cons_succ,GV.weights];omega
theorem zcd {g h:GV} {s:GStep} (y:GV) (hi:g.inside s=some h):(g.setIn s y).weight+h.weight=g.weight+y.weight:=by
 cases g with
 | mk k n z l ks ov=>
  rcases zaE hi with ⟨hs,_,k',hk,hg⟩ | ⟨hs,_,_,hg⟩
  ·have:=zaO l k' h y hg
   simp only [GV.setIn,hs,if_true,GV.weight,hk,Int.toNat_natCast,GV.kq,GV.num,GV.str,GV.il,GV.keys,GV.vz];omega
  ·have:=zaO ov _ h y hg
   simp only [GV.setIn,hs,GV.weight,GV.kq,GV.num,GV.str,GV.il,GV.keys,GV.vz,Bool.false_eq_true,if_false];simp only [GV.keys] at this;omega
theorem zcn {x:GV}:∀ (p:List GStep) (g y:GV),g.put x p=some y->y.weight<=g.weight+x.weight
 | [],g,y,e=>by simp [GV.put] at e;subst e;omega
 | s :: r,g,y,e=>by
  simp only [GV.put] at e;cases hi:g.inside s with
  | none=>rw [hi] at e;cases e
  | some h=>
   rw [hi] at e;simp only [Option.bind_some] at e;cases hp:h.put x r with
   | none=>rw [hp] at e;cases e
   | some z=>
    rw [hp] at e;simp only [Option.map_some,Option.some.injEq] at e;subst e;have h1:=zcn r h z hp;have h2:=zcd z hi;omega
theorem zb0 {g h:GV} {s:GStep} (hi:g.inside s=some h):h.weight<=g.weight:=by
 have:=zcd h hi;have h2:=zcd (y:=.mk 0 0 ⟨#[]⟩ [] [] []) hi;cases g with
 | mk k n z l ks ov=>
  rcases zaE hi with ⟨hs,_,k',hk,hg⟩ | ⟨hs,_,_,hg⟩
  ·have h3:=zaO l k' h (.mk 0 0 ⟨#[]⟩ [] [] []) hg
   simp only [GV.weight,GV.weights,List.map_nil,List.sum_nil] at h3 ⊢;have:(⟨#[]⟩:ByteArray).size=0:=rfl;omega
  ·have h3:=zaO ov _ h (.mk 0 0 ⟨#[]⟩ [] [] []) hg
   simp only [GV.weight,GV.weights,List.map_nil,List.sum_nil] at h3 ⊢;have:(⟨#[]⟩:ByteArray).size=0:=rfl;omega
theorem zas:∀ (p:List GStep) (g h:GV),g.get p=some h->h.weight<=g.weight
 | [],g,h,e=>by simp [GV.get] at e;subst e;exact Nat.le_refl _
 | s :: r,g,h,e=>by
  simp only [GV.get] at e;cases hi:g.inside s with
  | none=>rw [hi] at e;cases e
  | some y=>rw [hi] at e;exact Nat.le_trans (zas r y h e) (zb0 hi)
def StepsAt (W:World) (a:Addr) (ps:List GStep):Prop:=
 ∀ i s,ps[i]? = some s->W.cell? ⟨a.block,a.off+i * 3,none⟩=some (.bool s.list)/\W.cell? ⟨a.block,a.off+i * 3+1,none⟩=some (.int .i64 s.i)/\W.cell? ⟨a.block,a.off+i * 3+2,none⟩=some (.string s.key)
def Steps (hi:Nat) (W:World) (A:Option Addr) (ps:List GStep):Prop:=
 ps≠[]->∃ a:Addr,A=some a/\a.spot=none/\a.block<hi/\StepsAt W a ps
theorem Steps.keep {hi hi':Nat} {W W':World} {A:Option Addr} {ps:List GStep} (hb:Below hi W W') (hhi:hi<=hi') (h:Steps hi W A ps):Steps hi' W' A ps:=fun hn=>by
 obtain ⟨a,rfl,hs,hl,hc⟩:=h hn;have e:∀ o,W'.cell? ⟨a.block,o,none⟩=W.cell? ⟨a.block,o,none⟩:=fun o=>hb.cell (p:=⟨a.block,o,none⟩) hl
 refine ⟨a,rfl,hs,by omega,fun i t ht=>?_⟩
 simp only [e];exact hc i t ht
theorem Steps.one {hi:Nat} {W:World} {A:Option Addr} {ps:List GStep} (h:Steps hi W A ps) {k:Nat} (hk:k<ps.length):
  ∃ b o,A=some ⟨b,o,none⟩/\b<hi/\W.cell? ⟨b,o+k * 3,none⟩=some (.bool ps[k].list)/\W.cell? ⟨b,o+k * 3+1,none⟩=some (.int .i64 ps[k].i)/\W.cell? ⟨b,o+k * 3+2,none⟩=some (.string ps[k].key):=by
 obtain ⟨⟨b,o,sp⟩,rfl,hs,hl,hc⟩:=h (by intro e;rw [e] at hk;simp at hk)
 simp only at hs;subst hs;exact ⟨b,o,rfl,hl,hc k ps[k] (List.getElem?_eq_getElem hk)⟩
def InsidePost (g:GV) (s:GStep) (AL AO:Option Addr) (w:World) (e:Ending) (w':World):Prop:=
 Below w.heap.size w w'/\((g.inside s=none/\e=.returned (.pointer none)) \/
  (s.list=true/\∃ (k:Nat) (b o:Nat) (h:GV),s.i=k/\g.il[k]? = some h/\g.inside s=some h/\AL=some ⟨b,o,none⟩/\e=.returned (.pointer (some ⟨b,o+k * 5,none⟩))) \/
  (s.list=false/\∃ (b o:Nat) (h:GV),g.vz[place s.key g.keys]? = some h/\g.inside s=some h/\AO=some ⟨b,o,none⟩/\e=.returned (.pointer (some ⟨b,o+place s.key g.keys * 6+1,none⟩))))
theorem zkH (ok:Nat->Prop) (b off:Nat) (g:GV) (AL:Option Addr) (cL:Nat) (i:Int) (w:World) (h0:w.cell? ⟨b,off,none⟩=some (.int .u8 g.kq)) (h3:w.cell? ⟨b,off+3,none⟩=some (.slice AL g.il.length cL))
  (hL:LstV ok w (.slice AL g.il.length cL) g.il) (s:GStep) (hs:s.list=true) (hi:s.i=i) (AO:Option Addr):
  Calls Tryz.prog 119 #[.pointer (some ⟨b,off,none⟩),.int .i64 i] w (InsidePost g s AL AO w):=by
 obtain ⟨_,_,he,hl1,hl2,hlf⟩:=hL.form;cases he
 unfold maxLen at hl2;have hn:g.kq≠4\/i<0\/(g.il.length:Int)<=i->g.inside s=none:=fun h=>by
  subst hi;unfold GV.inside;rw [if_pos hs];split
  ·rename_i hc
   exact List.getElem?_eq_none (by omega)
  ·rfl
 have hy:∀ k:Nat,i=k->k<g.il.length->g.kq=4->∃ b o h,AL=some ⟨b,o,none⟩/\g.il[k]? = some h/\g.inside s=some h:=fun k hk hl h4=>by
  obtain ⟨b,o,rfl,_⟩:=hlf (by intro e;rw [e] at hl;simp at hl)
  exact ⟨b,o,_,rfl,List.getElem?_eq_getElem hl,zbS hs h4 (hi.trans hk) hl⟩
 have HN:=hid hn;have HY:=hid hy;clear hn hy hlf hL;generalize hlen:g.il.length=n at *;by_cases hk:g.kq=4
 ·rw [hk] at h0
  have HK:=hid hk;clear hk;by_cases hneg:i<0
  ·go_enter Tryz.func119,Tryz.ntmps119
   go_wp2
   go_ret
   exact ⟨Below.refl _ _,.inl ⟨HN.out (.inr (.inl hneg)),rfl⟩⟩
  ·obtain ⟨k,rfl⟩:∃ k:Nat,i=k:=⟨i.toNat,by omega⟩
   by_cases hlt:k<n
   ·obtain ⟨lb,lo,h,rfl,e1,e2⟩:=HY.out k rfl hlt HK.out
    have HE:=hid (And.intro e1 e2);clear e1 e2;go_enter Tryz.func119,Tryz.ntmps119
    go_wp2
    go_ret
    exact ⟨Below.refl _ _,.inr (.inl ⟨hs,k,lb,lo,h,hi,HE.out.1,HE.out.2,rfl,by simp⟩)⟩
   ·go_enter Tryz.func119,Tryz.ntmps119
    go_wp2
    go_ret
    exact ⟨Below.refl _ _,.inl ⟨HN.out (.inr (.inr (by omega))),rfl⟩⟩
 ·have hk':(g.kq == 4)=false:=by simpa using hk
  have hk2:(g.kq != 4)=true:=by simpa using hk
  have HK:=hid hk;clear hk;go_enter Tryz.func119,Tryz.ntmps119
  go_wp2
  go_ret
  exact ⟨Below.refl _ _,.inl ⟨HN.out (.inl HK.out),rfl⟩⟩
theorem zjb (ok:Nat->Prop) (b off:Nat) (g:GV) (AL AO:Option Addr) (cL cO:Nat) (w:World) (h0:w.cell? ⟨b,off,none⟩=some (.int .u8 g.kq)) (h1:w.cell? ⟨b,off+1,none⟩=some (.int .i64 g.num)) (h2:w.cell? ⟨b,off+2,none⟩=some (.string g.str))
  (h3:w.cell? ⟨b,off+3,none⟩=some (.slice AL g.il.length cL)) (h4:w.cell? ⟨b,off+4,none⟩=some (.slice AO g.vz.length cO))
  (hL:LstV ok w (.slice AL g.il.length cL) g.il) (hO:ObjV ok w (.slice AO g.vz.length cO) g.keys g.vz) (s:GStep) (hs:s.list=false):
  Calls Tryz.prog 120 #[.pointer (some ⟨b,off,none⟩),.string s.key] w (InsidePost g s AL AO w):=by
 have hcall:=zd9 ok (.agg #[.int .u8 g.kq,.int .i64 g.num,.string g.str,.slice AL g.il.length cL,.slice AO g.vz.length cO]) g s.key w ⟨_,_,rfl,hL,hO⟩;obtain ⟨_,_,he,ho1,ho2,hof⟩:=hO.form;cases he
 unfold maxLen at ho2;have hlen:=hO.1;have hb:b<w.heap.size:=World.block_lt_of_cell? w _ h0;have hn:g.kq≠5\/there s.key g.keys=false->g.inside s=none:=fun h=>by
  unfold GV.inside;rw [if_neg (by simp [hs])]
  split
  ·rename_i hc
   rcases h with h | h
   ·exact absurd hc.1 h
   ·rw [h] at hc;simp at hc
  ·rfl
 have hy:there s.key g.keys=true->g.kq=5->∃ b o h,AO=some ⟨b,o,none⟩/\place s.key g.keys<g.vz.length/\g.vz[place s.key g.keys]? = some h/\g.inside s=some h:=fun ht h5=>by
  have hl:=zbP ht;rw [hlen] at hl;obtain ⟨b,o,rfl,_⟩:=hof (by intro e;rw [e] at hl;simp at hl)
  exact ⟨b,o,_,rfl,hl,List.getElem?_eq_getElem hl,zdw hs h5 ht hl⟩
 have HN:=hid hn;have HY:=hid hy;have HC:=hid hcall;clear hn hy hof hL hO hcall hlen;unfold FieldPost at HC;generalize hpl:place s.key g.keys=pl at *;generalize hth:there s.key g.keys=th at *;generalize hlen:g.vz.length=n at *;have hs':=hid hs;have HPL:=hid hpl;clear hs hpl hth;by_cases hk:g.kq=5
 ·rw [hk] at h0 HC
  have HK:=hid hk;clear hk;cases th with
  | true=>
   obtain ⟨ob,oo,h,rfl,hlt,e1,e2⟩:=HY.out rfl HK.out;have HE:=hid (And.intro e1 e2);clear e1 e2;go_enter Tryz.func120,Tryz.ntmps120
   go_wp2_with (go_at_call 92;refine HC.out.mono ?_;rintro e w1 ⟨rfl,hb1⟩;have z0:=(hb1.cell (p:=⟨b,off,none⟩) hb).trans h0;have z4:=(hb1.cell (p:=⟨b,off+4,none⟩) hb).trans h4;have HB1:=hid hb1;clear hb1)
   go_ret
   exact ⟨HB1.out,.inr (.inr ⟨hs'.out,ob,oo,h,by rw [HPL.out];exact HE.out.1,HE.out.2,rfl,by rw [HPL.out];simp⟩)⟩
  | false=>
   go_enter Tryz.func120,Tryz.ntmps120
   go_wp2_with (go_at_call 92;refine HC.out.mono ?_;rintro e w1 ⟨rfl,hb1⟩;have z0:=(hb1.cell (p:=⟨b,off,none⟩) hb).trans h0;have z4:=(hb1.cell (p:=⟨b,off+4,none⟩) hb).trans h4;have HB1:=hid hb1;clear hb1)
   go_ret
   exact ⟨HB1.out,.inl ⟨HN.out (by simp),rfl⟩⟩
 ·have hk':(g.kq == 5)=false:=by simpa using hk
  have hk2:(g.kq != 5)=true:=by simpa using hk
  have HK:=hid hk;clear hk;go_enter Tryz.func120,Tryz.ntmps120
  go_wp2_with (go_at_call 92;refine HC.out.mono ?_;rintro e w1 ⟨rfl,hb1⟩;have z0:=(hb1.cell (p:=⟨b,off,none⟩) hb).trans h0;have z4:=(hb1.cell (p:=⟨b,off+4,none⟩) hb).trans h4;have HB1:=hid hb1;clear hb1)
  go_ret
  exact ⟨HB1.out,.inl ⟨HN.out (.inl HK.out),rfl⟩⟩
structure Spot (ok:Nat->Prop) (W:World) (b off:Nat) (g:GV) (AL AO:Option Addr) (cL cO:Nat):Prop where
 c0:W.cell? ⟨b,off,none⟩=some (.int .u8 g.kq)
 c1:W.cell? ⟨b,off+1,none⟩=some (.int .i64 g.num)
 c2:W.cell? ⟨b,off+2,none⟩=some (.string g.str)
 c3:W.cell? ⟨b,off+3,none⟩=some (.slice AL g.il.length cL)
 c4:W.cell? ⟨b,off+4,none⟩=some (.slice AO g.vz.length cO)
 lst:LstV ok W (.slice AL g.il.length cL) g.il
 obj:ObjV ok W (.slice AO g.vz.length cO) g.keys g.vz
theorem GV.at.spot {ok:Nat->Prop} {W:World} {b off:Nat} {g:GV} (h:g.at ok W b off):∃ AL AO cL cO,Spot ok W b off g AL AO cL cO:=by
 obtain ⟨L,O,h0,h1,h2,h3,h4,hL,hO⟩:=GV.at_iff.1 h;obtain ⟨AL,cL,rfl⟩:=zah hL;obtain ⟨AO,cO,rfl⟩:=zag hO;exact ⟨AL,AO,cL,cO,h0,h1,h2,h3,h4,hL,hO⟩
theorem Spot.at {ok:Nat->Prop} {W:World} {b off:Nat} {g:GV} {AL AO:Option Addr} {cL cO:Nat} (h:Spot ok W b off g AL AO cL cO):g.at ok W b off:=
 GV.at_iff.2 ⟨_,_,h.c0,h.c1,h.c2,h.c3,h.c4,h.lst,h.obj⟩
theorem Spot.lt {ok:Nat->Prop} {W:World} {b off:Nat} {g:GV} {AL AO:Option Addr} {cL cO:Nat} (h:Spot ok W b off g AL AO cL cO):b<W.heap.size:=World.block_lt_of_cell? W _ h.c0
theorem Spot.keep {ok ok':Nat->Prop} {W W'} {b off:Nat} {g:GV} {AL AO:Option Addr} {cL cO:Nat} (H:From ok W W') (hs:∀ k,ok k->k<W.heap.size->ok' k) (hb:W'.heap[b]? = W.heap[b]?) (h:Spot ok W b off g AL AO cL cO):Spot ok' W' b off g AL AO cL cO:=by
 have hc:∀ o,W'.cell? ⟨b,o,none⟩=W.cell? ⟨b,o,none⟩:=fun o=>World.cell?_of_block (a:=⟨b,o,none⟩) hb
 exact ⟨(hc _).trans h.c0,(hc _).trans h.c1,(hc _).trans h.c2,(hc _).trans h.c3,(hc _).trans h.c4,h.lst.keep H hs,h.obj.keep H hs⟩
theorem InsidePost.mono {g:GV} {s:GStep} {AL AO:Option Addr} {w w0 w':World} {e:Ending} (h:InsidePost g s AL AO w e w') (hb:Below w0.heap.size w0 w):InsidePost g s AL AO w0 e w':=
 ⟨hb.trans (h.1.mono hb.size),h.2⟩
theorem zf1 (ok:Nat->Prop) (b off:Nat) (g:GV) (AL AO:Option Addr) (cL cO:Nat) (w:World) (h:Spot ok w b off g AL AO cL cO) (s:GStep):
  Calls Tryz.prog 98 #[.pointer (some ⟨b,off,none⟩),.agg #[.bool s.list,.int .i64 s.i,.string s.key]] w (InsidePost g s AL AO w):=by
 have hsp:∀ W,Below w.heap.size w W->Spot ok W b off g AL AO cL cO:=fun W hb=>h.keep (From.of_below hb) (fun _ h _=>h) (hb.block b h.lt)
 have hitem:∀ W,Below w.heap.size w W->s.list=true->Calls Tryz.prog 119 #[.pointer (some ⟨b,off,none⟩),.int .i64 s.i] W (InsidePost g s AL AO w):=fun W hb hs=>
  (zkH ok b off g AL cL s.i W (hsp W hb).c0 (hsp W hb).c3 (hsp W hb).lst s hs rfl AO).mono fun e w' hq=>hq.mono hb
 have hfield:∀ W,Below w.heap.size w W->s.list=false->Calls Tryz.prog 120 #[.pointer (some ⟨b,off,none⟩),.string s.key] W (InsidePost g s AL AO w):=fun W hb hs=>
  (zjb ok b off g AL AO cL cO W (hsp W hb).c0 (hsp W hb).c1 (hsp W hb).c2 (hsp W hb).c3 (hsp W hb).c4 (hsp W hb).lst (hsp W hb).obj s hs).mono fun e w' hq=>hq.mono hb
 have HI:=hid hitem;have HF:=hid hfield;clear hitem hfield hsp h;obtain ⟨sl,si,sk⟩:=s;simp only at HI HF ⊢;cases sl with
 | true=>
  go_enter Tryz.func98,Tryz.ntmps98
  go_wp2_with (go_at_call 119;refine (HI.out _ ((Below.refl _ _).alloc (Nat.le_refl _) _) rfl).mono ?_;rintro e w1 hq;obtain ⟨v,rfl⟩:∃ v,e=.returned v:=(by rcases hq.2 with ⟨_,rfl⟩ | ⟨_,_,_,_,_,_,_,_,_,rfl⟩ | ⟨_,_,_,_,_,_,_,rfl⟩<;>exact ⟨_,rfl⟩);have HQ:=hid hq;clear hq)
  go_ret
  exact HQ.out
 | false=>
  go_enter Tryz.func98,Tryz.ntmps98
  go_wp2_with (go_at_call 120;refine (HF.out _ ((Below.refl _ _).alloc (Nat.le_refl _) _) rfl).mono ?_;rintro e w1 hq;obtain ⟨v,rfl⟩:∃ v,e=.returned v:=(by rcases hq.2 with ⟨_,rfl⟩ | ⟨_,_,_,_,_,_,_,_,_,rfl⟩ | ⟨_,_,_,_,_,_,_,rfl⟩<;>exact ⟨_,rfl⟩);have HQ:=hid hq;clear hq)
  go_ret
  exact HQ.out
theorem zhu {ok:Nat->Prop} {W W':World} {b off:Nat} {g:GV} {s:GStep} {AL AO:Option Addr} {cL cO:Nat} {e:Ending} (h:Spot ok W b off g AL AO cL cO) (hq:InsidePost g s AL AO W e W'):
  Below W.heap.size W W'/\((g.inside s=none/\e=.returned (.pointer none))\/∃ b' o' h',g.inside s=some h'/\e=.returned (.pointer (some ⟨b',o',none⟩))/\h'.at ok W' b' o'):=by
 obtain ⟨hb,hq⟩:=hq;refine ⟨hb,?_⟩
 rcases hq with h1 | ⟨_,k,lb,lo,h',hi,hg,hin,rfl,rfl⟩ | ⟨_,ob,oo,h',hg,hin,rfl,rfl⟩
 ·exact .inl h1
 ·have hl:g.il≠[]:=by intro e;rw [e] at hg;simp at hg
  obtain ⟨_,_,he,_,_,hf⟩:=h.lst.form;cases he
  obtain ⟨b,o,he,hK,hE⟩:=hf hl;cases he
  exact .inr ⟨_,_,h',hin,rfl,GV.at_keep (From.of_below hb) (fun _ h _=>h) h' (hb.block _ hK.lt) (GV.els_get hE hg)⟩
 ·have hl:g.vz≠[]:=by intro e;rw [e] at hg;simp at hg
  obtain ⟨_,_,he,_,_,hf⟩:=h.obj.form;cases he
  obtain ⟨b,o,he,hK,_,hE⟩:=hf hl;cases he
  have:=GV.els_get hE hg;rw [show oo+1+place s.key g.keys * 6=oo+place s.key g.keys * 6+1 by omega] at this
  exact .inr ⟨_,_,h',hin,rfl,GV.at_keep (From.of_below hb) (fun _ h _=>h) h' (hb.block _ hK.lt) this⟩
def LookRel (ok:Nat->Prop) (g:GV) (ps:List GStep) (w:World) (v i:Value) (wr:World):Prop:=
 ∃ (k b off:Nat) (h:GV),v=.pointer (some ⟨b,off,none⟩)/\i=.int .i64 k/\k<=ps.length/\g.get ps=h.get (ps.drop k)/\h.at ok wr b off/\Below w.heap.size w wr
theorem ze8 (v:Value) (hv:∃ p,v=.pointer p) (w:World):Calls Tryz.prog 79 #[v] w fun e w'=>e=.returned (.tuple #[])/\w'=w:=by
 obtain ⟨p,rfl⟩:=hv;go_enter Tryz.func79,Tryz.ntmps79
 go_wp2
 go_end0
 exact ⟨rfl,rfl⟩
theorem zeQ (Q:Ending->World->Prop) (G:Nat) (lb:Array Value) (eg:∀ args w,(callFunc G args).run Tryz.prog w=.ok (.enter G args) w) (ok:Nat->Prop) (b off:Nat) (g:GV) (hi:Nat) (A:Option Addr) (cap:Nat) (ps:List GStep) (w:World) (hg:g.at ok w b off) (hp:Steps hi w A ps) (hhi:hi<=w.heap.size)
  (hcap:ps.length<=cap) (hm:cap<=maxLen) (hnone:∀ W,g.get ps=none->Below w.heap.size w W->Q (.returned (.int .u16 30)) W)
  (hend:∀ (W:World) (b o:Nat) (h:GV),g.get ps=some h->Below w.heap.size w W->h.at ok W b o->Calls Tryz.prog G (#[.pointer (some ⟨b,o,none⟩)]++lb) W fun e w'=>e=.returned (.tuple #[])/\Q (.returned (.int .u16 0)) w'):
  Calls Tryz.prog 63 #[.pointer (some ⟨b,off,none⟩),.slice A ps.length cap,.func (.func 79) #[] #[],.func (.func G) #[] lb] w Q:=by
 have HN:=hid hnone;have HEND:=hid hend;have HP:=hid hp;have HG:=hid hg;clear hnone hend hp hg;unfold maxLen at hm;go_enter Tryz.func63,Tryz.ntmps63
 go_wp2
 go_loopw [0,13] (LookRel ok g ps w) (fun _ i _=>ps.length - (intOf i).toNat)
 case atStart=>exact ⟨0,b,off,g,rfl,rfl,Nat.zero_le _,rfl,HG.out,Below.refl _ _⟩
 case round=>
  obtain ⟨k,b,off,h,rfl,rfl,hk,hget,hat,hB⟩:=hrel;by_cases hlt:k<ps.length
  ·obtain ⟨pb,po,rfl,hpb,p0,p1,p2⟩:=(HP.out.keep (hB.mono hhi) (Nat.le_refl _)).one hlt
   obtain ⟨AL,AO,cL,cO,hsp⟩:=hat.spot;have hdr:ps.drop k=ps[k] :: ps.drop (k+1):=List.drop_eq_getElem_cons hlt;rw [hdr] at hget;simp only [GV.get] at hget;have hin:=fun (o:Obj)=>(zf1 ok b off h AL AO cL cO (wr.alloc o) (hsp.keep (From.of_below ((Below.refl _ wr).alloc (Nat.le_refl _) o)) (fun _ h _=>h) (((Below.refl _ wr).alloc (Nat.le_refl _) o).block b hsp.lt)) ps[k]).mono fun e w' hq=>zhu (hsp.keep (From.of_below ((Below.refl _ wr).alloc (Nat.le_refl _) o)) (fun _ h _=>h) (((Below.refl _ wr).alloc (Nat.le_refl _) o).block b hsp.lt)) hq
   have hdn:∀ (o:Obj) (W:World),Below (wr.alloc o).heap.size (wr.alloc o) W->Below w.heap.size w W:=fun o W hb=>hB.trans (((Below.refl _ wr).alloc (Nat.le_refl _) o |>.trans (hb.mono (by simp))).mono hB.size)
   have HIN:=hid hin;have HGET:=hid hget;clear hin hsp hat hget hB hdr;generalize hs:ps[k]=s at *;cases hio:h.inside s with
   | none=>
    rw [hio] at HGET HIN;simp only [Option.bind_none] at HGET;have hcall:=fun (o:Obj)=>(HIN.out o).mono (R':=fun e w'=>e=.returned (.pointer none)/\Below w.heap.size w w') fun e w' hq=>⟨hq.2.elim (fun h=>h.2) (fun ⟨_,_,_,h,_⟩=>by cases h),hdn o w' hq.1⟩
    have HC:=hid hcall;clear hcall HIN hdn
    go_wp2_with (first | (go_at_call 79;refine (ze8 _ ⟨_,rfl⟩ _).mono ?_;rintro e w1 ⟨rfl,rfl⟩) | (go_at_call 98;refine (HC.out _).mono ?_;rintro e w1 ⟨rfl,hb1⟩;have HB1:=hid hb1;clear hb1))
    exact HN.out _ HGET.out HB1.out
   | some h'=>
    rw [hio] at HGET HIN;simp only [Option.bind_some] at HGET;have hcall:=fun (o:Obj)=>(HIN.out o).mono (R':=fun e w'=>∃ b' o',e=.returned (.pointer (some ⟨b',o',none⟩))/\h'.at ok w' b' o'/\Below w.heap.size w w') fun e w' hq=>by
     rcases hq.2 with ⟨h,_⟩ | ⟨b',o',h2,h1,he,hat⟩
     ·cases h
     ·cases h1
      exact ⟨b',o',he,hat,hdn o w' hq.1⟩
    have HC:=hid hcall;clear hcall HIN hdn
    go_wp2_with (first | (go_at_call 79;refine (ze8 _ ⟨_,rfl⟩ _).mono ?_;rintro e w1 ⟨rfl,rfl⟩) | (go_at_call 98;refine (HC.out _).mono ?_;rintro e w1 ⟨b',o',rfl,hat1,hb1⟩;have HB1:=hid (And.intro hat1 hb1);clear hat1 hb1))
    go_roundw
    case rel=>exact ⟨k+1,b',o',h',rfl,by go_num,by omega,HGET.out,HB1.out.1,HB1.out.2⟩
    case measure=>simp [intOf];omega
  ·have hk':k=ps.length:=by omega
   have hd:ps.drop k=[]:=by rw [hk'];simp
   rw [hd] at hget;have HC:=hid (HEND.out _ _ _ _ hget hB hat);clear hget hB hat hd
   go_wp2_with (go_at_fn G;refine HC.out.mono ?_;rintro e w1 ⟨rfl,hq⟩;have HQ:=hid hq;clear hq)
   exact HQ.out
def zeroV:Value:=.agg #[.int .u8 0,.int .i64 0,.string ⟨#[]⟩,.slice none 0 0,.slice none 0 0]
def Got (h:GV) (X lo:Nat) (W:World):Prop:=
 ∃ AL cL AO cO,Whole W X 29 #[.int .u8 h.kq,.int .i64 h.num,.string h.str,.slice AL h.il.length cL,.slice AO h.vz.length cO]/\LstV (fun k=>lo<=k) W (.slice AL h.il.length cL) h.il/\ObjV (fun k=>lo<=k) W (.slice AO h.vz.length cO) h.keys h.vz
theorem zai {W X} {t:TypeId} {z0 z1 z2 z3 z4:Value} (h:Whole W X t #[z0,z1,z2,z3,z4]) (a0 a1 a2 a3 a4:Value):Whole (put5 W X a0 a1 a2 a3 a4) X t #[a0,a1,a2,a3,a4]:=
 ((((h.put 0 a0).put 1 a1).put 2 a2).put 3 a3).put 4 a4
theorem zmf (ok:Nat->Prop) (b off:Nat) (h:GV) (X) (z0 z1 z2 z3 z4:Value) (W:World) (hat:h.at ok W b off) (hX:Whole W X 29 #[z0,z1,z2,z3,z4]) (hw:h.weight<=1000000000):
  Calls Tryz.prog 80 #[.pointer (some ⟨b,off,none⟩),.pointer (some ⟨X,0,none⟩)] W fun e w'=>e=.returned (.tuple #[])/\Got h X W.heap.size w'/\Below X W w':=by
 obtain ⟨AL,AO,cL,cO,hsp⟩:=hat.spot;have hcall:=(zfk ok _ h W ⟨_,_,rfl,hsp.lst,hsp.obj⟩ hw).mono (R':=fun e w'=>∃ BL dL BO dO,e=.returned (.agg #[.int .u8 h.kq,.int .i64 h.num,.string h.str,.slice BL h.il.length dL,.slice BO h.vz.length dO]) /\
   LstV (fun k=>W.heap.size<=k) w' (.slice BL h.il.length dL) h.il/\ObjV (fun k=>W.heap.size<=k) w' (.slice BO h.vz.length dO) h.keys h.vz/\Below W.heap.size W w') fun e w' ⟨v',he,⟨L,O,hv,hL,hO⟩,hb⟩=>by
  subst hv;obtain ⟨BL,dL,rfl⟩:=zah hL;obtain ⟨BO,dO,rfl⟩:=zag hO;exact ⟨BL,dL,BO,dO,he,hL,hO,hb⟩
 have HC:=hid hcall;have HX:=hid hX;obtain ⟨c0,c1,c2,c3,c4,_,_⟩:=hsp;clear hcall hX hat;go_enter Tryz.func80,Tryz.ntmps80
 go_wp2_with (go_at_call 66;refine HC.out.mono ?_;rintro e w1 ⟨BL,dL,BO,dO,rfl,hL,hO,hb1⟩;obtain ⟨x0,x1,x2,x3,x4,y0,y1,y2,y3,y4⟩:=(HX.out.below hb1 HX.out.lt).five;have HB1:=hid hb1;have HV:=hid (And.intro hL hO);clear hb1 hL hO)
 go_end0
 have h1:=HX.out.below HB1.out HX.out.lt;have hlt:=HX.out.lt;refine ⟨rfl,⟨BL,dL,BO,dO,zai h1 _ _ _ _ _,HV.out.1.keep (fun k hk _=>zac _ _ _ _ _ _ _ _ (by omega)) (fun k hk _=>hk),HV.out.2.keep (fun k hk _=>zac _ _ _ _ _ _ _ _ (by omega)) (fun k hk _=>hk)⟩,?_⟩
 exact zae (HB1.out.mono (Nat.le_of_lt hlt)) (Nat.le_refl _) _ _ _ _ _
def ZC:Array Value:=#[.int .u8 0,.int .i64 0,.string ⟨#[]⟩,.slice none 0 0,.slice none 0 0]
def GetPost (g:GV) (ps:List GStep) (w:World) (e:Ending) (w':World):Prop:=
 Below w.heap.size w w'/\((g.get ps=none/\e=.returned (.tuple #[zeroV,.int .u16 30]))\/∃ h v',g.get ps=some h/\e=.returned (.tuple #[v',.int .u16 0])/\h.val (fun k=>w.heap.size<=k) w' v')
structure Boxed (w:World) (g:GV) (AL AO:Option Addr) (cL cO:Nat) (W:World):Prop where
 size:W.heap.size=w.heap.size+1+1+1
 below:Below w.heap.size w W
 spot:Spot (fun _=>True) W w.heap.size 0 g AL AO cL cO
 res:Whole W (w.heap.size+1) 29 ZC
 x:Whole W (w.heap.size+1+1) 29 ZC
theorem boxed {ok:Nat->Prop} {w:World} {g:GV} {AL AO:Option Addr} {cL cO:Nat} (hL:LstV ok w (.slice AL g.il.length cL) g.il) (hO:ObjV ok w (.slice AO g.vz.length cO) g.keys g.vz):
  Boxed w g AL AO cL cO (((w.alloc (.cells #[.int .u8 g.kq,.int .i64 g.num,.string g.str,.slice AL g.il.length cL,.slice AO g.vz.length cO] 29)).alloc (.cells ZC 29)).alloc (.cells ZC 29)):=by
 have hb:Below w.heap.size w (((w.alloc (.cells #[.int .u8 g.kq,.int .i64 g.num,.string g.str,.slice AL g.il.length cL,.slice AO g.vz.length cO] 29)).alloc (.cells ZC 29)).alloc (.cells ZC 29)):=
  (((Below.refl _ w).alloc (Nat.le_refl _) _).alloc (by simp) _).alloc (by simp;omega) _
 have h1:=((Whole.new w 29 #[.int .u8 g.kq,.int .i64 g.num,.string g.str,.slice AL g.il.length cL,.slice AO g.vz.length cO]).alloc (.cells ZC 29)).alloc (.cells ZC 29);have h2:=(Whole.new (w.alloc (.cells #[.int .u8 g.kq,.int .i64 g.num,.string g.str,.slice AL g.il.length cL,.slice AO g.vz.length cO] 29)) 29 ZC).alloc (.cells ZC 29);have h3:=Whole.new ((w.alloc (.cells #[.int .u8 g.kq,.int .i64 g.num,.string g.str,.slice AL g.il.length cL,.slice AO g.vz.length cO] 29)).alloc (.cells ZC 29)) 29 ZC;rw [World.size_alloc] at h2;rw [World.size_alloc,World.size_alloc] at h3;obtain ⟨c0,c1,c2,c3,c4,_⟩:=h1.five;exact ⟨by simp,hb,⟨c0,c1,c2,c3,c4,hL.keep (From.of_below hb) (fun _ _ _=>trivial),hO.keep (From.of_below hb) (fun _ _ _=>trivial)⟩,h2,h3⟩
theorem znd (ok:Nat->Prop) (v:Value) (g:GV) (hi:Nat) (A:Option Addr) (cap:Nat) (ps:List GStep) (w:World) (hv:g.val ok w v) (hp:Steps hi w A ps) (hhi:hi<=w.heap.size) (hcap:ps.length<=cap) (hm:cap<=maxLen) (hw:g.weight<=1000000000):
  Calls Tryz.prog 52 #[v,.slice A ps.length cap] w (GetPost g ps w):=by
 obtain ⟨L,O,rfl,hL,hO⟩:=hv;obtain ⟨AL,cL,rfl⟩:=zah hL;obtain ⟨AO,cO,rfl⟩:=zag hO;have hbox:=boxed hL hO;have hcall:∀ W,Boxed w g AL AO cL cO W->Calls Tryz.prog 63 #[.pointer (some ⟨w.heap.size,0,none⟩),.slice A ps.length cap,.func (.func 79) #[] #[],.func (.func 80) #[] #[.pointer (some ⟨w.heap.size+1+1,0,none⟩)]] W
   fun e w'=>(g.get ps=none/\e=.returned (.int .u16 30)/\Below W.heap.size W w')\/∃ h,g.get ps=some h/\e=.returned (.int .u16 0)/\Got h (w.heap.size+1+1) (w.heap.size+1+1+1) w'/\Below (w.heap.size+1+1) W w':=fun W hB=>
  zeQ _ _ _ (enters_of Tryz.func80 (by kernel_rfl) rfl) (fun _=>True) _ _ g hi A cap ps W hB.spot.at (hp.keep (hB.below.mono hhi) (Nat.le_refl _)) (by have:=hB.below.size;omega) hcap hm (fun W' hg hb=>.inl ⟨hg,rfl,hb⟩)
   (fun W' b o h hg hb hat=>(zmf (fun _=>True) b o h (w.heap.size+1+1) _ _ _ _ _ W' hat (hB.x.below hb hB.x.lt) (Nat.le_trans (zas _ _ _ hg) hw)).mono fun e w' ⟨he,⟨BL,dL,BO,dO,h1,h2,h3⟩,hb'⟩=>
    ⟨he,.inr ⟨h,hg,rfl,⟨BL,dL,BO,dO,h1,h2.keep (From.refl _ _) (fun k hk _=>by have:=hB.size;have:=hb.size;omega),h3.keep (From.refl _ _) (fun k hk _=>by have:=hB.size;have:=hb.size;omega)⟩,(hb.mono (by have:=hB.size;omega)).trans hb'⟩⟩)
 have HBOX:=hid hbox;clear hbox hp hL hO;cases hg:g.get ps with
 | none=>
  have hc2:=fun W hB=>(hcall W hB).mono (R':=fun e w'=>e=.returned (.int .u16 30)/\Below W.heap.size W w') fun e w' hq=>hq.elim (fun h=>h.2) (fun ⟨_,h,_⟩=>by rw [hg] at h;cases h)
  have HC:=hid hc2;have HG:=hid hg;clear hcall hc2 hg;go_enter Tryz.func52,Tryz.ntmps52
  go_wp2_with (go_at_call 63;refine (HC.out _ HBOX.out).mono ?_;rintro e w1 ⟨rfl,hb⟩;obtain ⟨x0,x1,x2,x3,x4,_⟩:=(HBOX.out.x.below hb HBOX.out.x.lt).five;obtain ⟨r0,r1,r2,r3,r4,f0,f1,f2,f3,f4⟩:=(HBOX.out.res.below hb HBOX.out.res.lt).five;have HB1:=hid hb;clear hb)
  have h5:=zai (HBOX.out.res.below HB1.out HBOX.out.res.lt) (.int .u8 0) (.int .i64 0) (.string ⟨#[]⟩) (.slice none 0 0) (.slice none 0 0);obtain ⟨d0,d1,d2,d3,d4,_⟩:=h5.five;unfold put5 at d0 d1 d2 d3 d4;refine bodyPost_ret (v:=.tuple #[zeroV,.int .u16 30]) (by simp [results,Tryz.results52,go_sem,zeroV,d0,d1,d2,d3,d4]) rfl ?_
  refine ⟨?_,.inl ⟨HG.out,rfl⟩⟩
  exact zae (HBOX.out.below.trans (HB1.out.mono HBOX.out.below.size)) (by omega) _ _ _ _ _
 | some h=>
  have hc2:=fun W hB=>(hcall W hB).mono (R':=fun e w'=>e=.returned (.int .u16 0)/\Got h (w.heap.size+1+1) (w.heap.size+1+1+1) w'/\Below (w.heap.size+1+1) W w') fun e w' hq=>hq.elim (fun h=>by rw [hg] at h;cases h.1) (fun ⟨_,h,h2⟩=>by rw [hg] at h;cases h;exact h2)
  have HC:=hid hc2;have HG:=hid hg;clear hcall hc2 hg;go_enter Tryz.func52,Tryz.ntmps52
  go_wp2_with (go_at_call 63;refine (HC.out _ HBOX.out).mono ?_;rintro e w1 ⟨rfl,⟨BL,dL,BO,dO,hx,hL,hO⟩,hb⟩;obtain ⟨x0,x1,x2,x3,x4,_⟩:=hx.five;obtain ⟨r0,r1,r2,r3,r4,f0,f1,f2,f3,f4⟩:=(HBOX.out.res.below hb (Nat.lt_succ_self _)).five;have HB1:=hid hb;have HV:=hid (And.intro hL hO);clear hb hL hO hx)
  have h5:=zai (HBOX.out.res.below HB1.out (Nat.lt_succ_self _)) (.int .u8 h.kq) (.int .i64 h.num) (.string h.str) (.slice BL h.il.length dL) (.slice BO h.vz.length dO);obtain ⟨d0,d1,d2,d3,d4,_⟩:=h5.five;unfold put5 at d0 d1 d2 d3 d4;refine bodyPost_ret (v:=.tuple #[.agg #[.int .u8 h.kq,.int .i64 h.num,.string h.str,.slice BL h.il.length dL,.slice BO h.vz.length dO],.int .u16 0]) (by simp [results,Tryz.results52,go_sem,d0,d1,d2,d3,d4]) rfl ?_
  refine ⟨zae (HBOX.out.below.trans (HB1.out.mono (by omega))) (by omega) _ _ _ _ _,.inr ⟨h,_,HG.out,rfl,_,_,rfl,?_,?_⟩⟩
  ·exact HV.out.1.keep (fun k hk _=>zac _ _ _ _ _ _ _ _ (by omega)) (fun k hk _=>by omega)
  ·exact HV.out.2.keep (fun k hk _=>zac _ _ _ _ _ _ _ _ (by omega)) (fun k hk _=>by omega)
def GotF (h:GV) (X lo:Nat) (W:World):Prop:=
 ∃ AL cL AO,Whole W X 29 #[.int .u8 h.kq,.int .i64 h.num,.string h.str,.slice AL h.il.length cL,.slice AO h.vz.length h.vz.length]/\LstV (fun k=>lo<=k) W (.slice AL h.il.length cL) h.il/\ObjV (fun k=>lo<=k) W (.slice AO h.vz.length h.vz.length) h.keys h.vz/\FullO lo W h (.agg #[.int .u8 h.kq,.int .i64 h.num,.string h.str,.slice AL h.il.length cL,.slice AO h.vz.length h.vz.length])
theorem get1F (ok:Nat->Prop) (b off:Nat) (h:GV) (X) (z0 z1 z2 z3 z4:Value) (W:World) (hat:h.at ok W b off) (hX:Whole W X 29 #[z0,z1,z2,z3,z4]) (hw:h.weight<=1000000000):
  Calls Tryz.prog 80 #[.pointer (some ⟨b,off,none⟩),.pointer (some ⟨X,0,none⟩)] W fun e w'=>e=.returned (.tuple #[])/\GotF h X W.heap.size w'/\Below X W w':=by
 obtain ⟨AL,AO,cL,cO,hsp⟩:=hat.spot;have hcall:=(zfX ok _ h W ⟨_,_,rfl,hsp.lst,hsp.obj⟩ hw).mono (R':=fun e w'=>∃ BL dL BO,e=.returned (.agg #[.int .u8 h.kq,.int .i64 h.num,.string h.str,.slice BL h.il.length dL,.slice BO h.vz.length h.vz.length]) /\
   LstV (fun k=>W.heap.size<=k) w' (.slice BL h.il.length dL) h.il/\ObjV (fun k=>W.heap.size<=k) w' (.slice BO h.vz.length h.vz.length) h.keys h.vz/\FullO W.heap.size w' h (.agg #[.int .u8 h.kq,.int .i64 h.num,.string h.str,.slice BL h.il.length dL,.slice BO h.vz.length h.vz.length])/\Below W.heap.size W w') fun e w' ⟨v',he,⟨⟨L,O,hv,hL,hO⟩,hF⟩,hb⟩=>by
  subst hv;obtain ⟨BL,dL,rfl⟩:=zah hL;have hF2:=hF;obtain ⟨L1,A1,hf,_⟩:=hF2;obtain ⟨rfl,rfl⟩:Value.slice BL h.il.length dL=L1/\O=.slice A1 h.vz.length h.vz.length:=by simpa using hf
  exact ⟨BL,dL,A1,he,hL,hO,hF,hb⟩
 have HC:=hid hcall;have HX:=hid hX;obtain ⟨c0,c1,c2,c3,c4,_,_⟩:=hsp;clear hcall hX hat;go_enter Tryz.func80,Tryz.ntmps80
 go_wp2_with (go_at_call 66;refine HC.out.mono ?_;rintro e w1 ⟨BL,dL,BO,rfl,hL,hO,hF,hb1⟩;obtain ⟨x0,x1,x2,x3,x4,y0,y1,y2,y3,y4⟩:=(HX.out.below hb1 HX.out.lt).five;have HB1:=hid hb1;have HV:=hid (And.intro hL (And.intro hO hF));clear hb1 hL hO hF)
 go_end0
 have h1:=HX.out.below HB1.out HX.out.lt;have hlt:=HX.out.lt;refine ⟨rfl,⟨BL,dL,BO,zai h1 _ _ _ _ _,HV.out.1.keep (fun k hk _=>zac _ _ _ _ _ _ _ _ (by omega)) (fun k hk _=>hk),HV.out.2.1.keep (fun k hk _=>zac _ _ _ _ _ _ _ _ (by omega)) (fun k hk _=>hk),HV.out.2.2.keep HV.out.2.1 (fun k hk _=>zac _ _ _ _ _ _ _ _ (by omega)) (Nat.le_refl _)⟩,?_⟩
 exact zae (HB1.out.mono (Nat.le_of_lt hlt)) (Nat.le_refl _) _ _ _ _ _
def GetPostF (g:GV) (ps:List GStep) (w:World) (e:Ending) (w':World):Prop:=
 Below w.heap.size w w'/\((g.get ps=none/\e=.returned (.tuple #[zeroV,.int .u16 30]))\/∃ h v',g.get ps=some h/\e=.returned (.tuple #[v',.int .u16 0])/\(h.val (fun k=>w.heap.size<=k) w' v'/\FullO w.heap.size w' h v'))
theorem zdh (ok:Nat->Prop) (v:Value) (g:GV) (hi:Nat) (A:Option Addr) (cap:Nat) (ps:List GStep) (w:World) (hv:g.val ok w v) (hp:Steps hi w A ps) (hhi:hi<=w.heap.size) (hcap:ps.length<=cap) (hm:cap<=maxLen) (hw:g.weight<=1000000000):
  Calls Tryz.prog 52 #[v,.slice A ps.length cap] w (GetPostF g ps w):=by
 obtain ⟨L,O,rfl,hL,hO⟩:=hv;obtain ⟨AL,cL,rfl⟩:=zah hL;obtain ⟨AO,cO,rfl⟩:=zag hO;have hbox:=boxed hL hO;have hcall:∀ W,Boxed w g AL AO cL cO W->Calls Tryz.prog 63 #[.pointer (some ⟨w.heap.size,0,none⟩),.slice A ps.length cap,.func (.func 79) #[] #[],.func (.func 80) #[] #[.pointer (some ⟨w.heap.size+1+1,0,none⟩)]] W
   fun e w'=>(g.get ps=none/\e=.returned (.int .u16 30)/\Below W.heap.size W w')\/∃ h,g.get ps=some h/\e=.returned (.int .u16 0)/\GotF h (w.heap.size+1+1) (w.heap.size+1+1+1) w'/\Below (w.heap.size+1+1) W w':=fun W hB=>
  zeQ _ _ _ (enters_of Tryz.func80 (by kernel_rfl) rfl) (fun _=>True) _ _ g hi A cap ps W hB.spot.at (hp.keep (hB.below.mono hhi) (Nat.le_refl _)) (by have:=hB.below.size;omega) hcap hm (fun W' hg hb=>.inl ⟨hg,rfl,hb⟩)
   (fun W' b o h hg hb hat=>(get1F (fun _=>True) b o h (w.heap.size+1+1) _ _ _ _ _ W' hat (hB.x.below hb hB.x.lt) (Nat.le_trans (zas _ _ _ hg) hw)).mono fun e w' ⟨he,⟨BL,dL,BO,h1,h2,h3,h4⟩,hb'⟩=>
    ⟨he,.inr ⟨h,hg,rfl,⟨BL,dL,BO,h1,h2.keep (From.refl _ _) (fun k hk _=>by have:=hB.size;have:=hb.size;omega),h3.keep (From.refl _ _) (fun k hk _=>by have:=hB.size;have:=hb.size;omega),h4.keep h3 (fun _ _ _=>rfl) (by have:=hB.size;have:=hb.size;omega)⟩,(hb.mono (by have:=hB.size;omega)).trans hb'⟩⟩)
 have HBOX:=hid hbox;clear hbox hp hL hO;cases hg:g.get ps with
 | none=>
  have hc2:=fun W hB=>(hcall W hB).mono (R':=fun e w'=>e=.returned (.int .u16 30)/\Below W.heap.size W w') fun e w' hq=>hq.elim (fun h=>h.2) (fun ⟨_,h,_⟩=>by rw [hg] at h;cases h)
  have HC:=hid hc2;have HG:=hid hg;clear hcall hc2 hg;go_enter Tryz.func52,Tryz.ntmps52
  go_wp2_with (go_at_call 63;refine (HC.out _ HBOX.out).mono ?_;rintro e w1 ⟨rfl,hb⟩;obtain ⟨x0,x1,x2,x3,x4,_⟩:=(HBOX.out.x.below hb HBOX.out.x.lt).five;obtain ⟨r0,r1,r2,r3,r4,f0,f1,f2,f3,f4⟩:=(HBOX.out.res.below hb HBOX.out.res.lt).five;have HB1:=hid hb;clear hb)
  have h5:=zai (HBOX.out.res.below HB1.out HBOX.out.res.lt) (.int .u8 0) (.int .i64 0) (.string ⟨#[]⟩) (.slice none 0 0) (.slice none 0 0);obtain ⟨d0,d1,d2,d3,d4,_⟩:=h5.five;unfold put5 at d0 d1 d2 d3 d4;refine bodyPost_ret (v:=.tuple #[zeroV,.int .u16 30]) (by simp [results,Tryz.results52,go_sem,zeroV,d0,d1,d2,d3,d4]) rfl ?_
  refine ⟨?_,.inl ⟨HG.out,rfl⟩⟩
  exact zae (HBOX.out.below.trans (HB1.out.mono HBOX.out.below.size)) (by omega) _ _ _ _ _
 | some h=>
  have hc2:=fun W hB=>(hcall W hB).mono (R':=fun e w'=>e=.returned (.int .u16 0)/\GotF h (w.heap.size+1+1) (w.heap.size+1+1+1) w'/\Below (w.heap.size+1+1) W w') fun e w' hq=>hq.elim (fun h=>by rw [hg] at h;cases h.1) (fun ⟨_,h,h2⟩=>by rw [hg] at h;cases h;exact h2)
  have HC:=hid hc2;have HG:=hid hg;clear hcall hc2 hg;go_enter Tryz.func52,Tryz.ntmps52
  go_wp2_with (go_at_call 63;refine (HC.out _ HBOX.out).mono ?_;rintro e w1 ⟨rfl,⟨BL,dL,BO,hx,hL,hO,hF⟩,hb⟩;obtain ⟨x0,x1,x2,x3,x4,_⟩:=hx.five;obtain ⟨r0,r1,r2,r3,r4,f0,f1,f2,f3,f4⟩:=(HBOX.out.res.below hb (Nat.lt_succ_self _)).five;have HB1:=hid hb;have HV:=hid (And.intro hL (And.intro hO hF));clear hb hL hO hF hx)
  have h5:=zai (HBOX.out.res.below HB1.out (Nat.lt_succ_self _)) (.int .u8 h.kq) (.int .i64 h.num) (.string h.str) (.slice BL h.il.length dL) (.slice BO h.vz.length h.vz.length);obtain ⟨d0,d1,d2,d3,d4,_⟩:=h5.five;unfold put5 at d0 d1 d2 d3 d4;refine bodyPost_ret (v:=.tuple #[.agg #[.int .u8 h.kq,.int .i64 h.num,.string h.str,.slice BL h.il.length dL,.slice BO h.vz.length h.vz.length],.int .u16 0]) (by simp [results,Tryz.results52,go_sem,d0,d1,d2,d3,d4]) rfl ?_
  refine ⟨zae (HBOX.out.below.trans (HB1.out.mono (by omega))) (by omega) _ _ _ _ _,.inr ⟨h,_,HG.out,rfl,⟨_,_,rfl,?_,?_⟩,?_⟩⟩
  ·exact HV.out.1.keep (fun k hk _=>zac _ _ _ _ _ _ _ _ (by omega)) (fun k hk _=>by omega)
  ·exact HV.out.2.1.keep (fun k hk _=>zac _ _ _ _ _ _ _ _ (by omega)) (fun k hk _=>by omega)
  ·exact HV.out.2.2.keep HV.out.2.1 (fun k hk _=>zac _ _ _ _ _ _ _ _ (by omega)) (by omega)
end Go.Proofs.YtmmgdkpkcoopgaaGreatDoor
