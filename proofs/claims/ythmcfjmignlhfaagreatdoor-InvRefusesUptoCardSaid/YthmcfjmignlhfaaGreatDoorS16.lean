/- Texts in one: RawInv, Raw, RawTop. -/
import Derived.Test.YthmcfjmignlhfaaGreatDoorS1
import Derived.WalkKit
import Derived.WalkSpells
import Derived.WalkLawsBesides
import Derived.Lib.Hide
set_option maxHeartbeats 4000000
namespace Go.Proofs.YthmcfjmignlhfaaGreatDoor
open Go.Lib(hid)
open Go Go.RowKit
def RawPost (ts:List GTok) (w:World) (e:Ending) (w':World):Prop:=
 ∃ (g:GV) (L O:Value) (n:Nat),e=.returned (.tuple #[.agg #[.int .u8 g.kq,.int .i64 g.num,.string g.str,L,O],.int .i64 n]) /\
  LstV (fun k=>w.heap.size<=k) w' L g.il/\ObjV (fun k=>w.heap.size<=k) w' O g.keys g.vz/\g.PosN /\
  n<=ts.length/\(ts≠[]->1<=n/\g.weight+g.str.size<=2 * tot (ts.take n))/\(ts=[]->n=0/\g.weight<=1)/\Below w.heap.size w w'
structure RawInv (w:World) (t:GTok) (ts:List GTok) (u:Nat) (wr:World):Prop where
 below:Below w.heap.size w wr
 tok:Whole wr (w.heap.size+1) 67 #[.int .u8 t.k,.int .i64 t.n,.string t.s,.int .u8 t.m]
 res:∃ cs,cs.size=5/\Whole wr w.heap.size 29 cs
 val:∃ (l:List GV) (ks:List ByteArray) (ov:List GV) (vL vO:Value) (xs ys:List Value),
  Whole wr (w.heap.size+1+1) 29 #[.int .u8 t.k,.int .i64 t.n,.string t.s,vL,vO] /\
  wr.ownsRow (w.heap.size+3) 29 5 vL l.length xs/\wr.ownsRow (w.heap.size+3) 70 6 vO ov.length ys /\
  RowL (fun k=>w.heap.size+3<=k/\vL.ownBlock≠some k/\vO.ownBlock≠some k) wr l xs /\
  RowO (fun k=>w.heap.size+3<=k/\vL.ownBlock≠some k/\vO.ownBlock≠some k) wr ks ov ys /\
  1+t.s.size+GV.weights l+(ks.map (·.size)).sum+GV.weights ov+t.s.size<=2 * tot (ts.take u)/\l.length<=u/\ov.length<=u/\0<=t.k/\(∀ x∈l,GV.PosN x)/\(∀ x∈ov,GV.PosN x)
section
variable {w wr:World} {t:GTok} {ts:List GTok} {u:Nat}
theorem RawInv.out (h:RawInv w t ts u wr) (h1:1<=u) (h2:u<=ts.length):∃ (vL vO:Value),Whole wr (w.heap.size+1+1) 29 #[.int .u8 t.k,.int .i64 t.n,.string t.s,vL,vO] /\
  ∀ W',(∀ k,w.heap.size<k->k<wr.heap.size->W'.heap[k]? = wr.heap[k]?)->Below w.heap.size w W'->RawPost ts w (.returned (.tuple #[.agg #[.int .u8 t.k,.int .i64 t.n,.string t.s,vL,vO],.int .i64 u])) W':=by
 obtain ⟨hbel,htok,⟨cs,hcs,hres⟩,l,ks,ov,vL,vO,xs,ys,hval,hownL,hownO,hrL,hrO,hwt,hll,hlo,hps⟩:=h;refine ⟨vL,vO,hval,fun W' hk hB=>?_⟩
 have hF:From (fun k=>w.heap.size+3<=k) wr W':=fun k h3 hlt=>hk k (by omega) hlt
 have e1:LstV (fun k=>w.heap.size<=k) W' vL l:=
  LstV.keep (ok:=fun k=>w.heap.size+3<=k) hF (fun k h3 _=>by omega) (LstV.of_own hownL (hrL.keep (From.refl _ _) (fun k h3 _=>h3.1)) (fun k hk=>(hownL.lt k hk).1))
 have e2:ObjV (fun k=>w.heap.size<=k) W' vO ks ov:=
  ObjV.keep (ok:=fun k=>w.heap.size+3<=k) hF (fun k h3 _=>by omega) (ObjV.of_own hownO (hrO.keep (From.refl _ _) (fun k h3 _=>h3.1)) (fun k hk=>(hownO.lt k hk).1))
 exact ⟨.mk t.k t.n t.s l ks ov,vL,vO,u,rfl,e1,e2,(zjQ _).2 ⟨⟨hps.1,t.hn⟩,hps.2⟩,h2,fun _=>⟨h1,by simp only [GV.weight,GV.str];omega⟩,fun e=>by subst e;simp at h2;omega,hB⟩
theorem zc5 (l:List GV) (g:GV):GV.weights (l++[g])=GV.weights l+g.weight:=by
 induction l with
 | nil=>simp [GV.weights]
 | cons x r ih=>simp [GV.weights,ih];omega
theorem zel (a b:List GTok):tot (a++b)=tot a+tot b:=by
 induction a with
 | nil=>simp [tot]
 | cons x r ih=>simp [tot,ih];omega
theorem zgM (ts:List GTok) (u n:Nat):tot (ts.take (u+n))=tot (ts.take u)+tot ((ts.drop u).take n):=by
 rw [<- zel,<- List.take_add]
theorem zgZ {W:World} {vL vO:Value} {nL nO:Nat} {xs ys:List Value} {base:Nat} (hbase:base<=W.heap.size) (hL:W.ownsRow base 29 5 vL nL xs) (hO:W.ownsRow base 70 6 vO nO ys) {k:Nat} (hk:W.heap.size<=k):
  base<=k/\vL.ownBlock≠some k/\vO.ownBlock≠some k:=
 ⟨by omega,fun e=>by have:=(hL.lt k e).2;omega,fun e=>by have:=(hO.lt k e).2;omega⟩
structure RawPs (w:World) (t:GTok) (ts:List GTok) (u:Nat) (l:List GV) (ks:List ByteArray) (ov:List GV) (vL vO:Value) (xs ys:List Value) (wr:World):Prop where
 below:Below w.heap.size w wr
 tok:Whole wr (w.heap.size+1) 67 #[.int .u8 t.k,.int .i64 t.n,.string t.s,.int .u8 t.m]
 res:∃ cs,cs.size=5/\Whole wr w.heap.size 29 cs
 val:Whole wr (w.heap.size+1+1) 29 #[.int .u8 t.k,.int .i64 t.n,.string t.s,vL,vO]
 ownL:wr.ownsRow (w.heap.size+3) 29 5 vL l.length xs
 ownO:wr.ownsRow (w.heap.size+3) 70 6 vO ov.length ys
 rowL:RowL (fun k=>w.heap.size+3<=k/\vL.ownBlock≠some k/\vO.ownBlock≠some k) wr l xs
 rowO:RowO (fun k=>w.heap.size+3<=k/\vL.ownBlock≠some k/\vO.ownBlock≠some k) wr ks ov ys
 weigh:1+t.s.size+GV.weights l+(ks.map (·.size)).sum+GV.weights ov+t.s.size<=2 * tot (ts.take u)
 lenL:l.length<=u
 lenO:ov.length<=u
 pos:0<=t.k/\(∀ x∈l,GV.PosN x)/\(∀ x∈ov,GV.PosN x)
theorem RawPs.inv {l:List GV} {ks:List ByteArray} {ov:List GV} {vL vO:Value} {xs ys:List Value} (h:RawPs w t ts u l ks ov vL vO xs ys wr):RawInv w t ts u wr:=
 ⟨h.below,h.tok,h.res,l,ks,ov,vL,vO,xs,ys,h.val,h.ownL,h.ownO,h.rowL,h.rowO,h.weigh,h.lenL,h.lenO,h.pos⟩
theorem RawInv.ps (h:RawInv w t ts u wr):∃ l ks ov vL vO xs ys,RawPs w t ts u l ks ov vL vO xs ys wr:=by
 obtain ⟨hbel,htok,hres,l,ks,ov,vL,vO,xs,ys,hval,hownL,hownO,hrL,hrO,hwt,hll,hlo,hps⟩:=h;exact ⟨l,ks,ov,vL,vO,xs,ys,⟨hbel,htok,hres,hval,hownL,hownO,hrL,hrO,hwt,hll,hlo,hps⟩⟩
theorem RawPs.step {l:List GV} {ks:List ByteArray} {ov:List GV} {vL vO:Value} {xs ys:List Value} (h:RawPs w t ts u l ks ov vL vO xs ys wr) {W:World} (hb:Below wr.heap.size wr W):RawPs w t ts u l ks ov vL vO xs ys W:=
 ⟨h.below.trans (hb.mono h.below.size),h.tok.below hb h.tok.lt,(by obtain ⟨cs,hcs,hr⟩:=h.res;exact ⟨cs,hcs,hr.below hb hr.lt⟩),h.val.below hb h.val.lt,zaB h.ownL hb,zaB h.ownO hb,
  h.rowL.keep (.of_below hb) (fun _ h _=>h),h.rowO.keep (.of_below hb) (fun _ h _=>h),h.weigh,h.lenL,h.lenO,h.pos⟩
theorem zlu {W:World} {v v':Value} (hat:v'.ownBlock=v.ownBlock\/v'.ownBlock=some W.heap.size) {k:Nat} (h1:v.ownBlock≠some k) (h2:k<W.heap.size):v'.ownBlock≠some k:=by
 rcases hat with e | e
 ·rwa [e]
 ·rw [e];intro h;cases h;omega
theorem RawPs.addL {l:List GV} {ks:List ByteArray} {ov:List GV} {vL vO:Value} {xs ys:List Value} (h:RawPs w t ts u l ks ov vL vO xs ys wr) {g:GV} {L O:Value} {n:Nat} {W3:World} {v':Value}
  (hL:LstV (fun k=>w.heap.size+3<=k/\vL.ownBlock≠some k/\vO.ownBlock≠some k) wr L g.il) (hO:ObjV (fun k=>w.heap.size+3<=k/\vL.ownBlock≠some k/\vO.ownBlock≠some k) wr O g.keys g.vz)
  (hown:W3.ownsRow (w.heap.size+3) 29 5 v' (l.length+1) (xs++chunk g L O)) (hgrow:wr.grownBy W3 vL.ownBlock) (hat:v'.ownBlock=vL.ownBlock\/v'.ownBlock=some wr.heap.size)
  (hn:1<=n) (hp:g.PosN) (hwt:g.weight+g.str.size<=2 * tot ((ts.drop u).take n)):RawInv w t ts (u+n) (W3.setCell ⟨w.heap.size+1+1,3,none⟩ v'):=by
 have hsz:w.heap.size+3<=wr.heap.size:=by have:=h.val.lt;omega
 have hrow:∀ k,vL.ownBlock=some k->w.heap.size+3<=k:=fun k hk=>(h.ownL.lt k hk).1
 have n1:some (w.heap.size+1+1)≠vL.ownBlock:=fun e=>by have:=hrow _ e.symm;omega
 have n2:some (w.heap.size+1)≠vL.ownBlock:=fun e=>by have:=hrow _ e.symm;omega
 have n3:some w.heap.size≠vL.ownBlock:=fun e=>by have:=hrow _ e.symm;omega
 have hF:From (fun k=>w.heap.size+3<=k/\vL.ownBlock≠some k/\vO.ownBlock≠some k) wr (W3.setCell ⟨w.heap.size+1+1,3,none⟩ v'):=fun k hk hlt=>
  (Below.heap_setCell W3 ⟨w.heap.size+1+1,3,none⟩ v' k (by simp only;omega)).trans (hgrow.block k hlt (fun e=>hk.2.1 e.symm))
 have hsub:∀ k,(w.heap.size+3<=k/\vL.ownBlock≠some k/\vO.ownBlock≠some k)->k<wr.heap.size->(w.heap.size+3<=k/\v'.ownBlock≠some k/\vO.ownBlock≠some k):=
  fun k hk hlt=>⟨hk.1,zlu hat hk.2.1 hlt,hk.2.2⟩
 have hownO3:W3.ownsRow (w.heap.size+3) 70 6 vO ov.length ys:=h.ownO.kept hgrow (zbM h.ownO h.ownL (by decide))
 have hb3:Below w.heap.size w (W3.setCell ⟨w.heap.size+1+1,3,none⟩ v'):=
  (h.below.grown hgrow (by omega) (fun k hk=>by have:=hrow k hk;omega)).setCell (by simp only;omega) _
 obtain ⟨cs,hcs,hr⟩:=h.res;refine ⟨hb3,(h.tok.grown hgrow n2).far (by simp only;omega) _,⟨cs,hcs,(hr.grown hgrow n3).far (by simp only;omega) _⟩,l++[g],ks,ov,v',vO,xs++chunk g L O,ys,?_,?_,?_,?_,?_,?_,?_,?_,h.pos.1,?_,h.pos.2.2⟩
 ·exact (h.val.grown hgrow n1).put 3 v'
 ·rw [List.length_append];exact ownsRow_setCell_below hown (by simp only;omega) _
 ·exact ownsRow_setCell_below hownO3 (by simp only;omega) _
 ·exact (RowL.snoc hL hO h.rowL).keep hF hsub
 ·exact h.rowO.keep hF hsub
 ·rw [zc5,zgM];have:=h.weigh;omega
 ·rw [List.length_append];have:=h.lenL;simp;omega
 ·have:=h.lenO;omega
 ·intro x hx;rcases List.mem_append.1 hx with hx | hx;exact h.pos.2.1 x hx;simp at hx;subst hx;exact hp
theorem RawPs.addO {l:List GV} {ks:List ByteArray} {ov:List GV} {vL vO:Value} {xs ys:List Value} (h:RawPs w t ts u l ks ov vL vO xs ys wr) {g:GV} {L O:Value} {n:Nat} {W3:World} {v':Value}
  (hL:LstV (fun k=>w.heap.size+3<=k/\vL.ownBlock≠some k/\vO.ownBlock≠some k) wr L g.il) (hO:ObjV (fun k=>w.heap.size+3<=k/\vL.ownBlock≠some k/\vO.ownBlock≠some k) wr O g.keys g.vz)
  (hown:W3.ownsRow (w.heap.size+3) 70 6 v' (ov.length+1) (ys++(.string g.str :: chunk g L O))) (hgrow:wr.grownBy W3 vO.ownBlock) (hat:v'.ownBlock=vO.ownBlock\/v'.ownBlock=some wr.heap.size)
  (hn:1<=n) (hp:g.PosN) (hwt:g.weight+g.str.size<=2 * tot ((ts.drop u).take n)):RawInv w t ts (u+n) (W3.setCell ⟨w.heap.size+1+1,4,none⟩ v'):=by
 have hsz:w.heap.size+3<=wr.heap.size:=by have:=h.val.lt;omega
 have hrow:∀ k,vO.ownBlock=some k->w.heap.size+3<=k:=fun k hk=>(h.ownO.lt k hk).1
 have n1:some (w.heap.size+1+1)≠vO.ownBlock:=fun e=>by have:=hrow _ e.symm;omega
 have n2:some (w.heap.size+1)≠vO.ownBlock:=fun e=>by have:=hrow _ e.symm;omega
 have n3:some w.heap.size≠vO.ownBlock:=fun e=>by have:=hrow _ e.symm;omega
 have hF:From (fun k=>w.heap.size+3<=k/\vL.ownBlock≠some k/\vO.ownBlock≠some k) wr (W3.setCell ⟨w.heap.size+1+1,4,none⟩ v'):=fun k hk hlt=>
  (Below.heap_setCell W3 ⟨w.heap.size+1+1,4,none⟩ v' k (by simp only;omega)).trans (hgrow.block k hlt (fun e=>hk.2.2 e.symm))
 have hsub:∀ k,(w.heap.size+3<=k/\vL.ownBlock≠some k/\vO.ownBlock≠some k)->k<wr.heap.size->(w.heap.size+3<=k/\vL.ownBlock≠some k/\v'.ownBlock≠some k):=
  fun k hk hlt=>⟨hk.1,hk.2.1,zlu hat hk.2.2 hlt⟩
 have hownL3:W3.ownsRow (w.heap.size+3) 29 5 vL l.length xs:=h.ownL.kept hgrow (zbM h.ownL h.ownO (by decide))
 have hb3:Below w.heap.size w (W3.setCell ⟨w.heap.size+1+1,4,none⟩ v'):=
  (h.below.grown hgrow (by omega) (fun k hk=>by have:=hrow k hk;omega)).setCell (by simp only;omega) _
 obtain ⟨cs,hcs,hr⟩:=h.res;refine ⟨hb3,(h.tok.grown hgrow n2).far (by simp only;omega) _,⟨cs,hcs,(hr.grown hgrow n3).far (by simp only;omega) _⟩,l,ks++[g.str],ov++[g],vL,v',xs,ys++(.string g.str :: chunk g L O),?_,?_,?_,?_,?_,?_,?_,?_,h.pos.1,h.pos.2.1,?_⟩
 ·exact (h.val.grown hgrow n1).put 4 v'
 ·exact ownsRow_setCell_below hownL3 (by simp only;omega) _
 ·rw [List.length_append];exact ownsRow_setCell_below hown (by simp only;omega) _
 ·exact h.rowL.keep hF hsub
 ·exact (RowO.snoc hL hO h.rowO).keep hF hsub
 ·rw [zc5,zgM,List.map_append,List.sum_append];have:=h.weigh;simp;omega
 ·have:=h.lenL;omega
 ·rw [List.length_append];have:=h.lenO;simp;omega
 ·intro x hx;rcases List.mem_append.1 hx with hx | hx;exact h.pos.2.2 x hx;simp at hx;subst hx;exact hp
structure Ready (w:World) (t:GTok) (vL vO:Value) (wr:World):Prop where
 v0:wr.cell? ⟨w.heap.size+1+1,0,none⟩=some (.int .u8 t.k)
 v1:wr.cell? ⟨w.heap.size+1+1,1,none⟩=some (.int .i64 t.n)
 v2:wr.cell? ⟨w.heap.size+1+1,2,none⟩=some (.string t.s)
 v3:wr.cell? ⟨w.heap.size+1+1,3,none⟩=some vL
 v4:wr.cell? ⟨w.heap.size+1+1,4,none⟩=some vO
 f3:wr.frozen? ⟨w.heap.size+1+1,3,none⟩=false
 f4:wr.frozen? ⟨w.heap.size+1+1,4,none⟩=false
 t0:wr.cell? ⟨w.heap.size+1,0,none⟩=some (.int .u8 t.k)
 t3:wr.cell? ⟨w.heap.size+1,3,none⟩=some (.int .u8 t.m)
 r:∃ z0 z1 z2 z3 z4:Value,wr.cell? ⟨w.heap.size,0,none⟩=some z0/\wr.cell? ⟨w.heap.size,1,none⟩=some z1/\wr.cell? ⟨w.heap.size,2,none⟩=some z2/\wr.cell? ⟨w.heap.size,3,none⟩=some z3/\wr.cell? ⟨w.heap.size,4,none⟩=some z4
 rf:∀ j,wr.frozen? ⟨w.heap.size,j,none⟩=false
theorem RawPs.ready {l:List GV} {ks:List ByteArray} {ov:List GV} {vL vO:Value} {xs ys:List Value} (h:RawPs w t ts u l ks ov vL vO xs ys wr):Ready w t vL vO wr:=by
 obtain ⟨⟨cs⟩,hcs,hr⟩:=h.res
 match cs,hcs with
 | [z0,z1,z2,z3,z4],_=>
  exact ⟨(h.val.cell 0).trans rfl,(h.val.cell 1).trans rfl,(h.val.cell 2).trans rfl,(h.val.cell 3).trans rfl,(h.val.cell 4).trans rfl,h.val.frozen 3,h.val.frozen 4,(h.tok.cell 0).trans rfl,(h.tok.cell 3).trans rfl,
   ⟨z0,z1,z2,z3,z4,(hr.cell 0).trans rfl,(hr.cell 1).trans rfl,(hr.cell 2).trans rfl,(hr.cell 3).trans rfl,(hr.cell 4).trans rfl⟩,fun j=>hr.frozen j⟩
theorem RawPs.done {l:List GV} {ks:List ByteArray} {ov:List GV} {vL vO:Value} {xs ys:List Value} (h:RawPs w t ts u l ks ov vL vO xs ys wr) (h1:1<=u) (h2:u<=ts.length) (a b c d e:Value):
  RawPost ts w (.returned (.tuple #[.agg #[.int .u8 t.k,.int .i64 t.n,.string t.s,vL,vO],.int .i64 u])) (((((wr.setCell ⟨w.heap.size,0,none⟩ a).setCell ⟨w.heap.size,1,none⟩ b).setCell ⟨w.heap.size,2,none⟩ c).setCell ⟨w.heap.size,3,none⟩ d).setCell ⟨w.heap.size,4,none⟩ e):=by
 obtain ⟨vL',vO',hv,hout⟩:=h.inv.out h1 h2;have:vL'=vL/\vO'=vO:=by
  have e3:=(hv.cell 3).symm.trans (h.val.cell 3);have e4:=(hv.cell 4).symm.trans (h.val.cell 4);simp at e3 e4
  exact ⟨e3,e4⟩
 obtain ⟨rfl,rfl⟩:=this;refine hout _ (fun k hk _=>?_) (((((h.below.setCell (Nat.le_refl _) _).setCell (Nat.le_refl _) _).setCell (Nat.le_refl _) _).setCell (Nat.le_refl _) _).setCell (Nat.le_refl _) _)
 rw [Below.heap_setCell _ _ _ _ (by simp only;omega),Below.heap_setCell _ _ _ _ (by simp only;omega),Below.heap_setCell _ _ _ _ (by simp only;omega),Below.heap_setCell _ _ _ _ (by simp only;omega),Below.heap_setCell _ _ _ _ (by simp only;omega)]
theorem RawPs.cellL {l:List GV} {ks:List ByteArray} {ov:List GV} {vL vO:Value} {xs ys:List Value} (h:RawPs w t ts u l ks ov vL vO xs ys wr) {W3:World} (hg:wr.grownBy W3 vL.ownBlock):
  W3.cell? ⟨w.heap.size+1+1,3,none⟩=some vL/\W3.frozen? ⟨w.heap.size+1+1,3,none⟩=false:=by
 have:=h.val.grown hg (fun e=>by have:=(h.ownL.lt _ e.symm).1;omega)
 exact ⟨(this.cell 3).trans rfl,this.frozen 3⟩
theorem RawPs.cellO {l:List GV} {ks:List ByteArray} {ov:List GV} {vL vO:Value} {xs ys:List Value} (h:RawPs w t ts u l ks ov vL vO xs ys wr) {W3:World} (hg:wr.grownBy W3 vO.ownBlock):
  W3.cell? ⟨w.heap.size+1+1,4,none⟩=some vO/\W3.frozen? ⟨w.heap.size+1+1,4,none⟩=false:=by
 have:=h.val.grown hg (fun e=>by have:=(h.ownO.lt _ e.symm).1;omega)
 exact ⟨(this.cell 4).trans rfl,this.frozen 4⟩
theorem RawPs.newL {l:List GV} {ks:List ByteArray} {ov:List GV} {vL vO:Value} {xs ys:List Value} (h:RawPs w t ts u l ks ov vL vO xs ys wr) {W1:World} (o o':Obj) {L:Value} {gl:List GV} (hL:LstV (fun k=>wr.heap.size<=k) W1 L gl):
  LstV (fun k=>w.heap.size+3<=k/\vL.ownBlock≠some k/\vO.ownBlock≠some k) ((W1.alloc o).alloc o') L gl:=
 hL.keep (fun k _ hk=>by rw [Below.heap_alloc _ _ _ (by simp;omega),Below.heap_alloc _ _ _ hk]) (fun k hk _=>zgZ (by have:=h.val.lt;omega) h.ownL h.ownO hk)
theorem RawPs.newO {l:List GV} {ks:List ByteArray} {ov:List GV} {vL vO:Value} {xs ys:List Value} (h:RawPs w t ts u l ks ov vL vO xs ys wr) {W1:World} (o o':Obj) {O:Value} {gk:List ByteArray} {gv:List GV} (hO:ObjV (fun k=>wr.heap.size<=k) W1 O gk gv):
  ObjV (fun k=>w.heap.size+3<=k/\vL.ownBlock≠some k/\vO.ownBlock≠some k) ((W1.alloc o).alloc o') O gk gv:=
 hO.keep (fun k _ hk=>by rw [Below.heap_alloc _ _ _ (by simp;omega),Below.heap_alloc _ _ _ hk]) (fun k hk _=>zgZ (by have:=h.val.lt;omega) h.ownL h.ownO hk)
end
open Go Go.RowKit
theorem zgA (A:Option Addr) (cap:Nat) (d:Int) (w:World):
  Calls Tryz.prog 59 #[.slice A 0 cap,.int .i64 d] w (RawPost [] w):=by
 go_enter Tryz.func59,Tryz.ntmps59
 go_wp2
 refine bodyPost_ret (v:=.tuple #[.agg #[.int .u8 0,.int .i64 0,.string ⟨#[]⟩,.slice none 0 0,.slice none 0 0],.int .i64 0]) (by simp [results,Tryz.results59,go_sem]) rfl ?_
 exact ⟨.mk 0 0 ⟨#[]⟩ [] [] [],_,_,0,rfl,.inl ⟨rfl,rfl⟩,⟨rfl,.inl ⟨rfl,rfl⟩⟩,by simp [GV.PosN,GV.PosNs],Nat.zero_le _,fun h=>absurd rfl h,fun _=>⟨rfl,by decide⟩,(Below.refl _ _).alloc (Nat.le_refl _) _⟩
def RawRel (w:World) (t:GTok) (ts:List GTok) (used i:Value) (wr:World):Prop:=
 ∃ (u k:Nat),used=.int .i64 u/\i=.int .u8 k/\1<=u/\u<=ts.length/\(k:Int)<=t.m % 4/\RawInv w t ts u wr
theorem zkv (F:Nat):∀ (hi:Nat) (A:Option Addr) (cap:Nat) (ts:List GTok) (d:Nat) (w:World),ts.length<=F->ts.length<=cap->cap<=maxLen->ts.length<=200->d<=20->hi<=w.heap.size->Toks hi w A ts ->
  (∀ t∈ts,0<=t.k/\t.k<=255/\0<=t.m/\t.m<=255) ->
  Calls Tryz.prog 59 #[.slice A ts.length cap,.int .i64 d] w (RawPost ts w):=by
 induction F with
 | zero=>
  intro hi A cap ts d w hF _ _ _ _ _ _ _;have:ts=[]:=List.eq_nil_of_length_eq_zero (by omega)
  subst this;exact zgA A cap d w
 | succ F ih=>
  intro hi A cap ts d w hF hcap hm h200 hd hhi hT hrange;by_cases hts:ts=[]
  ·subst hts;exact zgA A cap d w
  obtain ⟨⟨ab,ao,_⟩,rfl,rfl,hl,hc⟩:=hT hts;obtain ⟨t,rest,rfl⟩:∃ t r,ts=t :: r:=by cases ts with | nil=>exact absurd rfl hts | cons t r=>exact ⟨t,r,rfl⟩
  obtain ⟨hc0,hc1,hc2,hc3⟩:=hc 0 t rfl;simp only [Nat.zero_mul,Nat.add_zero] at hc0 hc1 hc2 hc3;simp only at hl;have hcA:∀ (o:Obj) (j:Nat) (v:Value),w.cell? ⟨ab,j,none⟩=some v->(w.alloc o).cell? ⟨ab,j,none⟩=some v:=fun o j v h=>(World.cell?_of_block (a:=⟨ab,j,none⟩) (Below.heap_alloc w o ab (by omega))).trans h
  have hd0:=fun o=>hcA o _ _ hc0
  have hd1:=fun o=>hcA o _ _ hc1
  have hd2:=fun o=>hcA o _ _ hc2
  have hd3:=fun o=>hcA o _ _ hc3
  clear hcA hc0 hc1 hc2 hc3;obtain ⟨hk0,hk1,hm0,hm1⟩:=hrange t (by simp)
  unfold maxLen at hm;have hlen:(t :: rest).length=rest.length+1:=rfl;have HT:=hid hT;have HC:=hid hc;have HR:=hid hrange;have HI:=hid ih;clear hT hc hrange hlen ih hts;generalize hn:(t :: rest).length=n at *;have HN:=hid hn;have hn1:1<=n:=by rw [<- hn];simp
  clear hn;have hnz:((n:Int) == 0)=false:=by simp;omega
  go_enter Tryz.func59,Tryz.ntmps59
  go_wp2
  go_loopw [8,9] (RawRel w t (t :: rest)) (fun _ i _=>(t.m % 4 - intOf i).toNat)
  case atStart=>
   refine ⟨1,0,rfl,rfl,Nat.le_refl _,by simp,by simp only [Int.ofNat_zero];omega,?_⟩
   refine ⟨(((Below.refl _ _).alloc (Nat.le_refl _) _).alloc (by simp) _).alloc (by simp;omega) _,?_,?_,?_⟩
   ·have h:=(Whole.new (w.alloc (.cells #[.int .u8 0,.int .i64 0,.string ⟨#[]⟩,.slice none 0 0,.slice none 0 0] 29)) 67 #[.int .u8 t.k,.int .i64 t.n,.string t.s,.int .u8 t.m]).alloc (.cells #[.int .u8 t.k,.int .i64 t.n,.string t.s,.slice none 0 0,.slice none 0 0] 29)
    rw [World.size_alloc] at h;exact h
   ·exact ⟨_,rfl,((Whole.new w _ _).alloc _).alloc _⟩
   ·have h:=Whole.new ((w.alloc (.cells #[.int .u8 0,.int .i64 0,.string ⟨#[]⟩,.slice none 0 0,.slice none 0 0] 29)).alloc (.cells #[.int .u8 t.k,.int .i64 t.n,.string t.s,.int .u8 t.m] 67)) 29 #[.int .u8 t.k,.int .i64 t.n,.string t.s,.slice none 0 0,.slice none 0 0]
    rw [World.size_alloc,World.size_alloc] at h;exact ⟨[],[],[],_,_,[],[],h,World.ownsRow_nil _ _ _ _,World.ownsRow_nil _ _ _ _,rfl,rfl,by simp [GV.weights,tot];omega,Nat.zero_le _,Nat.zero_le _,hk0,by simp,by simp⟩
  case round=>
   obtain ⟨u,k,rfl,rfl,hu1,hu2,hk,hinv⟩:=hrel;have HV:=hid hinv;obtain ⟨l,ks,ov,vL,vO,xs,ys,hps⟩:=hinv.ps;obtain ⟨AL,cL,rfl⟩:=zad hps.ownL;obtain ⟨AO,cO,rfl⟩:=zad hps.ownO;have ht0:wr.cell? ⟨w.heap.size+1,0,none⟩=some (.int .u8 t.k):=(hps.tok.cell 0).trans rfl;have ht3:wr.cell? ⟨w.heap.size+1,3,none⟩=some (.int .u8 t.m):=(hps.tok.cell 3).trans rfl;have hun:u<=n:=by rw [<- HN.out];exact hu2
   have HU:=hid hu2;clear hinv hu2;by_cases hgo:(k:Int)<t.m % 4/\d<20
   ·obtain ⟨hlt,hd20⟩:=hgo
    have hd20z:(d:Int)<20:=by omega
    have HP:=hid hps;clear hps;by_cases hend:u=n
    ·subst hend
     have hcall:=fun (A:Option Addr) (c:Nat) (W:World)=>zgA A c ((d:Int)+1) W
     go_wp2_with (go_at_call 59;refine (hcall _ _ _).mono ?_;rintro e W1 ⟨g,L,O,n1,rfl,hL,hO,_,hn1,_,hnil,hb1⟩;obtain ⟨rfl,_⟩:=hnil rfl;obtain ⟨BL,dL,rfl⟩:=zaf hL;obtain ⟨BO,dO,rfl⟩:=zag hO;clear hL hO hnil hn1;obtain ⟨hr0,hr1,hr2,hr3,hr4,_,_,_,_,⟨z0,z1,z2,z3,z4,hz0,hz1,hz2,hz3,hz4⟩,hrf⟩:=(HP.out.step hb1).ready;have q0:=fun o=>zab o hr0;have q1:=fun o=>zab o hr1;have q2:=fun o=>zab o hr2;have q3:=fun o=>zab o hr3;have q4:=fun o=>zab o hr4;have y0:=fun o=>zab o hz0;have y1:=fun o=>zab o hz1;have y2:=fun o=>zab o hz2;have y3:=fun o=>zab o hz3;have y4:=fun o=>zab o hz4;have x0:=fun o=>za6 o hz0 (hrf 0);have x1:=fun o=>za6 o hz1 (hrf 1);have x2:=fun o=>za6 o hz2 (hrf 2);have x3:=fun o=>za6 o hz3 (hrf 3);have x4:=fun o=>za6 o hz4 (hrf 4);clear hr0 hr1 hr2 hr3 hr4 hz0 hz1 hz2 hz3 hz4 hrf)
     all_goals
      refine bodyPost_ret (v:=.tuple #[.agg #[.int .u8 t.k,.int .i64 t.n,.string t.s,.slice AL l.length cL,.slice AO ov.length cO],.int .i64 u]) (by simp [results,Tryz.results59,go_sem,y0,y1,y2,y3,y4]) rfl ?_
      exact ((HP.out.step hb1).step ((Below.refl _ W1).alloc (Nat.le_refl _) _)).done hu1 HU.out _ _ _ _ _
    ·have hlt2:u<n:=by omega
     have hcu:¬ cap=u:=by omega
     have hcall:Calls Tryz.prog 59 #[.slice (some ⟨ab,ao+u * 4,none⟩) (n - u) (cap - u),.int .i64 ((d:Int)+1)] wr (RawPost ((t :: rest).drop u) wr):=by
      have hTk:Toks hi wr (some ⟨ab,ao+u * 4,none⟩) ((t :: rest).drop u):=fun _=>⟨⟨ab,ao+u * 4,none⟩,rfl,rfl,hl,fun i t' ht'=>by
       have:=(HT.out.keep (HP.out.below.mono hhi) (Nat.le_refl _)) (by simp)
       obtain ⟨a,ha,_,_,hc⟩:=this;cases ha
       have:=hc (u+i) t' (by rw [<- ht',List.getElem?_drop])
       simp only [show ao+u * 4+i * 4=ao+(u+i) * 4 by omega]
       exact this⟩
      have:=HI.out hi (some ⟨ab,ao+u * 4,none⟩) (cap - u) ((t :: rest).drop u) (d+1) wr (by rw [List.length_drop,HN.out];omega) (by rw [List.length_drop,HN.out];omega) (by unfold maxLen;omega) (by rw [List.length_drop,HN.out];omega) (by omega) (by have:=HP.out.below.size;omega) hTk (fun x hx=>HR.out x (List.mem_of_mem_drop hx))
      rw [List.length_drop,HN.out] at this;exact this
     have hdne:(t :: rest).drop u≠[]:=fun e=>by have:=congrArg List.length e;rw [List.length_drop,HN.out] at this;simp at this;omega
     have hll:=HP.out.lenL;have hlo:=HP.out.lenO;have b1:l.length+1<=maxLen:=by unfold maxLen;omega
     have b2:(l.length+1) * 80<=140737488355328:=by omega
     have b3:ov.length+1<=maxLen:=by unfold maxLen;omega
     have b4:(ov.length+1) * 96<=140737488355328:=by omega
     have B:=hid (And.intro (And.intro b1 b2) (And.intro b3 b4));have HD:=hid hdne;have HC2:=hid hcall;clear hll hlo b1 b2 b3 b4 hdne hcall;obtain ⟨i0,hi0,hz0,hz1,hz2⟩:=info_parts infoVal;obtain ⟨i1,hi1,hy0,hy1,hy2⟩:=info_parts infoField;have HI0:=hid hi0;have HZ0:=hid (And.intro hz0 (And.intro hz1 hz2));have HI1:=hid hi1;have HY0:=hid (And.intro hy0 (And.intro hy1 hy2));clear hi0 hz0 hz1 hz2 hi1 hy0 hy1 hy2;by_cases hpar:t.k % 2=0
     ·have hparz:(t.k % 2 == 0)=true:=by simp [hpar]
      have HPar:=hid hpar;clear hpar
      go_wp2_with (first | (go_at_call 59;refine HC2.out.mono ?_;rintro e W1 ⟨g,L,O,n1,rfl,hL,hO,hgp,hn1,hne,_,hb1⟩;have HGP:=hid hgp;clear hgp;obtain ⟨hn0,hwt⟩:=hne HD.out;obtain ⟨BL,dL,rfl⟩:=zaf hL;obtain ⟨BO,dO,rfl⟩:=zag hO;have HL1:=hid hL;have HO1:=hid hO;have HW1:=hid hwt;clear hL hO hwt hne;have hnz1:((n1:Int) == 0)=false:=by { simp;omega };rw [List.length_drop,HN.out] at hn1;have hq:=HP.out.step hb1;have HQ:=hid hq;have q0:=fun o=>zab o hq.ready.t0;have q3:=fun o=>zab o hq.ready.v3;have q4:=fun o=>zab o hq.ready.v4;clear hq) | (at_builtin;refine wpList_append_own_at _ rfl (.tmp 53) (.tmp 55) 26 rfl (w.heap.size+3) 29 i0 _ 5 80 Tryz.underlying26 HI0.out HZ0.out.1 HZ0.out.2.1 HZ0.out.2.2 rfl (by decide) (.slice AL l.length cL) l.length xs rfl (((HQ.out.step ((Below.refl _ W1).alloc (Nat.le_refl _) _)).step ((Below.refl _ _).alloc (Nat.le_refl _) _)).ownL) ⟨W1.heap.size+1,0,none⟩ 1 1 (chunk g (.slice BL g.il.length dL) (.slice BO g.vz.length dO)) rfl rfl (row_cells' _ _ (by simp) _ _) (by simp [chunk,Value.oneCell']) B.out.1.1 B.out.1.2 (by have:=HQ.out.val.lt;simp;omega) ?_;intro v' W3 hown' hgrow _ hat;obtain ⟨A3,c3,rfl⟩:=zad hown';have hw3:=((HQ.out.step ((Below.refl _ W1).alloc (Nat.le_refl _) _)).step ((Below.refl _ _).alloc (Nat.le_refl _) _)).cellL hgrow;have w31:=hw3.1;have w32:=hw3.2;have HW3:=hid (And.intro hown' (And.intro hgrow hat));clear hown' hgrow hat hw3))
      go_roundw
      case rel=>exact ⟨u+n1,k+1,by go_num,by go_num,by omega,by rw [HN.out];omega,by push_cast;omega,((HQ.out.step ((Below.refl _ W1).alloc (Nat.le_refl _) _)).step ((Below.refl _ _).alloc (Nat.le_refl _) _)).addL (HP.out.newL _ _ HL1.out) (HP.out.newO _ _ HO1.out) HW3.out.1 HW3.out.2.1 HW3.out.2.2 hn0 HGP.out HW1.out⟩
      case measure=>simp [intOf];omega
     ·have hparz:(t.k % 2 == 0)=false:=by simp [hpar]
      have HPar:=hid hpar;clear hpar
      go_wp2_with (first | (go_at_call 59;refine HC2.out.mono ?_;rintro e W1 ⟨g,L,O,n1,rfl,hL,hO,hgp,hn1,hne,_,hb1⟩;have HGP:=hid hgp;clear hgp;obtain ⟨hn0,hwt⟩:=hne HD.out;obtain ⟨BL,dL,rfl⟩:=zaf hL;obtain ⟨BO,dO,rfl⟩:=zag hO;have HL1:=hid hL;have HO1:=hid hO;have HW1:=hid hwt;clear hL hO hwt hne;have hnz1:((n1:Int) == 0)=false:=by { simp;omega };rw [List.length_drop,HN.out] at hn1;have hq:=HP.out.step hb1;have HQ:=hid hq;have q0:=fun o=>zab o hq.ready.t0;have q3:=fun o=>zab o hq.ready.v3;have q4:=fun o=>zab o hq.ready.v4;clear hq) | (at_builtin;refine wpList_append_own_at _ rfl (.tmp 59) (.tmp 64) 27 rfl (w.heap.size+3) 70 i1 _ 6 96 Tryz.underlying27 HI1.out HY0.out.1 HY0.out.2.1 HY0.out.2.2 rfl (by decide) (.slice AO ov.length cO) ov.length ys rfl (((HQ.out.step ((Below.refl _ W1).alloc (Nat.le_refl _) _)).step ((Below.refl _ _).alloc (Nat.le_refl _) _)).ownO) ⟨W1.heap.size+1,0,none⟩ 1 1 (.string g.str :: chunk g (.slice BL g.il.length dL) (.slice BO g.vz.length dO)) rfl rfl (row_cells' _ _ (by simp) _ _) (by simp [chunk,Value.oneCell']) B.out.2.1 B.out.2.2 (by have:=HQ.out.val.lt;simp;omega) ?_;intro v' W3 hown' hgrow _ hat;obtain ⟨A3,c3,rfl⟩:=zad hown';have hw3:=((HQ.out.step ((Below.refl _ W1).alloc (Nat.le_refl _) _)).step ((Below.refl _ _).alloc (Nat.le_refl _) _)).cellO hgrow;have w31:=hw3.1;have w32:=hw3.2;have HW3:=hid (And.intro hown' (And.intro hgrow hat));clear hown' hgrow hat hw3))
      go_roundw
      case rel=>exact ⟨u+n1,k+1,by go_num,by go_num,by omega,by rw [HN.out];omega,by push_cast;omega,((HQ.out.step ((Below.refl _ W1).alloc (Nat.le_refl _) _)).step ((Below.refl _ _).alloc (Nat.le_refl _) _)).addO (HP.out.newL _ _ HL1.out) (HP.out.newO _ _ HO1.out) HW3.out.1 HW3.out.2.1 HW3.out.2.2 hn0 HGP.out HW1.out⟩
      case measure=>simp [intOf];omega
   ·have hr:=hps.ready
    obtain ⟨hr0,hr1,hr2,hr3,hr4,_,_,_,_,⟨z0,z1,z2,z3,z4,hz0,hz1,hz2,hz3,hz4⟩,hrf⟩:=hr;have f0:=hrf 0;have f1:=hrf 1;have f2:=hrf 2;have f3:=hrf 3;have f4:=hrf 4;have HP:=hid hps;clear hps hrf;by_cases hlt:(k:Int)<t.m % 4
    ·have hd20:¬ (d:Int)<20:=by omega
     clear hgo;go_wp2
     refine bodyPost_ret (v:=.tuple #[.agg #[.int .u8 t.k,.int .i64 t.n,.string t.s,.slice AL l.length cL,.slice AO ov.length cO],.int .i64 u]) (by simp [results,Tryz.results59,go_sem,hz0,hz1,hz2,hz3,hz4]) rfl ?_
     exact HP.out.done hu1 HU.out _ _ _ _ _
    ·clear hgo
     go_wp2
     refine bodyPost_ret (v:=.tuple #[.agg #[.int .u8 t.k,.int .i64 t.n,.string t.s,.slice AL l.length cL,.slice AO ov.length cO],.int .i64 u]) (by simp [results,Tryz.results59,go_sem,hz0,hz1,hz2,hz3,hz4]) rfl ?_
     exact HP.out.done hu1 HU.out _ _ _ _ _
def RawOutN (ts:List GTok) (w:World) (e:Ending) (w':World):Prop:=
 ∃ (g:GV) (v:Value),e=.returned v/\g.val (fun k=>w.heap.size<=k) w' v/\g.weight<=2 * tot ts+1/\g.PosN/\Below w.heap.size w w'
def RawOut (ts:List GTok) (w:World) (e:Ending) (w':World):Prop:=
 ∃ (g:GV) (v:Value),e=.returned v/\g.val (fun k=>w.heap.size<=k) w' v/\g.weight<=2 * tot ts+1/\Below w.heap.size w w'
theorem zdO (ts:List GTok) (n:Nat):tot (ts.take n)<=tot ts:=by
 have:=zel (ts.take n) (ts.drop n);rw [List.take_append_drop] at this;omega
theorem zej {ts:List GTok} {w w':World} {e:Ending} (h:RawPost ts w e w'):∃ (g:GV) (L O:Value) (n:Nat),e=.returned (.tuple #[.agg #[.int .u8 g.kq,.int .i64 g.num,.string g.str,L,O],.int .i64 n]) /\
  LstV (fun k=>w.heap.size<=k) w' L g.il/\ObjV (fun k=>w.heap.size<=k) w' O g.keys g.vz/\g.weight<=2 * tot ts+1/\g.PosN/\Below w.heap.size w w':=by
 obtain ⟨g,L,O,n,e,hL,hO,hp,hn,h1,h2,hb⟩:=h;refine ⟨g,L,O,n,e,hL,hO,?_,hp,hb⟩
 by_cases hts:ts=[]
 ·have:=(h2 hts).2;omega
 ·have:=(h1 hts).2
  have:=zdO ts n;omega
theorem zgU (hi:Nat) (A) (cap:Nat) (ts:List GTok) (w:World) (hcap:ts.length<=cap) (hm:cap<=maxLen) (h200:ts.length<=1000000) (hhi:hi<=w.heap.size) (hT:Toks hi w A ts)
  (hr:∀ t∈ts,0<=t.k/\t.k<=255/\0<=t.m/\t.m<=255):
  Calls Tryz.prog 35 #[.slice A ts.length cap] w (RawOutN ts w):=by
 have hcall:∀ (o:Obj),Calls Tryz.prog 59 #[.slice A (min ts.length 60) cap,.int .i64 0] (w.alloc o) (RawPost (ts.take 60) (w.alloc o)):=fun o=>by
  have hb:Below w.heap.size w (w.alloc o):=(Below.refl _ _).alloc (Nat.le_refl _) _;have hTk:Toks hi (w.alloc o) A (ts.take 60):=fun hn=>by
   obtain ⟨a,rfl,hs,hl,hc⟩:=hT.keep (hb.mono hhi) (Nat.le_refl _) (fun e=>hn (by rw [e];rfl))
   exact ⟨a,rfl,hs,hl,fun i t hi=>hc i t (by rw [List.getElem?_take] at hi;split at hi<;>simp_all)⟩
  have:=zkv (ts.take 60).length hi A cap (ts.take 60) 0 (w.alloc o) (Nat.le_refl _) (by rw [List.length_take];omega) hm (by rw [List.length_take];omega) (by omega) (by simp;omega) hTk (fun t ht=>hr t (List.mem_of_mem_take ht))
  rw [List.length_take,Nat.min_comm] at this;exact this
 unfold maxLen at hm;have HC:=hid hcall;clear hcall hT hr;have hz:=fun (W:World) (o:Obj) (h:Below (w.heap.size+1) (w.alloc (.cells #[.int .u8 0,.int .i64 0,.string ⟨#[]⟩,.slice none 0 0,.slice none 0 0] 29)) W)=>((((Whole.new w 29 #[.int .u8 0,.int .i64 0,.string ⟨#[]⟩,.slice none 0 0,.slice none 0 0])).below h (by omega)).alloc o).five
 have HZ:=hid hz;clear hz;have fin:∀ (g:GV) (BL BO:Option Addr) (dL dO:Nat) (W1:World) (o:Obj),LstV (fun k=>w.heap.size+1<=k) W1 (.slice BL g.il.length dL) g.il->ObjV (fun k=>w.heap.size+1<=k) W1 (.slice BO g.vz.length dO) g.keys g.vz->g.weight<=2 * tot (ts.take 60)+1->g.PosN ->
   Below (w.heap.size+1) (w.alloc (.cells #[.int .u8 0,.int .i64 0,.string ⟨#[]⟩,.slice none 0 0,.slice none 0 0] 29)) W1->∀ a0 a1 a2 a3 a4,
   RawOutN ts w (.returned (.agg #[.int .u8 g.kq,.int .i64 g.num,.string g.str,.slice BL g.il.length dL,.slice BO g.vz.length dO])) (put5 (W1.alloc o) w.heap.size a0 a1 a2 a3 a4):=fun g BL BO dL dO W1 o hL hO hw hp hb a0 a1 a2 a3 a4=>
  ⟨g,_,rfl,GV.val_put5 ⟨_,_,rfl,hL,hO⟩ o a0 a1 a2 a3 a4,by have:=zdO ts 60;omega,hp,
   zai ((((Below.refl _ w).alloc (Nat.le_refl _) _).trans (hb.mono (by omega))).alloc (by have:=hb.size;simp at this;omega) o) (Nat.le_refl _) _ _ _ _ _⟩
 have FIN:=hid fin;clear fin;by_cases h60:ts.length<=60
 ·have e:min ts.length 60=ts.length:=by omega
  rw [e] at HC;have HL:=hid e;clear e;generalize ts.length=n at *;go_enter Tryz.func35,Tryz.ntmps35
  go_wp2_with (go_at_call 59;refine (HC.out _).mono ?_;rintro e W1 he;obtain ⟨g,L,O,n1,rfl,hL,hO,hw,hp,hb⟩:=zej he;obtain ⟨BL,dL,rfl⟩:=zaf hL;obtain ⟨BO,dO,rfl⟩:=zag hO;simp only [World.size_alloc] at hL hO hb;have H:=hid (And.intro hL (And.intro hO (And.intro hw hb)));have HPO:=hid hp;clear hL hO hw hp hb he;have q0:=fun o=>(HZ.out W1 o H.out.2.2.2).c0;have q1:=fun o=>(HZ.out W1 o H.out.2.2.2).c1;have q2:=fun o=>(HZ.out W1 o H.out.2.2.2).c2;have q3:=fun o=>(HZ.out W1 o H.out.2.2.2).c3;have q4:=fun o=>(HZ.out W1 o H.out.2.2.2).c4;have r0:=fun o=>(HZ.out W1 o H.out.2.2.2).f0;have r1:=fun o=>(HZ.out W1 o H.out.2.2.2).f1;have r2:=fun o=>(HZ.out W1 o H.out.2.2.2).f2;have r3:=fun o=>(HZ.out W1 o H.out.2.2.2).f3;have r4:=fun o=>(HZ.out W1 o H.out.2.2.2).f4)
  refine bodyPost_ret (v:=.agg #[.int .u8 g.kq,.int .i64 g.num,.string g.str,.slice BL g.il.length dL,.slice BO g.vz.length dO]) (by simp [results,Tryz.results35,go_sem,q0,q1,q2,q3,q4]) rfl ?_
  exact FIN.out g BL BO dL dO W1 _ H.out.1 H.out.2.1 H.out.2.2.1 HPO.out H.out.2.2.2 _ _ _ _ _
 ·have e:min ts.length 60=60:=by omega
  rw [e] at HC;have HL:=hid e;clear e;have h60':60<ts.length:=by omega
  generalize ts.length=n at *;go_enter Tryz.func35,Tryz.ntmps35
  go_wp2_with (go_at_call 59;refine (HC.out _).mono ?_;rintro e W1 he;obtain ⟨g,L,O,n1,rfl,hL,hO,hw,hp,hb⟩:=zej he;obtain ⟨BL,dL,rfl⟩:=zaf hL;obtain ⟨BO,dO,rfl⟩:=zag hO;simp only [World.size_alloc] at hL hO hb;have H:=hid (And.intro hL (And.intro hO (And.intro hw hb)));have HPO:=hid hp;clear hL hO hw hp hb he;have q0:=fun o=>(HZ.out W1 o H.out.2.2.2).c0;have q1:=fun o=>(HZ.out W1 o H.out.2.2.2).c1;have q2:=fun o=>(HZ.out W1 o H.out.2.2.2).c2;have q3:=fun o=>(HZ.out W1 o H.out.2.2.2).c3;have q4:=fun o=>(HZ.out W1 o H.out.2.2.2).c4;have r0:=fun o=>(HZ.out W1 o H.out.2.2.2).f0;have r1:=fun o=>(HZ.out W1 o H.out.2.2.2).f1;have r2:=fun o=>(HZ.out W1 o H.out.2.2.2).f2;have r3:=fun o=>(HZ.out W1 o H.out.2.2.2).f3;have r4:=fun o=>(HZ.out W1 o H.out.2.2.2).f4)
  refine bodyPost_ret (v:=.agg #[.int .u8 g.kq,.int .i64 g.num,.string g.str,.slice BL g.il.length dL,.slice BO g.vz.length dO]) (by simp [results,Tryz.results35,go_sem,q0,q1,q2,q3,q4]) rfl ?_
  exact FIN.out g BL BO dL dO W1 _ H.out.1 H.out.2.1 H.out.2.2.1 HPO.out H.out.2.2.2 _ _ _ _ _
theorem zlE (hi:Nat) (A) (cap:Nat) (ts:List GTok) (w:World) (hcap:ts.length<=cap) (hm:cap<=maxLen) (h200:ts.length<=200) (hhi:hi<=w.heap.size) (hT:Toks hi w A ts)
  (hr:∀ t∈ts,0<=t.k/\t.k<=255/\0<=t.m/\t.m<=255):
  Calls Tryz.prog 35 #[.slice A ts.length cap] w (RawOut ts w):=
 (zgU hi A cap ts w hcap hm (by omega) hhi hT hr).mono fun _ _ ⟨g,v,h1,h2,h3,_,h5⟩=>⟨g,v,h1,h2,h3,h5⟩
def RawOutP (ts:List GTok) (w:World) (e:Ending) (w':World):Prop:=
 ∃ (g:GV) (v:Value),e=.returned v/\g.val (fun k=>w.heap.size<=k) w' v/\g.weight<=2 * tot ts+1/\g.Pos/\Below w.heap.size w w'
theorem zjz (hi:Nat) (A) (cap:Nat) (ts:List GTok) (w:World) (hcap:ts.length<=cap) (hm:cap<=maxLen) (hl:ts.length<=1000000) (hhi:hi<=w.heap.size) (hT:Toks hi w A ts)
  (hr:∀ t∈ts,0<=t.k/\t.k<=255/\0<=t.m/\t.m<=255):
  Calls Tryz.prog 35 #[.slice A ts.length cap] w (RawOutP ts w):=
 (zgU hi A cap ts w hcap hm hl hhi hT hr).mono fun _ _ ⟨g,v,h1,h2,h3,h4,h5⟩=>⟨g,v,h1,h2,h3,zgV g h4,h5⟩
end Go.Proofs.YthmcfjmignlhfaaGreatDoor
