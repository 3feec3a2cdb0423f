/- Texts in one: Fresh, CopyInv, CopyRound, Copy. -/
import Derived.Test.YtmmgdkpkcoopgaaGreatDoorP1
import Derived.Test.YtmmgdkpkcoopgaaGreatDoorLaysT
import Derived.WalkKit
import Derived.WalkSpells
import Derived.WalkLawsBesides
import Derived.OwnWalk
import Derived.Lib.Hide
import Derived.Test.YtmmgdkpkcoopgaaGreatDoorP3
import Derived.Sort.CutIn
set_option maxHeartbeats 8000000
set_option maxRecDepth 100000
namespace Go.Proofs.YtmmgdkpkcoopgaaGreatDoor
open Go.Lib(hid)
open Go Go.RowKit
theorem zbs (s:ByteArray) (w:World) (hs:s.size<=281474976710656):Calls Tryz.prog 77 #[.string s] w fun e w'=>e=.returned (.string s)/\Below w.heap.size w w':=by
 go_enter Tryz.func77,Tryz.ntmps77
 go_wp2_with (go_at_call 105;refine (Tryz.stringslite_Clone _ _ hs).mono ?_;rintro e w' ⟨rfl,hb⟩)
 go_ret
 exact ⟨rfl,hb⟩
section
variable {P:Program} (w:World)
theorem zfI (dT sT ty elem:TypeId) (i:TypeInfo) (g n c c':Nat) (a:Addr) (cur:Array Value) (t:TypeId) (cs:List Value)
  (hu:P.underlying dT=some (.slice elem)) (hi:P.info? elem=some i) (hg:w.heap[g]? = some (.cells cur t (0,0))) (hn:cs.length=n * i.size)
  (hsrc:∀ j v,cs[j]? = some v->w.cell? (a.add j)=some v) (hfit:cur.size=cs.length) (h1:∀ v∈cs,v.oneCell'=true):
  (Builtin.copy_ #[dT,sT] ty #[.slice (some ⟨g,0,none⟩) n c,.slice (some a) n c']).run P w=.ok (goInt n) (w.setRow g cs.toArray):=by
 have hl:=run_firstCells_some (P:=P) w i.size n a n c' cs hn hsrc;have hst:=run_storeCells_at P g 0 t cs 0 cur w hg (by simp;omega) h1
 have hd:cur.toList.drop (0+0+cs.length)=[]:=by apply List.drop_eq_nil_of_le;simp [<- hfit]
 rw [hd] at hst;simp only [Nat.add_zero,List.take_zero,List.nil_append,List.append_nil] at hst;have hmin:Nat.min n n=n:=Nat.min_self n;simp [Builtin.copy_,run_underlying hu,Builtin.lenOf,sizeOf,typeInfo,hi,hmin,hl,hst]
theorem zbm {ops:Array Oper} {rest:List Oper} {o:Oper} {act:Act} {Q:Exit->Act->World->Prop} (hgd:o.guard=none) (d s:Operand) (dT sT:TypeId)
  (ho:o.op=.call { callee:=.builtin .copy,args:=#[d,s],argTypes:=#[dT,sT] }) (elem:TypeId) (i:TypeInfo) (g n c c':Nat) (a:Addr) (cur:Array Value) (t:TypeId) (cs:List Value)
  (hd:act.eval d=.slice (some ⟨g,0,none⟩) n c) (hs:act.eval s=.slice (some a) n c')
  (hu:P.underlying dT=some (.slice elem)) (hi:P.info? elem=some i) (hg:w.heap[g]? = some (.cells cur t (0,0))) (hn:cs.length=n * i.size)
  (hsrc:∀ j v,cs[j]? = some v->w.cell? (a.add j)=some v) (hfit:cur.size=cs.length) (h1:∀ v∈cs,v.oneCell'=true)
  (h:∀ w',w'=w.setRow g cs.toArray->wpList P ops Q rest (act.put o.dst (goInt n)) w'):wpList P ops Q (o :: rest) act w:=by
 refine wpList_plain hgd fun K hK=>?_
 have hrun:=zfI (P:=P) w dT sT o.type elem i g n c c' a cur t cs hu hi hg hn hsrc hfit h1;unfold Oper.wp;simp [execOp,ho,resolve,invoke,builtin,hd,hs,hrun,Result.andThen]
 exact hK _ _ (h _ rfl)
end
theorem zd1 {ok:Nat->Prop} {W:World} {b:Nat}:∀ {l:List GV} {off:Nat},GV.els ok W b 5 off l ->
  ∃ xs,RowL ok W l xs/\xs.length=l.length * 5/\(∀ (j:Nat) (u:Value),xs[j]? = some u->W.cell? ⟨b,off+j,none⟩=some u)/\∀ u∈xs,u.oneCell'=true
 | [],_,_=>⟨[],rfl,rfl,fun j u h=>by simp at h,fun u h=>by cases h⟩
 | g :: r,off,h=>by
  unfold GV.els at h;obtain ⟨ys,hr,hlen,hc,h1⟩:=zd1 (l:=r) h.2;obtain ⟨L,O,h0,h1',h2,h3,h4,hL,hO⟩:=GV.at_iff.1 h.1;refine ⟨chunk g L O++ys,⟨L,O,ys,rfl,hL,hO,hr⟩,by simp [chunk,hlen];omega,fun j u hj=>?_,fun u hu=>?_⟩
  ·match j,hj with
   | 0,hj=>simp [chunk] at hj;subst hj;exact h0
   | 1,hj=>simp [chunk] at hj;subst hj;exact h1'
   | 2,hj=>simp [chunk] at hj;subst hj;exact h2
   | 3,hj=>simp [chunk] at hj;subst hj;exact h3
   | 4,hj=>simp [chunk] at hj;subst hj;exact h4
   | j+5,hj=>
    have:=hc j u (by simpa [chunk] using hj)
    rwa [show off+5+j=off+(j+5) by omega] at this
  ·obtain ⟨A,c,rfl⟩:=zah hL
   obtain ⟨A',c',rfl⟩:=zag hO;simp only [chunk,List.cons_append,List.nil_append,List.mem_cons] at hu;rcases hu with rfl | rfl | rfl | rfl | rfl | hu
   ·rfl
   ·rfl
   ·rfl
   ·rfl
   ·rfl
   ·exact h1 u hu
theorem zdX {ok:Nat->Prop} {W:World} {b:Nat}:∀ {ks:List ByteArray} {l:List GV} {off:Nat},ks.length=l.length->KeysAt W b off ks->GV.els ok W b 6 (off+1) l ->
  ∃ xs,RowO ok W ks l xs/\xs.length=l.length * 6/\(∀ (j:Nat) (u:Value),xs[j]? = some u->W.cell? ⟨b,off+j,none⟩=some u)/\∀ u∈xs,u.oneCell'=true
 | [],[],_,_,_,_=>⟨[],rfl,rfl,fun j u h=>by simp at h,fun u h=>by cases h⟩
 | [],_ :: _,_,h,_,_=>by simp at h
 | _ :: _,[],_,h,_,_=>by simp at h
 | k :: ks,g :: r,off,hl,hk,h=>by
  unfold GV.els at h;rw [show off+1+6=off+6+1 by omega] at h
  obtain ⟨ys,hr,hlen,hc,h1⟩:=zdX (ks:=ks) (l:=r) (by simpa using hl) hk.2 h.2
  obtain ⟨L,O,h0,h1',h2,h3,h4,hL,hO⟩:=GV.at_iff.1 h.1;refine ⟨.string k :: chunk g L O++ys,⟨L,O,ys,rfl,hL,hO,hr⟩,by simp [chunk,hlen];omega,fun j u hj=>?_,fun u hu=>?_⟩
  ·match j,hj with
   | 0,hj=>simp [chunk] at hj;subst hj;exact hk.1
   | 1,hj=>simp [chunk] at hj;subst hj;exact h0
   | 2,hj=>simp [chunk] at hj;subst hj;exact h1'
   | 3,hj=>simp [chunk] at hj;subst hj;exact h2
   | 4,hj=>simp [chunk] at hj;subst hj;exact h3
   | 5,hj=>simp [chunk] at hj;subst hj;exact h4
   | j+6,hj=>
    have:=hc j u (by simpa [chunk] using hj)
    rwa [show off+6+j=off+(j+6) by omega] at this
  ·obtain ⟨A,c,rfl⟩:=zah hL
   obtain ⟨A',c',rfl⟩:=zag hO;simp only [chunk,List.cons_append,List.nil_append,List.mem_cons] at hu;rcases hu with rfl | rfl | rfl | rfl | rfl | rfl | hu
   ·rfl
   ·rfl
   ·rfl
   ·rfl
   ·rfl
   ·rfl
   ·exact h1 u hu
def FreshL (ok:Nat->Prop) (l:List GV) (w:World) (e:Ending) (w':World):Prop:=
 (l=[]/\e=.returned (.slice none 0 0)/\w=w') \/
 (e=.returned (.slice (some ⟨w.heap.size,0,none⟩) l.length l.length)/\Below w.heap.size w w'/\∃ xs,RowL ok w l xs/\Whole w' w.heap.size 29 xs.toArray)
def FreshO (ok:Nat->Prop) (ks:List ByteArray) (l:List GV) (w:World) (e:Ending) (w':World):Prop:=
 (l=[]/\e=.returned (.slice none 0 0)/\w=w') \/
 (e=.returned (.slice (some ⟨w.heap.size,0,none⟩) l.length l.length)/\Below w.heap.size w w'/\∃ xs,RowO ok w ks l xs/\Whole w' w.heap.size 56 xs.toArray)
theorem zjO (ok) (L:Value) (l w) (hL:LstV ok w L l) (hn:l.length<=1000000000):Calls Tryz.prog 102 #[L] w (FreshL ok l w):=by
 rcases hL with ⟨rfl,rfl⟩ | ⟨b,o,c,rfl,hc1,hc2,hK,hE⟩
 ·have hnil:=fun (w:World)=>Go.Lib.run_eql_slice_nil (P:=Tryz.prog) w 26 29 none 0 0 0 0 Tryz.underlying26
  go_enter Tryz.func102,Tryz.ntmps102
  go_wp2
  go_ret
  exact .inl ⟨rfl,rfl,rfl⟩
 ·obtain ⟨xs,hr,hlen,hcell,h1⟩:=zd1 hE
  obtain ⟨i0,hi,hz0,hz1,hz2⟩:=info_parts infoVal;have hnil:=fun (w:World)=>Go.Lib.run_eql_slice_nil (P:=Tryz.prog) w 26 29 (some ⟨b,o,none⟩) l.length c 0 0 Tryz.underlying26
  have hmk:∀ w:World,(Instr.makeSlice 26 (.int .i64 (l.length:Int)) (.int .i64 (l.length:Int))).run Tryz.prog w=.ok (.slice (some ⟨w.heap.size,0,none⟩) l.length l.length) (w.alloc (.cells (madeCells (Value.cells (.agg #[.int .u8 0,.int .i64 0,.string ⟨#[]⟩,.slice none 0 0,.slice none 0 0])) (l.length * 5)) 29)):=fun w=>by
   have:=run_make (P:=Tryz.prog) w 26 29 i0 _ Tryz.underlying26 hi hz0 .i64 .i64 l.length l.length (by omega) (Int.le_refl _) (by rw [hz2];omega) (by omega)
   simpa [hz1] using this
  have HS:=hid (And.intro hi (And.intro hz1 hlen));have HC:Hid (∀ (ob:Obj) (j:Nat) (u:Value),xs[j]? = some u->(w.alloc ob).cell? ((⟨b,o,none⟩:Addr).add j)=some u):=fun ob j u hj=>by
   have h:=zab ob (hcell j u hj);have e:(⟨b,o,none⟩:Addr).add j =⟨b,o+j,none⟩:=by unfold Addr.add;split<;>simp_all
   rw [e];exact h
  have H1:=hid h1;have HR:=hid hr;have hln:l.length=l.length:=rfl;clear hi hz0 hz1 hz2 hlen hcell h1 hr hE hK hln;generalize hnn:l.length=n at *;have HN:=hid hnn;clear hnn;go_enter Tryz.func102,Tryz.ntmps102
  go_wp2_with (with_reducible refine zbm _ rfl (.tmp 9) (.tmp 10) 26 26 rfl 29 i0 w.heap.size n n c ⟨b,o,none⟩ _ 29 xs rfl rfl Tryz.underlying26 HS.out.1 (heap_alloc_new w _) ?c1 (HC.out _) ?c2 H1.out ?_)
  case c1=>rw [HS.out.2.1];exact HS.out.2.2
  case c2=>rw [size_madeCells];exact HS.out.2.2.symm
  go_ret
  refine .inr ⟨by rw [HN.out];rfl,?_,xs,HR.out,?_⟩
  ·exact ((Below.refl w.heap.size w).alloc (Nat.le_refl _) _).trans ⟨rfl,rfl,rfl,by simp [World.setRow],fun k hk=>setRow_other _ _ _ _ (by omega)⟩
  ·exact setRow_heap _ _ _ _ _ _ (heap_alloc_new w _)
theorem zjl (ok) (L:Value) (ks l w) (hL:ObjV ok w L ks l) (hn:l.length<=1000000000):Calls Tryz.prog 103 #[L] w (FreshO ok ks l w):=by
 have hkl:=hL.1;rcases hL.2 with ⟨rfl,rfl⟩ | ⟨b,o,c,rfl,hc1,hc2,hK,hks,hE⟩
 ·have hnil:=fun (w:World)=>Go.Lib.run_eql_slice_nil (P:=Tryz.prog) w 27 56 none 0 0 0 0 Tryz.underlying27
  go_enter Tryz.func103,Tryz.ntmps103
  go_wp2
  go_ret
  exact .inl ⟨rfl,rfl,rfl⟩
 ·obtain ⟨xs,hr,hlen,hcell,h1⟩:=zdX hkl hks hE
  obtain ⟨i0,hi,hz0,hz1,hz2⟩:=info_parts infoField;have hnil:=fun (w:World)=>Go.Lib.run_eql_slice_nil (P:=Tryz.prog) w 27 56 (some ⟨b,o,none⟩) l.length c 0 0 Tryz.underlying27
  have hmk:∀ w:World,(Instr.makeSlice 27 (.int .i64 (l.length:Int)) (.int .i64 (l.length:Int))).run Tryz.prog w=.ok (.slice (some ⟨w.heap.size,0,none⟩) l.length l.length) (w.alloc (.cells (madeCells (Value.cells (.agg #[.string ⟨#[]⟩,.int .u8 0,.int .i64 0,.string ⟨#[]⟩,.slice none 0 0,.slice none 0 0])) (l.length * 6)) 56)):=fun w=>by
   have:=run_make (P:=Tryz.prog) w 27 56 i0 _ Tryz.underlying27 hi hz0 .i64 .i64 l.length l.length (by omega) (Int.le_refl _) (by rw [hz2];omega) (by omega)
   simpa [hz1] using this
  have HS:=hid (And.intro hi (And.intro hz1 hlen));have HC:Hid (∀ (ob:Obj) (j:Nat) (u:Value),xs[j]? = some u->(w.alloc ob).cell? ((⟨b,o,none⟩:Addr).add j)=some u):=fun ob j u hj=>by
   have h:=zab ob (hcell j u hj);have e:(⟨b,o,none⟩:Addr).add j =⟨b,o+j,none⟩:=by unfold Addr.add;split<;>simp_all
   rw [e];exact h
  have H1:=hid h1;have HR:=hid hr;have hln:l.length=l.length:=rfl;clear hi hz0 hz1 hz2 hlen hcell h1 hr hE hK hks hkl hL hln;generalize hnn:l.length=n at *;have HN:=hid hnn;clear hnn;go_enter Tryz.func103,Tryz.ntmps103
  go_wp2_with (with_reducible refine zbm _ rfl (.tmp 9) (.tmp 10) 27 27 rfl 56 i0 w.heap.size n n c ⟨b,o,none⟩ _ 56 xs rfl rfl Tryz.underlying27 HS.out.1 (heap_alloc_new w _) ?c1 (HC.out _) ?c2 H1.out ?_)
  case c1=>rw [HS.out.2.1];exact HS.out.2.2
  case c2=>rw [size_madeCells];exact HS.out.2.2.symm
  go_ret
  refine .inr ⟨by rw [HN.out];rfl,?_,xs,HR.out,?_⟩
  ·exact ((Below.refl w.heap.size w).alloc (Nat.le_refl _) _).trans ⟨rfl,rfl,rfl,by simp [World.setRow],fun k hk=>setRow_other _ _ _ _ (by omega)⟩
  ·exact setRow_heap _ _ _ _ _ _ (heap_alloc_new w _)
open Go Go.RowKit
def VF (e:TypeId):Prop:=e=29\/e=56
def Keep (S:List Item) (W W2:World):Prop:=∀ (b:Nat) (e:TypeId) (cs:Array Value),VF e->Whole W b e cs ->
 ∃ cs',Whole W2 b e cs'/\∀ (j:Nat) (v:Value),cs[j]? = some v->(∀ x∈S,x.b=b->j<x.off\/x.off+5<=j)->cs'[j]? = some v
def Apart5 (x y:Item):Prop:=x.b=y.b->x.off+5<=y.off\/y.off+5<=x.off
structure Pend (n0:Nat) (w W:World) (x:Item):Prop where
 big:n0<=x.b/\x.b≠n0+1
 whole:∃ e cs,VF e/\Whole W x.b e cs
 val:∃ L O,W.cell? ⟨x.b,x.off,none⟩=some (.int .u8 x.g.kq)/\W.cell? ⟨x.b,x.off+1,none⟩=some (.int .i64 x.g.num)/\W.cell? ⟨x.b,x.off+2,none⟩=some (.string x.g.str) /\
  W.cell? ⟨x.b,x.off+3,none⟩=some L/\W.cell? ⟨x.b,x.off+4,none⟩=some O/\LstV (fun k=>k<n0) w L x.g.il/\ObjV (fun k=>k<n0) w O x.g.keys x.g.vz
def Full (n0:Nat) (W:World) (b off:Nat) (g:GV):Prop:=∃ L A,W.cell? ⟨b,off+3,none⟩=some L/\W.cell? ⟨b,off+4,none⟩=some (.slice A g.vz.length g.vz.length) /\
 ∀ a,A=some a->g.vz≠[]->(n0<=a.block/\a.block≠n0+1)/\(g.il≠[]->LstV (fun k=>(n0<=k/\k≠n0+1)/\k≠a.block) W L g.il)/\GV.els (fun k=>(n0<=k/\k≠n0+1)/\k≠a.block) W a.block 6 (a.off+1) g.vz
def Zero5:Array Value:=#[.int .u8 0,.int .i64 0,.string ⟨#[]⟩,.slice none 0 0,.slice none 0 0]
structure CopyJ (n0:Nat) (w:World) (g:GV) (S:List Item) (W:World):Prop where
 below:Below n0 w W
 pend:∀ x∈S,Pend n0 w W x
 disj:S.Pairwise Apart5
 wand:∀ W2,Keep S W W2->(∀ x∈S,x.g.at (fun k=>(n0<=k/\k≠n0+1)/\W.heap.size<=k) W2 x.b x.off/\Full n0 W2 x.b x.off x.g)->g.at (fun k=>n0<=k/\k≠n0+1) W2 n0 0/\Full n0 W2 n0 0 g
 small:wsum S<=1000000000
 res:Whole W (n0+1) 29 Zero5
 size:n0+2<=W.heap.size
theorem VF.spot {e:TypeId} (h:VF e):e≠168:=by rcases h with rfl | rfl<;>decide
theorem zaw {d b step:Nat}:∀ {off:Nat} {l:List GV} {y:Item},y∈itemsAt d b step off l->y.b=b/\∃ i,i<l.length/\y.off=off+i * step
 | _,[],_,h=>by simp [itemsAt] at h
 | off,g :: r,y,h=>by
  simp only [itemsAt,List.mem_cons] at h;rcases h with rfl | h
  ·exact ⟨rfl,0,by simp,by simp⟩
  ·obtain ⟨h1,i,hi,e⟩:=zaw h
   exact ⟨h1,i+1,by simpa using hi,by rw [e,Nat.succ_mul];omega⟩
theorem zbG {d b step:Nat} (hs:5<=step):∀ {off:Nat} {l:List GV},(itemsAt d b step off l).Pairwise Apart5
 | _,[]=>by simp [itemsAt]
 | off,g :: r=>by
  simp only [itemsAt,List.pairwise_cons];refine ⟨fun y hy _=>?_,zbG hs⟩
  obtain ⟨_,i,_,e⟩:=zaw hy
  left
  show off+5<=y.off
  omega
theorem zbk {ok:Nat->Prop} {W:World} {d b step:Nat}:∀ {off:Nat} {l:List GV},(∀ y∈itemsAt d b step off l,y.g.at ok W y.b y.off)->GV.els ok W b step off l
 | _,[],_=>by unfold GV.els;trivial
 | off,g :: r,h=>by
  unfold GV.els;exact ⟨h ⟨d,b,off,g⟩ (by simp [itemsAt]),zbk (d:=d) (fun y hy=>h y (by simp [itemsAt,hy]))⟩
theorem zfC {ok:Nat->Prop} {w:World}:∀ {ks:List ByteArray} {ov:List GV} {xs:List Value} {i:Nat} {k:ByteArray},RowO ok w ks ov xs->ks[i]? = some k->xs[i * 6]? = some (.string k)
 | [],[],_,_,_,_,h=>by simp at h
 | k' :: ks,g :: r,_,0,k,⟨L,O,ys,e,_,_,_⟩,h=>by simp at h;subst h;subst e;rfl
 | k' :: ks,g :: r,_,i+1,k,⟨L,O,ys,e,_,_,hr⟩,h=>by
  subst e;have:=zfC hr (i:=i) (k:=k) (by simpa using h)
  rw [show (i+1) * 6=i * 6+6 by omega]
  simpa [chunk] using this
 | [],_ :: _,_,_,_,h,_=>h.elim
 | _ :: _,[],_,_,_,h,_=>h.elim
theorem zgh {ok:Nat->Prop} {w W:World} {d b:Nat}:∀ {l:List GV} {xs:List Value} {off:Nat},RowL ok w l xs->(∀ (j:Nat) (u:Value),xs[j]? = some u->W.cell? ⟨b,off+j,none⟩=some u)->∀ y∈itemsAt d b 5 off l,
  ∃ L O,W.cell? ⟨y.b,y.off,none⟩=some (.int .u8 y.g.kq)/\W.cell? ⟨y.b,y.off+1,none⟩=some (.int .i64 y.g.num)/\W.cell? ⟨y.b,y.off+2,none⟩=some (.string y.g.str) /\
  W.cell? ⟨y.b,y.off+3,none⟩=some L/\W.cell? ⟨y.b,y.off+4,none⟩=some O/\LstV ok w L y.g.il/\ObjV ok w O y.g.keys y.g.vz
 | [],_,_,_,_,y,h=>by simp [itemsAt] at h
 | g :: r,_,off,⟨L,O,ys,e,hL,hO,hr⟩,hc,y,h=>by
  subst e;simp only [itemsAt,List.mem_cons] at h;rcases h with rfl | h
  ·exact ⟨L,O,hc 0 _ rfl,hc 1 _ rfl,hc 2 _ rfl,hc 3 _ rfl,hc 4 _ rfl,hL,hO⟩
  ·exact zgh hr (fun j u hj=>by
    have:=hc (5+j) u (by rw [List.getElem?_append_right (by simp [chunk])];simpa [chunk] using hj)
    rwa [<- Nat.add_assoc] at this) y h
theorem zgb {ok:Nat->Prop} {w W:World} {d b:Nat}:∀ {ks:List ByteArray} {l:List GV} {xs:List Value} {off:Nat},RowO ok w ks l xs->(∀ (j:Nat) (u:Value),xs[j]? = some u->W.cell? ⟨b,off+j,none⟩=some u)->∀ y∈itemsAt d b 6 (off+1) l,
  ∃ L O,W.cell? ⟨y.b,y.off,none⟩=some (.int .u8 y.g.kq)/\W.cell? ⟨y.b,y.off+1,none⟩=some (.int .i64 y.g.num)/\W.cell? ⟨y.b,y.off+2,none⟩=some (.string y.g.str) /\
  W.cell? ⟨y.b,y.off+3,none⟩=some L/\W.cell? ⟨y.b,y.off+4,none⟩=some O/\LstV ok w L y.g.il/\ObjV ok w O y.g.keys y.g.vz
 | [],[],_,_,_,_,y,h=>by simp [itemsAt] at h
 | k :: ks,g :: r,_,off,⟨L,O,ys,e,hL,hO,hr⟩,hc,y,h=>by
  subst e;simp only [itemsAt,List.mem_cons] at h;rcases h with rfl | h
  ·exact ⟨L,O,hc 1 _ rfl,hc 2 _ rfl,hc 3 _ rfl,hc 4 _ rfl,hc 5 _ rfl,hL,hO⟩
  ·rw [show off+1+6=off+6+1 by omega] at h
   exact zgb hr (fun j u hj=>by
    have:=hc (6+j) u (by rw [List.getElem?_append_right (by simp [chunk])];simpa [chunk] using hj)
    rwa [<- Nat.add_assoc] at this) y h
 | [],_ :: _,_,_,h,_,_,_=>h.elim
 | _ :: _,[],_,_,h,_,_,_=>h.elim
def NewL (n0:Nat) (w W:World) (B:Nat) (l:List GV) (A:Option Addr) (c:Nat):Prop:=
 (l=[]/\A=none/\c=0)\/(A=some ⟨B,0,none⟩/\c=l.length/\∃ xs,RowL (fun k=>k<n0) w l xs/\Whole W B 29 xs.toArray)
def NewO (n0:Nat) (w W:World) (B:Nat) (ks:List ByteArray) (l:List GV) (A:Option Addr) (c:Nat):Prop:=
 (l=[]/\A=none/\c=0)\/(A=some ⟨B,0,none⟩/\c=l.length/\∃ xs,RowO (fun k=>k<n0) w ks l xs/\Whole W B 56 xs.toArray)
theorem zjN {n0:Nat} {w W W':World} {g:GV} {rest:List Item} {x:Item} {B1 B2 c1 c2:Nat} {A1 A2:Option Addr} {e:TypeId} {cs:Array Value}
  (h:CopyJ n0 w g (rest++[x]) W) (he:VF e) (hcs:Whole W x.b e cs) (hsz:W.heap.size<=W'.heap.size) (hoth:∀ k,k<W.heap.size->k≠x.b->W'.heap[k]? = W.heap[k]?) (hos:W'.os=W.os/\W'.tape=W.tape/\W'.output=W.output)
  (hx:Whole W' x.b e (((cs.setIfInBounds (x.off+2) (.string x.g.str)).setIfInBounds (x.off+3) (.slice A1 x.g.il.length c1)).setIfInBounds (x.off+4) (.slice A2 x.g.vz.length c2)))
  (hB1:W.heap.size<=B1) (hB2:W.heap.size<=B2) (hB12:x.g.il≠[]->x.g.vz≠[]->B1≠B2) (hL:NewL n0 w W' B1 x.g.il A1 c1) (hO:NewO n0 w W' B2 x.g.keys x.g.vz A2 c2) (hkl:x.g.keys.length=x.g.vz.length):
  KidsAt W' x 168 B1 0 B2 0/\CopyJ n0 w g (rest++kids x B1 0 B2 0) W':=by
 have hpx:=h.pend x (by simp)
 have hxlt:x.b<W.heap.size:=hcs.lt;obtain ⟨L,O,p0,p1,p2,p3,p4,hLo,hOo⟩:=hpx.val;have hc:∀ j,cs[j]? = W.cell? ⟨x.b,j,none⟩:=fun j=>(hcs.cell j).symm
 have hlen:x.off+4<cs.size:=by
  have:=(hc (x.off+4)).trans p4;exact (Array.getElem?_eq_some_iff.1 this).1
 -- x's cells,now
 have hnc:∀ j,W'.cell? ⟨x.b,j,none⟩=(((cs.setIfInBounds (x.off+2) (.string x.g.str)).setIfInBounds (x.off+3) (.slice A1 x.g.il.length c1)).setIfInBounds (x.off+4) (.slice A2 x.g.vz.length c2))[j]?:=fun j=>hx.cell j
 have q0:W'.cell? ⟨x.b,x.off,none⟩=some (.int .u8 x.g.kq):=by rw [hnc];simp [hc,p0]
 have q1:W'.cell? ⟨x.b,x.off+1,none⟩=some (.int .i64 x.g.num):=by rw [hnc];simp [hc,p1]
 have q2:W'.cell? ⟨x.b,x.off+2,none⟩=some (.string x.g.str):=by
  rw [hnc];simp [Array.getElem?_setIfInBounds];omega
 have q3:W'.cell? ⟨x.b,x.off+3,none⟩=some (.slice A1 x.g.il.length c1):=by
  rw [hnc];simp [Array.getElem?_setIfInBounds];omega
 have q4:W'.cell? ⟨x.b,x.off+4,none⟩=some (.slice A2 x.g.vz.length c2):=by
  rw [hnc];simp [Array.getElem?_setIfInBounds];omega
 have hother:∀ (y:Item),y∈rest->Apart5 y x:=fun y hy=>(List.pairwise_append.1 h.disj).2.2 y hy x (by simp)
 -- a cell that is not x's stays
 have hstay:∀ (b j:Nat) (v:Value),W.cell? ⟨b,j,none⟩=some v->(b=x.b->j<x.off\/x.off+5<=j)->W'.cell? ⟨b,j,none⟩=some v:=fun b j v hv hne=>by
  by_cases hb:b=x.b
  ·subst hb
   have:=hne rfl;rw [hnc];rw [<- hc] at hv;have n2:¬ x.off+2=j:=by omega
   have n3:¬ x.off+3=j:=by omega
   have n4:¬ x.off+4=j:=by omega
   simp [n2,n3,n4,hv]
  ·exact (World.cell?_of_block (a:=⟨b,j,none⟩) (hoth b (World.block_lt_of_cell? W _ hv) hb)).trans hv
 have hwhole:∀ (b:Nat) (t:TypeId) (ds:Array Value),Whole W b t ds->∃ ds',Whole W' b t ds'/\∀ (j:Nat) (v:Value),ds[j]? = some v->(b=x.b->j<x.off\/x.off+5<=j)->ds'[j]? = some v:=fun b t ds hd=>by
  by_cases hb:b=x.b
  ·subst hb
   have e2:some (Obj.cells ds t (0,0))=some (Obj.cells cs e (0,0)):=(show W.heap[x.b]? = _ from hd).symm.trans hcs;simp at e2
   obtain ⟨rfl,rfl⟩:=e2;refine ⟨_,hx,fun j v hv hne=>?_⟩
   have h1:=hstay x.b j v (by rw [<- hc];exact hv) hne
   rw [hnc] at h1;exact h1
  ·exact ⟨ds,hd.of_eq (hoth b hd.lt hb),fun j v hv _=>hv⟩
 have hb':Below n0 w W':=by
  refine h.below.trans ⟨hos.1,hos.2.1,hos.2.2,hsz,fun k hk=>hoth k (by have:=h.size;omega) ?_⟩
  have:=hpx.big.1;omega
 -- the new rows hold what is in x
 have hpendL:∀ y∈itemsAt (x.d+1) B1 5 0 x.g.il,Pend n0 w W' y:=fun y hy=>by
  rcases hL with ⟨h0,_,_⟩ | ⟨_,_,xs,hr,hw⟩
  ·rw [h0] at hy;simp [itemsAt] at hy
  ·obtain ⟨hyb,_⟩:=zaw hy
   exact ⟨by rw [hyb];have:=h.size;omega,⟨_,_,.inl rfl,by rw [hyb];exact hw⟩,zgh hr (fun j u hj=>by rw [Nat.zero_add,hw.cell];simpa using hj) y hy⟩
 have hpendO:∀ y∈itemsAt (x.d+1) B2 6 (0+1) x.g.vz,Pend n0 w W' y:=fun y hy=>by
  rcases hO with ⟨h0,_,_⟩ | ⟨_,_,xs,hr,hw⟩
  ·rw [h0] at hy;simp [itemsAt] at hy
  ·obtain ⟨hyb,_⟩:=zaw hy
   exact ⟨by rw [hyb];have:=h.size;omega,⟨_,_,.inr rfl,by rw [hyb];exact hw⟩,zgb hr (fun j u hj=>by rw [Nat.zero_add,hw.cell];simpa using hj) y hy⟩
 refine ⟨⟨⟨e,_,he.spot,hx⟩,⟨A1,c1,q3,fun hne=>?_⟩,⟨A2,c2,q4,fun hne=>?_⟩⟩,hb',?_,?_,?_,?_,?_,by have:=h.size;omega⟩
 ·rcases hL with ⟨h0,_,_⟩ | ⟨h1,_,_⟩
  ·exact absurd h0 hne
  ·exact h1
 ·rcases hO with ⟨h0,_,_⟩ | ⟨h1,_,_⟩
  ·exact absurd h0 hne
  ·exact h1
 ·intro y hy
  rcases List.mem_append.1 hy with hy | hy
  ·have hp:=h.pend y (by simp [hy])
   obtain ⟨L2,O2,r0,r1,r2,r3,r4,hL2,hO2⟩:=hp.val;have hap:=hother y hy;obtain ⟨t,ds,ht,hd⟩:=hp.whole;obtain ⟨ds',hd',_⟩:=hwhole _ _ _ hd;exact ⟨hp.big,⟨t,ds',ht,hd'⟩,L2,O2,hstay _ _ _ r0 (fun hb=>by have:=hap hb;omega),hstay _ _ _ r1 (fun hb=>by have:=hap hb;omega),hstay _ _ _ r2 (fun hb=>by have:=hap hb;omega),hstay _ _ _ r3 (fun hb=>by have:=hap hb;omega),hstay _ _ _ r4 (fun hb=>by have:=hap hb;omega),hL2,hO2⟩
  ·unfold kids at hy
   rcases List.mem_append.1 hy with hy | hy
   ·exact hpendL y hy
   ·exact hpendO y hy
 ·unfold kids
  refine List.pairwise_append.2 ⟨(List.pairwise_append.1 h.disj).1,List.pairwise_append.2 ⟨zbG (by omega),zbG (by omega),fun y hy z hz hb=>?_⟩,fun y hy z hz hb=>?_⟩
  ·have h1:=(zaw hy).1
   have h2:=(zaw hz).1;exact absurd (h1.symm.trans (hb.trans h2)) (hB12 (fun e'=>by rw [e'] at hy;simp [itemsAt] at hy) (fun e'=>by rw [e'] at hz;simp [itemsAt] at hz))
  ·obtain ⟨t,ds,_,hd⟩:=(h.pend y (by simp [hy])).whole
   have h1:=hd.lt;rcases List.mem_append.1 hz with hz | hz
   ·have:=(zaw hz).1;omega
   ·have:=(zaw hz).1;omega
 ·intro W2 hK hat
  refine h.wand W2 (fun b t ds ht hd=>?_) (fun y hy=>?_)
  ·obtain ⟨ds',hd',hs⟩:=hwhole b t ds hd
   obtain ⟨ds2,hd2,hs2⟩:=hK b t ds' ht hd';refine ⟨ds2,hd2,fun j v hv hne=>hs2 j v (hs j v hv (fun hb=>hne x (by simp) hb.symm)) (fun y hy hyb=>?_)⟩
   rcases List.mem_append.1 hy with hy | hy
   ·exact hne y (by simp [hy]) hyb
   ·have h1:=hd.lt
    unfold kids at hy;rcases List.mem_append.1 hy with hy | hy
    ·have:=(zaw hy).1;omega
    ·have:=(zaw hy).1;omega
  ·rcases List.mem_append.1 hy with hy | hy
   ·exact ⟨GV.at_keep (From.refl _ W2) (fun k hk _=>⟨hk.1,Nat.le_trans hsz hk.2⟩) y.g rfl (hat y (by simp [hy])).1,(hat y (by simp [hy])).2⟩
   ·simp only [List.mem_singleton] at hy
    subst hy;obtain ⟨ds2,hd2,hs2⟩:=hK y.b e _ he hx;have hcell:∀ (j:Nat) (v:Value),y.off<=j->j<y.off+5->W'.cell? ⟨y.b,j,none⟩=some v->W2.cell? ⟨y.b,j,none⟩=some v:=fun j v h1 h2 hv=>by
     rw [hd2.cell];rw [hnc] at hv;refine hs2 j v hv (fun z hz hzb=>?_)
     rcases List.mem_append.1 hz with hz | hz
     ·have:=hother z hz hzb;omega
     ·unfold kids at hz
      rcases List.mem_append.1 hz with hz | hz
      ·have:=(zaw hz).1;omega
      ·have:=(zaw hz).1;omega
    have hwt:y.g.weight<=1000000000:=Nat.le_trans (zdg (S:=rest++[y]) (by simp)) h.small
    have hsz1:=zad y.g;have hsz2:=zaD y.g;have hl1:=zaq y.g.il;have hl2:=zaq y.g.vz;have hgen:=fun (P:Nat->Prop) (hP:∀ k,(n0<=k/\k≠n0+1)/\W'.heap.size<=k->P k) (z:Item) (hz:z∈rest++kids y B1 0 B2 0)=>GV.at_keep (From.refl _ W2) (fun k hk _=>hP k hk) z.g rfl (hat z hz).1
    refine ⟨?_,_,A2,hcell _ _ (by omega) (by omega) q3,by
     rw [hcell _ _ (by omega) (by omega) q4]
     rcases hO with ⟨h0,_,h1⟩ | ⟨_,h1,_⟩
     ·rw [h1,h0];rfl
     ·rw [h1],fun a ha hve=>?_⟩
    rotate_left
    ·rcases hO with ⟨_,rfl,_⟩ | ⟨rfl,_,_,_,hwO⟩
     ·cases ha
     ·cases ha
      have hlt:=hwO.lt;have hn:=h.size;refine ⟨by simp only;omega,fun hne=>?_,zbk (d:=y.d+1) (fun z hz=>hgen _ (fun k hk=>⟨hk.1,by simp only;omega⟩) z (by unfold kids;simp [hz]))⟩
      rcases hL with ⟨h0,rfl,rfl⟩ | ⟨rfl,rfl,xs,hr,hw⟩
      ·exact absurd h0 hne
      ·obtain ⟨cs1,hw1,_⟩:=hK B1 _ _ (.inl rfl) hw
       exact .inr ⟨B1,0,_,rfl,Nat.le_refl _,by unfold maxLen;omega,⟨⟨by omega,hB12 hne hve⟩,cs1,hw1⟩,zbk (d:=y.d+1) (fun z hz=>hgen _ (fun k hk=>⟨hk.1,by simp only;omega⟩) z (by unfold kids;simp [hz]))⟩
    refine GV.at_iff.2 ⟨_,_,hcell _ _ (by omega) (by omega) q0,hcell _ _ (by omega) (by omega) q1,hcell _ _ (by omega) (by omega) q2,hcell _ _ (by omega) (by omega) q3,hcell _ _ (by omega) (by omega) q4,?_,hkl,?_⟩
    ·rcases hL with ⟨h0,rfl,rfl⟩ | ⟨rfl,rfl,xs,hr,hw⟩
     ·exact .inl ⟨h0,by rw [h0];rfl⟩
     ·obtain ⟨cs1,hw1,_⟩:=hK B1 _ _ (.inl rfl) hw
      exact .inr ⟨B1,0,_,rfl,Nat.le_refl _,by unfold maxLen;omega,⟨⟨by have:=h.size;omega,by have:=h.size;omega⟩,cs1,hw1⟩,zbk (d:=y.d+1) (fun z hz=>hgen _ (fun k hk=>⟨hk.1,by omega⟩) z (by unfold kids;simp [hz]))⟩
    ·rcases hO with ⟨h0,rfl,rfl⟩ | ⟨rfl,rfl,xs,hr,hw⟩
     ·exact .inl ⟨h0,by rw [h0];rfl⟩
     ·obtain ⟨cs1,hw1,hs1⟩:=hK B2 _ _ (.inr rfl) hw
      refine .inr ⟨B2,0,_,rfl,Nat.le_refl _,by unfold maxLen;omega,⟨by have:=h.size;omega,cs1,hw1⟩,KeysAt.of fun i k hk=>?_,zbk (d:=y.d+1) (fun z hz=>hgen _ (fun k hk=>⟨hk.1,by omega⟩) z (by unfold kids;simp [hz]))⟩
      rw [Nat.zero_add,hw1.cell];refine hs1 _ _ (by simpa using zfC hr hk) (fun z hz hzb=>?_)
      rcases List.mem_append.1 hz with hz | hz
      ·obtain ⟨t,ds,_,hd⟩:=(h.pend z (by simp [hz])).whole
       have:=hd.lt;omega
      ·unfold kids at hz
       rcases List.mem_append.1 hz with hz | hz
       ·have h1:=(zaw hz).1
        exact absurd (h1.symm.trans hzb) (hB12 (fun e'=>by rw [e'] at hz;simp [itemsAt] at hz) (fun e'=>by
         have h2:=hkl;rw [e'] at h2;rw [List.eq_nil_of_length_eq_zero h2] at hk;simp at hk))
       ·obtain ⟨_,i',_,e'⟩:=zaw hz
        omega
 ·have h1:=h.small
  have h2:=zbL x B1 0 B2 0;rw [zbt] at h1 ⊢;simp only [wsum] at h1;omega
 ·refine h.res.of_eq (hoth _ h.res.lt (fun e'=>hpx.big.2 e'.symm))
theorem CopyJ.but {n0 base:Nat} {w X Y:World} {g:GV} {S:List Item} (h:CopyJ n0 w g S X) (hb:But 168 base X Y) (hn:n0<=base):CopyJ n0 w g S Y:=by
 have hw:∀ (b:Nat) (e:TypeId) (cs:Array Value),VF e->Whole X b e cs->Whole Y b e cs:=fun b e cs he hd=>hb.whole hd he.spot
 refine ⟨h.below.trans (hb.below hn (by have:=h.size;omega)),fun x hx=>?_,h.disj,fun W2 hK hat=>h.wand W2 (fun b e cs he hd=>hK b e cs he (hw b e cs he hd)) (fun x hx=>⟨GV.at_keep (From.refl _ W2) (fun k hk _=>⟨hk.1,Nat.le_trans hb.size hk.2⟩) x.g rfl (hat x hx).1,(hat x hx).2⟩),h.small,hb.whole h.res (by decide),by have:=h.size;have:=hb.size;omega⟩
 have hp:=h.pend x hx;obtain ⟨t,ds,ht,hd⟩:=hp.whole;obtain ⟨L2,O2,r0,r1,r2,r3,r4,hL2,hO2⟩:=hp.val;have hd':=hw _ _ _ ht hd;have hc:∀ j,Y.cell? ⟨x.b,j,none⟩=X.cell? ⟨x.b,j,none⟩:=fun j=>(hd'.cell j).trans (hd.cell j).symm
 exact ⟨hp.big,⟨t,ds,ht,hd'⟩,L2,O2,(hc _).trans r0,(hc _).trans r1,(hc _).trans r2,(hc _).trans r3,(hc _).trans r4,hL2,hO2⟩
theorem CopyJ.apart {n0 B:Nat} {w:World} {g:GV} (hB:n0<=B) (S:List Item):Apart B (CopyJ n0 w g S):=fun W l o o' hl hk ho ho' h=>by
 have hw:∀ (b:Nat) (e:TypeId) (cs:Array Value),Whole W b e cs->Whole (W.putObj l o') b e cs:=fun b e cs hd=>hd.apart hk ho o'
 refine ⟨zaC h.below (by omega) hk o',fun x hx=>?_,h.disj,fun W2 hK hat=>h.wand W2 (fun b e cs he hd=>hK b e cs he (hw b e cs hd)) (fun x hx=>⟨GV.at_keep (From.refl _ W2) (fun k hk _=>⟨hk.1,by have:=hk.2;simpa using this⟩) x.g rfl (hat x hx).1,(hat x hx).2⟩),h.small,hw _ _ _ h.res,by have:=h.size;simpa using this⟩
 have hp:=h.pend x hx;obtain ⟨t,ds,ht,hd⟩:=hp.whole;obtain ⟨L2,O2,r0,r1,r2,r3,r4,hL2,hO2⟩:=hp.val;have hd':=hw _ _ _ hd;have hc:∀ j,(W.putObj l o').cell? ⟨x.b,j,none⟩=W.cell? ⟨x.b,j,none⟩:=fun j=>(hd'.cell j).trans (hd.cell j).symm
 exact ⟨hp.big,⟨t,ds,ht,hd'⟩,L2,O2,(hc _).trans r0,(hc _).trans r1,(hc _).trans r2,(hc _).trans r3,(hc _).trans r4,hL2,hO2⟩
theorem zhw {ok:Nat->Prop} {l:List GV} {W W':World} {e:Ending} (h:FreshL ok l W e W'):∃ A c,e=.returned (.slice A l.length c)/\Below W.heap.size W W' /\
  ((l=[]/\A=none/\c=0)\/(A=some ⟨W.heap.size,0,none⟩/\c=l.length/\∃ xs,RowL ok W l xs/\Whole W' W.heap.size 29 xs.toArray)):=by
 rcases h with ⟨rfl,he,rfl⟩ | ⟨he,hb,xs,hr,hw⟩
 ·exact ⟨none,0,he,Below.refl _ _,.inl ⟨rfl,rfl,rfl⟩⟩
 ·exact ⟨_,_,he,hb,.inr ⟨rfl,rfl,xs,hr,hw⟩⟩
theorem zha {ok:Nat->Prop} {ks:List ByteArray} {l:List GV} {W W':World} {e:Ending} (h:FreshO ok ks l W e W'):∃ A c,e=.returned (.slice A l.length c)/\Below W.heap.size W W' /\
  ((l=[]/\A=none/\c=0)\/(A=some ⟨W.heap.size,0,none⟩/\c=l.length/\∃ xs,RowO ok W ks l xs/\Whole W' W.heap.size 56 xs.toArray)):=by
 rcases h with ⟨rfl,he,rfl⟩ | ⟨he,hb,xs,hr,hw⟩
 ·exact ⟨none,0,he,Below.refl _ _,.inl ⟨rfl,rfl,rfl⟩⟩
 ·exact ⟨_,_,he,hb,.inr ⟨rfl,rfl,xs,hr,hw⟩⟩
theorem zaW (W:World) (a:Addr) (v:Value):(W.setCell a v).heap.size=W.heap.size:=by simp [World.setCell]
theorem zeA {W:World} {b i j:Nat} {v u:Value} (h:W.cell? ⟨b,j,none⟩=some v) (hne:i≠j):(W.setCell ⟨b,i,none⟩ u).cell? ⟨b,j,none⟩=some v:=
 (World.cell?_setCell_other W ⟨b,i,none⟩ ⟨b,j,none⟩ u (fun e=>hne (by cases e;rfl))).trans h
structure Round (n0:Nat) (w:World) (g:GV) (rest:List Item) (x:Item) (W Wa Wb Wc Wd:World) (A1 A2:Option Addr) (c1 c2:Nat):Prop where
 inv:CopyJ n0 w g (rest++[x]) W
 keys:x.g.keys.length=x.g.vz.length
 ba:Below W.heap.size W Wa
 bb:Below Wa.heap.size (Wa.setCell ⟨x.b,x.off+2,none⟩ (.string x.g.str)) Wb
 bc:Below Wb.heap.size (Wb.setCell ⟨x.b,x.off+3,none⟩ (.slice A1 x.g.il.length c1)) Wc
 bd:Below Wc.heap.size (Wc.setCell ⟨x.b,x.off+4,none⟩ (.slice A2 x.g.vz.length c2)) Wd
 newL:(x.g.il=[]/\A1=none/\c1=0)\/(A1=some ⟨Wa.heap.size,0,none⟩/\c1=x.g.il.length/\∃ xs,RowL (fun k=>k<n0) (Wa.setCell ⟨x.b,x.off+2,none⟩ (.string x.g.str)) x.g.il xs/\Whole Wb Wa.heap.size 29 xs.toArray)
 newO:(x.g.vz=[]/\A2=none/\c2=0)\/(A2=some ⟨Wb.heap.size,0,none⟩/\c2=x.g.vz.length/\∃ xs,RowO (fun k=>k<n0) (Wb.setCell ⟨x.b,x.off+3,none⟩ (.slice A1 x.g.il.length c1)) x.g.keys x.g.vz xs/\Whole Wc Wb.heap.size 56 xs.toArray)
theorem Round.done {n0 D:Nat} {w:World} {g:GV} {rest:List Item} {x:Item} {W Wa Wb Wc Wd:World} {A1 A2:Option Addr} {c1 c2:Nat} {own:List (Nat × Array Value)} (h:Round n0 w g rest x W Wa Wb Wc Wd A1 A2 c1 c2) (ho:Owned 168 own W):
  KeepsFrom D W Wd/\Due.Post (CopyJ n0 w g) (x,rest,own) Wd:=by
 have hpx:=h.inv.pend x (by simp)
 obtain ⟨e,cs,he,hcs⟩:=hpx.whole;have hxlt:=hcs.lt;have s1:=h.ba.size;have s2:=h.bb.size;have s3:=h.bc.size;have s4:=h.bd.size;rw [zaW] at s2 s3 s4;have hsz:=h.inv.size
 -- one block,through all of it
 have hblk:∀ k,k<W.heap.size->k≠x.b->Wd.heap[k]? = W.heap[k]?:=fun k hk hne=>by
  rw [h.bd.block k (by omega),Below.heap_setCell _ _ _ _ hne,h.bc.block k (by omega),Below.heap_setCell _ _ _ _ hne,h.bb.block k (by omega),Below.heap_setCell _ _ _ _ hne,h.ba.block k hk]
 have hwx:Whole Wd x.b e (((cs.setIfInBounds (x.off+2) (.string x.g.str)).setIfInBounds (x.off+3) (.slice A1 x.g.il.length c1)).setIfInBounds (x.off+4) (.slice A2 x.g.vz.length c2)):=
  ((((((hcs.below h.ba hxlt).put (x.off+2) (.string x.g.str)).below h.bb (by omega)).put (x.off+3) (.slice A1 x.g.il.length c1)).below h.bc (by omega)).put (x.off+4) (.slice A2 x.g.vz.length c2)).below h.bd (by omega)
 have hbig:=hpx.big;have bA:Below n0 w (Wa.setCell ⟨x.b,x.off+2,none⟩ (.string x.g.str)):=(h.inv.below.trans (h.ba.mono (by omega))).setCell hbig.1 _
 have bB:Below n0 w (Wb.setCell ⟨x.b,x.off+3,none⟩ (.slice A1 x.g.il.length c1)):=(bA.trans (h.bb.mono (by omega))).setCell hbig.1 _
 have hnL:NewL n0 w Wd Wa.heap.size x.g.il A1 c1:=by
  rcases h.newL with h0 | ⟨hA,hc,xs,hr,hw⟩
  ·exact .inl h0
  ·exact .inr ⟨hA,hc,xs,hr.keep (fun k hk _=>(bA.block k hk).symm) (fun _ hk _=>hk),(((hw.far (p:=⟨x.b,x.off+3,none⟩) (by simp only;omega) _).below h.bc (by have:=hw.lt;omega)).far (p:=⟨x.b,x.off+4,none⟩) (by simp only;omega) _).below h.bd (by have:=hw.lt;omega)⟩
 have hnO:NewO n0 w Wd Wb.heap.size x.g.keys x.g.vz A2 c2:=by
  rcases h.newO with h0 | ⟨hA,hc,xs,hr,hw⟩
  ·exact .inl h0
  ·exact .inr ⟨hA,hc,xs,hr.keep (fun k hk _=>(bB.block k hk).symm) (fun _ hk _=>hk),(hw.far (p:=⟨x.b,x.off+4,none⟩) (by simp only;omega) _).below h.bd (by have:=hw.lt;omega)⟩
 have hos:Wd.os=W.os/\Wd.tape=W.tape/\Wd.output=W.output:=
  ⟨h.bd.os.trans (h.bc.os.trans (h.bb.os.trans h.ba.os)),h.bd.tape.trans (h.bc.tape.trans (h.bb.tape.trans h.ba.tape)),h.bd.output.trans (h.bc.output.trans (h.bb.output.trans h.ba.output))⟩
 -- the second row lies behind the first
 have hlt12:A1=some ⟨Wa.heap.size,0,none⟩->Wa.heap.size<Wb.heap.size:=fun hA=>by
  rcases h.newL with ⟨_,h0,_⟩ | ⟨_,_,xs,_,hw⟩
  ·rw [h0] at hA;cases hA
  ·exact hw.lt
 have hkeep:KeepsFrom D W Wd:=by
  refine (zaX h.ba).trans (((KeepsOthers.setCell _ _ _).from _).trans ((zaX (by rw [zaW];exact h.bb)).trans (((KeepsOthers.setCell _ _ _).from _).trans ((zaX (by rw [zaW];exact h.bc)).trans (((KeepsOthers.setCell _ _ _).from _).trans (zaX (by rw [zaW];exact h.bd)))))))
 have howned:Owned 168 own Wd:=fun p hp=>by
  have hp':=ho p hp;exact hp'.of_eq (hblk p.1 hp'.lt (hp'.ne hcs (fun e'=>he.spot e'.symm)))
 obtain ⟨hk,hj⟩:=zjN h.inv he hcs (by omega) hblk hos hwx s1 (by omega) (fun h1 _=>by
  rcases h.newL with ⟨h0,_⟩ | ⟨hA,_⟩
  ·exact absurd h0 h1
  ·have:=hlt12 hA;omega) hnL hnO h.keys
 exact ⟨hkeep,howned,_,_,_,_,hk,hj⟩
open Go Go.RowKit Go.Shelf Go.Sort
attribute [local go_sem] Oper.semAt_some
def CKeyRel (Wd:World) (n:Nat) (i:Value) (wr:World):Prop:=∃ k:Nat,i=.int .i64 k/\k<=n/\Below Wd.heap.size Wd wr
def FullO (lo:Nat) (W:World) (g:GV) (v:Value):Prop:=∃ L A,v=.agg #[.int .u8 g.kq,.int .i64 g.num,.string g.str,L,.slice A g.vz.length g.vz.length] /\
 ∀ a,A=some a->g.vz≠[]->lo<=a.block/\(g.il≠[]->LstV (fun k=>lo<=k/\k≠a.block) W L g.il)/\GV.els (fun k=>lo<=k/\k≠a.block) W a.block 6 (a.off+1) g.vz
theorem FullO.keep {lo lo':Nat} {W W':World} {g:GV} {L:Value} {A:Option Addr} (hO:ObjV (fun k=>lo<=k) W (.slice A g.vz.length g.vz.length) g.keys g.vz) (h:FullO lo W g (.agg #[.int .u8 g.kq,.int .i64 g.num,.string g.str,L,.slice A g.vz.length g.vz.length])) (hb:∀ k,lo<=k->k<W.heap.size->W'.heap[k]? = W.heap[k]?) (hl:lo'<=lo):
  FullO lo' W' g (.agg #[.int .u8 g.kq,.int .i64 g.num,.string g.str,L,.slice A g.vz.length g.vz.length]):=by
 obtain ⟨L',A',e,hf⟩:=h;obtain ⟨rfl,rfl⟩:L=L'/\A=A':=by simpa using e
 refine ⟨L,A,rfl,fun a ha hv=>?_⟩
 obtain ⟨h1,h2,h3⟩:=hf a ha hv;subst ha;have hlt:a.block<W.heap.size:=by
  rcases hO.2 with ⟨h0,_⟩ | ⟨b',o',c,e2,_,_,hk,_⟩
  ·exact absurd h0 hv
  ·simp only [Value.slice.injEq,Option.some.injEq] at e2
   obtain ⟨rfl,_⟩:=e2;exact hk.lt
 exact ⟨by omega,fun hi=>(h2 hi).keep (fun k hk hl=>hb k hk.1 hl) (fun k hk _=>⟨by have:=hk.1;omega,hk.2⟩),GV.els_keep (fun k hk hl=>hb k hk.1 hl) (fun k hk _=>⟨by have:=hk.1;omega,hk.2⟩) _ (hb _ h1 hlt) h3⟩
theorem zfX (ok:Nat->Prop) (v:Value) (g:GV) (w:World) (hv:g.val ok w v) (hg:g.weight<=1000000000):
  Calls Tryz.prog 66 #[v] w fun e w'=>∃ v',e=.returned v'/\(g.val (fun k=>w.heap.size<=k) w' v'/\FullO w.heap.size w' g v')/\Below w.heap.size w w':=by
 obtain ⟨L,O,rfl,hL,hO⟩:=hv;obtain ⟨AL,cL,rfl⟩:=zah hL;obtain ⟨AO,cO,rfl⟩:=zag hO;refine (callsIn_wide (n:=9)).1 ?_
 refine callsIn_of_wp_marks Tryz.func66 rfl trivial ?_ rfl
 simp only [Tryz.ntmps66,List.size_toArray,List.length_cons,List.length_nil,Nat.reduceAdd,Nat.reduceSub,Array.replicate_succ,Array.replicate_zero,List.push_toArray,List.append_toArray,List.nil_append,List.cons_append]
 gi_wp2_with (refine ⟨trivial,?_⟩;gi_at_call 101;refine (callsIn_wide.2 (zdO _ _)).mono ?_;rintro e w' ⟨rfl,rfl⟩)
 have hLo:LstV (fun k=>k<w.heap.size) w (.slice AL g.il.length cL) g.il:=hL.keep (From.refl _ _) (fun k _ hk=>hk)
 have hOo:ObjV (fun k=>k<w.heap.size) w (.slice AO g.vz.length cO) g.keys g.vz:=hO.keep (From.refl _ _) (fun k _ hk=>hk)
 clear hL hO;refine zcf rfl (by decide) (gf:=121) (lb:=#[.pointer (some ⟨w.heap.size+1+1,0,none⟩)]) rfl trivial (enters_of Tryz.func121 (by kernel_rfl) rfl) Due.encs (fun _=>rfl)
  (Due.Pre (CopyJ w.heap.size w g)) (Due.Post (CopyJ w.heap.size w g)) (fun _ _=>False) (CopyJ w.heap.size w g [])
  (zdl fun S=>CopyJ.apart (by simp;omega) S) (zck fun S=>CopyJ.apart (by simp;omega) S) (fun _ _ _ _ _ _ _ _ _ h=>h) (CopyJ.apart (by simp;omega) _) ?seq
  (fun x=>{ tmps:=#[.agg #[.int .u8 g.kq,.int .i64 g.num,.string g.str,.slice AL g.il.length cL,.slice AO g.vz.length cO],.pointer (some ⟨w.heap.size,0,none⟩),.pointer (some ⟨w.heap.size+1,0,none⟩),undef,.pointer (some ⟨x.1.b,x.1.off,none⟩),undef,.func (.func 121) #[] #[.pointer (some ⟨w.heap.size+1+1,0,none⟩)],.int .i64 x.1.d,.pointer (some ⟨x.1.b,x.1.off,none⟩),undef,undef,undef,undef,undef,undef,undef,undef,undef,undef,undef,undef,undef,undef,undef,undef,undef,undef,undef,undef,undef,undef,undef,undef,undef,undef,undef,undef,undef,undef,undef,undef,undef,undef,undef,undef,undef,undef,undef,undef,undef,undef,undef,undef,undef,undef,undef,undef,undef,undef],defers:=[] }) ?assign ?body ?done ?stop
 case seq=>
  rintro l W rfl ⟨o,o',ho,ho',rfl⟩
  refine zcP 8 (by decide) _ 1000000000 (Nat.le_refl _) _ _ (fun S X Y q k=>q.but k (by simp;omega)) (w.heap.size+1+1) ⟨0,w.heap.size,0,g⟩ _ ?_ (by have:=zad g;simp;omega) ?_ rfl
  ·have hw1:=(((((Whole.new w 29 #[.int .u8 g.kq,.int .i64 g.num,.string g.str,.slice AL g.il.length cL,.slice AO g.vz.length cO]).alloc (.cells Zero5 29)).alloc (.cells #[.pointer (some ⟨w.heap.size,0,none⟩)] 113)).alloc o).alloc o')
   have hr0:=Whole.new (w.alloc (.cells #[.int .u8 g.kq,.int .i64 g.num,.string g.str,.slice AL g.il.length cL,.slice AO g.vz.length cO] 29)) 29 Zero5;rw [World.size_alloc] at hr0;have hr1:=((hr0.alloc (.cells #[.pointer (some ⟨w.heap.size,0,none⟩)] 113)).alloc o).alloc o';refine ⟨(((((Below.refl _ _).alloc (Nat.le_refl _) _).alloc (by simp) _).alloc (by simp;omega) _).alloc (by simp;omega) _).alloc (by simp;omega) _,fun x hx=>?_,by simp,fun W2 _ hat=>⟨GV.at_keep (From.refl _ W2) (fun k hk _=>hk.1) g rfl (hat ⟨0,w.heap.size,0,g⟩ (by simp)).1,(hat ⟨0,w.heap.size,0,g⟩ (by simp)).2⟩,by simpa [wsum] using hg,hr1,by simp⟩
   simp only [List.mem_singleton] at hx;subst hx;exact ⟨by simp,⟨_,_,.inl rfl,hw1⟩,_,_,(hw1.cell 0).trans rfl,(hw1.cell 1).trans rfl,(hw1.cell 2).trans rfl,(hw1.cell 3).trans rfl,(hw1.cell 4).trans rfl,hLo,hOo⟩
  ·refine zab _ (zab _ ?_)
   have:=Whole.new ((w.alloc (.cells #[.int .u8 g.kq,.int .i64 g.num,.string g.str,.slice AL g.il.length cL,.slice AO g.vz.length cO] 29)).alloc (.cells Zero5 29)) 113 #[.pointer (some ⟨w.heap.size,0,none⟩)];rw [World.size_alloc,World.size_alloc] at this;exact (this.cell 0).trans rfl
 case assign=>
  intro l x W K hK
  gi_wp2
  exact hK
 case body=>
  rintro l ⟨x,rest,own⟩ W ⟨hJ,hO⟩
  replace hJ:CopyJ w.heap.size w g (rest++[x]) W:=hJ;replace hO:Owned 168 own W:=hO;have hpx:=hJ.pend x (by simp)
  obtain ⟨Lx,Ox,_,_,hx2,hx3,hx4,hLx,hOx⟩:=hpx.val;obtain ⟨A0,c0,rfl⟩:=zah hLx;obtain ⟨A0',c0',rfl⟩:=zag hOx;obtain ⟨te,cs,hte,hcs⟩:=hpx.whole;have hwx:x.g.weight<=1000000000:=Nat.le_trans (zdg (S:=rest++[x]) (by simp)) hJ.small
  have hs1:x.g.str.size<=281474976710656:=by have:=zbL x 0 0 0 0;omega
  have hs2:ksum x.g.keys<=1000000000:=by have:=zbL x 0 0 0 0;omega
  have hn1:x.g.il.length<=1000000000:=by have h1:=zaq x.g.il;have h2:=zaD x.g;have h3:=zad x.g;omega
  have hn2:x.g.vz.length<=1000000000:=by have h1:=zaq x.g.vz;have h2:=zaD x.g;have h3:=zad x.g;omega
  have HJ:=hid hJ;have HCS:=hid hcs;have HBG:=hid hpx.big;have HLx:=hid hLx;have HOx:=hid hOx;have hWsz:=hJ.size;have HKL:=hid hOx.1;clear hJ hpx hcs hLx hOx;dsimp only;have fz:∀ (W':World) (j:Nat),Below W.heap.size W W'->W'.frozen? ⟨x.b,j,none⟩=false:=fun W' j hb=>(HCS.out.below hb HCS.out.lt).frozen j
  have HFZ:=hid fz;clear fz
  gi_wp2_with (first | (refine ⟨trivial,?_⟩;gi_at_call 77;refine (CallsIn.inRound l (callsIn_wide.2 (zbs _ _ hs1))).mono ?_;rintro e Wa ⟨rfl,hba⟩;have ya2:Wa.cell? ⟨x.b,x.off+2,none⟩=some (.string x.g.str):=(hba.cell (p:=⟨x.b,x.off+2,none⟩) HCS.out.lt).trans hx2;have ya3:Wa.cell? ⟨x.b,x.off+3,none⟩=some (.slice A0 x.g.il.length c0):=(hba.cell (p:=⟨x.b,x.off+3,none⟩) HCS.out.lt).trans hx3;have ya4:Wa.cell? ⟨x.b,x.off+4,none⟩=some (.slice A0' x.g.vz.length c0'):=(hba.cell (p:=⟨x.b,x.off+4,none⟩) HCS.out.lt).trans hx4;have HWa:=hid (HCS.out.below hba HCS.out.lt);have yf2:=HWa.out.frozen (x.off+2);have HbA:=hid ((HJ.out.below.trans (hba.mono (by omega))).setCell (p:=⟨x.b,x.off+2,none⟩) HBG.out.1 (.string x.g.str));have HLa:=hid (HLx.out.keep (fun k hk _=>HbA.out.block k hk) (fun _ h _=>h));have HBa:=hid hba) | (refine ⟨trivial,?_⟩;gi_at_call 102;refine (CallsIn.inRound l (callsIn_wide.2 (zjO (fun k=>k<w.heap.size) _ x.g.il _ HLa.out hn1))).mono ?_;rintro e Wb hfl;obtain ⟨A1,c1,rfl,hbb,hnl⟩:=zhw hfl;rw [zaW] at hbb hnl;have yb3:Wb.cell? ⟨x.b,x.off+3,none⟩=some (.slice A0 x.g.il.length c0):=(hbb.cell (p:=⟨x.b,x.off+3,none⟩) HWa.out.lt).trans (zeA ya3 (by omega));have yb4:Wb.cell? ⟨x.b,x.off+4,none⟩=some (.slice A0' x.g.vz.length c0'):=(hbb.cell (p:=⟨x.b,x.off+4,none⟩) HWa.out.lt).trans (zeA ya4 (by omega));have HWb:=hid ((HWa.out.put (x.off+2) (.string x.g.str)).below hbb HWa.out.lt);have yf3:=HWb.out.frozen (x.off+3);have HbB:=hid ((HbA.out.trans (hbb.mono (by have:=HBa.out.size;omega))).setCell (p:=⟨x.b,x.off+3,none⟩) HBG.out.1 (.slice A1 x.g.il.length c1));have HOb:=hid (HOx.out.keep (fun k hk _=>HbB.out.block k hk) (fun _ h _=>h));have HBb:=hid hbb;have HNL:=hid hnl;clear hfl hnl hbb) | (refine ⟨trivial,?_⟩;gi_at_call 103;refine (CallsIn.inRound l (callsIn_wide.2 (zjl (fun k=>k<w.heap.size) _ x.g.keys x.g.vz _ HOb.out hn2))).mono ?_;rintro e Wc hfo;obtain ⟨A2,c2,rfl,hbc,hno⟩:=zha hfo;rw [zaW] at hbc hno;have yc4:Wc.cell? ⟨x.b,x.off+4,none⟩=some (.slice A0' x.g.vz.length c0'):=(hbc.cell (p:=⟨x.b,x.off+4,none⟩) HWb.out.lt).trans (zeA yb4 (by omega));have HWc:=hid ((HWb.out.put (x.off+3) (.slice A1 x.g.il.length c1)).below hbc HWb.out.lt);have yf4:=HWc.out.frozen (x.off+4);have HBc:=hid hbc;have HNO:=hid hno;clear hfo hno hbc))
  have hmix:Tryz.prog.follows .mixedOrders=true:=by kernel_rfl
  have yd4:(Wc.setCell ⟨x.b,x.off+4,none⟩ (.slice A2 x.g.vz.length c2)).cell? ⟨x.b,x.off+4,none⟩=some (.slice A2 x.g.vz.length c2):=World.cell?_setCell_same' _ _ _ (by rw [yc4];rfl)
  have HWd:=hid (HWc.out.put (x.off+4) (.slice A2 x.g.vz.length c2));have HNd:Hid ((x.g.vz=[]/\A2=none/\c2=0)\/(A2=some ⟨Wb.heap.size,0,none⟩/\c2=x.g.vz.length/\∃ xs,RowO (fun k=>k<w.heap.size) (Wb.setCell ⟨x.b,x.off+3,none⟩ (.slice A1 x.g.il.length c1)) x.g.keys x.g.vz xs/\Whole (Wc.setCell ⟨x.b,x.off+4,none⟩ (.slice A2 x.g.vz.length c2)) Wb.heap.size 56 xs.toArray)):=by
   rcases HNO.out with h0 | ⟨hA,hc,xs,hr,hw⟩
   ·exact .inl h0
   ·exact .inr ⟨hA,hc,xs,hr,hw.far (by have:=HWb.out.lt;simp only;omega) _⟩
  obtain ⟨Wd,hWd⟩:∃ Wd,Wd=Wc.setCell ⟨x.b,x.off+4,none⟩ (.slice A2 x.g.vz.length c2):=⟨_,rfl⟩;have HRD:Hid (∀ wr,Below Wd.heap.size Wd wr->Round w.heap.size w g rest x W Wa Wb Wc wr A1 A2 c1 c2):=fun wr hb=>⟨HJ.out,HKL.out,HBa.out,HBb.out,HBc.out,by rw [hWd,zaW] at hb;exact hb,HNL.out,HNO.out⟩
  rw [<- hWd] at yd4 HWd HNd ⊢;clear hWd yc4 yf4 yb3 yb4 yf3 ya2 ya3 ya4 yf2 hx2 hx3 hx4
  gi_loopw [38] (CKeyRel Wd x.g.vz.length) (fun i _=>x.g.vz.length - (intOf i).toNat)
  case atStart=>exact ⟨0,rfl,Nat.zero_le _,Below.refl _ _⟩
  case round=>
   obtain ⟨k,rfl,hk,hB⟩:=hrel;by_cases hlt:k<x.g.vz.length
   ·have hlk:k<x.g.keys.length:=by have:=HKL.out;omega
    rcases HNd.out with ⟨h0,_⟩ | ⟨rfl,rfl,xs,hr,hw⟩
    ·rw [h0] at hlt;simp at hlt
    have hkey:=zfC hr (List.getElem?_eq_getElem hlk);have hkz:x.g.keys[k].size<=281474976710656:=by
     have h1:=zcU x.g.keys k hlk;have h2:=zep x.g.keys (k+1);omega
    have hwr:=hw.below hB hw.lt;have zc:wr.cell? ⟨Wb.heap.size,k * 6,none⟩=some (.string x.g.keys[k]):=(hwr.cell _).trans (by simpa using hkey)
    have zf:wr.frozen? ⟨Wb.heap.size,k * 6,none⟩=false:=hwr.frozen _;have zo:wr.cell? ⟨x.b,x.off+4,none⟩=some (.slice (some ⟨Wb.heap.size,0,none⟩) x.g.vz.length x.g.vz.length):=(hB.cell (p:=⟨x.b,x.off+4,none⟩) HWd.out.lt).trans yd4;have hlx:x.b<wr.heap.size:=by have h1:=HWd.out.lt;have h2:=hB.size;omega
    have HWR:=hid hwr;have HKEY:=hid hkey;clear hr hw hwr hkey;generalize x.g.keys[k]=kk at *
    gi_wp2
    have zg:∀ (d:Nat) (os:Array Obj),(grow (redrawn wr d) os).frozen? ⟨Wb.heap.size,k * 6,none⟩=false:=fun d os=>(HWR.out.below (below_regrown wr d os) HWR.out.lt).frozen _
    have zs:∀ (d:Nat) (os:Array Obj),(grow (redrawn wr d) os).setCell ⟨Wb.heap.size,k * 6,none⟩ (.string kk)=grow (redrawn wr d) os:=fun d os=>zk0 (cell_regrown zc d os)
    have zcr:=cell_regrown zc;have zor:=cell_regrown zo;have hcl:∀ (d:Nat) (os:Array Obj),CallsIn (Fence.wide.inRound l) 6 Tryz.prog 77 #[.string kk] (grow (redrawn wr d) os) fun e w''=>e=.returned (.string kk)/\∃ p:Regrown,w''=grow (redrawn wr p.d) p.os:=fun d os=>CallsIn.regrown_of ((CallsIn.inRound l (callsIn_wide.2 (zbs _ _ hkz))).mono fun e W1 ⟨h1,h2⟩=>⟨h1,h2⟩)
    refine zdm (by assumption) (by kernel_rfl) (by kernel_rfl) ?_
    repeat (refine wpQuietIn_step (fun _ _ _ _=>trivial) (fun K hK=>?_);go_simp;first | (refine hK _ ?_;clear hK K) | (apply Exists.intro;refine ⟨fun _=>?_,hK _ ?_⟩;exact hcl _ _;clear hK K))
    refine wpQuietIn_nil ?_
    intro _ hw';obtain ⟨⟨dq,osq⟩,hw''⟩:=hw';subst hw'';clear zs zg zcr zor hcl
    gi_wp2
    go_roundw
    case rel=>exact ⟨k+1,by go_simp,by omega,hB.trans ((below_regrown wr dq osq).mono hB.size)⟩
    all_goals (simp [intOf];omega)
   ·gi_wp2
    exact (HRD.out wr hB).done hO
 case done=>
  rintro D W hD hJ hK
  have hDlt:D<W.heap.size:=(Array.getElem?_eq_some_iff.1 hK).1;have hat:=hJ.wand (W.putObj D (.deferred none)) (fun b e cs he hd=>⟨cs,hd.apart hK rfl _,fun j v hv _=>hv⟩) (fun x hx=>by cases hx)
  obtain ⟨L2,O2,h0,h1,h2,h3,h4,hL2,hO2⟩:=GV.at_iff.1 hat.1;obtain ⟨A2,c2,rfl⟩:=zah hL2;obtain ⟨A3,c3,rfl⟩:=zag hO2;obtain ⟨L4,A4,h3',h4',hf4⟩:=hat.2;obtain rfl:Value.slice A2 g.il.length c2=L4:=Option.some.inj (h3.symm.trans h3');have e4:=Option.some.inj (h4.symm.trans h4');simp only [Value.slice.injEq] at e4;obtain ⟨rfl,htr,hc3⟩:=e4;have HC3:=hid hc3;clear h4' h3' htr hc3;have hn0:w.heap.size≠D:=by simp at hD;omega
  have hback:∀ (j:Nat),(W.putObj D (.deferred none)).cell? ⟨w.heap.size,j,none⟩=W.cell? ⟨w.heap.size,j,none⟩:=fun j=>World.cell?_of_block (a:=⟨w.heap.size,j,none⟩) (World.putObj_heap_other hn0)
  rw [hback] at h0 h1 h2 h3 h4;obtain ⟨r0,r1,r2,r3,r4,f0,f1,f2,f3,f4⟩:=hJ.res.five;simp only [Nat.zero_add] at h1 h2 h3 h4;have hfar:∀ k,k≠w.heap.size+1->((put5 W (w.heap.size+1) (.int .u8 g.kq) (.int .i64 g.num) (.string g.str) (.slice A2 g.il.length c2) (.slice A3 g.vz.length c3)).putObj D (.deferred none)).heap[k]? = (W.putObj D (.deferred none)).heap[k]?:=fun k hk=>by
   by_cases e:k=D
   ·subst e
    rw [World.putObj_heap_same hDlt,World.putObj_heap_same (by simpa [put5,World.setCell] using hDlt)]
   ·rw [World.putObj_heap_other e,World.putObj_heap_other e,zac _ _ _ _ _ _ _ _ hk]
  have hL3:LstV (fun k=>w.heap.size<=k) ((put5 W (w.heap.size+1) (.int .u8 g.kq) (.int .i64 g.num) (.string g.str) (.slice A2 g.il.length c2) (.slice A3 g.vz.length c3)).putObj D (.deferred none)) (.slice A2 g.il.length c2) g.il:=hL2.keep (fun k hk _=>hfar k hk.2) (fun k hk _=>hk.1)
  have hO3:ObjV (fun k=>w.heap.size<=k) ((put5 W (w.heap.size+1) (.int .u8 g.kq) (.int .i64 g.num) (.string g.str) (.slice A2 g.il.length c2) (.slice A3 g.vz.length c3)).putObj D (.deferred none)) (.slice A3 g.vz.length c3) g.keys g.vz:=hO2.keep (fun k hk _=>hfar k hk.2) (fun k hk _=>hk.1)
  have HR:=hid hJ.res;have HB:=hid hJ.below;have hF3:FullO w.heap.size ((put5 W (w.heap.size+1) (.int .u8 g.kq) (.int .i64 g.num) (.string g.str) (.slice A2 g.il.length c2) (.slice A3 g.vz.length c3)).putObj D (.deferred none)) g (.agg #[.int .u8 g.kq,.int .i64 g.num,.string g.str,.slice A2 g.il.length c2,.slice A3 g.vz.length c3]):=by
   refine ⟨_,A3,by rw [HC3.out],fun a ha hv=>?_⟩
   obtain ⟨q1,q2,q3⟩:=hf4 a ha hv;exact ⟨q1.1,fun hi=>(q2 hi).keep (fun k hk _=>hfar k hk.1.2) (fun k hk _=>⟨hk.1.1,hk.2⟩),GV.els_keep (fun k hk _=>hfar k hk.1.2) (fun k hk _=>⟨hk.1.1,hk.2⟩) _ (hfar _ q1.2) q3⟩
  have HV:=hid (And.intro (And.intro hL3 hO3) hF3);clear hf4 hF3;clear hJ hat hL2 hO2 hL3 hO3 hback hfar
  gi_wp2
  have hK':=(((((KeepsOthers.setCell W ⟨w.heap.size+1,0,none⟩ (.int .u8 g.kq)).trans (KeepsOthers.setCell _ ⟨w.heap.size+1,1,none⟩ (.int .i64 g.num))).trans (KeepsOthers.setCell _ ⟨w.heap.size+1,2,none⟩ (.string g.str))).trans (KeepsOthers.setCell _ ⟨w.heap.size+1,3,none⟩ (.slice A2 g.il.length c2))).trans (KeepsOthers.setCell _ ⟨w.heap.size+1,4,none⟩ (.slice A3 g.vz.length c3))).same D _ hK rfl;refine ⟨by simp,.inl ⟨_,_,rfl,run_takeDeferred hK',?_⟩⟩
  have hw5:=(((((HR.out.put 0 (.int .u8 g.kq)).put 1 (.int .i64 g.num)).put 2 (.string g.str)).put 3 (.slice A2 g.il.length c2)).put 4 (.slice A3 g.vz.length c3)).apart hK' rfl (.deferred none);obtain ⟨d0,d1,d2,d3,d4,_⟩:=Whole.five (a0:=.int .u8 g.kq) (a1:=.int .i64 g.num) (a2:=.string g.str) (a3:=.slice A2 g.il.length c2) (a4:=.slice A3 g.vz.length c3) hw5;refine ⟨.agg #[.int .u8 g.kq,.int .i64 g.num,.string g.str,.slice A2 g.il.length c2,.slice A3 g.vz.length c3],?_,_,rfl,⟨⟨_,_,rfl,HV.out.1.1,HV.out.1.2⟩,HV.out.2⟩,?_⟩
  ·simp [results,Tryz.results66,go_sem,d0,d1,d2,d3,d4]
  ·exact zaC (zae HB.out (by omega) _ _ _ _ _) (by simp at hD;omega) hK' _
 case stop=>
  rintro D c W _ h _
  exact h.elim
theorem zfk (ok:Nat->Prop) (v:Value) (g:GV) (w:World) (hv:g.val ok w v) (hg:g.weight<=1000000000):
  Calls Tryz.prog 66 #[v] w fun e w'=>∃ v',e=.returned v'/\g.val (fun k=>w.heap.size<=k) w' v'/\Below w.heap.size w w':=
 (zfX ok v g w hv hg).mono fun _ _ ⟨v',he,hv',hb⟩=>⟨v',he,hv'.1,hb⟩
end Go.Proofs.YtmmgdkpkcoopgaaGreatDoor
