/- Texts in one: SeqT, SeqA, SeqL, SeqW, SeqE. -/
import Derived.Test.YthmcfjmignlhfaaGreatDoorS8
import Derived.Test.YthmcfjmignlhfaaGreatDoorS1
import Derived.WalkKit
import Derived.WalkSpells
import Derived.Deep.QuietTactic
import Derived.BigQuiet
import Derived.Deep.RegionWith
import Derived.Deep.DeepCutAuto
import Derived.Lib.Hide
import Derived.Test.YthmcfjmignlhfaaGreatDoorS12
import Derived.Test.YthmcfjmignlhfaaGreatDoorS4
import Derived.OwnWalk
import Derived.ArgAppend
import Derived.Maps.AppendAt
import Derived.Deep.RegionHeld3
import Derived.Deep.Upon
set_option maxRecDepth 100000
set_option maxHeartbeats 8000000
namespace Go.Proofs.YthmcfjmignlhfaaGreatDoor
open Go.Lib(hid)
open Go Go.RowKit
set_option linter.unusedVariables false
set_option linter.unusedSimpArgs false
theorem zgG {k:IntKind} {a b:Int} (h:a=b):Ending.returned (.int k a)=.returned (.int k b):=by rw [h]
structure Tw (W:World) (b:Nat) (a0 a1 a2 a3 a4 a5 a6 a7 a8 a9 a10 a11:Value):Prop where
 c0:W.cell? ⟨b,0,none⟩=some a0
 c1:W.cell? ⟨b,1,none⟩=some a1
 c2:W.cell? ⟨b,2,none⟩=some a2
 c3:W.cell? ⟨b,3,none⟩=some a3
 c4:W.cell? ⟨b,4,none⟩=some a4
 c5:W.cell? ⟨b,5,none⟩=some a5
 c6:W.cell? ⟨b,6,none⟩=some a6
 c7:W.cell? ⟨b,7,none⟩=some a7
 c8:W.cell? ⟨b,8,none⟩=some a8
 c9:W.cell? ⟨b,9,none⟩=some a9
 c10:W.cell? ⟨b,10,none⟩=some a10
 c11:W.cell? ⟨b,11,none⟩=some a11
 f0:W.frozen? ⟨b,0,none⟩=false
 f1:W.frozen? ⟨b,1,none⟩=false
 f2:W.frozen? ⟨b,2,none⟩=false
 f3:W.frozen? ⟨b,3,none⟩=false
 f4:W.frozen? ⟨b,4,none⟩=false
 f5:W.frozen? ⟨b,5,none⟩=false
 f6:W.frozen? ⟨b,6,none⟩=false
 f7:W.frozen? ⟨b,7,none⟩=false
 f8:W.frozen? ⟨b,8,none⟩=false
 f9:W.frozen? ⟨b,9,none⟩=false
 f10:W.frozen? ⟨b,10,none⟩=false
 f11:W.frozen? ⟨b,11,none⟩=false
theorem Whole.tw {W b} {t:TypeId} {a0 a1 a2 a3 a4 a5 a6 a7 a8 a9 a10 a11:Value} (h:Whole W b t #[a0,a1,a2,a3,a4,a5,a6,a7,a8,a9,a10,a11]):Tw W b a0 a1 a2 a3 a4 a5 a6 a7 a8 a9 a10 a11:=
 ⟨h.cell 0,h.cell 1,h.cell 2,h.cell 3,h.cell 4,h.cell 5,h.cell 6,h.cell 7,h.cell 8,h.cell 9,h.cell 10,h.cell 11,h.frozen 0,h.frozen 1,h.frozen 2,h.frozen 3,h.frozen 4,h.frozen 5,h.frozen 6,h.frozen 7,h.frozen 8,h.frozen 9,h.frozen 10,h.frozen 11⟩
section
variable {P:Program} {w:World}
theorem zdb {ops:Array Oper} {o:Oper} {a:Act} {K:Act->World->Prop} {Q:Exit->Act->World->Prop} {E:Prop} (hgd:o.guard=none) (s x:Operand) (t:TypeId)
  (ho:o.op=.call { callee:=.builtin .append,args:=#[s,x],argTypes:=#[t,t] })
  (base:Nat) (e:TypeId) (i:TypeInfo) (z:Value) (size bytes:Nat) (ht:P.underlying t=some (.slice e)) (hi:P.info? e=some i) (hz:i.zero=some z)
  (hsize:i.size=size) (hby:i.bytes=bytes) (hzs:z.cells.size=size) (hsz:0<size)
  (v:Value) (n:Nat) (xs:List Value) (hs:a.eval s=v) (hown:w.ownsRow base e size v n xs)
  (A:Option Addr) (m c:Nat) (news:List Value) (hx:a.eval x=.slice A m c) (hA:A=none->m=0) (hl:news.length=m * size) (hnews:∀ ad,A=some ad->∀ j u,news[j]? = some u->w.cell? (ad.add j)=some u) (h1:∀ u∈news,u.oneCell'=true)
  (h63:n+m<=maxLen) (hbytes:(n+m) * bytes<=140737488355328) (hbase:base<=w.heap.size)
  (h:∀ v' w',w'.ownsRow base e size v' (n+m) (xs++news)->w.grownBy w' v.ownBlock->K (a.put o.dst v') w'):
  if Region.wanted o (yielded ops a.tmps)=true then Oper.wp P o a w K Q else E:=by
 have hw:Region.wanted o (yielded ops a.tmps)=true:=by simp [Region.wanted,hgd]
 rw [if_pos hw];have hrun:∃ v' w',(Builtin.append_ #[t,t] o.type #[v,.slice A m c]).run P w=.ok v' w'/\w'.ownsRow base e size v' (n+m) (xs++news)/\w.grownBy w' v.ownBlock:=by
  cases A with
  | none=>
   obtain rfl:=hA rfl;obtain rfl:news=[]:=List.eq_nil_of_length_eq_zero (by simpa using hl)
   refine ⟨v,w,?_,by simpa using hown,⟨rfl,rfl,rfl,Nat.le_refl _,fun _ _ _=>rfl⟩⟩
   rcases hown.2 with ⟨rfl,rfl⟩ | ⟨_,_,_,rfl,_,_,hnc,_⟩<;>simp [Builtin.append_,run_underlying ht,sizeOf,typeInfo,Builtin.lenOf,Builtin.firstCells,storeCells, *]
  | some ad=>
   obtain ⟨v',w',hr,h2,h3,_,_⟩:=run_append_own_at (P:=P) w base t o.type e i z size bytes ht hi hz hsize hby hzs hsz v n xs hown ad m c news hl (hnews ad rfl) h1 h63 hbytes hbase;exact ⟨v',w',hr,h2,h3⟩
 obtain ⟨v',w',hr,h2,h3⟩:=hrun;unfold Oper.wp execOp;simp only [ho,resolve,invoke,builtin,Sem.run_bind,Sem.run_pure,Result.andThen_ok,List.map_toArray,List.map_cons,List.map_nil,hs,hx,hr];exact h v' w' h2 h3
theorem zbf (t ty e:TypeId) (i:TypeInfo) (z:Value) (size bytes:Nat) (ht:P.underlying t=some (.slice e)) (hi:P.info? e=some i) (hz:i.zero=some z)
  (hsize:i.size=size) (hby:i.bytes=bytes) (hzs:z.cells.size=size) (hsz:0<size)
  (ao:Option Addr) (n cap:Nat) (olds:List Value) (hnone:ao=none->n=0/\cap=0) (hlo:olds.length=n * size) (holds:∀ b,ao=some b->∀ j u,olds[j]? = some u->w.cell? (b.add j)=some u)
  (ad:Addr) (m c:Nat) (news:List Value) (hn:news.length=m * size) (hc:∀ j u,news[j]? = some u->w.cell? (ad.add j)=some u) (h1c:∀ u∈news,u.oneCell'=true)
  (hfull:cap<n+m) (b1:n+m<=maxLen) (b2:(n+m) * bytes<=140737488355328):
  ∃ v' w',(Builtin.append_ #[t,t] ty #[.slice ao n cap,.slice (some ad) m c]).run P w=.ok v' w'/\w'.ownsRow w.heap.size e size v' (n+m) (olds++news)/\w.grownBy w' none:=by
 cases ao with
 | some b=>
  obtain ⟨v',w',hrun,r1,r2⟩:=run_append_arg_grows (P:=P) w t ty e i z size bytes ht hi hz hsize hby hzs hsz b n cap olds hlo (holds b rfl) ad m c news hn hc hfull b1 b2;exact ⟨v',w',hrun,r1,r2⟩
 | none=>
  obtain ⟨rfl,rfl⟩:=hnone rfl;obtain rfl:olds=[]:=List.eq_nil_of_length_eq_zero (by simpa using hlo)
  obtain ⟨v',w',hrun,r1,r2,_⟩:=run_append_own (P:=P) w w.heap.size t ty e i z size bytes ht hi hz hsize hby hzs hsz (.slice none 0 0) 0 [] (World.ownsRow_nil w _ e size) ad m c news hn hc h1c b1 b2 (Nat.le_refl _);exact ⟨v',w',hrun,r1,r2⟩
theorem zdc {ops:Array Oper} {o:Oper} {a:Act} {K:Act->World->Prop} {Q:Exit->Act->World->Prop} {E:Prop} (hgd:o.guard=none) (s x:Operand) (t:TypeId)
  (ho:o.op=.call { callee:=.builtin .append,args:=#[s,x],argTypes:=#[t,t] })
  (e:TypeId) (i:TypeInfo) (z:Value) (size bytes:Nat) (ht:P.underlying t=some (.slice e)) (hi:P.info? e=some i) (hz:i.zero=some z)
  (hsize:i.size=size) (hby:i.bytes=bytes) (hzs:z.cells.size=size) (hsz:0<size)
  (ao:Option Addr) (n cap:Nat) (olds:List Value) (hs:a.eval s=.slice ao n cap) (hnone:ao=none->n=0/\cap=0) (hlo:olds.length=n * size) (holds:∀ b,ao=some b->∀ j u,olds[j]? = some u->w.cell? (b.add j)=some u)
  (ad:Addr) (m c:Nat) (news:List Value) (hx:a.eval x=.slice (some ad) m c) (hn:news.length=m * size) (hc:∀ j u,news[j]? = some u->w.cell? (ad.add j)=some u) (h1c:∀ u∈news,u.oneCell'=true)
  (hfull:cap<n+m) (b1:n+m<=maxLen) (b2:(n+m) * bytes<=140737488355328)
  (h:∀ v' w',w'.ownsRow w.heap.size e size v' (n+m) (olds++news)->w.grownBy w' none->K (a.put o.dst v') w'):
  if Region.wanted o (yielded ops a.tmps)=true then Oper.wp P o a w K Q else E:=by
 have hw:Region.wanted o (yielded ops a.tmps)=true:=by simp [Region.wanted,hgd]
 rw [if_pos hw];obtain ⟨v',w',hr,h2,h3⟩:=zbf (P:=P) (w:=w) t o.type e i z size bytes ht hi hz hsize hby hzs hsz ao n cap olds hnone hlo holds ad m c news hn hc h1c hfull b1 b2;unfold Oper.wp execOp;simp only [ho,resolve,invoke,builtin,Sem.run_bind,Sem.run_pure,Result.andThen_ok,List.map_toArray,List.map_cons,List.map_nil,hs,hx,hr];exact h v' w' h2 h3
end
def partAt (A:Option Addr) (a b:Nat):Option Addr:=if b=a then A else A.map fun p=>⟨p.block,p.off+a * 5,none⟩
theorem zdn {ok:Nat->Prop} {W:World} {A:Option Addr} {c:Nat} {l:List GV} (h:LstV ok W (.slice A l.length c) l) (a b:Nat) (hab:a<=b) (hb:b<=l.length):LstV ok W (.slice (partAt A a b) (b - a) (b - a)) ((l.drop a).take (b - a)):=by
 have hlen:((l.drop a).take (b - a)).length=b - a:=by simp;omega
 rcases h with ⟨rfl,e⟩ | ⟨b',o',c',e,h1,h2,hK,hE⟩
 ·cases e
  simp at hb
  subst hb;obtain rfl:a=0:=by omega
  exact .inl ⟨by simp,by simp [partAt]⟩
 ·simp only [Value.slice.injEq] at e
  obtain ⟨rfl,_,rfl⟩:=e;by_cases hba:b=a
  ·subst hba
   exact .inr ⟨b',o',0,by simp [partAt],by simp,by decide,hK,by simp [GV.els]⟩
  ·refine .inr ⟨b',o'+a * 5,b - a,by simp [partAt,hba,hlen],by omega,by omega,hK,GV.els_of fun i g hi=>?_⟩
   rw [List.getElem?_take] at hi;split at hi
   ·rw [List.getElem?_drop] at hi
    have:=GV.els_get hE hi
    rwa [show o'+a * 5+i * 5=o'+(a+i) * 5 by omega]
   ·cases hi
theorem zds {ok:Nat->Prop} {W:World} {A:Option Addr} {n c:Nat} {l:List GV} (h:LstV ok W (.slice A n c) l):(A=none->n=0/\c=0)/\∀ p,A=some p->p.spot=none:=by
 rcases h with ⟨rfl,e⟩ | ⟨b',o',c',e,h1,h2,hK,hE⟩
 ·cases e;exact ⟨fun _=>⟨rfl,rfl⟩,fun p h=>by cases h⟩
 ·simp only [Value.slice.injEq] at e
  obtain ⟨rfl,_,rfl⟩:=e;exact ⟨(fun h=>by cases h),(fun p h=>by cases h;rfl)⟩
theorem zdl (A:Option Addr) (n c a b:Nat) (w:World) (hA:∀ p,A=some p->p.spot=none) (hab:a<=b) (hb:b<=c) (hc:c<=maxLen) (_hz:A=none->c=0):
  Calls Tryz.prog 149 #[.slice A n c,.int .i64 a,.int .i64 b] w fun e w'=>e=.returned (.slice (partAt A a b) (b - a) (b - a))/\w=w':=by
 unfold maxLen at hc;have hrun:∀ W,(Instr.slice 26 (.slice A n c) (some (.int .i64 a)) (some (.int .i64 b)) (some (.int .i64 b))).run Tryz.prog W=.ok (.slice (partAt A a b) (b - a) (b - a)) W:=fun W=>by
  rw [run_slice_lhm (ht:=Tryz.underlying26) (h0:=by omega) (h1:=by omega) (h2:=by omega) (h3:=by omega)]
  by_cases e:b=a
  ·subst e;simp [go_sem,partAt]
  ·cases A with
   | none=>simp [go_sem,partAt]
   | some p=>
    obtain ⟨pb,po,ps⟩:=p;have:=hA _ rfl;simp only at this;subst this;have hz:(b:Int)≠a:=by omega
    simp [go_sem,partAt,e,Addr.add]
    try omega
 have HR:=hid hrun;generalize partAt A a b=D at *;go_enter Tryz.func149,Tryz.ntmps149
 go_wp2
 go_ret
 exact ⟨rfl,rfl⟩
open Go Go.RowKit
set_option linter.unusedVariables false
set_option linter.unusedSimpArgs false
theorem RowL.app {ok:Nat->Prop} {W:World}:∀ {l:List GV} {xs:List Value} {l':List GV} {xs':List Value},RowL ok W l xs->RowL ok W l' xs'->RowL ok W (l++l') (xs++xs')
 | [],_,_,_,h,h'=>by rw [show _=([]:List Value) from h];exact h'
 | _ :: _,_,_,_,⟨L,O,ys,e,hL,hO,hr⟩,h'=>⟨L,O,ys++_,by rw [e,List.append_assoc],hL,hO,RowL.app hr h'⟩
structure Lc (ok:Nat->Prop) (W:World) (A:Option Addr) (l:List GV) (xs:List Value):Prop where
 row:RowL ok W l xs
 len:xs.length=l.length * 5
 cells:∀ ad,A=some ad->ad.block<W.heap.size/\∀ j u,xs[j]? = some u->W.cell? (ad.add j)=some u
 one:∀ u∈xs,u.oneCell'=true
theorem Lc.of {ok:Nat->Prop} {W:World} {A:Option Addr} {n c:Nat} {l:List GV} (h:LstV ok W (.slice A n c) l):∃ xs,Lc ok W A l xs:=by
 rcases h with ⟨rfl,e⟩ | ⟨b',o',c',e,h1,h2,hK,hE⟩
 ·cases e
  exact ⟨[],rfl,rfl,(fun ad h=>by cases h),(fun u h=>by cases h)⟩
 ·simp only [Value.slice.injEq] at e
  obtain ⟨rfl,_,rfl⟩:=e;obtain ⟨xs,hr,hl,hc,h1⟩:=zeJ hE;refine ⟨xs,hr,hl,fun ad h=>?_,h1⟩
  cases h
  refine ⟨hK.lt,fun j u hj=>?_⟩
  have e2:(⟨b',o',none⟩:Addr).add j =⟨b',o'+j,none⟩:=by unfold Addr.add;split<;>simp_all
  rw [e2];exact hc j u hj
theorem zeU (a:Addr) (j:Nat):(a.add j).block=a.block:=by unfold Addr.add;split<;>rfl
theorem Lc.later {ok:Nat->Prop} {W W':World} {A:Option Addr} {l:List GV} {xs:List Value} (h:Lc ok W A l xs) (hb:Below W.heap.size W W'):Lc ok W' A l xs:=
 ⟨h.row.keep (From.of_below hb) (fun _ h _=>h),h.len,fun ad e=>⟨Nat.lt_of_lt_of_le (h.cells ad e).1 hb.size,fun j u hj=>(hb.cell (by rw [zeU];exact (h.cells ad e).1)).trans ((h.cells ad e).2 j u hj)⟩,h.one⟩
theorem zjf {w:World} {base base':Nat} {e:TypeId} {size:Nat} {v:Value} {n:Nat} {xs:List Value} (h:w.ownsRow base e size v n xs) (hb:base'<=base):w.ownsRow base' e size v n xs:=
 ⟨h.1,h.2.imp id fun ⟨g,cap,cur,h1,h2,h3⟩=>⟨g,cap,cur,h1,Nat.le_trans hb h2,h3⟩⟩
structure Sl (w W:World) (v:Value) (n:Nat) (l:List GV) (xs:List Value):Prop where
 below:Below w.heap.size w W
 own:W.ownsRow w.heap.size 29 5 v n xs
 row:RowL (fun k=>k<w.heap.size) W l xs
theorem Sl.first {w W W':World} {v':Value} {n:Nat} {l l':List GV} {xs news:List Value} (hb:Below w.heap.size w W) (hl:RowL (fun k=>k<w.heap.size) W l xs) (hn:RowL (fun k=>k<w.heap.size) W l' news)
  (hown:W'.ownsRow W.heap.size 29 5 v' n (xs++news)) (hg:W.grownBy W' none):Sl w W' v' n (l++l') (xs++news):=by
 have hF:From (fun k=>k<w.heap.size) W W':=fun k _ hlt=>hg.block k hlt (fun e=>by cases e)
 exact ⟨hb.grown hg hb.size (fun k e=>by cases e),zjf hown hb.size,(hl.app hn).keep hF (fun _ h _=>h)⟩
theorem Sl.app {w W W':World} {v v':Value} {n m:Nat} {l l':List GV} {xs news:List Value} (h:Sl w W v n l xs) (hr:RowL (fun k=>k<w.heap.size) W l' news)
  (hown:W'.ownsRow w.heap.size 29 5 v' (n+m) (xs++news)) (hg:W.grownBy W' v.ownBlock):Sl w W' v' (n+m) (l++l') (xs++news):=by
 have hF:From (fun k=>k<w.heap.size) W W':=fun k hk hlt=>hg.block k hlt (fun e=>by have:=(h.own.lt k e.symm).1;omega)
 exact ⟨h.below.grown hg h.below.size (fun k hk=>(h.own.lt k hk).1),hown,(h.row.app hr).keep hF (fun _ h _=>h)⟩
theorem Sl.done {w W:World} {v:Value} {l:List GV} {xs:List Value} (h:Sl w W v l.length l xs):LstV (fun _=>True) W v l:=
 LstV.of_own h.own (h.row.keep (From.refl _ _) fun _ _ _=>trivial) fun _ _=>trivial
def ListOut (l:List GV) (w:World) (e:Ending) (w':World):Prop:=∃ A c,e=.returned (.slice A l.length c)/\LstV (fun _=>True) w' (.slice A l.length c) l/\Below w.heap.size w w'
theorem zhC {l:List GV} {w wb w':World} {v:Value} {n:Nat} {xs:List Value} (hw:Below w.heap.size w wb) (h:Sl wb w' v n l xs) (hn:n=l.length):ListOut l w (.returned v) w':=by
 subst hn;have hd:=h.done;obtain ⟨A,c,rfl⟩:=zaf hd;exact ⟨A,c,rfl,hd,hw.trans (h.below.mono hw.size)⟩
theorem zeO (A:Option Addr) (c i:Nat) (l:List GV) (g AL AO cL cO) (w:World) (hL:LstV (fun _=>True) w (.slice A l.length c) l) (hv:Vl w g AL AO cL cO) (hi:i<=l.length) (hn:l.length<=1000000000):
  Calls Tryz.prog 138 #[.slice A l.length c,.int .i64 i,.agg #[.int .u8 g.kq,.int .i64 g.num,.string g.str,.slice AL g.il.length cL,.slice AO g.vz.length cO]] w (ListOut (insL l i g) w):=by
 obtain ⟨hA0,hA1⟩:=zds hL;obtain ⟨_,_,he,hc1,hc2,_⟩:=hL.form;simp only [Value.slice.injEq] at he;obtain ⟨rfl,_,rfl⟩:=he;have hwb:=zaa w (.cells #[.int .u8 g.kq,.int .i64 g.num,.string g.str,.slice AL g.il.length cL,.slice AO g.vz.length cO] 29);have hok:=hL.keep (ok':=fun k=>k<(w.alloc (.cells #[.int .u8 g.kq,.int .i64 g.num,.string g.str,.slice AL g.il.length cL,.slice AO g.vz.length cO] 29)).heap.size) (From.of_below hwb) (fun k _ h=>by simp;omega)
 obtain ⟨xs1,h1⟩:=Lc.of (zdn hok 0 i (Nat.zero_le _) hi);obtain ⟨xs3,h3⟩:=Lc.of (zdn hok i l.length hi (Nat.le_refl _));have hp1:=fun W=>zdl A l.length c 0 i W hA1 (Nat.zero_le _) (by omega) hc2 (fun e=>(hA0 e).2)
 have hp3:=fun W=>zdl A l.length c i l.length W hA1 hi hc1 hc2 (fun e=>(hA0 e).2)
 have hz1:partAt A 0 i=none->i=0/\i=0:=fun e=>by
  have:A=none:=by unfold partAt at e;split at e<;>simpa using e
  have:=hA0 this;omega
 have hz3:partAt A i l.length=none->l.length - i=0:=fun e=>by
  have:A=none:=by unfold partAt at e;split at e<;>simpa using e
  have:=hA0 this;omega
 have hx:LstV (fun k=>k<(w.alloc (.cells #[.int .u8 g.kq,.int .i64 g.num,.string g.str,.slice AL g.il.length cL,.slice AO g.vz.length cO] 29)).heap.size) (w.alloc (.cells #[.int .u8 g.kq,.int .i64 g.num,.string g.str,.slice AL g.il.length cL,.slice AO g.vz.length cO] 29)) (.slice AL g.il.length cL) g.il/\ObjV (fun k=>k<(w.alloc (.cells #[.int .u8 g.kq,.int .i64 g.num,.string g.str,.slice AL g.il.length cL,.slice AO g.vz.length cO] 29)).heap.size) (w.alloc (.cells #[.int .u8 g.kq,.int .i64 g.num,.string g.str,.slice AL g.il.length cL,.slice AO g.vz.length cO] 29)) (.slice AO g.vz.length cO) g.keys g.vz:=⟨hv.lst.keep (From.of_below hwb) (fun k _ h=>by simp;omega),hv.obj.keep (From.of_below hwb) (fun k _ h=>by simp;omega)⟩
 have hfin:∀ W v,Sl (w.alloc (.cells #[.int .u8 g.kq,.int .i64 g.num,.string g.str,.slice AL g.il.length cL,.slice AO g.vz.length cO] 29)) W v (i+1+(l.length - i)) (((l.drop 0).take (i - 0)++[g])++(l.drop i).take (l.length - i)) ((xs1++chunk g (.slice AL g.il.length cL) (.slice AO g.vz.length cO))++xs3)->ListOut (insL l i g) w (.returned v) W:=fun W v h=>by
  have e1:(((l.drop 0).take (i - 0)++[g])++(l.drop i).take (l.length - i))=insL l i g:=by
   rw [List.take_of_length_le (l:=l.drop i) (by simp)]
   simp [insL]
  rw [e1] at h;exact zhC hwb h (by rw [zkx l i g hi];omega)
 have hl1:xs1.length=i * 5:=by rw [h1.len];simp;omega
 have hl3:xs3.length=(l.length - i) * 5:=by rw [h3.len];simp
 obtain ⟨i1,hi1,hy0,hy1,hy2⟩:=info_parts infoVal;have HI1:=hid (And.intro hi1 (And.intro hy0 (And.intro hy1 hy2)));simp only [Nat.sub_zero,Int.ofNat_zero] at hp1;have HP1:=hid hp1;have HP3:=hid hp3;have H1:=hid h1;have H3:=hid h3;have HZ:=hid (And.intro hz1 (And.intro hz3 (And.intro hl1 hl3)));have HX:=hid hx;have HFIN:=hid hfin;have B1:=hid (show (i<i+1/\i+1<=maxLen/\(i+1) * 80<=140737488355328)/\(i+1+(l.length - i)<=maxLen/\(i+1+(l.length - i)) * 80<=140737488355328) by unfold maxLen;omega)
 have BX:=hid (Whole.new w 29 #[.int .u8 g.kq,.int .i64 g.num,.string g.str,.slice AL g.il.length cL,.slice AO g.vz.length cO]);have hba:Below (w.alloc (.cells #[.int .u8 g.kq,.int .i64 g.num,.string g.str,.slice AL g.il.length cL,.slice AO g.vz.length cO] 29)).heap.size (w.alloc (.cells #[.int .u8 g.kq,.int .i64 g.num,.string g.str,.slice AL g.il.length cL,.slice AO g.vz.length cO] 29)) ((w.alloc (.cells #[.int .u8 g.kq,.int .i64 g.num,.string g.str,.slice AL g.il.length cL,.slice AO g.vz.length cO] 29)).alloc (.cells #[.int .u8 g.kq,.int .i64 g.num,.string g.str,.slice AL g.il.length cL,.slice AO g.vz.length cO] 29)).drew:=(zaa _ _).drew;have h1a:=h1.later hba;have HA1:=hid (fun b e=>(h1a.cells b e).2)
 have HA2:=hid hba;have HA3:=hid h1a.row;have HA4:=hid (show RowL (fun k=>k<(w.alloc (.cells #[.int .u8 g.kq,.int .i64 g.num,.string g.str,.slice AL g.il.length cL,.slice AO g.vz.length cO] 29)).heap.size) ((w.alloc (.cells #[.int .u8 g.kq,.int .i64 g.num,.string g.str,.slice AL g.il.length cL,.slice AO g.vz.length cO] 29)).alloc (.cells #[.int .u8 g.kq,.int .i64 g.num,.string g.str,.slice AL g.il.length cL,.slice AO g.vz.length cO] 29)).drew [g] (chunk g (.slice AL g.il.length cL) (.slice AO g.vz.length cO)) from ⟨_,_,[],by simp,hx.1.keep (From.of_below hba) (fun _ h _=>h),hx.2.keep (From.of_below hba) (fun _ h _=>h),rfl⟩)
 have HA5:=hid (show ∀ (j:Nat) (u:Value),(chunk g (.slice AL g.il.length cL) (.slice AO g.vz.length cO))[j]? = some u->((w.alloc (.cells #[.int .u8 g.kq,.int .i64 g.num,.string g.str,.slice AL g.il.length cL,.slice AO g.vz.length cO] 29)).alloc (.cells #[.int .u8 g.kq,.int .i64 g.num,.string g.str,.slice AL g.il.length cL,.slice AO g.vz.length cO] 29)).drew.cell? ((⟨w.heap.size+1,0,none⟩:Addr).add j)=some u from row_cells' (w.alloc (.cells #[.int .u8 g.kq,.int .i64 g.num,.string g.str,.slice AL g.il.length cL,.slice AO g.vz.length cO] 29)) _ (by simp) (chunk g (.slice AL g.il.length cL) (.slice AO g.vz.length cO)) 29)
 have BXC:=hid (fun (W:World) (hb:Below (w.alloc (.cells #[.int .u8 g.kq,.int .i64 g.num,.string g.str,.slice AL g.il.length cL,.slice AO g.vz.length cO] 29)).heap.size (w.alloc (.cells #[.int .u8 g.kq,.int .i64 g.num,.string g.str,.slice AL g.il.length cL,.slice AO g.vz.length cO] 29)) W)=>(fun q:Five W w.heap.size _ _ _ _ _=>And.intro q.c0 (And.intro q.c1 (And.intro q.c2 (And.intro q.c3 q.c4)))) (BX.out.below hb BX.out.lt).five)
 clear hba h1a hwb;clear hi1 hy0 hy1 hy2 hp1 hp3 h1 h3 hz1 hz3 hl1 hl3 hx hfin hok hA0 hA1 hL hv;generalize partAt A 0 i=D1 at *;generalize partAt A i l.length=D3 at *;generalize insL l i g=lz at *;generalize l.length=n at *;go_enter Tryz.func138,Tryz.ntmps138
 go_wp2
 go_region_held3 (fun W=>W.cell? ⟨w.heap.size,0,none⟩=some (.int .u8 g.kq)/\W.cell? ⟨w.heap.size,1,none⟩=some (.int .i64 g.num)/\W.cell? ⟨w.heap.size,2,none⟩=some (.string g.str)/\W.cell? ⟨w.heap.size,3,none⟩=some (.slice AL g.il.length cL)/\W.cell? ⟨w.heap.size,4,none⟩=some (.slice AO g.vz.length cO))
  (first | exact BXC.out _ HS5.out.below | exact BXC.out _ HS3.out.below | exact BXC.out _ (zaa _ _).drew | exact BXC.out _ (Below.refl _ _).drew)
  (first
   | (go_at_call 149;((with_reducible refine (HP1.out _).mono ?_);rintro e w' ⟨rfl,rfl⟩))
   | (go_at_call 149;((with_reducible refine (HP3.out _).mono ?_);rintro e w' ⟨rfl,rfl⟩))
   | (refine zdc rfl (.tmp 9) (.tmp 11) 26 rfl 29 i1 _ 5 80 Tryz.underlying26 HI1.out.1 HI1.out.2.1 HI1.out.2.2.1 HI1.out.2.2.2 rfl (by decide) D1 i i xs1 rfl HZ.out.1 HZ.out.2.2.1 HA1.out ⟨w.heap.size+1,0,none⟩ 1 1 (chunk g (.slice AL g.il.length cL) (.slice AO g.vz.length cO)) rfl rfl HA5.out (by simp [chunk,Value.oneCell']) B1.out.1.1 B1.out.1.2.1 B1.out.1.2.2 ?_;intro v3 W3 hown3 hgrow3;obtain ⟨A3,c3,rfl⟩:=zad hown3;have HS3:=hid (Sl.first HA2.out HA3.out HA4.out hown3 hgrow3);clear hown3 hgrow3)
   | (refine zdb rfl (.tmp 12) (.tmp 17) 26 rfl (w.alloc (.cells #[.int .u8 g.kq,.int .i64 g.num,.string g.str,.slice AL g.il.length cL,.slice AO g.vz.length cO] 29)).heap.size 29 i1 _ 5 80 Tryz.underlying26 HI1.out.1 HI1.out.2.1 HI1.out.2.2.1 HI1.out.2.2.2 rfl (by decide) (.slice A3 (i+1) c3) (i+1) _ rfl HS3.out.own D3 (n - i) (n - i) xs3 rfl HZ.out.2.1 HZ.out.2.2.2 (fun ad e=>((H3.out.later HS3.out.below).cells ad e).2) H3.out.one B1.out.2.1 B1.out.2.2 HS3.out.below.size ?_;intro v5 W5 hown5 hgrow5;obtain ⟨A5,c5,rfl⟩:=zad hown5;have HS5:=hid (HS3.out.app (H3.out.later HS3.out.below).row hown5 hgrow5);clear hown5 hgrow5))
 all_goals
  go_wp2
  go_ret
  exact HFIN.out _ _ HS5.out
theorem zd5 {W:World} (ty:TypeId) (A A':Option Addr) (n m:Nat) (l1 l2:List GV) (h1:LstV (fun _=>True) W (.slice A n n) l1) (h2:LstV (fun _=>True) W (.slice A' m m) l2) (hn:n+m<=1000000000):
  ∃ B d w',(Builtin.append_ #[26,26] ty #[.slice A n n,.slice A' m m]).run Tryz.prog W=.ok (.slice B (n+m) d) w'/\LstV (fun _=>True) w' (.slice B (n+m) d) (l1++l2)/\Below W.heap.size W w':=by
 obtain ⟨hA0,_⟩:=zds h1;obtain ⟨hA0',_⟩:=zds h2;obtain ⟨_,_,he,hc1,hc2,_⟩:=h1.form;obtain ⟨_,_,he',hc1',hc2',_⟩:=h2.form;simp only [Value.slice.injEq] at he he';obtain ⟨rfl,hnl,hcn⟩:=he;obtain ⟨rfl,hml,hcm⟩:=he';obtain ⟨i1,hi1,hy0,hy1,hy2⟩:=info_parts infoVal;obtain ⟨xs1,g1⟩:=Lc.of (h1.keep (ok':=fun k=>k<W.heap.size) (From.refl _ _) (fun _ _ h=>h))
 obtain ⟨xs2,g2⟩:=Lc.of (h2.keep (ok':=fun k=>k<W.heap.size) (From.refl _ _) (fun _ _ h=>h))
 by_cases hm:m=0
 ·obtain rfl:l2=[]:=List.eq_nil_of_length_eq_zero (by omega)
  subst hm;refine ⟨A,n,W,?_,by simpa using h1,Below.refl _ _⟩
  exact run_append_nothing W 26 26 ty 29 i1 Tryz.underlying26 hi1 A n n (Nat.le_refl _) (.slice A' 0 0) ⟨.inl ⟨_,Tryz.underlying26⟩,fun w'=>by simp [Builtin.lenOf],by cases A'<;>simp [Builtin.firstCells,loadCells,loadCellsFrom],by cases A'<;>simp [Builtin.firstCells,loadCells,loadCellsFrom],by simp,fun u hu=>by cases hu⟩
 ·cases A' with
  | none=>have:=hA0' rfl;omega
  | some ad=>
   obtain ⟨v',w',hr,hown,hg⟩:=zbf (P:=Tryz.prog) (w:=W) 26 ty 29 i1 _ 5 80 Tryz.underlying26 hi1 hy0 hy1 hy2 rfl (by decide) A n n xs1 (fun e=>⟨(hA0 e).1,(hA0 e).1⟩) (by rw [g1.len,<- hnl]) (fun b e=>(g1.cells b e).2) ad m m xs2 (by rw [g2.len,<- hml]) ((g2.cells ad rfl).2) g2.one (by omega) (by unfold maxLen;omega) (by omega)
   have hs:=Sl.first (Below.refl _ W) g1.row g2.row hown hg;rw [show n+m=(l1++l2).length by simp;omega] at hs ⊢
   have hd:=hs.done;obtain ⟨B,d,rfl⟩:=zaf hd;exact ⟨B,d,w',hr,hd,hs.below⟩
theorem zcZ {ops:Array Oper} {rest:List Oper} {o:Oper} {a:Act} {Q:Exit->Act->World->Prop} {w:World} (hgd:o.guard=none) (s x:Operand)
  (ho:o.op=.call { callee:=.builtin .append,args:=#[s,x],argTypes:=#[26,26] })
  (A A':Option Addr) (n m:Nat) (l1 l2:List GV) (hs:a.eval s=.slice A n n) (hx:a.eval x=.slice A' m m) (h1:LstV (fun _=>True) w (.slice A n n) l1) (h2:LstV (fun _=>True) w (.slice A' m m) l2) (hn:n+m<=1000000000)
  (h:∀ B d w',LstV (fun _=>True) w' (.slice B (n+m) d) (l1++l2)->Below w.heap.size w w'->wpList Tryz.prog ops Q rest (a.put o.dst (.slice B (n+m) d)) w'):wpList Tryz.prog ops Q (o :: rest) a w:=by
 refine wpList_plain hgd fun K hK=>?_
 obtain ⟨B,d,w',hr,h3,h4⟩:=zd5 o.type A A' n m l1 l2 h1 h2 hn;unfold Oper.wp execOp;simp only [ho,resolve,invoke,builtin,Sem.run_bind,Sem.run_pure,Result.andThen_ok,List.map_toArray,List.map_cons,List.map_nil,hs,hx,hr];exact hK _ _ (h B d w' h3 h4)
theorem zcj (A:Option Addr) (c i:Nat) (l:List GV) (w:World) (hL:LstV (fun _=>True) w (.slice A l.length c) l) (hi:i<l.length) (hn:l.length<=1000000000):
  Calls Tryz.prog 139 #[.slice A l.length c,.int .i64 i] w (ListOut (remL l i) w):=by
 obtain ⟨hA0,hA1⟩:=zds hL;obtain ⟨_,_,he,hc1,hc2,_⟩:=hL.form;simp only [Value.slice.injEq] at he;obtain ⟨rfl,_,rfl⟩:=he;have H1:=hid (zdn hL 0 i (Nat.zero_le _) (by omega))
 have H3:=hid (zdn hL (i+1) l.length (by omega) (Nat.le_refl _))
 have hp1:=fun W=>zdl A l.length c 0 i W hA1 (Nat.zero_le _) (by omega) hc2 (fun e=>(hA0 e).2)
 have hp3:∀ W,Calls Tryz.prog 149 #[.slice A l.length c,.int .i64 ((i:Int)+1),.int .i64 l.length] W fun e w'=>e=.returned (.slice (partAt A (i+1) l.length) (l.length - (i+1)) (l.length - (i+1)))/\W=w':=fun W=>zdl A l.length c (i+1) l.length W hA1 (by omega) hc1 hc2 (fun e=>(hA0 e).2)
 simp only [Nat.sub_zero,Int.ofNat_zero] at hp1;have hlen:i+(l.length - (i+1))=(remL l i).length:=by rw [zgb l i hi];omega
 have hfin:∀ W B d,LstV (fun _=>True) W (.slice B (i+(l.length - (i+1))) d) ((l.drop 0).take (i - 0)++(l.drop (i+1)).take (l.length - (i+1)))->Below w.heap.size w W->ListOut (remL l i) w (.returned (.slice B (i+(l.length - (i+1))) d)) W:=fun W B d h hb=>by
  have e1:(l.drop 0).take (i - 0)++(l.drop (i+1)).take (l.length - (i+1))=remL l i:=by
   rw [List.take_of_length_le (l:=l.drop (i+1)) (by simp)]
   simp [remL]
  rw [e1,hlen] at h;rw [hlen];exact ⟨B,d,rfl,h,hb⟩
 have HFIN:=hid hfin;have HP1:=hid hp1;have HP3:=hid hp3;unfold maxLen at hc2;clear hfin hp1 hp3 hA0 hA1 hL hlen;simp only [Nat.sub_zero] at H1;generalize partAt A 0 i=D1 at *;generalize partAt A (i+1) l.length=D3 at *;generalize remL l i=lz at *;generalize l.length=n at *;go_enter Tryz.func139,Tryz.ntmps139
 go_wp2_with (first
  | (go_at_call 149;((with_reducible refine (HP1.out _).mono ?_);rintro e w' ⟨rfl,rfl⟩))
  | (go_at_call 149;((with_reducible refine (HP3.out _).mono ?_);rintro e w' ⟨rfl,rfl⟩))
  | (at_builtin;refine zcZ rfl (.tmp 7) (.tmp 13) rfl D1 D3 i (n - (i+1)) _ _ rfl rfl H1.out H3.out (by omega) ?_;intro B d W5 hl5 hb5;have H5:=hid (HFIN.out _ _ _ hl5 hb5);clear hl5 hb5))
 go_ret
 exact H5.out
def withinB (i n:Int):Bool:=decide (0<=i/\i<n)
theorem zeo (i n:Int) (w:World):Calls Tryz.prog 132 #[.int .i64 i,.int .i64 n] w fun e w'=>e=.returned (.bool (withinB i n))/\w=w':=by
 by_cases h0:0<=i<;>by_cases h1:i<n
 ·rw [show withinB i n=true by simp [withinB,h0,h1]]
  go_enter Tryz.func132,Tryz.ntmps132
  go_wp2
  go_ret
  exact ⟨rfl,rfl⟩
 all_goals
  rw [show withinB i n=false by simp [withinB,h0,h1]]
  go_enter Tryz.func132,Tryz.ntmps132
  go_wp2
  go_ret
  exact ⟨rfl,rfl⟩
def chk (n:Int) (k:Nat) (i j:Int):Int:=
 if k=4 then (if 0<=i/\i<=n then 0 else 32) else if k=5\/k=6 then (if withinB i n=true then 0 else 32) else if k=7 then (if (withinB i n && withinB j n)=true then 0 else 32) else 31
theorem zfv (N:Int) (k:Nat) (i j:Int) (A AL AO:Option Addr) (n c nL cL nO cO:Nat) (s vs t:ByteArray) (m vk vn:Int) (w:World):
  Calls Tryz.prog 110 #[.int .i64 N,.agg #[.int .u8 k,.slice A n c,.string s,.int .i64 i,.int .i64 j,.int .i64 m,.int .u8 vk,.int .i64 vn,.string vs,.slice AL nL cL,.slice AO nO cO,.string t]] w fun e w'=>e=.returned (.int .u16 (chk N k i j))/\Below w.heap.size w w':=by
 have hb:=zaa w (.cells #[.int .u8 k,.slice A n c,.string s,.int .i64 i,.int .i64 j,.int .i64 m,.int .u8 vk,.int .i64 vn,.string vs,.slice AL nL cL,.slice AO nO cO,.string t] 48);have HWI:=hid (fun W=>zeo i N W)
 have HWJ:=hid (fun W=>zeo j N W)
 generalize hr:chk N k i j=r;have HR:=hid hr;have HB:=hid hb;clear hr hb;unfold chk at HR;generalize withinB i N=bi at *;generalize withinB j N=bj at *;rcases (show k=4\/k=5\/k=6\/k=7\/(k≠4/\k≠5/\k≠6/\k≠7) by omega) with hk | hk | hk | hk | ⟨h4,h5,h6,h7⟩
 ·have g4:((k:Int) == 4)=true:=by simp;omega
  rw [if_pos hk] at HR;have h:=HR.out;clear HR hk;by_cases h0:0<=i<;>by_cases h1:i<=N
  ·obtain rfl:0=r:=by simpa [h0,h1] using h
   clear h;go_enter Tryz.func110,Tryz.ntmps110
   go_wp2
   go_ret
   exact ⟨rfl,HB.out⟩
  all_goals
   obtain rfl:32=r:=by simpa [h0,h1] using h
   clear h;go_enter Tryz.func110,Tryz.ntmps110
   go_wp2
   go_ret
   exact ⟨rfl,HB.out⟩
 ·have g4:((k:Int) == 4)=false:=by simp;omega
  have g5:((k:Int) == 5)=true:=by simp;omega
  have HK:=hid (show (if bi=true then (0:Int) else 32)=r by have h:=HR.out;subst hk;simpa using h)
  clear HR hk;cases bi
  all_goals
   go_enter Tryz.func110,Tryz.ntmps110
   go_wp2_with (go_at_call 132;((with_reducible refine (HWI.out _).mono ?_);rintro e w' ⟨rfl,rfl⟩))
   go_ret
   exact ⟨zgG (by have h:=HK.out;simpa using h),HB.out⟩
 ·have g4:((k:Int) == 4)=false:=by simp;omega
  have g5:((k:Int) == 5)=false:=by simp;omega
  have g6:((k:Int) == 6)=true:=by simp;omega
  have HK:=hid (show (if bi=true then (0:Int) else 32)=r by have h:=HR.out;subst hk;simpa using h)
  clear HR hk;cases bi
  all_goals
   go_enter Tryz.func110,Tryz.ntmps110
   go_wp2_with (go_at_call 132;((with_reducible refine (HWI.out _).mono ?_);rintro e w' ⟨rfl,rfl⟩))
   go_ret
   exact ⟨zgG (by have h:=HK.out;simpa using h),HB.out⟩
 ·have g4:((k:Int) == 4)=false:=by simp;omega
  have g5:((k:Int) == 5)=false:=by simp;omega
  have g6:((k:Int) == 6)=false:=by simp;omega
  have g7:((k:Int) == 7)=true:=by simp;omega
  have HK:=hid (show (if (bi && bj)=true then (0:Int) else 32)=r by have h:=HR.out;subst hk;simpa using h)
  clear HR hk;cases bi<;>cases bj
  all_goals
   go_enter Tryz.func110,Tryz.ntmps110
   go_wp2_with (first | (go_at_call 132;((with_reducible refine (HWI.out _).mono ?_);rintro e w' ⟨rfl,rfl⟩)) | (go_at_call 132;((with_reducible refine (HWJ.out _).mono ?_);rintro e w' ⟨rfl,rfl⟩)))
   go_ret
   exact ⟨zgG (by have h:=HK.out;simpa using h),HB.out⟩
 ·have g4:((k:Int) == 4)=false:=by simp;omega
  have g5:((k:Int) == 5)=false:=by simp;omega
  have g6:((k:Int) == 6)=false:=by simp;omega
  have g7:((k:Int) == 7)=false:=by simp;omega
  obtain rfl:31=r:=by have h:=HR.out;simpa [h4,h5,h6,h7] using h
  clear HR h4 h5 h6 h7;go_enter Tryz.func110,Tryz.ntmps110
  go_wp2
  go_ret
  exact ⟨rfl,HB.out⟩
def ListIn (l:List GV) (A:Option Addr) (c:Nat) (w:World):Prop:=LstV (fun _=>True) w (.slice A l.length c) l
theorem ListIn.later {l A c} {w w':World} (h:ListIn l A c w) (hb:Below w.heap.size w w'):ListIn l A c w':=LstV.keep (From.of_below hb) (fun _ h _=>h) h
theorem zjq (A0 c0 l) (k i j:Nat) (g) (A AL AO:Option Addr) (n c cL cO:Nat) (s t:ByteArray) (m:Int) (w) (hL:ListIn l A0 c0 w) (hv:Vl w g AL AO cL cO) (hok:okC l.length (⟨k,i,j,g⟩:Cm GV)) (hn:l.length<=1000000):
  Calls Tryz.prog 118 #[.slice A0 l.length c0,.agg #[.int .u8 k,.slice A n c,.string s,.int .i64 i,.int .i64 j,.int .i64 m,.int .u8 g.kq,.int .i64 g.num,.string g.str,.slice AL g.il.length cL,.slice AO g.vz.length cO,.string t]] w (ListOut (doL l ⟨k,i,j,g⟩) w):=by
 have H0:=hid (Whole.new w 48 #[.int .u8 k,.slice A n c,.string s,.int .i64 i,.int .i64 j,.int .i64 m,.int .u8 g.kq,.int .i64 g.num,.string g.str,.slice AL g.il.length cL,.slice AO g.vz.length cO,.string t]);have HB:=hid (zaa w (.cells #[.int .u8 k,.slice A n c,.string s,.int .i64 i,.int .i64 j,.int .i64 m,.int .u8 g.kq,.int .i64 g.num,.string g.str,.slice AL g.il.length cL,.slice AO g.vz.length cO,.string t] 48));have HL:=hid hL;have HV:=hid hv;clear hL hv;rcases hok with ⟨hk,hi⟩ | ⟨hk | hk,hi⟩ | ⟨hk,hi,hj⟩<;>simp only at hk hi
 ·rw [zld hk]
  have HW:=hid (fun W (hb:Below w.heap.size w W)=>zeO A0 c0 i l g AL AO cL cO W (HL.out.later hb) (HV.out.later hb) hi (by omega))
  have g4:((k:Int) == 4)=true:=by simp;omega
  simp only at HW ⊢;generalize insL l i g=lz at *;clear hk;go_enter Tryz.func118,Tryz.ntmps118
  go_wp2_with (go_at_call 138;refine (HW.out _ (zaa _ _)).mono ?_;rintro e w1 ⟨B,d,rfl,hl,hb⟩;have HO:=hid (And.intro hl ((zaa _ _).trans (hb.mono (by simp))));clear hl hb)
  go_ret
  exact ⟨B,d,rfl,HO.out.1,HO.out.2⟩
 ·rw [zlk hk]
  have HW:=hid (fun W (hb:Below w.heap.size w W)=>zcj A0 c0 i l W (HL.out.later hb) hi (by omega))
  have g4:((k:Int) == 4)=false:=by simp;omega
  have g5:((k:Int) == 5)=true:=by simp;omega
  simp only at HW ⊢;generalize remL l i=lz at *;clear hk;go_enter Tryz.func118,Tryz.ntmps118
  go_wp2_with (go_at_call 139;refine (HW.out _ (zaa _ _)).mono ?_;rintro e w1 ⟨B,d,rfl,hl,hb⟩;have HO:=hid (And.intro hl ((zaa _ _).trans (hb.mono (by simp))));clear hl hb)
  go_ret
  exact ⟨B,d,rfl,HO.out.1,HO.out.2⟩
 ·rw [zlc hk]
  have hrl:=zgb l i hi;have HW:=hid (fun W (hb:Below w.heap.size w W)=>zcj A0 c0 i l W (HL.out.later hb) hi (by omega))
  have HX:=hid (fun W B d (hb:Below w.heap.size w W) (hl:ListIn (remL l i) B d W)=>zeO B d i (remL l i) g AL AO cL cO W hl (HV.out.later hb) (by omega) (by omega))
  have g4:((k:Int) == 4)=false:=by simp;omega
  have g5:((k:Int) == 5)=false:=by simp;omega
  have g6:((k:Int) == 6)=true:=by simp;omega
  simp only at HW HX ⊢;generalize insL (remL l i) i g=lz at *;generalize remL l i=lr at *;have HC:=hid (fun (W:World) (hb:Below (w.alloc (.cells #[.int .u8 k,.slice A n c,.string s,.int .i64 i,.int .i64 j,.int .i64 m,.int .u8 g.kq,.int .i64 g.num,.string g.str,.slice AL g.il.length cL,.slice AO g.vz.length cO,.string t] 48)).heap.size (w.alloc (.cells #[.int .u8 k,.slice A n c,.string s,.int .i64 i,.int .i64 j,.int .i64 m,.int .u8 g.kq,.int .i64 g.num,.string g.str,.slice AL g.il.length cL,.slice AO g.vz.length cO,.string t] 48)) W)=>(fun q:Tw W w.heap.size _ _ _ _ _ _ _ _ _ _ _ _=>And.intro q.c3 (And.intro q.c6 (And.intro q.c7 (And.intro q.c8 (And.intro q.c9 q.c10))))) (H0.out.below hb H0.out.lt).tw)
  clear hk hrl;go_enter Tryz.func118,Tryz.ntmps118
  go_wp2
  go_region_held3 (fun W=>W.cell? ⟨w.heap.size,3,none⟩=some (.int .i64 i)/\W.cell? ⟨w.heap.size,6,none⟩=some (.int .u8 g.kq)/\W.cell? ⟨w.heap.size,7,none⟩=some (.int .i64 g.num)/\W.cell? ⟨w.heap.size,8,none⟩=some (.string g.str)/\W.cell? ⟨w.heap.size,9,none⟩=some (.slice AL g.il.length cL)/\W.cell? ⟨w.heap.size,10,none⟩=some (.slice AO g.vz.length cO))
   (first | exact HC.out _ (HO1.out.2.trans HO2.out.2.2) | exact HC.out _ HO1.out.2 | exact HC.out _ (Below.refl _ _).drew)
   (first
    | (go_at_call 139;refine (HW.out _ (zaa _ _).drew).mono ?_;rintro e w1 ⟨B,d,rfl,hl,hb⟩;have HO1:=hid (And.intro hl ((Below.refl _ _).drew.trans hb));clear hl hb)
    | (go_at_call 138;refine (HX.out _ _ _ ((zaa _ _).trans (HO1.out.2.mono (by simp))) HO1.out.1).mono ?_;rintro e w2 ⟨B2,d2,rfl,hl,hb⟩;have HO2:=hid (And.intro hl (And.intro ((zaa _ _).trans ((HO1.out.2.mono (by simp)).trans (hb.mono (by have:=HO1.out.2.size;simp at this;omega)))) (hb.mono HO1.out.2.size)));clear hl hb))
  go_wp2
  go_ret
  exact ⟨B2,d2,rfl,HO2.out.1,HO2.out.2.1⟩
 ·rw [zk7 hk hi]
  simp only at hj;obtain ⟨b,o,rfl,hcel,hvx⟩:∃ b o,A0=some ⟨b,o,none⟩/\(∃ A1 c1 A2 c2,(∀ W,Below w.heap.size w W->W.cell? ⟨b,o+i * 5,none⟩=some (.int .u8 l[i].kq)/\W.cell? ⟨b,o+i * 5+1,none⟩=some (.int .i64 l[i].num)/\W.cell? ⟨b,o+i * 5+2,none⟩=some (.string l[i].str)/\W.cell? ⟨b,o+i * 5+3,none⟩=some (.slice A1 l[i].il.length c1)/\W.cell? ⟨b,o+i * 5+4,none⟩=some (.slice A2 l[i].vz.length c2))/\Vl w l[i] A1 A2 c1 c2)/\True:=by
   obtain ⟨A',c',he,_,_,hf⟩:=HL.out.form;simp only [Value.slice.injEq] at he;obtain ⟨rfl,_,rfl⟩:=he;obtain ⟨b,o,rfl,hK,hE⟩:=hf (by intro e;rw [e] at hi;simp at hi)
   obtain ⟨L,O,q0,q1,q2,q3,q4,hLi,hOi⟩:=GV.at_iff.1 (GV.els_get hE (List.getElem?_eq_getElem hi));obtain ⟨A1,c1,rfl⟩:=zaf hLi;obtain ⟨A2,c2,rfl⟩:=zag hOi;exact ⟨b,o,rfl,⟨A1,c1,A2,c2,fun W hb=>⟨(hb.cell (p:=⟨b,_,none⟩) hK.lt).trans q0,(hb.cell (p:=⟨b,_,none⟩) hK.lt).trans q1,(hb.cell (p:=⟨b,_,none⟩) hK.lt).trans q2,(hb.cell (p:=⟨b,_,none⟩) hK.lt).trans q3,(hb.cell (p:=⟨b,_,none⟩) hK.lt).trans q4⟩,⟨hLi,hOi⟩⟩,trivial⟩
  obtain ⟨A1,c1,A2,c2,hcel,hvx⟩:=hcel;have hrl:=zgb l i hi;have HW:=hid (fun W (hb:Below w.heap.size w W)=>zcj (some ⟨b,o,none⟩) c0 i l W (HL.out.later hb) hi (by omega))
  have HX:=hid (fun W B d (hb:Below w.heap.size w W) (hl:ListIn (remL l i) B d W)=>zeO B d j (remL l i) l[i] A1 A2 c1 c2 W hl (hvx.later hb) (by omega) (by omega))
  have g4:((k:Int) == 4)=false:=by simp;omega
  have g5:((k:Int) == 5)=false:=by simp;omega
  have g6:((k:Int) == 6)=false:=by simp;omega
  have hk0:(0:Int)<=(i:Int):=by omega
  have hk1:(i:Int)<(l.length:Int):=by omega
  simp only at HW HX ⊢;have HC:=hid (fun (W:World) (hb:Below (w.alloc (.cells #[.int .u8 k,.slice A n c,.string s,.int .i64 i,.int .i64 j,.int .i64 m,.int .u8 g.kq,.int .i64 g.num,.string g.str,.slice AL g.il.length cL,.slice AO g.vz.length cO,.string t] 48)).heap.size (w.alloc (.cells #[.int .u8 k,.slice A n c,.string s,.int .i64 i,.int .i64 j,.int .i64 m,.int .u8 g.kq,.int .i64 g.num,.string g.str,.slice AL g.il.length cL,.slice AO g.vz.length cO,.string t] 48)) W)=>(fun q:Tw W w.heap.size _ _ _ _ _ _ _ _ _ _ _ _=>And.intro q.c3 (And.intro q.c4 (hcel W ((zaa _ _).trans (hb.mono (by simp)))))) (H0.out.below hb H0.out.lt).tw)
  clear hcel hvx;generalize insL (remL l i) j l[i]=lz at *;generalize remL l i=lr at *;generalize l[i]=x at *;clear hk hrl hj;go_enter Tryz.func118,Tryz.ntmps118
  go_wp2
  go_region_held3 (fun W=>W.cell? ⟨w.heap.size,3,none⟩=some (.int .i64 i)/\W.cell? ⟨w.heap.size,4,none⟩=some (.int .i64 j)/\W.cell? ⟨b,o+i * 5,none⟩=some (.int .u8 x.kq)/\W.cell? ⟨b,o+i * 5+1,none⟩=some (.int .i64 x.num)/\W.cell? ⟨b,o+i * 5+2,none⟩=some (.string x.str)/\W.cell? ⟨b,o+i * 5+3,none⟩=some (.slice A1 x.il.length c1)/\W.cell? ⟨b,o+i * 5+4,none⟩=some (.slice A2 x.vz.length c2))
   (first | exact HC.out _ (HO1.out.2.trans HO2.out.2.2) | exact HC.out _ HO1.out.2 | exact HC.out _ (Below.refl _ _).drew)
   (first
    | (go_at_call 139;refine (HW.out _ (zaa _ _).drew).mono ?_;rintro e w1 ⟨B,d,rfl,hl,hb⟩;have HO1:=hid (And.intro hl ((Below.refl _ _).drew.trans hb));clear hl hb)
    | (go_at_call 138;refine (HX.out _ _ _ ((zaa _ _).trans (HO1.out.2.mono (by simp))) HO1.out.1).mono ?_;rintro e w2 ⟨B2,d2,rfl,hl,hb⟩;have HO2:=hid (And.intro hl (And.intro ((zaa _ _).trans ((HO1.out.2.mono (by simp)).trans (hb.mono (by have:=HO1.out.2.size;simp at this;omega)))) (hb.mono HO1.out.2.size)));clear hl hb))
  go_wp2
  go_ret
  exact ⟨B2,d2,rfl,HO2.out.1,HO2.out.2.1⟩
def DoOut (l:List GV) (w:World) (e:Ending) (w':World):Prop:=∃ A c,e=.returned (.tuple #[.slice A l.length c,.int .u16 0])/\LstV (fun k=>w.heap.size<=k) w' (.slice A l.length c) l/\Below w.heap.size w w'
theorem zhy (N:Nat):∀ (BL BO:Option Addr) (dL dO:Nat) (w:World),(Instr.field 29 (.agg #[.int .u8 0,.int .i64 0,.string ⟨#[]⟩,.slice BL N dL,.slice BO 0 dO]) 3).run Tryz.prog w=.ok (.slice BL N dL) w:=fun _ _ _ _ _=>by kernel_rfl
theorem zlg {n k i j:Nat} {g:GV} (h:okC n (⟨k,i,j,g⟩:Cm GV)):chk n k i j=0:=by
 rcases h with ⟨hk,hi⟩ | ⟨hk | hk,hi⟩ | ⟨hk,hi⟩<;>simp only at hk hi<;>subst hk<;>simp [chk,withinB]<;>omega
theorem zlz (A0 c0 l) (k i j:Nat) (g) (A AL AO:Option Addr) (n c cL cO:Nat) (s t:ByteArray) (m:Int) (w) (hL:ListIn l A0 c0 w) (hv:Vl w g AL AO cL cO) (hok:okC l.length (⟨k,i,j,g⟩:Cm GV)) (hn:l.length<=1000000) (hw:GV.weights (doL l ⟨k,i,j,g⟩)<=900000000):
  Calls Tryz.prog 90 #[.slice A0 l.length c0,.agg #[.int .u8 k,.slice A n c,.string s,.int .i64 i,.int .i64 j,.int .i64 m,.int .u8 g.kq,.int .i64 g.num,.string g.str,.slice AL g.il.length cL,.slice AO g.vz.length cO,.string t]] w (DoOut (doL l ⟨k,i,j,g⟩) w):=by
 have H0:=hid (Whole.new w 48 #[.int .u8 k,.slice A n c,.string s,.int .i64 i,.int .i64 j,.int .i64 m,.int .u8 g.kq,.int .i64 g.num,.string g.str,.slice AL g.il.length cL,.slice AO g.vz.length cO,.string t]);have HB:=hid (zaa w (.cells #[.int .u8 k,.slice A n c,.string s,.int .i64 i,.int .i64 j,.int .i64 m,.int .u8 g.kq,.int .i64 g.num,.string g.str,.slice AL g.il.length cL,.slice AO g.vz.length cO,.string t] 48));have HCK:=hid (fun W=>(zfv l.length k i j A AL AO n c g.il.length cL g.vz.length cO s g.str t m g.kq g.num W))
 rw [zlg hok] at HCK;have HD:=hid (fun W (hb:Below w.heap.size w W)=>zjq A0 c0 l k i j g A AL AO n c cL cO s t m W (hL.later hb) (hv.later hb) hok hn)
 have hcp:∀ W B d,LstV (fun _=>True) W (.slice B (doL l ⟨k,i,j,g⟩).length d) (doL l ⟨k,i,j,g⟩)->Calls Tryz.prog 94 #[.agg #[.int .u8 0,.int .i64 0,.string ⟨#[]⟩,.slice B (doL l ⟨k,i,j,g⟩).length d,.slice none 0 0]] W fun e w'=>
   ∃ BL dL BO dO,e=.returned (.agg #[.int .u8 0,.int .i64 0,.string ⟨#[]⟩,.slice BL (doL l ⟨k,i,j,g⟩).length dL,.slice BO 0 dO])/\LstV (fun k=>W.heap.size<=k) w' (.slice BL (doL l ⟨k,i,j,g⟩).length dL) (doL l ⟨k,i,j,g⟩)/\Below W.heap.size W w':=fun W B d h=>
  (zdp (fun _=>True) _ (.mk 0 0 ⟨#[]⟩ (doL l ⟨k,i,j,g⟩) [] []) W ⟨_,_,rfl,h,⟨rfl,.inl ⟨rfl,rfl⟩⟩⟩ (by have h0:(⟨#[]⟩:ByteArray).size=0:=rfl;simp only [GV.weight,GV.weights,h0];simp;omega)).mono fun e w' ⟨v',he,⟨L',O',e2,hL',hO'⟩,hb⟩=>by
   obtain ⟨BL,dL,rfl⟩:=zaf hL';obtain ⟨BO,dO,rfl⟩:=zag hO';exact ⟨BL,dL,BO,dO,by rw [he,e2];rfl,hL',hb⟩
 have hfd:=fun (n:Nat)=>zhy n
 have HCP:=hid hcp;clear hcp;clear hL hv hok hw;generalize doL l ⟨k,i,j,g⟩=lz at *;go_enter Tryz.func90,Tryz.ntmps90
 go_wp2_with (first
  | (go_at_call 110;refine (HCK.out _).mono ?_;rintro e w1 ⟨rfl,hb⟩;have H1:=hid (H0.out.below hb H0.out.lt);have B1:=hid (HB.out.trans (hb.mono (by simp)));obtain ⟨a0,a1,a2,a3,a4,a5,a6,a7,a8,a9,a10,a11,f0,f1,f2,f3,f4,f5,f6,f7,f8,f9,f10,f11⟩:=H1.out.tw;clear hb)
  | (go_at_call 118;refine (HD.out _ B1.out).mono ?_;rintro e w2 ⟨B,d,rfl,hl,hb⟩;have H2:=hid (And.intro hl (B1.out.trans (hb.mono B1.out.size)));clear hl hb)
  | (go_at_call 94;refine (HCP.out _ _ _ H2.out.1).mono ?_;rintro e w3 ⟨BL,dL,BO,dO,rfl,hL',hb⟩;have H3:=hid (And.intro (hL'.keep (ok':=fun k=>w.heap.size<=k) (From.refl _ _) (fun k hk _=>by have:=H2.out.2.size;omega)) (H2.out.2.trans (hb.mono H2.out.2.size)));clear hL' hb))
 go_ret2
 exact ⟨BL,dL,rfl,H3.out.1,H3.out.2⟩
end Go.Proofs.YthmcfjmignlhfaaGreatDoor
