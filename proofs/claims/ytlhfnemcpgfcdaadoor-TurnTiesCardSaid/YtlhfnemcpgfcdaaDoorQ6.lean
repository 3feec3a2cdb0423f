/- Texts in one: BaseG, OpenP. -/
import Derived.Test.YtlhfnemcpgfcdaaDoorQ2
import Derived.Test.YtlhfnemcpgfcdaaDoorQ1
import Derived.Shelf.Abstract
import Derived.Test.YtlhfnemcpgfcdaaDoorQ5
import Derived.Test.YtlhfnemcpgfcdaaDoorQ4
import Derived.ChangeArms
import Derived.Stop.Joined
import Derived.SevenTiedAt
set_option maxRecDepth 100000
namespace Go.Proofs.YtlhfnemcpgfcdaaDoor
open Go Go.RowKit
structure GStep where
 list:Bool
 i:Int
 key:ByteArray
def GV.inside (g:GV) (s:GStep):Option GV:=
 if s.list then (if g.kind=4∧0≤s.i then g.items[s.i.toNat]? else none)
 else if g.kind=5∧there s.key g.keys=true then g.vals[place s.key g.keys]? else none
def GV.setIn (g:GV) (s:GStep) (y:GV):GV:=
 if s.list then .mk g.kind g.num g.str (g.items.set s.i.toNat y) g.keys g.vals else .mk g.kind g.num g.str g.items g.keys (g.vals.set (place s.key g.keys) y)
def GV.get (g:GV):List GStep→Option GV
 | []=>some g
 | s :: r=>(g.inside s).bind fun h=>h.get r
def GV.put (g:GV) (x:GV):List GStep→Option GV
 | []=>some x
 | s :: r=>(g.inside s).bind fun h=>(h.put x r).map (g.setIn s)
theorem inside_list {g:GV} {s:GStep} (hs:s.list=true) {k:Nat} (hk:g.kind=4) (hi:s.i=k) (hl:k<g.items.length):g.inside s=some g.items[k]:=by
 simp [GV.inside,hs,hk,hi,hl]
theorem inside_key {g:GV} {s:GStep} (hs:s.list=false) (hk:g.kind=5) (ht:there s.key g.keys=true) (hl:place s.key g.keys<g.vals.length):g.inside s=some (g.vals[place s.key g.keys]):=by
 simp [GV.inside,hs,hk,ht,hl]
theorem inside_cases {g h:GV} {s:GStep} (hi:g.inside s=some h):
  (s.list=true∧g.kind=4∧∃ k:Nat,s.i=k∧g.items[k]? = some h)∨(s.list=false∧g.kind=5∧there s.key g.keys=true∧g.vals[place s.key g.keys]? = some h):=by
 unfold GV.inside at hi
 split at hi
 ·rename_i hl
  split at hi
  ·rename_i hc
   exact .inl ⟨hl,hc.1,s.i.toNat,by omega,hi⟩
  ·cases hi
 ·rename_i hl
  split at hi
  ·rename_i hc
   exact .inr ⟨by simpa using hl,hc.1,hc.2,hi⟩
  ·cases hi
theorem there_lt {key:ByteArray} {ks:List ByteArray} (h:there key ks=true):place key ks<ks.length:=by
 unfold there at h
 by_cases hl:place key ks<ks.length
 ·exact hl
 ·rw [List.getElem?_eq_none (by omega)] at h;simp at h
@[simp] theorem setIn_kind (g:GV) (s:GStep) (y:GV):(g.setIn s y).kind=g.kind:=by unfold GV.setIn;split<;>rfl
@[simp] theorem setIn_num (g:GV) (s:GStep) (y:GV):(g.setIn s y).num=g.num:=by unfold GV.setIn;split<;>rfl
@[simp] theorem setIn_str (g:GV) (s:GStep) (y:GV):(g.setIn s y).str=g.str:=by unfold GV.setIn;split<;>rfl
@[simp] theorem setIn_keys (g:GV) (s:GStep) (y:GV):(g.setIn s y).keys=g.keys:=by unfold GV.setIn;split<;>rfl
theorem setIn_items {g:GV} {s:GStep} {y:GV} (h:s.list=true):(g.setIn s y).items=g.items.set s.i.toNat y∧(g.setIn s y).vals=g.vals:=by unfold GV.setIn;simp [h,GV.items,GV.vals]
theorem setIn_vals {g:GV} {s:GStep} {y:GV} (h:s.list=false):(g.setIn s y).items=g.items∧(g.setIn s y).vals=g.vals.set (place s.key g.keys) y:=by unfold GV.setIn;simp [h,GV.items,GV.vals]
theorem weight_set_mem:∀ (l:List GV) (k:Nat) (h y:GV),l[k]? = some h→GV.weights (l.set k y)+h.weight=GV.weights l+y.weight
 | [],k,h,y,e=>by simp at e
 | x :: r,0,h,y,e=>by simp at e;subst e;simp [GV.weights];omega
 | x :: r,k+1,h,y,e=>by
  have:=weight_set_mem r k h y (by simpa using e)
  simp only [List.set_cons_succ,GV.weights]
  omega
theorem setIn_weight {g h:GV} {s:GStep} (y:GV) (hi:g.inside s=some h):(g.setIn s y).weight+h.weight=g.weight+y.weight:=by
 cases g with
 | mk k n z l ks ov=>
  rcases inside_cases hi with ⟨hs,_,k',hk,hg⟩ | ⟨hs,_,_,hg⟩
  ·have:=weight_set_mem l k' h y hg
   simp only [GV.setIn,hs,if_true,GV.weight,hk,Int.toNat_natCast,GV.kind,GV.num,GV.str,GV.items,GV.keys,GV.vals]
   omega
  ·have:=weight_set_mem ov _ h y hg
   simp only [GV.setIn,hs,GV.weight,GV.kind,GV.num,GV.str,GV.items,GV.keys,GV.vals,Bool.false_eq_true,if_false]
   simp only [GV.keys] at this
   omega
theorem inside_weight {g h:GV} {s:GStep} (hi:g.inside s=some h):h.weight≤g.weight:=by
 have:=setIn_weight h hi
 have h2:=setIn_weight (y:=.mk 0 0 ⟨#[]⟩ [] [] []) hi
 cases g with
 | mk k n z l ks ov=>
  rcases inside_cases hi with ⟨hs,_,k',hk,hg⟩ | ⟨hs,_,_,hg⟩
  ·have h3:=weight_set_mem l k' h (.mk 0 0 ⟨#[]⟩ [] [] []) hg
   simp only [GV.weight,GV.weights,List.map_nil,List.sum_nil] at h3 ⊢
   have:(⟨#[]⟩:ByteArray).size=0:=rfl
   omega
  ·have h3:=weight_set_mem ov _ h (.mk 0 0 ⟨#[]⟩ [] [] []) hg
   simp only [GV.weight,GV.weights,List.map_nil,List.sum_nil] at h3 ⊢
   have:(⟨#[]⟩:ByteArray).size=0:=rfl
   omega
theorem get_weight:∀ (p:List GStep) (g h:GV),g.get p=some h→h.weight≤g.weight
 | [],g,h,e=>by simp [GV.get] at e;subst e;exact Nat.le_refl _
 | s :: r,g,h,e=>by
  simp only [GV.get] at e
  cases hi:g.inside s with
  | none=>rw [hi] at e;cases e
  | some y=>rw [hi] at e;exact Nat.le_trans (get_weight r y h e) (inside_weight hi)
def StepsAt (W:World) (a:Addr) (ps:List GStep):Prop:=
 ∀ i s,ps[i]? = some s→W.cell? ⟨a.block,a.off+i * 3,none⟩=some (.bool s.list)∧W.cell? ⟨a.block,a.off+i * 3+1,none⟩=some (.int .i64 s.i)∧W.cell? ⟨a.block,a.off+i * 3+2,none⟩=some (.string s.key)
def Steps (hi:Nat) (W:World) (A:Option Addr) (ps:List GStep):Prop:=
 ps≠[]→∃ a:Addr,A=some a∧a.spot=none∧a.block<hi∧StepsAt W a ps
theorem Steps.keep {hi hi':Nat} {W W':World} {A:Option Addr} {ps:List GStep} (hb:Below hi W W') (hhi:hi≤hi') (h:Steps hi W A ps):Steps hi' W' A ps:=fun hn=>by
 obtain ⟨a,rfl,hs,hl,hc⟩:=h hn
 have e:∀ o,W'.cell? ⟨a.block,o,none⟩=W.cell? ⟨a.block,o,none⟩:=fun o=>hb.cell (p:=⟨a.block,o,none⟩) hl
 refine ⟨a,rfl,hs,by omega,fun i t ht=>?_⟩
 simp only [e]
 exact hc i t ht
theorem Steps.one {hi:Nat} {W:World} {A:Option Addr} {ps:List GStep} (h:Steps hi W A ps) {k:Nat} (hk:k<ps.length):
  ∃ b o,A=some ⟨b,o,none⟩∧b<hi∧W.cell? ⟨b,o+k * 3,none⟩=some (.bool ps[k].list)∧W.cell? ⟨b,o+k * 3+1,none⟩=some (.int .i64 ps[k].i)∧W.cell? ⟨b,o+k * 3+2,none⟩=some (.string ps[k].key):=by
 obtain ⟨⟨b,o,sp⟩,rfl,hs,hl,hc⟩:=h (by intro e;rw [e] at hk;simp at hk)
 simp only at hs
 subst hs
 exact ⟨b,o,rfl,hl,hc k ps[k] (List.getElem?_eq_getElem hk)⟩
structure Spot (ok:Nat→Prop) (W:World) (b off:Nat) (g:GV) (AL AO:Option Addr) (cL cO:Nat):Prop where
 c0:W.cell? ⟨b,off,none⟩=some (.int .u8 g.kind)
 c1:W.cell? ⟨b,off+1,none⟩=some (.int .i64 g.num)
 c2:W.cell? ⟨b,off+2,none⟩=some (.string g.str)
 c3:W.cell? ⟨b,off+3,none⟩=some (.slice AL g.items.length cL)
 c4:W.cell? ⟨b,off+4,none⟩=some (.slice AO g.vals.length cO)
 lst:LstV ok W (.slice AL g.items.length cL) g.items
 obj:ObjV ok W (.slice AO g.vals.length cO) g.keys g.vals
theorem GV.at.spot {ok:Nat→Prop} {W:World} {b off:Nat} {g:GV} (h:g.at ok W b off):∃ AL AO cL cO,Spot ok W b off g AL AO cL cO:=by
 obtain ⟨L,O,h0,h1,h2,h3,h4,hL,hO⟩:=GV.at_iff.1 h
 obtain ⟨AL,cL,rfl⟩:=lst_form hL
 obtain ⟨AO,cO,rfl⟩:=obj_form hO
 exact ⟨AL,AO,cL,cO,h0,h1,h2,h3,h4,hL,hO⟩
theorem Spot.lt {ok:Nat→Prop} {W:World} {b off:Nat} {g:GV} {AL AO:Option Addr} {cL cO:Nat} (h:Spot ok W b off g AL AO cL cO):b<W.heap.size:=World.block_lt_of_cell? W _ h.c0
def zeroV:Value:=.agg #[.int .u8 0,.int .i64 0,.string ⟨#[]⟩,.slice none 0 0,.slice none 0 0]
theorem whole_put5 {W:World} {X:Nat} {t:TypeId} {z0 z1 z2 z3 z4:Value} (h:Whole W X t #[z0,z1,z2,z3,z4]) (a0 a1 a2 a3 a4:Value):Whole (put5 W X a0 a1 a2 a3 a4) X t #[a0,a1,a2,a3,a4]:=
 ((((h.put 0 a0).put 1 a1).put 2 a2).put 3 a3).put 4 a4
def ZC:Array Value:=#[.int .u8 0,.int .i64 0,.string ⟨#[]⟩,.slice none 0 0,.slice none 0 0]
end Go.Proofs.YtlhfnemcpgfcdaaDoor
namespace Go.Proofs.YtlhfnemcpgfcdaaDoor
open Go Go.ChangeShapes Go.WideShapes Go.ChangeAt Go.RowKit Go.Lib Go.Shelf
theorem own:ownKnob Tryd.prog.godebug=none:=by kernel_rfl
theorem first_eq:Pinned.utf8First=firstData:=by kernel_rfl
theorem accept_eq:(Rows.laid_unicode_utf8_acceptRanges:DataW Unit)=acceptData:=by kernel_rfl
def laids : List (String × DataW Unit) := [("unicode/utf8.acceptRanges", Rows.laid_unicode_utf8_acceptRanges), ("unicode/utf8.first", Rows.laid_unicode_utf8_first)]
theorem laidOut:laidOutB Tryd.prog=true:=by kernel_rfl
theorem weigh {H:Type} {P:Program} {ts:List TypeId} {ds:List (DataW H)} {j:Nat} {t:TypeId} {d:DataW H} (h:(DataW.weightsEach P ts ds).all (·≤reachBytes)=true) (hd:ds[j]? = some d) (ht:ts[j]? = some t):∀ n∈d.weights P t,n≤reachBytes:=fun n hn=>by
 simpa using List.all_eq_true.1 h n (DataW.weights_mem_each ht hd n hn)
theorem tabs_of_laid {W:World} (h:laidMetH Tryd.prog laids W):Tabs W:=by
 rw [MakeChecks.laidMetH_plain _ _ _ (by kernel_rfl)] at h
 have h1:=Lib.laidMet.reads h (.tail _ (.head _))
 have h2:=Lib.laidMet.reads h (.head _)
 unfold Rows.laid_unicode_utf8_first at h1
 rw [first_eq] at h1
 rw [accept_eq] at h2
 exact utf8Tabs_of_readsT (U8Types.of196 Tryd.laysValid) ⟨by kernel_rfl,by kernel_rfl,by kernel_rfl,by kernel_rfl,by kernel_rfl,by kernel_rfl,by kernel_rfl⟩ h1 h2
theorem laid_met (os:Os) (args:Array Value):laidMetH Tryd.prog laids ((World.laidAll Tryd.prog os laids).forCall (fun _ _=>0) ⟨#[],args,[]⟩).memory:=by
 rw [MakeChecks.laidMetH_plain _ _ _ (by kernel_rfl)]
 exact laidMet_laidAll _ (by kernel_rfl) (by kernel_rfl)
theorem add_addk (a:Addr) (n i j:Nat) (hn:n≠0) (h:i=0→a.spot=none):(a.add (i * n)).add j =⟨a.block,a.off+i * n+j,none⟩:=by
 obtain ⟨b,o,sp⟩:=a
 by_cases e:i=0
 ·have:=h e
  simp only at this
  subst e this
  by_cases e':j=0<;>simp [Addr.add,e']
 ·have e4:¬ i * n=0:=Nat.mul_ne_zero e hn
  by_cases e':j=0
  ·subst e';simp only [Addr.add,if_neg e4,if_true,Nat.add_zero]
  ·simp only [Addr.add,if_neg e4,if_neg e']
theorem cells_step:Tryd.prog.cellsOf 50=3:=by kernel_rfl
theorem cells_bool:Tryd.prog.cellsOf 4=1:=by kernel_rfl
theorem cells_int:Tryd.prog.cellsOf 3=1:=by kernel_rfl
theorem open_steps {H:Type} {enc:TypeId × Value→H} {W:World} {spare:Nat→Bool} {held:Bool} {v:Value} {d:DataW H} {p:List MemPlace} (h:DataW.Trod enc Tryd.prog W 0 spare held 34 v d p)
  (hv:∃ A n c,v=.slice A n c) (hsz:∀ n∈d.weights Tryd.prog 34,n≤reachBytes):
  ∃ (A:Option Addr) (cap:Nat) (ts:List GStep),v=.slice A ts.length cap∧ts.length≤cap∧cap≤maxLen∧Steps W.heap.size W A ts∧∀ t∈ts,t.key.size≤140737488351232:=by
 obtain ⟨fuel,hf⟩:=h
 obtain ⟨A0,n0,c0,rfl⟩:=hv
 rcases Go.Deep.open_slice Tryd.underlying34 hf with ⟨hc,_⟩ | ⟨a,len,cap,m,n,D,Pl,hcs,_,hlc,hcm,hm,hx,hi⟩
 ·simp only [Value.cells,List.cons.injEq,and_true] at hc
  simp only [Value.slice.injEq] at hc
  obtain ⟨rfl,rfl,rfl⟩:=hc
  exact ⟨none,0,[],rfl,Nat.le_refl _,by decide,fun h=>absurd rfl h,fun t ht=>by simp at ht⟩
 simp only [Value.cells,List.cons.injEq,and_true] at hcs
 simp only [Value.slice.injEq] at hcs
 obtain ⟨rfl,rfl,rfl⟩:=hcs
 simp only [Prod.mk.injEq] at hx
 have hlm:n0≤m:=by rw [hm];split<;>omega
 obtain ⟨ts,hts,hq⟩:=list_of (Q:=fun i (t:GStep)=>(W.cell? ⟨a.block,a.off+i * 3,none⟩=some (.bool t.list)∧W.cell? ⟨a.block,a.off+i * 3+1,none⟩=some (.int .i64 t.i) ∧
   W.cell? ⟨a.block,a.off+i * 3+2,none⟩=some (.string t.key))∧(i=0→a.spot=none)∧a.block<W.heap.size∧t.key.size≤reachBytes) n0 (fun i hin=>by
  obtain ⟨cs',hcl,ht'⟩:=hi i (by omega)
  rw [cells_step] at hcl
  obtain ⟨xs,n',_,hxx,hlen,hxl,hg⟩:=DataW.trod_struct Tryd.underlying50 ht'
  rw [cells_step] at hlen
  obtain ⟨_,_,hat⟩:=World.cells?_some hcl
  match cs',hlen with
  | [c0,c1,c2],_=>
   have g0 : DataW.trod enc Tryd.prog W 0 spare held n' 4 [c0] = xs[0]? := by simpa [cells_bool] using hg 0 { name := "List", type := 4, offset := 0, embedded := false, tag := "", pkgPath := "", byteOffset := 0 } rfl
   have g1 : DataW.trod enc Tryd.prog W 0 spare held n' 3 [c1] = xs[1]? := by simpa [cells_int] using hg 1 { name := "I", type := 3, offset := 1, embedded := false, tag := "", pkgPath := "", byteOffset := 8 } rfl
   have g2 : DataW.trod enc Tryd.prog W 0 spare held n' 9 [c2] = xs[2]? := by simpa [cells_string] using hg 2 { name := "Key", type := 9, offset := 2, embedded := false, tag := "", pkgPath := "", byteOffset := 16 } rfl
   match xs,hxl with
   | [y0,y1,y2],_=>
    obtain ⟨k,e0,f0⟩:=DataW.trod_bool Tryd.underlying4 g0
    obtain ⟨z,e1,f1,w1⟩:=DataW.trod_int Tryd.underlying3 g1
    obtain ⟨s,e2,f2,w2⟩:=DataW.trod_string Tryd.underlying9 g2
    simp only [List.cons.injEq,and_true] at e0 e1 e2
    subst e0 e1 e2
    have q0:W.cell? ((a.add (i * 3)).add 0)=some (.bool k):=hat 0 (by omega)
    have q1:W.cell? ((a.add (i * 3)).add 1)=some (.int .i64 z):=hat 1 (by omega)
    have q2:W.cell? ((a.add (i * 3)).add 2)=some (.string s):=hat 2 (by omega)
    have hsp:i=0→a.spot=none:=fun e=>by subst e;simpa [Addr.add] using spot_none q0
    have hab:a.block<W.heap.size:=by
     have:=World.block_lt_of_cell? W _ q0
     rwa [add_block,add_block] at this
    have hd:∀ j,(a.add (i * 3)).add j =⟨a.block,a.off+i * 3+j,none⟩:=fun j=>add_addk a 3 i j (by decide) hsp
    rw [hd] at q0 q1 q2
    refine ⟨⟨k,z,s⟩,⟨q0,q1,q2⟩,hsp,hab,?_⟩
    have hDi:D i=.agg [.lit (.bool k),.lit (.int .i64 z),.lit (.string s.data.toList)]:=by
     simp only [Prod.mk.injEq] at hxx
     rw [hxx.1]
     simp [f0,f1,f2]
    have hin:s.data.toList.length∈DataW.weightsAll Tryd.prog 50 ((List.range n0).map D):=weightsAll_mem (List.mem_map.2 ⟨i,List.mem_range.2 hin,rfl⟩) _ (by rw [hDi];simp [DataW.weights,Tryd.underlying50,DataW.weightsEach])
    have:=hsz s.data.toList.length (by
     rw [hx.1]
     simp only [DataW.weights,Tryd.underlying34,List.mem_cons,List.mem_append]
     exact .inr (.inl hin))
    simpa using this)
 refine ⟨some a,c0,ts,by rw [hts],by omega,hcm,fun _=>⟨a,rfl,?_⟩,fun t ht=>?_⟩
 ·have h0:0<ts.length:=by
   cases ts with
   | nil=>rename_i hne;exact absurd rfl hne
   | cons _ _=>simp
  have:=hq 0 _ (List.getElem?_eq_getElem h0)
  exact ⟨this.2.1 rfl,this.2.2.1,fun i t hi=>(hq i t hi).1⟩
 ·obtain ⟨i,hi⟩:=List.getElem?_of_mem ht
  exact (hq i t hi).2.2.2
def Bytes (hi:Nat) (W:World) (A:Option Addr) (bs:List Int):Prop:=
 bs≠[]→∃ b o,A=some ⟨b,o,none⟩∧b<hi∧∀ i x,bs[i]? = some x→W.cell? ⟨b,o+i,none⟩=some (.int .u8 x)
theorem open_choice {H:Type} {enc:TypeId × Value→H} {W:World} {spare:Nat→Bool} {held:Bool} {v:Value} {d:DataW H} {p:List MemPlace} (h:DataW.Trod enc Tryd.prog W 0 spare held 23 v d p)
  (hv:∃ A n c,v=.slice A n c):
  ∃ (A:Option Addr) (cap:Nat) (bs:List Int),v=.slice A bs.length cap∧bs.length≤cap∧cap≤maxLen∧Bytes W.heap.size W A bs∧∀ x∈bs,0≤x∧x≤255:=by
 obtain ⟨fuel,hf⟩:=h
 obtain ⟨A0,n0,c0,rfl⟩:=hv
 rcases Go.Deep.open_slice Tryd.underlying23 hf with ⟨hc,_⟩ | ⟨a,len,cap,m,n,D,Pl,hcs,_,hlc,hcm,hm,hx,hi⟩
 ·simp only [Value.cells,List.cons.injEq,and_true] at hc
  simp only [Value.slice.injEq] at hc
  obtain ⟨rfl,rfl,rfl⟩:=hc
  exact ⟨none,0,[],rfl,Nat.le_refl _,by decide,fun h=>absurd rfl h,fun t ht=>by simp at ht⟩
 simp only [Value.cells,List.cons.injEq,and_true] at hcs
 simp only [Value.slice.injEq] at hcs
 obtain ⟨rfl,rfl,rfl⟩:=hcs
 have hlm:n0≤m:=by rw [hm];split<;>omega
 obtain ⟨bs,hbs,hq⟩:=list_of (Q:=fun i (x:Int)=>W.cell? ⟨a.block,a.off+i,none⟩=some (.int .u8 x)∧(i=0→a.spot=none)∧a.block<W.heap.size∧0≤x∧x≤255) n0 (fun i hin=>by
  obtain ⟨cs',hcl,ht'⟩:=hi i (by omega)
  rw [cells_byte] at hcl
  obtain ⟨hcsz,_,hat⟩:=World.cells?_some hcl
  obtain ⟨k,e0,f0,w0⟩:=DataW.trod_int Tryd.underlying5 ht'
  subst e0
  have q0:W.cell? ((a.add (i * 1)).add 0)=some (.int .u8 k):=hat 0 (by simp)
  have hsp:i=0→a.spot=none:=fun e=>by subst e;simpa [Addr.add] using spot_none q0
  have hab:a.block<W.heap.size:=by
   have:=World.block_lt_of_cell? W _ q0
   rwa [add_block,add_block] at this
  rw [add_addk a 1 i 0 (by decide) hsp] at q0
  have a0:0≤k∧k≤255:=by simpa [Lit.wf,IntKind.min,IntKind.max,IntKind.signed,IntKind.bits] using w0
  exact ⟨k,by simpa using q0,hsp,hab,a0.1,a0.2⟩)
 refine ⟨some a,c0,bs,by rw [hbs],by omega,hcm,fun hne=>?_,fun t ht=>?_⟩
 ·have h0:0<bs.length:=by
   cases bs with
   | nil=>exact absurd rfl hne
   | cons _ _=>simp
  have h1:=hq 0 _ (List.getElem?_eq_getElem h0)
  obtain ⟨b,o,sp⟩:=a
  have hs:=h1.2.1 rfl
  simp only at hs
  subst hs
  exact ⟨b,o,rfl,h1.2.2.1,fun i x hi=>(hq i x hi).1⟩
 ·obtain ⟨i,hi⟩:=List.getElem?_of_mem ht
  exact (hq i t hi).2.2.2
end Go.Proofs.YtlhfnemcpgfcdaaDoor
