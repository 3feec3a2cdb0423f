/- Texts in one: Open, Field. -/
import Derived.Test.YtlhfnemcpgfcdaaDoorQ1
import Derived.Test.YtlhfnemcpgfcdaaDoorRows
import Derived.ProofKit
import Derived.Deep.Slices
import Derived.SizedLaws
import Derived.Lib.LaidU8T
import Derived.OpenShut
import Derived.Lay
import Derived.WalkKit
import Derived.WalkSpells
import Derived.WalkLawsBesides
import Derived.Deep.QuietTactic
import Derived.BigQuiet
import Derived.Lib.Hide
set_option maxRecDepth 100000
set_option maxHeartbeats 1000000
namespace Go.Proofs.YtlhfnemcpgfcdaaDoor
open Go Go.ChangeShapes Go.WideShapes Go.ChangeAt Go.RowKit Go.Lib Go.Shelf
theorem list_of {α:Type} {Q:Nat→α→Prop}:∀ n,(∀ i,i<n→∃ x,Q i x)→∃ l:List α,l.length=n∧∀ i x,l[i]? = some x→Q i x
 | 0,_=>⟨[],rfl,fun i x h=>by simp at h⟩
 | n+1,h=>by
  obtain ⟨l,hl,hq⟩:=list_of n (fun i hi=>h i (by omega))
  obtain ⟨x,hx⟩:=h n (by omega)
  refine ⟨l++[x],by simp [hl],fun i y hy=>?_⟩
  by_cases e:i<l.length
  ·rw [List.getElem?_append_left e] at hy;exact hq i y hy
  ·rw [List.getElem?_append_right (by omega)] at hy
   have:i=n:=by
    have:=(List.getElem?_eq_some_iff.1 hy).1
    simp at this;omega
   subst this
   rw [hl] at hy
   simp at hy
   subst hy
   exact hx
theorem weightsAll_mem {H:Type} {P:Program} {e:TypeId}:∀ {l:List (DataW H)} {d:DataW H},d∈l→∀ n∈d.weights P e,n∈DataW.weightsAll P e l
 | [],d,h,_,_=>by simp at h
 | x :: r,d,h,n,hn=>by
  simp only [DataW.weightsAll,List.mem_append]
  rcases List.mem_cons.1 h with rfl | h
  ·exact .inl hn
  ·exact .inr (weightsAll_mem h n hn)
def Pieces (W:World) (A:Option Addr) (ts:List GTok):Prop:=
 Toks W.heap.size W A ts∧(∀ t∈ts,0≤t.k∧t.k≤255∧0≤t.m∧t.m≤255)∧∀ t∈ts,t.s.size≤140737488351232
theorem spot_none {W:World} {a:Addr} {v:Value} (h:W.cell? a=some v):a.spot=none:=by
 cases hs:a.spot with
 | none=>rfl
 | some z=>
  unfold World.cell? at h
  cases ho:W.heap[a.block]? with
  | none=>simp [ho] at h
  | some o=>cases o<;>simp [ho,hs] at h
theorem add_block (a:Addr) (k:Nat):(a.add k).block=a.block:=by unfold Addr.add;split<;>rfl
theorem add_add (a:Addr) (i j:Nat) (h:i=0→a.spot=none):(a.add (i * 4)).add j =⟨a.block,a.off+i * 4+j,none⟩:=by
 obtain ⟨b,o,sp⟩:=a
 by_cases e:i=0
 ·have:=h e
  simp only at this
  subst e this
  by_cases e':j=0<;>simp [Addr.add,e']
 ·have e4:¬ i * 4=0:=by omega
  by_cases e':j=0
  ·subst e';simp only [Addr.add,if_neg e4,if_true,Nat.add_zero]
  ·simp only [Addr.add,if_neg e4,if_neg e']
theorem cells_tok:Tryd.prog.cellsOf 46=4:=by kernel_rfl
theorem cells_byte:Tryd.prog.cellsOf 5=1:=by kernel_rfl
theorem cells_int64:Tryd.prog.cellsOf 2=1:=by kernel_rfl
theorem cells_string:Tryd.prog.cellsOf 9=1:=by kernel_rfl
theorem open_toks {H:Type} {enc:TypeId × Value→H} {W:World} {spare:Nat→Bool} {held:Bool} {v:Value} {d:DataW H} {p:List MemPlace} (h:DataW.Trod enc Tryd.prog W 0 spare held 22 v d p)
  (hv:∃ A n c,v=.slice A n c) (hsz:∀ n∈d.weights Tryd.prog 22,n≤reachBytes):
  ∃ (A:Option Addr) (cap:Nat) (ts:List GTok),v=.slice A ts.length cap∧ts.length≤cap∧cap≤maxLen∧Pieces W A ts:=by
 obtain ⟨fuel,hf⟩:=h
 obtain ⟨A0,n0,c0,rfl⟩:=hv
 rcases Go.Deep.open_slice Tryd.underlying22 hf with ⟨hc,_⟩ | ⟨a,len,cap,m,n,D,Pl,hcs,_,hlc,hcm,hm,hx,hi⟩
 ·simp only [Value.cells,List.cons.injEq,and_true] at hc
  simp only [Value.slice.injEq] at hc
  obtain ⟨rfl,rfl,rfl⟩:=hc
  exact ⟨none,0,[],rfl,Nat.le_refl _,by decide,fun h=>absurd rfl h,fun t ht=>by simp at ht,fun t ht=>by simp at ht⟩
 simp only [Value.cells,List.cons.injEq,and_true] at hcs
 simp only [Value.slice.injEq] at hcs
 obtain ⟨rfl,rfl,rfl⟩:=hcs
 simp only [Prod.mk.injEq] at hx
 have hlm:n0≤m:=by rw [hm];split<;>omega
 obtain ⟨ts,hts,hq⟩:=list_of (Q:=fun i (t:GTok)=>(W.cell? ⟨a.block,a.off+i * 4,none⟩=some (.int .u8 t.k)∧W.cell? ⟨a.block,a.off+i * 4+1,none⟩=some (.int .i64 t.n) ∧
   W.cell? ⟨a.block,a.off+i * 4+2,none⟩=some (.string t.s)∧W.cell? ⟨a.block,a.off+i * 4+3,none⟩=some (.int .u8 t.m))∧(i=0→a.spot=none)∧a.block<W.heap.size∧(0≤t.k∧t.k≤255∧0≤t.m∧t.m≤255)∧t.s.size≤reachBytes) n0 (fun i hin=>by
  obtain ⟨cs',hcl,ht'⟩:=hi i (by omega)
  rw [cells_tok] at hcl
  obtain ⟨xs,n',_,hxx,hlen,hxl,hg⟩:=DataW.trod_struct Tryd.underlying46 ht'
  rw [cells_tok] at hlen
  obtain ⟨_,_,hat⟩:=World.cells?_some hcl
  match cs',hlen with
  | [c0,c1,c2,c3],_=>
   have g0 : DataW.trod enc Tryd.prog W 0 spare held n' 5 [c0] = xs[0]? := by simpa [cells_byte] using hg 0 { name := "Kind", type := 5, offset := 0, embedded := false, tag := "", pkgPath := "", byteOffset := 0 } rfl
   have g1 : DataW.trod enc Tryd.prog W 0 spare held n' 2 [c1] = xs[1]? := by simpa [cells_int64] using hg 1 { name := "N", type := 2, offset := 1, embedded := false, tag := "", pkgPath := "", byteOffset := 8 } rfl
   have g2 : DataW.trod enc Tryd.prog W 0 spare held n' 9 [c2] = xs[2]? := by simpa [cells_string] using hg 2 { name := "S", type := 9, offset := 2, embedded := false, tag := "", pkgPath := "", byteOffset := 16 } rfl
   have g3 : DataW.trod enc Tryd.prog W 0 spare held n' 5 [c3] = xs[3]? := by simpa [cells_byte] using hg 3 { name := "Many", type := 5, offset := 3, embedded := false, tag := "", pkgPath := "", byteOffset := 32 } rfl
   match xs,hxl with
   | [y0,y1,y2,y3],_=>
    obtain ⟨k,e0,f0,w0⟩:=DataW.trod_int Tryd.underlying5 g0
    obtain ⟨z,e1,f1,w1⟩:=DataW.trod_int Tryd.underlying2 g1
    obtain ⟨s,e2,f2,w2⟩:=DataW.trod_string Tryd.underlying9 g2
    obtain ⟨m',e3,f3,w3⟩:=DataW.trod_int Tryd.underlying5 g3
    simp only [List.cons.injEq,and_true] at e0 e1 e2 e3
    subst e0 e1 e2 e3
    have q0:W.cell? ((a.add (i * 4)).add 0)=some (.int .u8 k):=hat 0 (by omega)
    have q1:W.cell? ((a.add (i * 4)).add 1)=some (.int .i64 z):=hat 1 (by omega)
    have q2:W.cell? ((a.add (i * 4)).add 2)=some (.string s):=hat 2 (by omega)
    have q3:W.cell? ((a.add (i * 4)).add 3)=some (.int .u8 m'):=hat 3 (by omega)
    have hsp:i=0→a.spot=none:=fun e=>by subst e;simpa [Addr.add] using spot_none q0
    have hab:a.block<W.heap.size:=by
     have:=World.block_lt_of_cell? W _ q0
     rwa [add_block,add_block] at this
    have hd:∀ j,(a.add (i * 4)).add j =⟨a.block,a.off+i * 4+j,none⟩:=fun j=>add_add a i j hsp
    rw [hd] at q0 q1 q2 q3
    have a1:-9223372036854775808≤z∧z≤9223372036854775807:=by simpa [Lit.wf,IntKind.min,IntKind.max,IntKind.signed,IntKind.bits] using w1
    refine ⟨⟨k,z,s,m',a1⟩,⟨q0,q1,q2,q3⟩,hsp,hab,?_,?_⟩
    ·have a0:0≤k∧k≤255:=by simpa [Lit.wf,IntKind.min,IntKind.max,IntKind.signed,IntKind.bits] using w0
     have a3:0≤m'∧m'≤255:=by simpa [Lit.wf,IntKind.min,IntKind.max,IntKind.signed,IntKind.bits] using w3
     exact ⟨a0.1,a0.2,a3.1,a3.2⟩
    ·have hDi:D i=.agg [.lit (.int .u8 k),.lit (.int .i64 z),.lit (.string s.data.toList),.lit (.int .u8 m')]:=by
      simp only [Prod.mk.injEq] at hxx
      rw [hxx.1]
      simp [f0,f1,f2,f3]
     have hin:s.data.toList.length∈DataW.weightsAll Tryd.prog 46 ((List.range n0).map D):=weightsAll_mem (List.mem_map.2 ⟨i,List.mem_range.2 hin,rfl⟩) _ (by rw [hDi];simp [DataW.weights,Tryd.underlying46,DataW.weightsEach])
     have:=hsz s.data.toList.length (by
      rw [hx.1]
      simp only [DataW.weights,Tryd.underlying22,List.mem_cons,List.mem_append]
      exact .inr (.inl hin))
     simpa using this)
 refine ⟨some a,c0,ts,by rw [hts],by omega,hcm,fun _=>⟨a,rfl,?_⟩,fun t ht=>?_,fun t ht=>?_⟩
 ·have h0:0<ts.length:=by
   cases ts with
   | nil=>rename_i hne;exact absurd rfl hne
   | cons _ _=>simp
  have:=hq 0 _ (List.getElem?_eq_getElem h0)
  exact ⟨this.2.1 rfl,this.2.2.1,fun i t hi=>(hq i t hi).1⟩
 ·obtain ⟨i,hi⟩:=List.getElem?_of_mem ht
  exact (hq i t hi).2.2.2.1
 ·obtain ⟨i,hi⟩:=List.getElem?_of_mem ht
  exact (hq i t hi).2.2.2.2
end Go.Proofs.YtlhfnemcpgfcdaaDoor
namespace Go.Proofs.YtlhfnemcpgfcdaaDoor
open Go Go.RowKit
def less (a b:ByteArray):Bool:=Op.bytesLess a.toList b.toList
def place (key:ByteArray):List ByteArray→Nat
 | []=>0
 | k :: r=>if less k key then 1+place key r else 0
theorem place_le (key:ByteArray):∀ ks,place key ks≤ks.length
 | []=>Nat.le_refl _
 | k :: r=>by unfold place;have:=place_le key r;split<;>simp<;>omega
theorem place_lt (key:ByteArray):∀ (ks:List ByteArray) (i:Nat) (k:ByteArray),ks[i]? = some k→i<place key ks→less k key=true
 | [],_,_,h,_=>by simp at h
 | x :: r,0,k,h,hi=>by
  simp at h;subst h
  unfold place at hi
  by_cases hx:less x key=true
  ·exact hx
  ·rw [if_neg hx] at hi;omega
 | x :: r,i+1,k,h,hi=>by
  unfold place at hi
  by_cases hx:less x key=true
  ·rw [if_pos hx] at hi
   exact place_lt key r i k (by simpa using h) (by omega)
  ·rw [if_neg hx] at hi;omega
theorem place_eq (key:ByteArray):∀ (ks:List ByteArray) (n:Nat),n≤ks.length→(∀ i k,ks[i]? = some k→i<n→less k key=true)→(∀ k,ks[n]? = some k→less k key=false)→place key ks=n
 | [],n,h,_,_=>by simp at h;subst h;rfl
 | x :: r,0,_,_,h2=>by
  have:=h2 x rfl
  unfold place
  rw [if_neg (by simp [this])]
 | x :: r,n+1,h,h1,h2=>by
  have hx:=h1 0 x rfl (by omega)
  unfold place
  rw [if_pos hx,place_eq key r n (by simpa using h) (fun i k hi hlt=>h1 (i+1) k (by simpa using hi) (by omega)) (fun k hk=>h2 k (by simpa using hk))]
  omega
def there (key:ByteArray) (ks:List ByteArray):Bool:=match ks[place key ks]? with | some k=>k.toList == key.toList | none=>false
def FieldPost (ks:List ByteArray) (key:ByteArray) (w:World) (e:Ending) (w':World):Prop:=
 e=.returned (.tuple #[.int .i64 (place key ks),.bool (there key ks)])∧Below w.heap.size w w'
def FieldRel (key:ByteArray) (ks:List ByteArray) (i:Value):Prop:=
 ∃ k:Nat,k≤ks.length∧i=.int .i64 k∧(∀ i x,ks[i]? = some x→i<k→less x key=true)
theorem ref_Field (ok:Nat→Prop) (v:Value) (g:GV) (key:ByteArray) (w:World) (hv:g.val ok w v):
  Calls Tryd.prog 14 #[v,.string key] w (FieldPost g.keys key w):=by
 obtain ⟨L,O,rfl,_,hO⟩:=hv
 have hkl:=hO.1
 obtain ⟨A,c,rfl,hc1,hc2,hf⟩:=hO.form
 clear hO
 unfold maxLen at hc2
 generalize g.keys=ks at *
 generalize g.vals=ov at *
 generalize g.kind=gk
 generalize g.num=gn
 generalize g.str=gs
 have HL:=Lib.hid hkl
 clear hkl
 go_enter Tryd.func14,Tryd.ntmps14
 go_wp2
 have hB:Below w.heap.size w (w.alloc (.cells #[Value.int IntKind.u8 gk,Value.int IntKind.i64 gn,Value.string gs,L,Value.slice A ov.length c] 31)):=(Below.refl _ _).alloc (Nat.le_refl _) _
 have h4:(w.alloc (.cells #[Value.int IntKind.u8 gk,Value.int IntKind.i64 gn,Value.string gs,L,Value.slice A ov.length c] 31)).cell? ⟨w.heap.size,4,none⟩=some (Value.slice A ov.length c):=by simp
 generalize (w.alloc (.cells #[Value.int IntKind.u8 gk,Value.int IntKind.i64 gn,Value.string gs,L,Value.slice A ov.length c] 31))=W at hB h4 ⊢
 go_loop [6] (FieldRel key ks) (fun i=>ov.length - (intOf i).toNat)
 case atStart=>exact ⟨0,Nat.zero_le _,rfl,fun _ _ _ h=>absurd h (by omega)⟩
 case round=>
  obtain ⟨k,hk,rfl,hless⟩:=hrel
  have HS:=Lib.hid hless
  clear hless
  have HL':=HL.out
  by_cases hlt:k<ks.length
  ·have hlt':k<ov.length:=by omega
   have hltz:(k:Int)<(ov.length:Int):=by omega
   obtain ⟨b,o,rfl,hK,hks,_⟩:=hf (by intro e;rw [e] at hlt';simp at hlt')
   have hc0:=hks.get (List.getElem?_eq_getElem hlt)
   have hc1:=(hB.cell (p:=⟨b,o+k * 6,none⟩) hK.lt).trans hc0
   have HG:=Lib.hid (List.getElem?_eq_getElem hlt)
   clear hc0 hks hK hf HL'
   generalize ks[k]=kk at *
   by_cases hl:less kk key=true
   ·have hl':Op.bytesLess kk.toList key.toList=true:=hl
    go_wp2
    go_round
    case rel=>exact ⟨k+1,by omega,by go_num,fun i x hx hi=>by
     by_cases e:i=k
     ·subst e;rw [HG.out] at hx;cases hx;exact hl
     ·exact HS.out i x hx (by omega)⟩
    case measure=>simp [intOf];omega
   ·have hl':Op.bytesLess kk.toList key.toList=false:=by simpa [less] using hl
    have HP:=Lib.hid (place_eq key ks k hk HS.out (fun x hx=>by rw [HG.out] at hx;cases hx;exact hl'))
    have HT:=Lib.hid (show there key ks=(kk.toList == key.toList) by unfold there;rw [HP.out,HG.out])
    clear hl
    go_wp2
    go_quiet (fail)
    go_wp2
    go_ret2
    refine ⟨?_,?_⟩
    ·show Ending.returned (.tuple #[.int .i64 k,.bool (kk.toList == key.toList)])=_
     rw [HP.out,HT.out]
    ·first | exact hB.drew | exact below_drewNv hB _ | exact ⟨hB.os,hB.tape,hB.output,hB.size,hB.block⟩
  ·have hk':¬ k<ov.length:=by omega
   have hkz:¬ (k:Int)<(ov.length:Int):=by omega
   have hd:decide ((k:Int)<(ov.length:Int))=false:=by simpa using hk'
   clear HL'
   go_wp2
   go_quiet (fail)
   go_wp2
   go_ret2
   refine ⟨?_,by first | exact hB.drew | exact below_drewNv hB _ | exact ⟨hB.os,hB.tape,hB.output,hB.size,hB.block⟩⟩
   have HL':=HL.out
   have hk2:k=ks.length:=by omega
   subst hk2
   have HP:=place_eq key ks ks.length (Nat.le_refl _) HS.out (fun x hx=>by simp at hx)
   show Ending.returned (.tuple #[.int .i64 ks.length,.bool false])=_
   rw [HP,show there key ks=false by unfold there;rw [HP];simp]
end Go.Proofs.YtlhfnemcpgfcdaaDoor
