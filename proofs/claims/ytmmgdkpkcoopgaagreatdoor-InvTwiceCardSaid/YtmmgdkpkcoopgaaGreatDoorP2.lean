/- Texts in one: Open, Field, All. -/
import Derived.Test.YtmmgdkpkcoopgaaGreatDoorP1
import Derived.Test.YtmmgdkpkcoopgaaGreatDoorRows
import Derived.ProofKit
import Derived.Deep.Slices
import Derived.SizedLaws
import Derived.Lib.LaidU8T
import Derived.OpenShut
import Derived.Lay
import Derived.WalkKit
import Derived.WalkSpells
import Derived.WalkLawsBesides
import Derived.Deep.QuietTactic
import Derived.BigQuiet
import Derived.Lib.Hide
import Derived.Deep.RegionLaw
import Derived.BigRegion
import Derived.Shelf.Abstract
import Derived.Shelf.RegionOpen
import Derived.OwnWalkIn
import Derived.TacticsInMore
import Derived.LoopNIn
import Derived.LoopIn
import Derived.Sort.LoopGhostIn
import Derived.StillTailTactics
import Derived.IntWalk
set_option maxRecDepth 100000
set_option maxHeartbeats 4000000
namespace Go.Proofs.YtmmgdkpkcoopgaaGreatDoor
open Go.Lib(hid)
open Go Go.ChangeShapes Go.WideShapes Go.ChangeAt Go.RowKit Go.Lib Go.Shelf
theorem zfi {α:Type} {Q:Nat->α->Prop}:∀ n,(∀ i,i<n->∃ x,Q i x)->∃ l:List α,l.length=n/\∀ i x,l[i]? = some x->Q i x
 | 0,_=>⟨[],rfl,fun i x h=>by simp at h⟩
 | n+1,h=>by
  obtain ⟨l,hl,hq⟩:=zfi n (fun i hi=>h i (by omega))
  obtain ⟨x,hx⟩:=h n (by omega)
  refine ⟨l++[x],by simp [hl],fun i y hy=>?_⟩
  by_cases e:i<l.length
  ·rw [List.getElem?_append_left e] at hy;exact hq i y hy
  ·rw [List.getElem?_append_right (by omega)] at hy
   have:i=n:=by
    have:=(List.getElem?_eq_some_iff.1 hy).1;simp at this;omega
   subst this;rw [hl] at hy;simp at hy
   subst hy;exact hx
theorem zbI {H:Type} {P:Program} {e:TypeId}:∀ {l:List (DataW H)} {d:DataW H},d∈l->∀ n∈d.weights P e,n∈DataW.weightsAll P e l
 | [],d,h,_,_=>by simp at h
 | x :: r,d,h,n,hn=>by
  simp only [DataW.weightsAll,List.mem_append];rcases List.mem_cons.1 h with rfl | h
  ·exact .inl hn
  ·exact .inr (zbI h n hn)
def Pieces (W:World) (A:Option Addr) (ts:List GTok):Prop:=
 Toks W.heap.size W A ts/\(∀ t∈ts,0<=t.k/\t.k<=255/\0<=t.m/\t.m<=255)/\∀ t∈ts,t.s.size<=140737488351232
theorem zek {W:World} {a:Addr} {v:Value} (h:W.cell? a=some v):a.spot=none:=by
 cases hs:a.spot with
 | none=>rfl
 | some z=>
  unfold World.cell? at h;cases ho:W.heap[a.block]? with
  | none=>simp [ho] at h
  | some o=>cases o<;>simp [ho,hs] at h
theorem zbJ (a:Addr) (k:Nat):(a.add k).block=a.block:=by unfold Addr.add;split<;>rfl
theorem zmc (a:Addr) (i j:Nat) (h:i=0->a.spot=none):(a.add (i * 4)).add j =⟨a.block,a.off+i * 4+j,none⟩:=by
 obtain ⟨b,o,sp⟩:=a;by_cases e:i=0
 ·have:=h e
  simp only at this;subst e this;by_cases e':j=0<;>simp [Addr.add,e']
 ·have e4:¬ i * 4=0:=by omega
  by_cases e':j=0
  ·subst e';simp only [Addr.add,if_neg e4,if_true,Nat.add_zero]
  ·simp only [Addr.add,if_neg e4,if_neg e']
theorem zgF:Tryz.prog.cellsOf 53=4:=by kernel_rfl
theorem zcv:Tryz.prog.cellsOf 5=1:=by kernel_rfl
theorem zd3:Tryz.prog.cellsOf 2=1:=by kernel_rfl
theorem zb8:Tryz.prog.cellsOf 9=1:=by kernel_rfl
theorem zf5 {H:Type} {enc:TypeId × Value->H} {W:World} {spare:Nat->Bool} {held:Bool} {v:Value} {d:DataW H} {p:List MemPlace} (h:DataW.Trod enc Tryz.prog W 0 spare held 22 v d p)
  (hv:∃ A n c,v=.slice A n c) (hsz:∀ n∈d.weights Tryz.prog 22,n<=reachBytes):
  ∃ (A:Option Addr) (cap:Nat) (ts:List GTok),v=.slice A ts.length cap/\ts.length<=cap/\cap<=maxLen/\Pieces W A ts:=by
 obtain ⟨fuel,hf⟩:=h;obtain ⟨A0,n0,c0,rfl⟩:=hv;rcases Go.Deep.open_slice Tryz.underlying22 hf with ⟨hc,_⟩ | ⟨a,len,cap,m,n,D,Pl,hcs,_,hlc,hcm,hm,hx,hi⟩
 ·simp only [Value.cells,List.cons.injEq,and_true] at hc
  simp only [Value.slice.injEq] at hc;obtain ⟨rfl,rfl,rfl⟩:=hc;exact ⟨none,0,[],rfl,Nat.le_refl _,by decide,fun h=>absurd rfl h,fun t ht=>by simp at ht,fun t ht=>by simp at ht⟩
 simp only [Value.cells,List.cons.injEq,and_true] at hcs;simp only [Value.slice.injEq] at hcs;obtain ⟨rfl,rfl,rfl⟩:=hcs;simp only [Prod.mk.injEq] at hx;have hlm:n0<=m:=by rw [hm];split<;>omega
 obtain ⟨ts,hts,hq⟩:=zfi (Q:=fun i (t:GTok)=>(W.cell? ⟨a.block,a.off+i * 4,none⟩=some (.int .u8 t.k)/\W.cell? ⟨a.block,a.off+i * 4+1,none⟩=some (.int .i64 t.n) /\
   W.cell? ⟨a.block,a.off+i * 4+2,none⟩=some (.string t.s)/\W.cell? ⟨a.block,a.off+i * 4+3,none⟩=some (.int .u8 t.m))/\(i=0->a.spot=none)/\a.block<W.heap.size/\(0<=t.k/\t.k<=255/\0<=t.m/\t.m<=255)/\t.s.size<=reachBytes) n0 (fun i hin=>by
  obtain ⟨cs',hcl,ht'⟩:=hi i (by omega)
  rw [zgF] at hcl;obtain ⟨xs,n',_,hxx,hlen,hxl,hg⟩:=DataW.trod_struct Tryz.underlying53 ht';rw [zgF] at hlen;obtain ⟨_,_,hat⟩:=World.cells?_some hcl
  match cs',hlen with
  | [c0,c1,c2,c3],_=>
   have g0 : DataW.trod enc Tryz.prog W 0 spare held n' 5 [c0] = xs[0]? := by simpa [zcv] using hg 0 { name := "Kind", type := 5, offset := 0, embedded := false, tag := "", pkgPath := "", byteOffset := 0 } rfl
   have g1 : DataW.trod enc Tryz.prog W 0 spare held n' 2 [c1] = xs[1]? := by simpa [zd3] using hg 1 { name := "N", type := 2, offset := 1, embedded := false, tag := "", pkgPath := "", byteOffset := 8 } rfl
   have g2 : DataW.trod enc Tryz.prog W 0 spare held n' 9 [c2] = xs[2]? := by simpa [zb8] using hg 2 { name := "S", type := 9, offset := 2, embedded := false, tag := "", pkgPath := "", byteOffset := 16 } rfl
   have g3 : DataW.trod enc Tryz.prog W 0 spare held n' 5 [c3] = xs[3]? := by simpa [zcv] using hg 3 { name := "Many", type := 5, offset := 3, embedded := false, tag := "", pkgPath := "", byteOffset := 32 } rfl
   match xs,hxl with
   | [y0,y1,y2,y3],_=>
    obtain ⟨k,e0,f0,w0⟩:=DataW.trod_int Tryz.underlying5 g0;obtain ⟨z,e1,f1,w1⟩:=DataW.trod_int Tryz.underlying2 g1;obtain ⟨s,e2,f2,w2⟩:=DataW.trod_string Tryz.underlying9 g2;obtain ⟨m',e3,f3,w3⟩:=DataW.trod_int Tryz.underlying5 g3;simp only [List.cons.injEq,and_true] at e0 e1 e2 e3;subst e0 e1 e2 e3;have q0:W.cell? ((a.add (i * 4)).add 0)=some (.int .u8 k):=hat 0 (by omega)
    have q1:W.cell? ((a.add (i * 4)).add 1)=some (.int .i64 z):=hat 1 (by omega)
    have q2:W.cell? ((a.add (i * 4)).add 2)=some (.string s):=hat 2 (by omega)
    have q3:W.cell? ((a.add (i * 4)).add 3)=some (.int .u8 m'):=hat 3 (by omega)
    have hsp:i=0->a.spot=none:=fun e=>by subst e;simpa [Addr.add] using zek q0
    have hab:a.block<W.heap.size:=by
     have:=World.block_lt_of_cell? W _ q0
     rwa [zbJ,zbJ] at this
    have hd:∀ j,(a.add (i * 4)).add j =⟨a.block,a.off+i * 4+j,none⟩:=fun j=>zmc a i j hsp
    rw [hd] at q0 q1 q2 q3;have a1:-9223372036854775808<=z/\z<=9223372036854775807:=by simpa [Lit.wf,IntKind.min,IntKind.max,IntKind.signed,IntKind.bits] using w1
    refine ⟨⟨k,z,s,m',a1⟩,⟨q0,q1,q2,q3⟩,hsp,hab,?_,?_⟩
    ·have a0:0<=k/\k<=255:=by simpa [Lit.wf,IntKind.min,IntKind.max,IntKind.signed,IntKind.bits] using w0
     have a3:0<=m'/\m'<=255:=by simpa [Lit.wf,IntKind.min,IntKind.max,IntKind.signed,IntKind.bits] using w3
     exact ⟨a0.1,a0.2,a3.1,a3.2⟩
    ·have hDi:D i=.agg [.lit (.int .u8 k),.lit (.int .i64 z),.lit (.string s.data.toList),.lit (.int .u8 m')]:=by
      simp only [Prod.mk.injEq] at hxx;rw [hxx.1];simp [f0,f1,f2,f3]
     have hin:s.data.toList.length∈DataW.weightsAll Tryz.prog 53 ((List.range n0).map D):=zbI (List.mem_map.2 ⟨i,List.mem_range.2 hin,rfl⟩) _ (by rw [hDi];simp [DataW.weights,Tryz.underlying53,DataW.weightsEach])
     have:=hsz s.data.toList.length (by
      rw [hx.1];simp only [DataW.weights,Tryz.underlying22,List.mem_cons,List.mem_append];exact .inr (.inl hin))
     simpa using this)
 refine ⟨some a,c0,ts,by rw [hts],by omega,hcm,fun _=>⟨a,rfl,?_⟩,fun t ht=>?_,fun t ht=>?_⟩
 ·have h0:0<ts.length:=by
   cases ts with
   | nil=>rename_i hne;exact absurd rfl hne
   | cons _ _=>simp
  have:=hq 0 _ (List.getElem?_eq_getElem h0);exact ⟨this.2.1 rfl,this.2.2.1,fun i t hi=>(hq i t hi).1⟩
 ·obtain ⟨i,hi⟩:=List.getElem?_of_mem ht
  exact (hq i t hi).2.2.2.1
 ·obtain ⟨i,hi⟩:=List.getElem?_of_mem ht
  exact (hq i t hi).2.2.2.2
end Go.Proofs.YtmmgdkpkcoopgaaGreatDoor
namespace Go.Proofs.YtmmgdkpkcoopgaaGreatDoor
open Go.Lib(hid)
open Go Go.RowKit
def less (a b:ByteArray):Bool:=Op.bytesLess a.toList b.toList
def place (key:ByteArray):List ByteArray->Nat
 | []=>0
 | k :: r=>if less k key then 1+place key r else 0
theorem zbA (key:ByteArray):∀ ks,place key ks<=ks.length
 | []=>Nat.le_refl _
 | k :: r=>by unfold place;have:=zbA key r;split<;>simp<;>omega
theorem zdV (key:ByteArray):∀ (ks:List ByteArray) (i:Nat) (k:ByteArray),ks[i]? = some k->i<place key ks->less k key=true
 | [],_,_,h,_=>by simp at h
 | x :: r,0,k,h,hi=>by
  simp at h;subst h
  unfold place at hi;by_cases hx:less x key=true
  ·exact hx
  ·rw [if_neg hx] at hi;omega
 | x :: r,i+1,k,h,hi=>by
  unfold place at hi;by_cases hx:less x key=true
  ·rw [if_pos hx] at hi
   exact zdV key r i k (by simpa using h) (by omega)
  ·rw [if_neg hx] at hi;omega
theorem zcs (key:ByteArray):∀ (ks:List ByteArray) (n:Nat),n<=ks.length->(∀ i k,ks[i]? = some k->i<n->less k key=true)->(∀ k,ks[n]? = some k->less k key=false)->place key ks=n
 | [],n,h,_,_=>by simp at h;subst h;rfl
 | x :: r,0,_,_,h2=>by
  have:=h2 x rfl;unfold place;rw [if_neg (by simp [this])]
 | x :: r,n+1,h,h1,h2=>by
  have hx:=h1 0 x rfl (by omega)
  unfold place;rw [if_pos hx,zcs key r n (by simpa using h) (fun i k hi hlt=>h1 (i+1) k (by simpa using hi) (by omega)) (fun k hk=>h2 k (by simpa using hk))]
  omega
def there (key:ByteArray) (ks:List ByteArray):Bool:=match ks[place key ks]? with | some k=>k.toList == key.toList | none=>false
def FieldPost (ks:List ByteArray) (key:ByteArray) (w:World) (e:Ending) (w':World):Prop:=
 e=.returned (.tuple #[.int .i64 (place key ks),.bool (there key ks)])/\Below w.heap.size w w'
def FieldRel (key:ByteArray) (ks:List ByteArray) (i:Value):Prop:=
 ∃ k:Nat,k<=ks.length/\i=.int .i64 k/\(∀ i x,ks[i]? = some x->i<k->less x key=true)
theorem zd9 (ok:Nat->Prop) (v:Value) (g:GV) (key:ByteArray) (w:World) (hv:g.val ok w v):
  Calls Tryz.prog 92 #[v,.string key] w (FieldPost g.keys key w):=by
 obtain ⟨L,O,rfl,_,hO⟩:=hv;have hkl:=hO.1;obtain ⟨A,c,rfl,hc1,hc2,hf⟩:=hO.form;clear hO;unfold maxLen at hc2;generalize g.keys=ks at *;generalize g.vz=ov at *;generalize g.kq=gk;generalize g.num=gn;generalize g.str=gs;have HL:=hid hkl;clear hkl;go_enter Tryz.func92,Tryz.ntmps92
 go_wp2
 have hB:Below w.heap.size w (w.alloc (.cells #[Value.int IntKind.u8 gk,Value.int IntKind.i64 gn,Value.string gs,L,Value.slice A ov.length c] 29)):=(Below.refl _ _).alloc (Nat.le_refl _) _;have h4:(w.alloc (.cells #[Value.int IntKind.u8 gk,Value.int IntKind.i64 gn,Value.string gs,L,Value.slice A ov.length c] 29)).cell? ⟨w.heap.size,4,none⟩=some (Value.slice A ov.length c):=by simp
 generalize (w.alloc (.cells #[Value.int IntKind.u8 gk,Value.int IntKind.i64 gn,Value.string gs,L,Value.slice A ov.length c] 29))=W at hB h4 ⊢
 go_loop [10] (FieldRel key ks) (fun i=>ov.length - (intOf i).toNat)
 case atStart=>exact ⟨0,Nat.zero_le _,rfl,fun _ _ _ h=>absurd h (by omega)⟩
 case round=>
  obtain ⟨k,hk,rfl,hless⟩:=hrel;have HS:=hid hless;clear hless;have HL':=HL.out;by_cases hlt:k<ks.length
  ·have hlt':k<ov.length:=by omega
   obtain ⟨b,o,rfl,hK,hks,_⟩:=hf (by intro e;rw [e] at hlt';simp at hlt')
   have hc0:=hks.get (List.getElem?_eq_getElem hlt);have hc1:=(hB.cell (p:=⟨b,o+k * 6,none⟩) hK.lt).trans hc0;have HG:=hid (List.getElem?_eq_getElem hlt);clear hc0 hks hK hf HL';generalize ks[k]=kk at *;by_cases hl:less kk key=true
   ·have hl':Op.bytesLess kk.toList key.toList=true:=hl
    go_wp2
    go_round
    case rel=>exact ⟨k+1,by omega,by go_num,fun i x hx hi=>by
     by_cases e:i=k
     ·subst e;rw [HG.out] at hx;cases hx;exact hl
     ·exact HS.out i x hx (by omega)⟩
    case measure=>simp [intOf];omega
   ·have hl':Op.bytesLess kk.toList key.toList=false:=by simpa [less] using hl
    have HP:=hid (zcs key ks k hk HS.out (fun x hx=>by rw [HG.out] at hx;cases hx;exact hl'))
    have HT:=hid (show there key ks=(kk.toList == key.toList) by unfold there;rw [HP.out,HG.out])
    clear hl;go_wp2
    go_quiet (fail)
    go_wp2
    go_ret2
    refine ⟨?_,?_⟩
    ·show Ending.returned (.tuple #[.int .i64 k,.bool (kk.toList == key.toList)])=_
     rw [HP.out,HT.out]
    ·first | exact hB.drew | exact below_drewNv hB _ | exact ⟨hB.os,hB.tape,hB.output,hB.size,hB.block⟩
  ·have hk':¬ k<ov.length:=by omega
   clear HL';go_wp2
   go_ret2
   refine ⟨?_,hB⟩
   have hk2:k=ks.length:=by omega
   subst hk2;have HP:=zcs key ks ks.length (Nat.le_refl _) HS.out (fun x hx=>by simp at hx)
   show Ending.returned (.tuple #[.int .i64 ov.length,.bool false])=_
   rw [HP,show there key ks=false by unfold there;rw [HP];simp,HL.out]
theorem zaT (ok:Nat->Prop) (v:Value) (g:GV) (key:ByteArray) (w:World) (hv:g.val ok w v):
  Calls Tryz.prog 41 #[v,.string key] w (FieldPost g.keys key w):=by
 obtain ⟨L,O,rfl,_,hO⟩:=hv;have hkl:=hO.1;obtain ⟨A,c,rfl,hc1,hc2,hf⟩:=hO.form;clear hO;unfold maxLen at hc2;generalize g.keys=ks at *;generalize g.vz=ov at *;generalize g.kq=gk;generalize g.num=gn;generalize g.str=gs;have HL:=hid hkl;clear hkl;go_enter Tryz.func41,Tryz.ntmps41
 go_wp2
 have hB:Below w.heap.size w (w.alloc (.cells #[Value.int IntKind.u8 gk,Value.int IntKind.i64 gn,Value.string gs,L,Value.slice A ov.length c] 29)):=(Below.refl _ _).alloc (Nat.le_refl _) _;have h4:(w.alloc (.cells #[Value.int IntKind.u8 gk,Value.int IntKind.i64 gn,Value.string gs,L,Value.slice A ov.length c] 29)).cell? ⟨w.heap.size,4,none⟩=some (Value.slice A ov.length c):=by simp
 generalize (w.alloc (.cells #[Value.int IntKind.u8 gk,Value.int IntKind.i64 gn,Value.string gs,L,Value.slice A ov.length c] 29))=W at hB h4 ⊢
 go_loop [6] (FieldRel key ks) (fun i=>ov.length - (intOf i).toNat)
 case atStart=>exact ⟨0,Nat.zero_le _,rfl,fun _ _ _ h=>absurd h (by omega)⟩
 case round=>
  obtain ⟨k,hk,rfl,hless⟩:=hrel;have HS:=hid hless;clear hless;have HL':=HL.out;by_cases hlt:k<ks.length
  ·have hlt':k<ov.length:=by omega
   have hltz:(k:Int)<(ov.length:Int):=by omega
   obtain ⟨b,o,rfl,hK,hks,_⟩:=hf (by intro e;rw [e] at hlt';simp at hlt')
   have hc0:=hks.get (List.getElem?_eq_getElem hlt);have hc1:=(hB.cell (p:=⟨b,o+k * 6,none⟩) hK.lt).trans hc0;have HG:=hid (List.getElem?_eq_getElem hlt);clear hc0 hks hK hf HL';generalize ks[k]=kk at *;by_cases hl:less kk key=true
   ·have hl':Op.bytesLess kk.toList key.toList=true:=hl
    go_wp2
    go_round
    case rel=>exact ⟨k+1,by omega,by go_num,fun i x hx hi=>by
     by_cases e:i=k
     ·subst e;rw [HG.out] at hx;cases hx;exact hl
     ·exact HS.out i x hx (by omega)⟩
    case measure=>simp [intOf];omega
   ·have hl':Op.bytesLess kk.toList key.toList=false:=by simpa [less] using hl
    have HP:=hid (zcs key ks k hk HS.out (fun x hx=>by rw [HG.out] at hx;cases hx;exact hl'))
    have HT:=hid (show there key ks=(kk.toList == key.toList) by unfold there;rw [HP.out,HG.out])
    clear hl;go_wp2
    go_quiet (fail)
    go_wp2
    go_ret2
    refine ⟨?_,?_⟩
    ·show Ending.returned (.tuple #[.int .i64 k,.bool (kk.toList == key.toList)])=_
     rw [HP.out,HT.out]
    ·first | exact hB.drew | exact below_drewNv hB _ | exact ⟨hB.os,hB.tape,hB.output,hB.size,hB.block⟩
  ·have hk':¬ k<ov.length:=by omega
   have hkz:¬ (k:Int)<(ov.length:Int):=by omega
   have hd:decide ((k:Int)<(ov.length:Int))=false:=by simpa using hk'
   clear HL';go_wp2
   go_quiet (fail)
   go_wp2
   go_ret2
   refine ⟨?_,by first | exact hB.drew | exact below_drewNv hB _ | exact ⟨hB.os,hB.tape,hB.output,hB.size,hB.block⟩⟩
   have HL':=HL.out;have hk2:k=ks.length:=by omega
   subst hk2;have HP:=zcs key ks ks.length (Nat.le_refl _) HS.out (fun x hx=>by simp at hx)
   show Ending.returned (.tuple #[.int .i64 ks.length,.bool false])=_
   rw [HP,show there key ks=false by unfold there;rw [HP];simp]
end Go.Proofs.YtmmgdkpkcoopgaaGreatDoor
namespace Go.Proofs.YtmmgdkpkcoopgaaGreatDoor
open Go.Lib(hid)
open Go Go.RowKit Go.Shelf
attribute [local go_sem] Oper.semAt_some
theorem infoSpot:(Tryz.prog.info? 168).map (fun i=>(i.zero,i.size,i.bytes))=some (some (.agg #[.int .i64 0,.pointer none]),2,16):=by kernel_rfl
abbrev Due:=Item × List Item × List (Nat × Array Value)
abbrev Due.encs (x:Due):Array Value:=#[.int .i64 x.1.d,.pointer (some ⟨x.1.b,x.1.off,none⟩)]
def Due.Pre (J:List Item->World->Prop) (x:Due) (W:World):Prop:=J (x.2.1++[x.1]) W/\Owned 168 x.2.2 W
def Due.Post (J:List Item->World->Prop) (x:Due) (W:World):Prop:=
 Owned 168 x.2.2 W/\∃ lb lo ob oo,KidsAt W x.1 168 lb lo ob oo/\J (x.2.1++kids x.1 lb lo ob oo) W
structure AllInv (B M:Nat) (J:List Item->World->Prop) (W0:World) (base:Nat) (S:List Item) (v:Value) (W:World):Prop where
 row:W.ownsRow base 168 2 v S.length (cellsOf S)
 inv:J S W
 keep:KeepsFrom B W0 W
 size:base<=W.heap.size
 bound:∀ x∈S,x.d+x.g.size<=M
 sum:isum S<=M
def AllRel (B M:Nat) (J:List Item->World->Prop) (W0:World) (base:Nat) (m:Nat) (v:Value) (W:World):Prop:=∃ S,isum S=m/\AllInv B M J W0 base S v W
structure PushInv (W3:World) (base ab:Nat) (bc:Array Value) (rest its:List Item) (k:Nat) (v:Value) (W:World):Prop where
 row:W.ownsRow base 168 2 v (rest.length+k) (cellsOf (rest++its.take k))
 but:But 168 base W3 W
 box:Whole W ab 168 bc
 ne:v.ownBlock≠some ab
def PushRel (W3:World) (base ab:Nat) (bc:Array Value) (rest its:List Item) (v i:Value) (W:World):Prop:=
 ∃ k:Nat,i=.int .i64 k/\k<=its.length/\PushInv W3 base ab bc rest its k v W
theorem PushInv.push {W3 wr W4:World} {base ab k:Nat} {bc:Array Value} {rest its:List Item} {v v':Value} (h:PushInv W3 base ab bc rest its k v wr) (o:Obj) (y:Item) (hy:its.take (k+1)=its.take k++[y])
  (hown:W4.ownsRow base 168 2 v' (rest.length+k+1) (cellsOf (rest++its.take k)++y.cells)) (hg':(wr.alloc o).drew.grownBy W4 v.ownBlock) (hat:v'.ownBlock=v.ownBlock\/v'.ownBlock=some (wr.alloc o).drew.heap.size):
  PushInv W3 base ab bc rest its (k+1) v' W4:=by
 have hg:(wr.alloc o).grownBy W4 v.ownBlock:=⟨hg'.os,hg'.tape,hg'.output,hg'.size,hg'.block⟩;refine ⟨?_,(h.but.alloc o).grown (h.row.alloc o) hg,(h.box.alloc o).grown hg (fun e=>h.ne e.symm),?_⟩
 ·rw [hy,<- List.append_assoc,zbi]
  simpa [cellsOf,Nat.add_assoc] using hown
 ·rcases hat with e | e
  ·rw [e];exact h.ne
  ·rw [e];intro e';have:=h.box.lt;have e2:(wr.alloc o).heap.size=ab:=Option.some.inj e';simp at e2;omega
theorem PushInv.second {W3 wr:World} {base ab:Nat} {bc:Array Value} {rest its its2:List Item} {k:Nat} {v:Value} (h:PushInv W3 base ab bc rest its k v wr) (hk:k=its.length):PushInv W3 base ab bc (rest++its) its2 0 v wr:=by
 subst hk;refine ⟨?_,h.but,h.box,h.ne⟩
 have:=h.row;rw [List.take_length] at this
 simpa using this
theorem AllInv.next {B M base:Nat} {J:List Item->World->Prop} (hJ:∀ S X Y,J S X->But 168 base X Y->J S Y) {W0 wo W3 W5:World} {rest:List Item} {x:Item} {v vo:Value} {lb lo ob oo ab k:Nat} {bc:Array Value}
  (h:AllInv B M J W0 base (rest++[x]) vo wo) (hJ3:J (rest++kids x lb lo ob oo) W3) (hk3:KeepsFrom B wo W3)
  (hp:PushInv W3 base ab bc (rest++itemsAt (x.d+1) lb 5 lo x.g.il) (itemsAt (x.d+1) ob 6 (oo+1) x.g.vz) k v W5) (hk:k=x.g.vz.length):
  AllInv B M J W0 base (rest++kids x lb lo ob oo) v W5/\isum (rest++kids x lb lo ob oo)<isum (rest++[x]):=by
 have hs:=zjm x lb lo ob oo;have hx:isum (rest++[x])=isum rest+x.g.size:=by rw [zbT];simp [isum]
 have hb:=h.bound x (by simp)
 have hsum:=h.sum;refine ⟨⟨?_,hJ _ _ _ hJ3 hp.but,(h.keep.trans hk3).trans (hp.but.others B),?_,?_,?_⟩,?_⟩
 ·have:=hp.row
  rw [hk,List.take_of_length_le (by rw [zau];exact Nat.le_refl _),List.append_assoc] at this
  have e:(rest++kids x lb lo ob oo).length=(rest++itemsAt (x.d+1) lb 5 lo x.g.il).length+x.g.vz.length:=by
   unfold kids;simp [zau];omega
  rw [e];exact this
 ·have h1:=h.size;have h2:=hk3.size;have h3:=hp.but.size;omega
 ·intro y hy
  rcases List.mem_append.1 hy with hy | hy
  ·exact h.bound y (by simp [hy])
  ·have hz:=zaD x.g
   unfold kids at hy;rcases List.mem_append.1 hy with hy | hy
   ·have:=zb2 hy;omega
   ·have:=zb2 hy;omega
 ·rw [zbT];omega
 ·rw [zbT];omega
theorem zcP (n:Nat) (hn:1<=n) (B M:Nat) (hM:M<=1000000000) (W0:World) (J:List Item->World->Prop) (hJ:∀ S X Y,J S X->But 168 W0.heap.size X Y->J S Y)
  (Bv:Nat) (x0:Item) (l:Nat) (h0:J [x0] W0) (hd0:x0.d+x0.g.size<=M) (hBv:W0.cell? ⟨Bv,0,none⟩=some (.pointer (some ⟨x0.b,x0.off,none⟩))) (hx0:x0.d=0):
  Dues Fence.wide n Tryz.prog 121 #[.pointer (some ⟨Bv,0,none⟩)] Due.encs B (Due.Pre J) (Due.Post J) (J []) l W0:=by
 intro Jx hY;refine callsIn_of_wp Tryz.func121 rfl trivial ?_ rfl
 simp only [Tryz.ntmps121,List.size_toArray,List.length_cons,List.length_nil,Nat.reduceAdd,Nat.reduceSub,Array.replicate_succ,Array.replicate_zero,List.push_toArray,List.append_toArray,List.nil_append,List.cons_append]
 gi_wp2
 gi_loopg [3] (isum [x0]) (AllRel B M J W0 W0.heap.size)
 case atStart=>
  refine ⟨[x0],rfl,⟨?_,hJ _ _ _ h0 ((But.refl _ _ _).alloc _),((But.refl 168 W0.heap.size W0).alloc _).others B,by simp,fun x hx=>by simp at hx;subst hx;exact hd0,by simp [isum];omega⟩⟩
  refine ⟨by simp [cellsOf,Item.cells],.inr ⟨W0.heap.size,1,_,rfl,Nat.le_refl _,heap_alloc_new W0 _,Nat.le_refl _,by decide,rfl,?_⟩⟩
  simp [cellsOf,Item.cells,hx0]
 case round=>
  obtain ⟨S,hS,hinv⟩:=hrel;rcases List.eq_nil_or_concat S with rfl | ⟨rest,x,rfl⟩
  ·obtain ⟨A,c,rfl⟩:=zaf hinv.row
   simp only [List.length_nil];have H:=hid hinv;clear hinv hS
   gi_wp2
   go_end0
   exact ⟨⟨_,rfl⟩,.inl ⟨H.out.keep,H.out.inv⟩⟩
  ·rw [List.concat_eq_append] at hinv hS
   obtain ⟨wo,rfl⟩:∃ wo:World,wo=wr:=⟨_,rfl⟩;obtain ⟨t,c,cur,hv,hc1,hc2,hbt,hwt,hcell⟩:=zlI hinv.row (by simp)
   subst hv;have hcd:=hcell (rest.length * 2) (.int .i64 x.d) (by rw [zbi,List.getElem?_append_right (by rw [za4];omega),za4];simp [cellsOf,Item.cells])
   have hcp:=hcell (rest.length * 2+1) (.pointer (some ⟨x.b,x.off,none⟩)) (by rw [zbi,List.getElem?_append_right (by rw [za4];omega),za4];simp [cellsOf,Item.cells])
   have hrow:=zgn hinv.row rest.length (by simp) (by simp)
   rw [zbi,<- za4,List.take_left] at hrow;have hlen:(rest++[x]).length=rest.length+1:=by simp
   simp only [hlen] at hc1 hrow ⊢;have hbd:=hinv.bound x (by simp)
   have hsz:=zdN x.g;have hln:rest.length<=M:=by have:=zlg (rest++[x]);have:=hinv.sum;rw [hlen] at *;omega
   unfold maxLen at hc2;have H:=hid hinv;have HR:=hid hrow;have HS:=hid hS;have HW:=hid hwt;clear hinv hrow hcell hS hlen hwt;have hdc:=fun o=>zab o hcd
   have hpc:=fun o=>zab o hcp
   generalize hN:rest.length=N at *;have HN:=hid hN;clear hN;have H2:But 168 W0.heap.size wo (wo.alloc (.cells #[.int .i64 x.d,.pointer (some ⟨x.b,x.off,none⟩)] 168)):=(But.refl _ _ _).alloc _;obtain ⟨fn,tmps,assign,body,hy,hR⟩:=hY (x,rest,[(t,cur),(wo.heap.size,#[.int .i64 x.d,.pointer (some ⟨x.b,x.off,none⟩)])]) (wo.alloc (.cells #[.int .i64 x.d,.pointer (some ⟨x.b,x.off,none⟩)] 168))
    ⟨hJ _ _ _ H.out.inv H2,fun p hp=>by
     simp only [List.mem_cons,List.not_mem_nil,or_false] at hp;rcases hp with rfl | rfl
     ·exact HW.out.alloc _
     ·exact Whole.new wo _ _⟩ (H.out.keep.trans (H2.others B))
   have HB:=hid H2;clear H2;dsimp only [Due.encs] at hy
   gi_wp2
   refine hR.mono ?_
   clear hR hy;rintro e W3 (⟨rfl,hk3,hown3,lb,lo,ob,oo,hkids,hJ3⟩ | ⟨rfl,hx3⟩)
   ·have hat:=hown3 _ (List.mem_cons_of_mem _ (List.mem_cons_self ..))
    have htd:=hown3 _ (List.mem_cons_self ..);have hrow3:W3.ownsRow W0.heap.size 168 2 (.slice (some ⟨t,0,none⟩) N c) (rest.length+0) (cellsOf (rest++(itemsAt (x.d+1) lb 5 lo x.g.il).take 0)):=by
     simp only [List.take_zero,List.append_nil,Nat.add_zero,HN.out];exact zbo HR.out (fun k hk=>by cases hk;exact (show W3.heap[t]? = _ from htd).trans (show wo.heap[t]? = _ from HW.out).symm)
    have hA0:W3.cell? ⟨wo.heap.size,0,none⟩=some (.int .i64 x.d):=(hat.cell 0).trans rfl;have hA1:W3.cell? ⟨wo.heap.size,1,none⟩=some (.pointer (some ⟨x.b,x.off,none⟩)):=(hat.cell 1).trans rfl;obtain ⟨AL,cL,hL3,hL3'⟩:=hkids.lst;have HAt:=hid hat;have HRow3:=hid hrow3;have HK:=hid hkids;have HJ3:=hid hJ3;have HK3:=hid hk3;have HL3:=hid hL3';clear hat htd hrow3 hkids hJ3 hk3 hown3 hL3';have hlen1:x.g.il.length<=M:=by have:=zaq x.g.il;have:=zaD x.g;omega
    gi_wp2
    gi_loopw [3,37] (PushRel W3 W0.heap.size wo.heap.size #[.int .i64 x.d,.pointer (some ⟨x.b,x.off,none⟩)] rest (itemsAt (x.d+1) lb 5 lo x.g.il)) (fun _ i _=>x.g.il.length - (intOf i).toNat)
    case atStart=>exact ⟨0,rfl,Nat.zero_le _,HRow3.out,But.refl _ _ _,HAt.out,by have:=HW.out.lt;simp [Value.ownBlock];omega⟩
    case round=>
     obtain ⟨k,rfl,hk,hp⟩:=hrel;rw [zau] at hk;have hB0:wr.cell? ⟨wo.heap.size,0,none⟩=some (.int .i64 x.d):=(hp.box.cell 0).trans rfl;have hB1:wr.cell? ⟨wo.heap.size,1,none⟩=some (.pointer (some ⟨x.b,x.off,none⟩)):=(hp.box.cell 1).trans rfl;have hkids:=hp.but.kids HK.out;by_cases hlt:k<x.g.il.length
     ·have hne:x.g.il≠[]:=fun e=>by rw [e] at hlt;simp at hlt
      obtain ⟨A1,c1,hL4,hL4'⟩:=hkids.lst;obtain rfl:=hL4' hne;obtain ⟨A2,c2,rfl⟩:=zaf hp.row;have HP:=hid hp;have HKd:=hid hkids;have hNk:rest.length+k<=2 * M:=by have:=HN.out;omega
      have b1:rest.length+k+1<=maxLen:=by unfold maxLen;omega
      have b2:(rest.length+k+1) * 16<=140737488355328:=by omega
      have HB12:=hid (And.intro b1 b2);have hbs:W0.heap.size<=wr.heap.size:=by have h1:=H.out.size;have h2:=HK3.out.size;have h3:=hp.but.size;simp at h2;omega
      have HAl:∀ o,wr.heap.size<=(wr.alloc o).heap.size:=fun o=>by simp
      have hwrap:IntKind.i64.wrap ((x.d:Int)+1)=(x.d:Int)+1:=IntWalk.i64_in _ (by omega)
      clear hp hkids hL4' hne b1 b2 hNk;obtain ⟨i0,hi0,hz0,hz1,hz2⟩:=info_parts infoSpot;have HI0:=hid hi0;have HZ0:=hid (And.intro hz0 (And.intro hz1 hz2));clear hi0 hz0 hz1 hz2
      gi_wp2
      refine wpIn_wide.2 ?_
      go_region_law (refine zaJ rfl (.tmp 40) (.tmp 52) 169 rfl W0.heap.size 168 i0 _ 2 16 Tryz.underlying169 HI0.out HZ0.out.1 HZ0.out.2.1 HZ0.out.2.2 rfl (by decide) (.slice A2 (rest.length+k) c2) (rest.length+k) _ (by simp [Act.eval]) ((HP.out.row.alloc _).drew) ⟨wr.heap.size,0,none⟩ 1 1 [.int .i64 ((x.d:Int)+1),.pointer (some ⟨lb,lo+k * 5,none⟩)] (by simp [Act.eval]) rfl (fun j u hj=>row_cells' wr wr.heap.size rfl [.int .i64 ((x.d:Int)+1),.pointer (some ⟨lb,lo+k * 5,none⟩)] 168 j u hj) (by simp [Value.oneCell']) HB12.out.1 HB12.out.2 (Nat.le_trans hbs (HAl _)) ?_;intro v4 W4 hown4 hg4 hat4;obtain ⟨A4,c4,rfl⟩:=zaf hown4;have H4:=hid (And.intro hown4 (And.intro hg4 hat4));clear hown4 hg4 hat4)
      all_goals
       gi_wp2
       go_roundw
       case rel=>exact ⟨k+1,by go_num,by rw [zau];omega,HP.out.push _ _ (zb4 hlt) H4.out.1 H4.out.2.1 H4.out.2.2⟩
       case measure=>simp [intOf];omega
     ·have hkl:k=(itemsAt (x.d+1) lb 5 lo x.g.il).length:=by rw [zau];omega
      have HP:=hid (hp.second (its2:=itemsAt (x.d+1) ob 6 (oo+1) x.g.vz) hkl);obtain ⟨AO,cO,hO3,hO3'⟩:=hkids.obj;have hlen2:x.g.vz.length<=M:=by have:=zaq x.g.vz;have:=zaD x.g;omega
      clear hp hkids hkl hO3'
      gi_wp2
      obtain ⟨wp,rfl⟩:∃ wp:World,wp=wr:=⟨_,rfl⟩
      gi_loopw [3,61] (PushRel W3 W0.heap.size wo.heap.size #[.int .i64 x.d,.pointer (some ⟨x.b,x.off,none⟩)] (rest++itemsAt (x.d+1) lb 5 lo x.g.il) (itemsAt (x.d+1) ob 6 (oo+1) x.g.vz)) (fun _ i _=>x.g.vz.length - (intOf i).toNat)
      case atStart=>exact ⟨0,rfl,Nat.zero_le _,HP.out⟩
      case round=>
       obtain ⟨k2,rfl,hk2,hp⟩:=hrel;rw [zau] at hk2;have hC0:wr.cell? ⟨wo.heap.size,0,none⟩=some (.int .i64 x.d):=(hp.box.cell 0).trans rfl;have hC1:wr.cell? ⟨wo.heap.size,1,none⟩=some (.pointer (some ⟨x.b,x.off,none⟩)):=(hp.box.cell 1).trans rfl;have hkids:=hp.but.kids HK.out;by_cases hlt:k2<x.g.vz.length
       ·have hne:x.g.vz≠[]:=fun e=>by rw [e] at hlt;simp at hlt
        obtain ⟨A1,c1,hL4,hL4'⟩:=hkids.obj;obtain rfl:=hL4' hne;obtain ⟨A2,c2,rfl⟩:=zaf hp.row;have HP2:=hid hp;have hNk:(rest++itemsAt (x.d+1) lb 5 lo x.g.il).length+k2<=3 * M:=by have:=HN.out;rw [List.length_append,zau];omega
        have b1:(rest++itemsAt (x.d+1) lb 5 lo x.g.il).length+k2+1<=maxLen:=by unfold maxLen;omega
        have b2:((rest++itemsAt (x.d+1) lb 5 lo x.g.il).length+k2+1) * 16<=140737488355328:=by omega
        have HB12:=hid (And.intro b1 b2);have hbs:W0.heap.size<=wr.heap.size:=by have h1:=H.out.size;have h2:=HK3.out.size;have h3:=hp.but.size;simp at h2;omega
        have HAl:∀ o,wr.heap.size<=(wr.alloc o).heap.size:=fun o=>by simp
        have hwrap:IntKind.i64.wrap ((x.d:Int)+1)=(x.d:Int)+1:=IntWalk.i64_in _ (by omega)
        have HY:Hid ((itemsAt (x.d+1) ob 6 (oo+1) x.g.vz).take (k2+1)=(itemsAt (x.d+1) ob 6 (oo+1) x.g.vz).take k2++[⟨x.d+1,ob,oo+k2 * 6+1,x.g.vz[k2]⟩]):=by
         rw [zb4 hlt,show oo+1+k2 * 6=oo+k2 * 6+1 by omega];rfl
        clear hp hkids hL4' hne b1 b2 hNk;generalize (rest++itemsAt (x.d+1) lb 5 lo x.g.il)=R2 at *;obtain ⟨i0,hi0,hz0,hz1,hz2⟩:=info_parts infoSpot;have HI0:=hid hi0;have HZ0:=hid (And.intro hz0 (And.intro hz1 hz2));clear hi0 hz0 hz1 hz2
        gi_wp2
        refine wpIn_wide.2 ?_
        go_region_law (refine zaJ rfl (.tmp 64) (.tmp 77) 169 rfl W0.heap.size 168 i0 _ 2 16 Tryz.underlying169 HI0.out HZ0.out.1 HZ0.out.2.1 HZ0.out.2.2 rfl (by decide) (.slice A2 (R2.length+k2) c2) (R2.length+k2) _ (by simp [Act.eval]) ((HP2.out.row.alloc _).drew) ⟨wr.heap.size,0,none⟩ 1 1 [.int .i64 ((x.d:Int)+1),.pointer (some ⟨ob,oo+k2 * 6+1,none⟩)] (by simp [Act.eval]) rfl (fun j u hj=>row_cells' wr wr.heap.size rfl [.int .i64 ((x.d:Int)+1),.pointer (some ⟨ob,oo+k2 * 6+1,none⟩)] 168 j u hj) (by simp [Value.oneCell']) HB12.out.1 HB12.out.2 (Nat.le_trans hbs (HAl _)) ?_;intro v4 W4 hown4 hg4 hat4;obtain ⟨A4,c4,rfl⟩:=zaf hown4;have H4:=hid (And.intro hown4 (And.intro hg4 hat4));clear hown4 hg4 hat4)
        all_goals
         gi_wp2
         go_roundw
         case rel=>exact ⟨k2+1,by go_num,by rw [zau];omega,HP2.out.push _ _ HY.out H4.out.1 H4.out.2.1 H4.out.2.2⟩
         case measure=>simp [intOf];omega
       ·have hkl:k2=x.g.vz.length:=by omega
        have HE:=hid (H.out.next hJ HJ3.out ((HB.out.others B).trans HK3.out) hp hkl);clear hp hkids hkl
        gi_wp2
        gi_roundg (isum (rest++kids x lb lo ob oo))
        case measure=>rw [<- HS.out];exact HE.out.2
        case rel=>exact ⟨_,rfl,HE.out.1⟩
   ·gi_wp2
    refine bodyPost_ret (results_none rfl _ _ _) rfl ?_
    exact ⟨⟨_,rfl⟩,.inr hx3⟩
end Go.Proofs.YtmmgdkpkcoopgaaGreatDoor
