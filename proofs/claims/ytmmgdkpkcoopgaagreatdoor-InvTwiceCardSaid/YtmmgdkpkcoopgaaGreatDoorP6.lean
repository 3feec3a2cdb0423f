/- The arguments that the statements on paths take, opened: a path, a slice of bytes; the two tables that the row lists. -/
import Derived.Test.YtmmgdkpkcoopgaaGreatDoorP2
import Derived.Test.YtmmgdkpkcoopgaaGreatDoorP5
import Derived.Test.YtmmgdkpkcoopgaaGreatDoorP3
import Derived.ChangeArms
import Derived.Stop.Joined
import Derived.SevenTiedAt
set_option maxRecDepth 100000
namespace Go.Proofs.YtmmgdkpkcoopgaaGreatDoor
open Go Go.ChangeShapes Go.WideShapes Go.ChangeAt Go.RowKit Go.Lib Go.Shelf
theorem own:ownKnob Tryz.prog.godebug=none:=by kernel_rfl
theorem zkS:Pinned.utf8First=firstData:=by kernel_rfl
theorem zjp:(Rows.laid_unicode_utf8_acceptRanges:DataW Unit)=acceptData:=by kernel_rfl
def laids : List (String × DataW Unit) := [("unicode/utf8.acceptRanges", Rows.laid_unicode_utf8_acceptRanges), ("unicode/utf8.first", Rows.laid_unicode_utf8_first)]
theorem laidOut:laidOutB Tryz.prog=true:=by kernel_rfl
theorem weigh {H:Type} {P:Program} {ts:List TypeId} {ds:List (DataW H)} {j:Nat} {t:TypeId} {d:DataW H} (h:(DataW.weightsEach P ts ds).all (·<=reachBytes)=true) (hd:ds[j]? = some d) (ht:ts[j]? = some t):∀ n∈d.weights P t,n<=reachBytes:=fun n hn=>by
 simpa using List.all_eq_true.1 h n (DataW.weights_mem_each ht hd n hn)
theorem zgg {W:World} (h:laidMetH Tryz.prog laids W):Tabs W:=by
 rw [MakeChecks.laidMetH_plain _ _ _ (by kernel_rfl)] at h
 have h1:=Lib.laidMet.reads h (.tail _ (.head _));have h2:=Lib.laidMet.reads h (.head _);unfold Rows.laid_unicode_utf8_first at h1;rw [zkS] at h1;rw [zjp] at h2;exact utf8Tabs_of_readsT (U8Types.of196 Tryz.laysValid) ⟨by kernel_rfl,by kernel_rfl,by kernel_rfl,by kernel_rfl,by kernel_rfl,by kernel_rfl,by kernel_rfl⟩ h1 h2
theorem zkn (os:Os) (args:Array Value):laidMetH Tryz.prog laids ((World.laidAll Tryz.prog os laids).forCall (fun _ _=>0) ⟨#[],args,[]⟩).memory:=by
 rw [MakeChecks.laidMetH_plain _ _ _ (by kernel_rfl)]
 exact laidMet_laidAll _ (by kernel_rfl) (by kernel_rfl)
theorem zhU (a:Addr) (n i j:Nat) (hn:n≠0) (h:i=0->a.spot=none):(a.add (i * n)).add j =⟨a.block,a.off+i * n+j,none⟩:=by
 obtain ⟨b,o,sp⟩:=a;by_cases e:i=0
 ·have:=h e
  simp only at this;subst e this;by_cases e':j=0<;>simp [Addr.add,e']
 ·have e4:¬ i * n=0:=Nat.mul_ne_zero e hn
  by_cases e':j=0
  ·subst e';simp only [Addr.add,if_neg e4,if_true,Nat.add_zero]
  ·simp only [Addr.add,if_neg e4,if_neg e']
theorem zeU:Tryz.prog.cellsOf 85=3:=by kernel_rfl
theorem ziM:Tryz.prog.cellsOf 4=1:=by kernel_rfl
theorem zjK:Tryz.prog.cellsOf 3=1:=by kernel_rfl
theorem zmz {H:Type} {enc:TypeId × Value->H} {W:World} {spare:Nat->Bool} {held:Bool} {v:Value} {d:DataW H} {p:List MemPlace} (h:DataW.Trod enc Tryz.prog W 0 spare held 43 v d p)
  (hv:∃ A n c,v=.slice A n c) (hsz:∀ n∈d.weights Tryz.prog 43,n<=reachBytes):
  ∃ (A:Option Addr) (cap:Nat) (ts:List GStep),v=.slice A ts.length cap/\ts.length<=cap/\cap<=maxLen/\Steps W.heap.size W A ts/\∀ t∈ts,t.key.size<=140737488351232:=by
 obtain ⟨fuel,hf⟩:=h;obtain ⟨A0,n0,c0,rfl⟩:=hv;rcases Go.Deep.open_slice Tryz.underlying43 hf with ⟨hc,_⟩ | ⟨a,len,cap,m,n,D,Pl,hcs,_,hlc,hcm,hm,hx,hi⟩
 ·simp only [Value.cells,List.cons.injEq,and_true] at hc
  simp only [Value.slice.injEq] at hc;obtain ⟨rfl,rfl,rfl⟩:=hc;exact ⟨none,0,[],rfl,Nat.le_refl _,by decide,fun h=>absurd rfl h,fun t ht=>by simp at ht⟩
 simp only [Value.cells,List.cons.injEq,and_true] at hcs;simp only [Value.slice.injEq] at hcs;obtain ⟨rfl,rfl,rfl⟩:=hcs;simp only [Prod.mk.injEq] at hx;have hlm:n0<=m:=by rw [hm];split<;>omega
 obtain ⟨ts,hts,hq⟩:=zfi (Q:=fun i (t:GStep)=>(W.cell? ⟨a.block,a.off+i * 3,none⟩=some (.bool t.list)/\W.cell? ⟨a.block,a.off+i * 3+1,none⟩=some (.int .i64 t.i) /\
   W.cell? ⟨a.block,a.off+i * 3+2,none⟩=some (.string t.key))/\(i=0->a.spot=none)/\a.block<W.heap.size/\t.key.size<=reachBytes) n0 (fun i hin=>by
  obtain ⟨cs',hcl,ht'⟩:=hi i (by omega)
  rw [zeU] at hcl;obtain ⟨xs,n',_,hxx,hlen,hxl,hg⟩:=DataW.trod_struct Tryz.underlying85 ht';rw [zeU] at hlen;obtain ⟨_,_,hat⟩:=World.cells?_some hcl
  match cs',hlen with
  | [c0,c1,c2],_=>
   have g0 : DataW.trod enc Tryz.prog W 0 spare held n' 4 [c0] = xs[0]? := by simpa [ziM] using hg 0 { name := "List", type := 4, offset := 0, embedded := false, tag := "", pkgPath := "", byteOffset := 0 } rfl
   have g1 : DataW.trod enc Tryz.prog W 0 spare held n' 3 [c1] = xs[1]? := by simpa [zjK] using hg 1 { name := "I", type := 3, offset := 1, embedded := false, tag := "", pkgPath := "", byteOffset := 8 } rfl
   have g2 : DataW.trod enc Tryz.prog W 0 spare held n' 9 [c2] = xs[2]? := by simpa [zb8] using hg 2 { name := "Key", type := 9, offset := 2, embedded := false, tag := "", pkgPath := "", byteOffset := 16 } rfl
   match xs,hxl with
   | [y0,y1,y2],_=>
    obtain ⟨k,e0,f0⟩:=DataW.trod_bool Tryz.underlying4 g0;obtain ⟨z,e1,f1,w1⟩:=DataW.trod_int Tryz.underlying3 g1;obtain ⟨s,e2,f2,w2⟩:=DataW.trod_string Tryz.underlying9 g2;simp only [List.cons.injEq,and_true] at e0 e1 e2;subst e0 e1 e2;have q0:W.cell? ((a.add (i * 3)).add 0)=some (.bool k):=hat 0 (by omega)
    have q1:W.cell? ((a.add (i * 3)).add 1)=some (.int .i64 z):=hat 1 (by omega)
    have q2:W.cell? ((a.add (i * 3)).add 2)=some (.string s):=hat 2 (by omega)
    have hsp:i=0->a.spot=none:=fun e=>by subst e;simpa [Addr.add] using zek q0
    have hab:a.block<W.heap.size:=by
     have:=World.block_lt_of_cell? W _ q0
     rwa [zbJ,zbJ] at this
    have hd:∀ j,(a.add (i * 3)).add j =⟨a.block,a.off+i * 3+j,none⟩:=fun j=>zhU a 3 i j (by decide) hsp
    rw [hd] at q0 q1 q2;refine ⟨⟨k,z,s⟩,⟨q0,q1,q2⟩,hsp,hab,?_⟩
    have hDi:D i=.agg [.lit (.bool k),.lit (.int .i64 z),.lit (.string s.data.toList)]:=by
     simp only [Prod.mk.injEq] at hxx;rw [hxx.1];simp [f0,f1,f2]
    have hin:s.data.toList.length∈DataW.weightsAll Tryz.prog 85 ((List.range n0).map D):=zbI (List.mem_map.2 ⟨i,List.mem_range.2 hin,rfl⟩) _ (by rw [hDi];simp [DataW.weights,Tryz.underlying85,DataW.weightsEach])
    have:=hsz s.data.toList.length (by
     rw [hx.1];simp only [DataW.weights,Tryz.underlying43,List.mem_cons,List.mem_append];exact .inr (.inl hin))
    simpa using this)
 refine ⟨some a,c0,ts,by rw [hts],by omega,hcm,fun _=>⟨a,rfl,?_⟩,fun t ht=>?_⟩
 ·have h0:0<ts.length:=by
   cases ts with
   | nil=>rename_i hne;exact absurd rfl hne
   | cons _ _=>simp
  have:=hq 0 _ (List.getElem?_eq_getElem h0);exact ⟨this.2.1 rfl,this.2.2.1,fun i t hi=>(hq i t hi).1⟩
 ·obtain ⟨i,hi⟩:=List.getElem?_of_mem ht
  exact (hq i t hi).2.2.2
def Bytes (hi:Nat) (W:World) (A:Option Addr) (bs:List Int):Prop:=
 bs≠[]->∃ b o,A=some ⟨b,o,none⟩/\b<hi/\∀ i x,bs[i]? = some x->W.cell? ⟨b,o+i,none⟩=some (.int .u8 x)
theorem zgT {H:Type} {enc:TypeId × Value->H} {W:World} {spare:Nat->Bool} {held:Bool} {v:Value} {d:DataW H} {p:List MemPlace} (h:DataW.Trod enc Tryz.prog W 0 spare held 40 v d p)
  (hv:∃ A n c,v=.slice A n c):
  ∃ (A:Option Addr) (cap:Nat) (bs:List Int),v=.slice A bs.length cap/\bs.length<=cap/\cap<=maxLen/\Bytes W.heap.size W A bs/\∀ x∈bs,0<=x/\x<=255:=by
 obtain ⟨fuel,hf⟩:=h;obtain ⟨A0,n0,c0,rfl⟩:=hv;rcases Go.Deep.open_slice Tryz.underlying40 hf with ⟨hc,_⟩ | ⟨a,len,cap,m,n,D,Pl,hcs,_,hlc,hcm,hm,hx,hi⟩
 ·simp only [Value.cells,List.cons.injEq,and_true] at hc
  simp only [Value.slice.injEq] at hc;obtain ⟨rfl,rfl,rfl⟩:=hc;exact ⟨none,0,[],rfl,Nat.le_refl _,by decide,fun h=>absurd rfl h,fun t ht=>by simp at ht⟩
 simp only [Value.cells,List.cons.injEq,and_true] at hcs;simp only [Value.slice.injEq] at hcs;obtain ⟨rfl,rfl,rfl⟩:=hcs;have hlm:n0<=m:=by rw [hm];split<;>omega
 obtain ⟨bs,hbs,hq⟩:=zfi (Q:=fun i (x:Int)=>W.cell? ⟨a.block,a.off+i,none⟩=some (.int .u8 x)/\(i=0->a.spot=none)/\a.block<W.heap.size/\0<=x/\x<=255) n0 (fun i hin=>by
  obtain ⟨cs',hcl,ht'⟩:=hi i (by omega)
  rw [zcv] at hcl;obtain ⟨hcsz,_,hat⟩:=World.cells?_some hcl;obtain ⟨k,e0,f0,w0⟩:=DataW.trod_int Tryz.underlying5 ht';subst e0;have q0:W.cell? ((a.add (i * 1)).add 0)=some (.int .u8 k):=hat 0 (by simp)
  have hsp:i=0->a.spot=none:=fun e=>by subst e;simpa [Addr.add] using zek q0
  have hab:a.block<W.heap.size:=by
   have:=World.block_lt_of_cell? W _ q0
   rwa [zbJ,zbJ] at this
  rw [zhU a 1 i 0 (by decide) hsp] at q0
  have a0:0<=k/\k<=255:=by simpa [Lit.wf,IntKind.min,IntKind.max,IntKind.signed,IntKind.bits] using w0
  exact ⟨k,by simpa using q0,hsp,hab,a0.1,a0.2⟩)
 refine ⟨some a,c0,bs,by rw [hbs],by omega,hcm,fun hne=>?_,fun t ht=>?_⟩
 ·have h0:0<bs.length:=by
   cases bs with
   | nil=>exact absurd rfl hne
   | cons _ _=>simp
  have h1:=hq 0 _ (List.getElem?_eq_getElem h0);obtain ⟨b,o,sp⟩:=a;have hs:=h1.2.1 rfl;simp only at hs;subst hs;exact ⟨b,o,rfl,h1.2.2.1,fun i x hi=>(hq i x hi).1⟩
 ·obtain ⟨i,hi⟩:=List.getElem?_of_mem ht
  exact (hq i t hi).2.2.2
end Go.Proofs.YtmmgdkpkcoopgaaGreatDoor
