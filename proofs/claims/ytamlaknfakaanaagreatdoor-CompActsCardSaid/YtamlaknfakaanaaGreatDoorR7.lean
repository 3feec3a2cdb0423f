/- The arguments that the statements on paths take, opened: a path, a slice of bytes; the two tables that the row lists. -/
import Derived.Test.YtamlaknfakaanaaGreatDoorR2
import Derived.Test.YtamlaknfakaanaaGreatDoorR6
import Derived.Test.YtamlaknfakaanaaGreatDoorR4
import Derived.ChangeArms
import Derived.Stop.Joined
import Derived.SevenTiedAt
set_option maxRecDepth 100000
namespace Go.Proofs.YtamlaknfakaanaaGreatDoor
open Go Go.ChangeShapes Go.WideShapes Go.ChangeAt Go.RowKit Go.Lib Go.Shelf
theorem own:ownKnob Tryz.prog.godebug=none:=by kernel_rfl
theorem first_eq:Pinned.utf8First=firstData:=by kernel_rfl
theorem accept_eq:(Rows.laid_unicode_utf8_acceptRanges:DataW Unit)=acceptData:=by kernel_rfl
def laids : List (String × DataW Unit) := [("unicode/utf8.acceptRanges", Rows.laid_unicode_utf8_acceptRanges), ("unicode/utf8.first", Rows.laid_unicode_utf8_first)]
theorem laidOut:laidOutB Tryz.prog=true:=by kernel_rfl
theorem weigh {H:Type} {P:Program} {ts:List TypeId} {ds:List (DataW H)} {j:Nat} {t:TypeId} {d:DataW H} (h:(DataW.weightsEach P ts ds).all (·≤reachBytes)=true) (hd:ds[j]? = some d) (ht:ts[j]? = some t):∀ n∈d.weights P t,n≤reachBytes:=fun n hn=>by
 simpa using List.all_eq_true.1 h n (DataW.weights_mem_each ht hd n hn)
theorem tabs_of_laid {W:World} (h:laidMetH Tryz.prog laids W):Tabs W:=by
 rw [MakeChecks.laidMetH_plain _ _ _ (by kernel_rfl)] at h
 have h1:=Lib.laidMet.reads h (.tail _ (.head _))
 have h2:=Lib.laidMet.reads h (.head _)
 unfold Rows.laid_unicode_utf8_first at h1
 rw [first_eq] at h1
 rw [accept_eq] at h2
 exact utf8Tabs_of_readsT (U8Types.of196 Tryz.laysValid) ⟨by kernel_rfl,by kernel_rfl,by kernel_rfl,by kernel_rfl,by kernel_rfl,by kernel_rfl,by kernel_rfl⟩ h1 h2
theorem laid_met (os:Os) (args:Array Value):laidMetH Tryz.prog laids ((World.laidAll Tryz.prog os laids).forCall (fun _ _=>0) ⟨#[],args,[]⟩).memory:=by
 rw [MakeChecks.laidMetH_plain _ _ _ (by kernel_rfl)]
 exact laidMet_laidAll _ (by kernel_rfl) (by kernel_rfl)
theorem add_addk (a:Addr) (n i j:Nat) (hn:n≠0) (h:i=0→a.spot=none):(a.add (i * n)).add j =⟨a.block,a.off+i * n+j,none⟩:=by
 obtain ⟨b,o,sp⟩:=a
 by_cases e:i=0
 ·have:=h e
  simp only at this
  subst e this
  by_cases e':j=0<;>simp [Addr.add,e']
 ·have e4:¬ i * n=0:=Nat.mul_ne_zero e hn
  by_cases e':j=0
  ·subst e';simp only [Addr.add,if_neg e4,if_true,Nat.add_zero]
  ·simp only [Addr.add,if_neg e4,if_neg e']
def Bytes (hi:Nat) (W:World) (A:Option Addr) (bs:List Int):Prop:=
 bs≠[]→∃ b o,A=some ⟨b,o,none⟩∧b<hi∧∀ i x,bs[i]? = some x→W.cell? ⟨b,o+i,none⟩=some (.int .u8 x)
theorem open_choice {H:Type} {enc:TypeId × Value→H} {W:World} {spare:Nat→Bool} {held:Bool} {v:Value} {d:DataW H} {p:List MemPlace} (h:DataW.Trod enc Tryz.prog W 0 spare held 46 v d p)
  (hv:∃ A n c,v=.slice A n c):
  ∃ (A:Option Addr) (cap:Nat) (bs:List Int),v=.slice A bs.length cap∧bs.length≤cap∧cap≤maxLen∧Bytes W.heap.size W A bs∧∀ x∈bs,0≤x∧x≤255:=by
 obtain ⟨fuel,hf⟩:=h
 obtain ⟨A0,n0,c0,rfl⟩:=hv
 rcases Go.Deep.open_slice Tryz.underlying46 hf with ⟨hc,_⟩ | ⟨a,len,cap,m,n,D,Pl,hcs,_,hlc,hcm,hm,hx,hi⟩
 ·simp only [Value.cells,List.cons.injEq,and_true] at hc
  simp only [Value.slice.injEq] at hc
  obtain ⟨rfl,rfl,rfl⟩:=hc
  exact ⟨none,0,[],rfl,Nat.le_refl _,by decide,fun h=>absurd rfl h,fun t ht=>by simp at ht⟩
 simp only [Value.cells,List.cons.injEq,and_true] at hcs
 simp only [Value.slice.injEq] at hcs
 obtain ⟨rfl,rfl,rfl⟩:=hcs
 have hlm:n0≤m:=by rw [hm];split<;>omega
 obtain ⟨bs,hbs,hq⟩:=list_of (Q:=fun i (x:Int)=>W.cell? ⟨a.block,a.off+i,none⟩=some (.int .u8 x)∧(i=0→a.spot=none)∧a.block<W.heap.size∧0≤x∧x≤255) n0 (fun i hin=>by
  obtain ⟨cs',hcl,ht'⟩:=hi i (by omega)
  rw [cells_byte] at hcl
  obtain ⟨hcsz,_,hat⟩:=World.cells?_some hcl
  obtain ⟨k,e0,f0,w0⟩:=DataW.trod_int Tryz.underlying5 ht'
  subst e0
  have q0:W.cell? ((a.add (i * 1)).add 0)=some (.int .u8 k):=hat 0 (by simp)
  have hsp:i=0→a.spot=none:=fun e=>by subst e;simpa [Addr.add] using spot_none q0
  have hab:a.block<W.heap.size:=by
   have:=World.block_lt_of_cell? W _ q0
   rwa [add_block,add_block] at this
  rw [add_addk a 1 i 0 (by decide) hsp] at q0
  have a0:0≤k∧k≤255:=by simpa [Lit.wf,IntKind.min,IntKind.max,IntKind.signed,IntKind.bits] using w0
  exact ⟨k,by simpa using q0,hsp,hab,a0.1,a0.2⟩)
 refine ⟨some a,c0,bs,by rw [hbs],by omega,hcm,fun hne=>?_,fun t ht=>?_⟩
 ·have h0:0<bs.length:=by
   cases bs with
   | nil=>exact absurd rfl hne
   | cons _ _=>simp
  have h1:=hq 0 _ (List.getElem?_eq_getElem h0)
  obtain ⟨b,o,sp⟩:=a
  have hs:=h1.2.1 rfl
  simp only at hs
  subst hs
  exact ⟨b,o,rfl,h1.2.2.1,fun i x hi=>(hq i x hi).1⟩
 ·obtain ⟨i,hi⟩:=List.getElem?_of_mem ht
  exact (hq i t hi).2.2.2
end Go.Proofs.YtamlaknfakaanaaGreatDoor
