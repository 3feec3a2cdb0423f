/- The iterator over all that is in a value: it hands each one that lies ahead to yield, then lays by what is in it. -/
import Derived.Test.YtlhfnemcpgfcdaaDoorQ1
import Derived.Deep.RegionLaw
import Derived.BigRegion
import Derived.Shelf.Abstract
import Derived.Shelf.RegionOpen
import Derived.WalkKit
import Derived.OwnWalkIn
import Derived.TacticsInMore
import Derived.LoopNIn
import Derived.LoopIn
import Derived.Sort.LoopGhostIn
import Derived.StillTailTactics
import Derived.Lib.Hide
import Derived.IntWalk
set_option maxRecDepth 100000
set_option maxHeartbeats 4000000
namespace Go.Proofs.YtlhfnemcpgfcdaaDoor
open Go Go.RowKit Go.Shelf
attribute [local go_sem] Oper.semAt_some
theorem infoSpot:(Tryd.prog.info? 116).map (fun i=>(i.zero,i.size,i.bytes))=some (some (.agg #[.int .i64 0,.pointer none]),2,16):=by kernel_rfl
abbrev Due:=Item × List Item × List (Nat × Array Value)
abbrev Due.encs (x:Due):Array Value:=#[.int .i64 x.1.d,.pointer (some ⟨x.1.b,x.1.off,none⟩)]
def Due.Pre (J:List Item→World→Prop) (x:Due) (W:World):Prop:=J (x.2.1++[x.1]) W∧Owned 116 x.2.2 W
def Due.Post (J:List Item→World→Prop) (x:Due) (W:World):Prop:=
 Owned 116 x.2.2 W∧∃ lb lo ob oo,KidsAt W x.1 116 lb lo ob oo∧J (x.2.1++kids x.1 lb lo ob oo) W
structure AllInv (B M:Nat) (J:List Item→World→Prop) (W0:World) (base:Nat) (S:List Item) (v:Value) (W:World):Prop where
 row:W.ownsRow base 116 2 v S.length (cellsOf S)
 inv:J S W
 keep:KeepsFrom B W0 W
 size:base≤W.heap.size
 bound:∀ x∈S,x.d+x.g.size≤M
 sum:isum S≤M
def AllRel (B M:Nat) (J:List Item→World→Prop) (W0:World) (base:Nat) (m:Nat) (v:Value) (W:World):Prop:=∃ S,isum S=m∧AllInv B M J W0 base S v W
structure PushInv (W3:World) (base ab:Nat) (bc:Array Value) (rest its:List Item) (k:Nat) (v:Value) (W:World):Prop where
 row:W.ownsRow base 116 2 v (rest.length+k) (cellsOf (rest++its.take k))
 but:But 116 base W3 W
 box:Whole W ab 116 bc
 ne:v.ownBlock≠some ab
def PushRel (W3:World) (base ab:Nat) (bc:Array Value) (rest its:List Item) (v i:Value) (W:World):Prop:=
 ∃ k:Nat,i=.int .i64 k∧k≤its.length∧PushInv W3 base ab bc rest its k v W
theorem PushInv.push {W3 wr W4:World} {base ab k:Nat} {bc:Array Value} {rest its:List Item} {v v':Value} (h:PushInv W3 base ab bc rest its k v wr) (o:Obj) (y:Item) (hy:its.take (k+1)=its.take k++[y])
  (hown:W4.ownsRow base 116 2 v' (rest.length+k+1) (cellsOf (rest++its.take k)++y.cells)) (hg':(wr.alloc o).drew.grownBy W4 v.ownBlock) (hat:v'.ownBlock=v.ownBlock∨v'.ownBlock=some (wr.alloc o).drew.heap.size):
  PushInv W3 base ab bc rest its (k+1) v' W4:=by
 have hg:(wr.alloc o).grownBy W4 v.ownBlock:=⟨hg'.os,hg'.tape,hg'.output,hg'.size,hg'.block⟩
 refine ⟨?_,(h.but.alloc o).grown (h.row.alloc o) hg,(h.box.alloc o).grown hg (fun e=>h.ne e.symm),?_⟩
 ·rw [hy,← List.append_assoc,cellsOf_append]
  simpa [cellsOf,Nat.add_assoc] using hown
 ·rcases hat with e | e
  ·rw [e];exact h.ne
  ·rw [e];intro e';have:=h.box.lt;have e2:(wr.alloc o).heap.size=ab:=Option.some.inj e';simp at e2;omega
theorem PushInv.second {W3 wr:World} {base ab:Nat} {bc:Array Value} {rest its its2:List Item} {k:Nat} {v:Value} (h:PushInv W3 base ab bc rest its k v wr) (hk:k=its.length):PushInv W3 base ab bc (rest++its) its2 0 v wr:=by
 subst hk
 refine ⟨?_,h.but,h.box,h.ne⟩
 have:=h.row
 rw [List.take_length] at this
 simpa using this
theorem AllInv.next {B M base:Nat} {J:List Item→World→Prop} (hJ:∀ S X Y,J S X→But 116 base X Y→J S Y) {W0 wo W3 W5:World} {rest:List Item} {x:Item} {v vo:Value} {lb lo ob oo ab k:Nat} {bc:Array Value}
  (h:AllInv B M J W0 base (rest++[x]) vo wo) (hJ3:J (rest++kids x lb lo ob oo) W3) (hk3:KeepsFrom B wo W3)
  (hp:PushInv W3 base ab bc (rest++itemsAt (x.d+1) lb 5 lo x.g.items) (itemsAt (x.d+1) ob 6 (oo+1) x.g.vals) k v W5) (hk:k=x.g.vals.length):
  AllInv B M J W0 base (rest++kids x lb lo ob oo) v W5∧isum (rest++kids x lb lo ob oo)<isum (rest++[x]):=by
 have hs:=isum_kids x lb lo ob oo
 have hx:isum (rest++[x])=isum rest+x.g.size:=by rw [isum_append];simp [isum]
 have hb:=h.bound x (by simp)
 have hsum:=h.sum
 refine ⟨⟨?_,hJ _ _ _ hJ3 hp.but,(h.keep.trans hk3).trans (hp.but.others B),?_,?_,?_⟩,?_⟩
 ·have:=hp.row
  rw [hk,List.take_of_length_le (by rw [itemsAt_length];exact Nat.le_refl _),List.append_assoc] at this
  have e:(rest++kids x lb lo ob oo).length=(rest++itemsAt (x.d+1) lb 5 lo x.g.items).length+x.g.vals.length:=by
   unfold kids;simp [itemsAt_length];omega
  rw [e]
  exact this
 ·have h1:=h.size;have h2:=hk3.size;have h3:=hp.but.size;omega
 ·intro y hy
  rcases List.mem_append.1 hy with hy | hy
  ·exact h.bound y (by simp [hy])
  ·have hz:=size_eq x.g
   unfold kids at hy
   rcases List.mem_append.1 hy with hy | hy
   ·have:=mem_items hy;omega
   ·have:=mem_items hy;omega
 ·rw [isum_append];omega
 ·rw [isum_append];omega
theorem all1_dues (n:Nat) (hn:1≤n) (B M:Nat) (hM:M≤1000000000) (W0:World) (J:List Item→World→Prop) (hJ:∀ S X Y,J S X→But 116 W0.heap.size X Y→J S Y)
  (Bv:Nat) (x0:Item) (l:Nat) (h0:J [x0] W0) (hd0:x0.d+x0.g.size≤M) (hBv:W0.cell? ⟨Bv,0,none⟩=some (.pointer (some ⟨x0.b,x0.off,none⟩))) (hx0:x0.d=0):
  Dues Fence.wide n Tryd.prog 79 #[.pointer (some ⟨Bv,0,none⟩)] Due.encs B (Due.Pre J) (Due.Post J) (J []) l W0:=by
 intro Jx hY
 refine callsIn_of_wp Tryd.func79 rfl trivial ?_ rfl
 simp only [Tryd.ntmps79,List.size_toArray,List.length_cons,List.length_nil,Nat.reduceAdd,Nat.reduceSub,Array.replicate_succ,Array.replicate_zero,List.push_toArray,List.append_toArray,List.nil_append,List.cons_append]
 gi_wp2
 gi_loopg [3] (isum [x0]) (AllRel B M J W0 W0.heap.size)
 case atStart=>
  refine ⟨[x0],rfl,⟨?_,hJ _ _ _ h0 ((But.refl _ _ _).alloc _),((But.refl 116 W0.heap.size W0).alloc _).others B,by simp,fun x hx=>by simp at hx;subst hx;exact hd0,by simp [isum];omega⟩⟩
  refine ⟨by simp [cellsOf,Item.cells],.inr ⟨W0.heap.size,1,_,rfl,Nat.le_refl _,heap_alloc_new W0 _,Nat.le_refl _,by decide,rfl,?_⟩⟩
  simp [cellsOf,Item.cells,hx0]
 case round=>
  obtain ⟨S,hS,hinv⟩:=hrel
  rcases List.eq_nil_or_concat S with rfl | ⟨rest,x,rfl⟩
  ·obtain ⟨A,c,rfl⟩:=own_form hinv.row
   simp only [List.length_nil]
   have H:=Lib.hid hinv
   clear hinv hS
   gi_wp2
   go_end0
   exact ⟨⟨_,rfl⟩,.inl ⟨H.out.keep,H.out.inv⟩⟩
  ·rw [List.concat_eq_append] at hinv hS
   obtain ⟨wo,rfl⟩:∃ wo:World,wo=wr:=⟨_,rfl⟩
   obtain ⟨t,c,cur,hv,hc1,hc2,hbt,hwt,hcell⟩:=own_at hinv.row (by simp)
   subst hv
   have hcd:=hcell (rest.length * 2) (.int .i64 x.d) (by rw [cellsOf_append,List.getElem?_append_right (by rw [cellsOf_length];omega),cellsOf_length];simp [cellsOf,Item.cells])
   have hcp:=hcell (rest.length * 2+1) (.pointer (some ⟨x.b,x.off,none⟩)) (by rw [cellsOf_append,List.getElem?_append_right (by rw [cellsOf_length];omega),cellsOf_length];simp [cellsOf,Item.cells])
   have hrow:=own_front hinv.row rest.length (by simp) (by simp)
   rw [cellsOf_append,← cellsOf_length,List.take_left] at hrow
   have hlen:(rest++[x]).length=rest.length+1:=by simp
   simp only [hlen] at hc1 hrow ⊢
   have hbd:=hinv.bound x (by simp)
   have hsz:=size_pos x.g
   have hln:rest.length≤M:=by have:=len_isum (rest++[x]);have:=hinv.sum;rw [hlen] at *;omega
   unfold maxLen at hc2
   have H:=Lib.hid hinv
   have HR:=Lib.hid hrow
   have HS:=Lib.hid hS
   have HW:=Lib.hid hwt
   clear hinv hrow hcell hS hlen hwt
   have hdc:=fun o=>cell_alloc o hcd
   have hpc:=fun o=>cell_alloc o hcp
   generalize hN:rest.length=N at *
   have HN:=Lib.hid hN
   clear hN
   have H2:But 116 W0.heap.size wo (wo.alloc (.cells #[.int .i64 x.d,.pointer (some ⟨x.b,x.off,none⟩)] 116)):=(But.refl _ _ _).alloc _
   obtain ⟨fn,tmps,assign,body,hy,hR⟩:=hY (x,rest,[(t,cur),(wo.heap.size,#[.int .i64 x.d,.pointer (some ⟨x.b,x.off,none⟩)])]) (wo.alloc (.cells #[.int .i64 x.d,.pointer (some ⟨x.b,x.off,none⟩)] 116))
    ⟨hJ _ _ _ H.out.inv H2,fun p hp=>by
     simp only [List.mem_cons,List.not_mem_nil,or_false] at hp
     rcases hp with rfl | rfl
     ·exact HW.out.alloc _
     ·exact Whole.new wo _ _⟩ (H.out.keep.trans (H2.others B))
   have HB:=Lib.hid H2
   clear H2
   dsimp only [Due.encs] at hy
   gi_wp2
   refine hR.mono ?_
   clear hR hy
   rintro e W3 (⟨rfl,hk3,hown3,lb,lo,ob,oo,hkids,hJ3⟩ | ⟨rfl,hx3⟩)
   ·have hat:=hown3 _ (List.mem_cons_of_mem _ (List.mem_cons_self ..))
    have htd:=hown3 _ (List.mem_cons_self ..)
    have hrow3:W3.ownsRow W0.heap.size 116 2 (.slice (some ⟨t,0,none⟩) N c) (rest.length+0) (cellsOf (rest++(itemsAt (x.d+1) lb 5 lo x.g.items).take 0)):=by
     simp only [List.take_zero,List.append_nil,Nat.add_zero,HN.out]
     exact own_same HR.out (fun k hk=>by cases hk;exact (show W3.heap[t]? = _ from htd).trans (show wo.heap[t]? = _ from HW.out).symm)
    have hA0:W3.cell? ⟨wo.heap.size,0,none⟩=some (.int .i64 x.d):=(hat.cell 0).trans rfl
    have hA1:W3.cell? ⟨wo.heap.size,1,none⟩=some (.pointer (some ⟨x.b,x.off,none⟩)):=(hat.cell 1).trans rfl
    obtain ⟨AL,cL,hL3,hL3'⟩:=hkids.lst
    have HAt:=Lib.hid hat
    have HRow3:=Lib.hid hrow3
    have HK:=Lib.hid hkids
    have HJ3:=Lib.hid hJ3
    have HK3:=Lib.hid hk3
    have HL3:=Lib.hid hL3'
    clear hat htd hrow3 hkids hJ3 hk3 hown3 hL3'
    have hlen1:x.g.items.length≤M:=by have:=len_sizes x.g.items;have:=size_eq x.g;omega
    gi_wp2
    gi_loopw [3,37] (PushRel W3 W0.heap.size wo.heap.size #[.int .i64 x.d,.pointer (some ⟨x.b,x.off,none⟩)] rest (itemsAt (x.d+1) lb 5 lo x.g.items)) (fun _ i _=>x.g.items.length - (intOf i).toNat)
    case atStart=>exact ⟨0,rfl,Nat.zero_le _,HRow3.out,But.refl _ _ _,HAt.out,by have:=HW.out.lt;simp [Value.ownBlock];omega⟩
    case round=>
     obtain ⟨k,rfl,hk,hp⟩:=hrel
     rw [itemsAt_length] at hk
     have hB0:wr.cell? ⟨wo.heap.size,0,none⟩=some (.int .i64 x.d):=(hp.box.cell 0).trans rfl
     have hB1:wr.cell? ⟨wo.heap.size,1,none⟩=some (.pointer (some ⟨x.b,x.off,none⟩)):=(hp.box.cell 1).trans rfl
     have hkids:=hp.but.kids HK.out
     by_cases hlt:k<x.g.items.length
     ·have hne:x.g.items≠[]:=fun e=>by rw [e] at hlt;simp at hlt
      obtain ⟨A1,c1,hL4,hL4'⟩:=hkids.lst
      obtain rfl:=hL4' hne
      obtain ⟨A2,c2,rfl⟩:=own_form hp.row
      have HP:=Lib.hid hp
      have HKd:=Lib.hid hkids
      have hNk:rest.length+k≤2 * M:=by have:=HN.out;omega
      have b1:rest.length+k+1≤maxLen:=by unfold maxLen;omega
      have b2:(rest.length+k+1) * 16≤140737488355328:=by omega
      have HB12:=Lib.hid (And.intro b1 b2)
      have hbs:W0.heap.size≤wr.heap.size:=by have h1:=H.out.size;have h2:=HK3.out.size;have h3:=hp.but.size;simp at h2;omega
      have HAl:∀ o,wr.heap.size≤(wr.alloc o).heap.size:=fun o=>by simp
      have hwrap:IntKind.i64.wrap ((x.d:Int)+1)=(x.d:Int)+1:=IntWalk.i64_in _ (by omega)
      clear hp hkids hL4' hne b1 b2 hNk
      obtain ⟨i0,hi0,hz0,hz1,hz2⟩:=info_parts infoSpot
      have HI0:=Lib.hid hi0
      have HZ0:=Lib.hid (And.intro hz0 (And.intro hz1 hz2))
      clear hi0 hz0 hz1 hz2
      gi_wp2
      refine wpIn_wide.2 ?_
      go_region_law (refine step_append_mine rfl (.tmp 40) (.tmp 52) 117 rfl W0.heap.size 116 i0 _ 2 16 Tryd.underlying117 HI0.out HZ0.out.1 HZ0.out.2.1 HZ0.out.2.2 rfl (by decide) (.slice A2 (rest.length+k) c2) (rest.length+k) _ (by simp [Act.eval]) ((HP.out.row.alloc _).drew) ⟨wr.heap.size,0,none⟩ 1 1 [.int .i64 ((x.d:Int)+1),.pointer (some ⟨lb,lo+k * 5,none⟩)] (by simp [Act.eval]) rfl (fun j u hj=>row_cells' wr wr.heap.size rfl [.int .i64 ((x.d:Int)+1),.pointer (some ⟨lb,lo+k * 5,none⟩)] 116 j u hj) (by simp [Value.oneCell']) HB12.out.1 HB12.out.2 (Nat.le_trans hbs (HAl _)) ?_;intro v4 W4 hown4 hg4 hat4;obtain ⟨A4,c4,rfl⟩:=own_form hown4;have H4:=Lib.hid (And.intro hown4 (And.intro hg4 hat4));clear hown4 hg4 hat4)
      all_goals
       gi_wp2
       go_roundw
       case rel=>exact ⟨k+1,by go_num,by rw [itemsAt_length];omega,HP.out.push _ _ (itemsAt_take hlt) H4.out.1 H4.out.2.1 H4.out.2.2⟩
       case measure=>simp [intOf];omega
     ·have hkl:k=(itemsAt (x.d+1) lb 5 lo x.g.items).length:=by rw [itemsAt_length];omega
      have HP:=Lib.hid (hp.second (its2:=itemsAt (x.d+1) ob 6 (oo+1) x.g.vals) hkl)
      obtain ⟨AO,cO,hO3,hO3'⟩:=hkids.obj
      have hlen2:x.g.vals.length≤M:=by have:=len_sizes x.g.vals;have:=size_eq x.g;omega
      clear hp hkids hkl hO3'
      gi_wp2
      obtain ⟨wp,rfl⟩:∃ wp:World,wp=wr:=⟨_,rfl⟩
      gi_loopw [3,61] (PushRel W3 W0.heap.size wo.heap.size #[.int .i64 x.d,.pointer (some ⟨x.b,x.off,none⟩)] (rest++itemsAt (x.d+1) lb 5 lo x.g.items) (itemsAt (x.d+1) ob 6 (oo+1) x.g.vals)) (fun _ i _=>x.g.vals.length - (intOf i).toNat)
      case atStart=>exact ⟨0,rfl,Nat.zero_le _,HP.out⟩
      case round=>
       obtain ⟨k2,rfl,hk2,hp⟩:=hrel
       rw [itemsAt_length] at hk2
       have hC0:wr.cell? ⟨wo.heap.size,0,none⟩=some (.int .i64 x.d):=(hp.box.cell 0).trans rfl
       have hC1:wr.cell? ⟨wo.heap.size,1,none⟩=some (.pointer (some ⟨x.b,x.off,none⟩)):=(hp.box.cell 1).trans rfl
       have hkids:=hp.but.kids HK.out
       by_cases hlt:k2<x.g.vals.length
       ·have hne:x.g.vals≠[]:=fun e=>by rw [e] at hlt;simp at hlt
        obtain ⟨A1,c1,hL4,hL4'⟩:=hkids.obj
        obtain rfl:=hL4' hne
        obtain ⟨A2,c2,rfl⟩:=own_form hp.row
        have HP2:=Lib.hid hp
        have hNk:(rest++itemsAt (x.d+1) lb 5 lo x.g.items).length+k2≤3 * M:=by have:=HN.out;rw [List.length_append,itemsAt_length];omega
        have b1:(rest++itemsAt (x.d+1) lb 5 lo x.g.items).length+k2+1≤maxLen:=by unfold maxLen;omega
        have b2:((rest++itemsAt (x.d+1) lb 5 lo x.g.items).length+k2+1) * 16≤140737488355328:=by omega
        have HB12:=Lib.hid (And.intro b1 b2)
        have hbs:W0.heap.size≤wr.heap.size:=by have h1:=H.out.size;have h2:=HK3.out.size;have h3:=hp.but.size;simp at h2;omega
        have HAl:∀ o,wr.heap.size≤(wr.alloc o).heap.size:=fun o=>by simp
        have hwrap:IntKind.i64.wrap ((x.d:Int)+1)=(x.d:Int)+1:=IntWalk.i64_in _ (by omega)
        have HY:Hid ((itemsAt (x.d+1) ob 6 (oo+1) x.g.vals).take (k2+1)=(itemsAt (x.d+1) ob 6 (oo+1) x.g.vals).take k2++[⟨x.d+1,ob,oo+k2 * 6+1,x.g.vals[k2]⟩]):=by
         rw [itemsAt_take hlt,show oo+1+k2 * 6=oo+k2 * 6+1 by omega];rfl
        clear hp hkids hL4' hne b1 b2 hNk
        generalize (rest++itemsAt (x.d+1) lb 5 lo x.g.items)=R2 at *
        obtain ⟨i0,hi0,hz0,hz1,hz2⟩:=info_parts infoSpot
        have HI0:=Lib.hid hi0
        have HZ0:=Lib.hid (And.intro hz0 (And.intro hz1 hz2))
        clear hi0 hz0 hz1 hz2
        gi_wp2
        refine wpIn_wide.2 ?_
        go_region_law (refine step_append_mine rfl (.tmp 64) (.tmp 77) 117 rfl W0.heap.size 116 i0 _ 2 16 Tryd.underlying117 HI0.out HZ0.out.1 HZ0.out.2.1 HZ0.out.2.2 rfl (by decide) (.slice A2 (R2.length+k2) c2) (R2.length+k2) _ (by simp [Act.eval]) ((HP2.out.row.alloc _).drew) ⟨wr.heap.size,0,none⟩ 1 1 [.int .i64 ((x.d:Int)+1),.pointer (some ⟨ob,oo+k2 * 6+1,none⟩)] (by simp [Act.eval]) rfl (fun j u hj=>row_cells' wr wr.heap.size rfl [.int .i64 ((x.d:Int)+1),.pointer (some ⟨ob,oo+k2 * 6+1,none⟩)] 116 j u hj) (by simp [Value.oneCell']) HB12.out.1 HB12.out.2 (Nat.le_trans hbs (HAl _)) ?_;intro v4 W4 hown4 hg4 hat4;obtain ⟨A4,c4,rfl⟩:=own_form hown4;have H4:=Lib.hid (And.intro hown4 (And.intro hg4 hat4));clear hown4 hg4 hat4)
        all_goals
         gi_wp2
         go_roundw
         case rel=>exact ⟨k2+1,by go_num,by rw [itemsAt_length];omega,HP2.out.push _ _ HY.out H4.out.1 H4.out.2.1 H4.out.2.2⟩
         case measure=>simp [intOf];omega
       ·have hkl:k2=x.g.vals.length:=by omega
        have HE:=Lib.hid (H.out.next hJ HJ3.out ((HB.out.others B).trans HK3.out) hp hkl)
        clear hp hkids hkl
        gi_wp2
        gi_roundg (isum (rest++kids x lb lo ob oo))
        case measure=>rw [← HS.out];exact HE.out.2
        case rel=>exact ⟨_,rfl,HE.out.1⟩
   ·gi_wp2
    refine bodyPost_ret (results_none rfl _ _ _) rfl ?_
    exact ⟨⟨_,rfl⟩,.inr hx3⟩
end Go.Proofs.YtlhfnemcpgfcdaaDoor
