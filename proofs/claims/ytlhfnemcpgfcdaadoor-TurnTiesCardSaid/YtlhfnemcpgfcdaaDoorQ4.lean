/- Texts in one: Read, Deep, Weight, Self, Itself, Sound, Pairs, Same, RefW. -/
import Derived.Test.YtlhfnemcpgfcdaaDoorQ3
import Derived.Sort.CutIn
import Derived.Test.YtlhfnemcpgfcdaaDoorQ1
import Derived.Test.YtlhfnemcpgfcdaaDoorLays
import Derived.WalkKit
import Derived.WalkSpells
import Derived.WalkLawsBesides
import Derived.Deep.QuietTactic
import Derived.BigQuiet
import Derived.Lib.Hide
import Derived.IntWalk
import Derived.Deep.RegionLaw
import Derived.BigRegion
import Derived.Shelf.Abstract
import Derived.Shelf.RegionOpen
import Derived.OwnWalkIn
import Derived.TacticsInMore
import Derived.LoopNIn
import Derived.LoopIn
import Derived.Sort.LoopGhostIn
import Derived.StillTailTactics
import Derived.Lib.QuietBelow
set_option maxHeartbeats 8000000
namespace Go.Proofs.YtlhfnemcpgfcdaaDoor
open Go Go.RowKit Go.Shelf
attribute [local go_sem] Oper.semAt_some
theorem Whole.apart {W:World} {b l:Nat} {t:TypeId} {cs:Array Value} {o:Obj} (h:Whole W b t cs) (hl:W.heap[l]? = some o) (ho:o.isCells=false) (o':Obj):Whole (W.putObj l o') b t cs:=by
 refine h.of_eq (World.putObj_heap_other ?_)
 rintro rfl
 rw [show W.heap[b]? = _ from h] at hl
 cases hl
 cases ho
theorem below_apart {n0 l:Nat} {w0 W:World} (h:Below n0 w0 W) (hl:n0≤l) {o:Obj} (hk:W.heap[l]? = some o) (o':Obj):Below n0 w0 (W.putObj l o'):=
 h.trans ((Below.refl n0 W).grown (grownBy_putObj' W l o') (by have:=(Array.getElem?_eq_some_iff.1 hk).1;omega) (fun k e=>by cases e;omega))
theorem KidsAt.apart {W:World} {x:Item} {e:TypeId} {lb lo ob oo l:Nat} {o:Obj} (h:KidsAt W x e lb lo ob oo) (hl:W.heap[l]? = some o) (ho:o.isCells=false) (o':Obj):KidsAt (W.putObj l o') x e lb lo ob oo:=by
 obtain ⟨t,cs,hne,hw⟩:=h.whole
 have hw':=hw.apart hl ho o'
 have he:(W.putObj l o').heap[x.b]? = W.heap[x.b]?:=(show _=_ from hw').trans (show W.heap[x.b]? = _ from hw).symm
 obtain ⟨A1,c1,h1,h1'⟩:=h.lst
 obtain ⟨A2,c2,h2,h2'⟩:=h.obj
 exact ⟨⟨t,cs,hne,hw'⟩,⟨A1,c1,(World.cell?_of_block (a:=⟨x.b,x.off+3,none⟩) he).trans h1,h1'⟩,⟨A2,c2,(World.cell?_of_block (a:=⟨x.b,x.off+4,none⟩) he).trans h2,h2'⟩⟩
theorem Owned.apart {W:World} {e:TypeId} {own:List (Nat × Array Value)} {l:Nat} {o:Obj} (h:Owned e own W) (hl:W.heap[l]? = some o) (ho:o.isCells=false) (o':Obj):Owned e own (W.putObj l o'):=fun p hp=>(h p hp).apart hl ho o'
theorem pre_apart {B:Nat} {J:List Item→World→Prop} (hJ:∀ S,Apart B (J S)) (x:Due):Apart B (Due.Pre J x):=
 fun W l o o' hB hl ho ho' h=>⟨hJ _ W l o o' hB hl ho ho' h.1,h.2.apart hl ho o'⟩
theorem post_apart {B:Nat} {J:List Item→World→Prop} (hJ:∀ S,Apart B (J S)) (x:Due):Apart B (Due.Post J x):=by
 rintro W l o o' hB hl ho ho' ⟨h,lb,lo,ob,oo,hk,hj⟩
 exact ⟨h.apart hl ho o',lb,lo,ob,oo,hk.apart hl ho o',hJ _ W l o o' hB hl ho ho' hj⟩
section
variable {n0:Nat} {w0:World} {bm:Nat} {tm:TypeId} {C:List Item→Value→Prop}
end
theorem Whole.ne {W:World} {b b':Nat} {t t':TypeId} {cs cs':Array Value} (h:Whole W b t cs) (h':Whole W b' t' cs') (hne:t≠t'):b≠b':=by
 rintro rfl
 have h2:some (Obj.cells cs t (0,0))=some (Obj.cells cs' t' (0,0)):=(show W.heap[b]? = _ from h).symm.trans h'
 simp at h2
 exact hne h2.2
theorem keeps_below {D:Nat} {W W':World} (hb:Below W.heap.size W W'):KeepsFrom D W W':=⟨hb.size,fun k _ _ hk _=>(hb.block k (Array.getElem?_eq_some_iff.1 hk).1).trans hk⟩
theorem call_all (p:Option Addr) (w:World):Calls Tryd.prog 67 #[.pointer p] w fun e w'=>e=.returned (.func (.func 79) #[] #[.pointer (some ⟨w.heap.size,0,none⟩)])∧w.alloc (.cells #[.pointer p] 98)=w':=by
 go_enter Tryd.func67,Tryd.ntmps67
 go_wp2
 go_ret
 exact ⟨rfl,rfl⟩
def dmaxs:List Item→Nat
 | []=>0
 | x :: r=>max (x.d+x.g.deep) (dmaxs r)
theorem dmaxs_items {d b step:Nat}:∀ {off:Nat} {l:List GV},max d (dmaxs (itemsAt (d+1) b step off l))=d+GV.deeps l
 | _,[]=>by simp [itemsAt,dmaxs,GV.deeps]
 | off,g :: r=>by
  have:=dmaxs_items (d:=d) (b:=b) (step:=step) (off:=off+step) (l:=r)
  simp only [itemsAt,dmaxs,GV.deeps]
  omega
open Go Go.RowKit Go.Shelf
attribute [local go_sem] Oper.semAt_some
attribute [local go_sem] Oper.semAt_some
def wsum:List Item→Nat
 | []=>0
 | x :: r=>x.g.weight+wsum r
theorem wsum_append (a b:List Item):wsum (a++b)=wsum a+wsum b:=by
 induction a with
 | nil=>simp [wsum]
 | cons x r ih=>simp [wsum,ih];omega
theorem wsum_items {d b step:Nat}:∀ {off:Nat} {l:List GV},wsum (itemsAt d b step off l)=GV.weights l
 | _,[]=>by simp [itemsAt,wsum,GV.weights]
 | _,_ :: r=>by simp [itemsAt,wsum,GV.weights,wsum_items (l:=r)]
def ksum (ks:List ByteArray):Nat:=(ks.map (·.size)).sum
theorem ksum_take (ks:List ByteArray) (k:Nat) (h:k<ks.length):ksum (ks.take (k+1))=ksum (ks.take k)+ks[k].size:=by
 unfold ksum;rw [List.take_succ_eq_append_getElem h,List.map_append,List.sum_append];simp
theorem ksum_le (ks:List ByteArray) (k:Nat):ksum (ks.take k)≤ksum ks:=by
 have:ksum (ks.take k++ks.drop k)=ksum (ks.take k)+ksum (ks.drop k):=by unfold ksum;rw [List.map_append,List.sum_append]
 rw [List.take_append_drop] at this
 omega
theorem weight_eq (x:Item) (lb lo ob oo:Nat):x.g.weight=1+x.g.str.size+ksum x.g.keys+wsum (kids x lb lo ob oo):=by
 unfold kids
 rw [wsum_append,wsum_items,wsum_items]
 cases x.g with | mk k n s l ks ov=>simp only [GV.weight,GV.str,GV.items,GV.keys,GV.vals,ksum];omega
theorem weight_le {x:Item}:∀ {S:List Item},x∈S→x.g.weight≤wsum S
 | [],h=>by cases h
 | y :: r,h=>by
  simp only [wsum]
  rcases List.mem_cons.1 h with rfl | h
  ·omega
  ·have:=weight_le h;omega
theorem size_le_weight:∀ (g:GV),g.size≤g.weight:=by
 have h:(∀ g:GV,g.size≤g.weight)∧(∀ l:List GV,GV.sizes l≤GV.weights l):=by
  refine ⟨fun g=>?_,fun l=>?_⟩
  ·exact GV.rec (motive_1:=fun g=>g.size≤g.weight) (motive_2:=fun l=>GV.sizes l≤GV.weights l) (fun k n s l ks ov h1 h2=>by simp only [GV.size,GV.weight];omega) (by simp [GV.sizes]) (fun a r h1 h2=>by simp only [GV.sizes,GV.weights];omega) g
  ·exact GV.rec_1 (motive_1:=fun g=>g.size≤g.weight) (motive_2:=fun l=>GV.sizes l≤GV.weights l) (fun k n s l ks ov h1 h2=>by simp only [GV.size,GV.weight];omega) (by simp [GV.sizes]) (fun a r h1 h2=>by simp only [GV.sizes,GV.weights];omega) l
 exact h.1
def less' (a b:ByteArray):Bool:=Op.bytesLess a.toList b.toList
def valid (s:ByteArray):Bool:=Lib.validD s.data.toList
def Tabs (w:World):Prop:=Lib.Utf8Tabs (Tryd.laysValid_ren.g 3) (Tryd.laysValid_ren.g 4) w
theorem Tabs.below {w w':World} {B:Nat} (h:Tabs w) (hb:Below B w w') (hB:w.heap.size≤B):Tabs w':=by
 have hc:∀ (a:Addr) (v:Value),w.cell? a=some v→w'.cell? a=some v:=fun a v hv=>(hb.cell (by have:=World.block_lt_of_cell? w a hv;omega)).trans hv
 exact ⟨fun c hcc=>hc _ _ (h.1 c hcc),fun i hi=>⟨hc _ _ (h.2 i hi).1,hc _ _ (h.2 i hi).2⟩⟩
theorem call_valid (s:ByteArray) (w:World) (hs:s.size≤9223372036854775807) (hT:Tabs w):
  Calls Tryd.prog 59 #[.string s] w fun e w'=>e=.returned (.bool (valid s))∧Below w.heap.size w w':=
 Any.utf8_ValidString Tryd.laysValid s w hs hT
def KeysTo (ks:List ByteArray) (n:Nat):Prop:=∀ (i:Nat) (k:ByteArray),i<n→ks[i]? = some k→valid k=true∧(∀ (j:Nat) (p:ByteArray),i=j+1→ks[j]? = some p→less' p k=true)
def KeysOk (ks:List ByteArray):Prop:=KeysTo ks ks.length
theorem KeysTo.succ {ks:List ByteArray} {n:Nat} (h:KeysTo ks n) {k:ByteArray} (hk:ks[n]? = some k) (hv:valid k=true) (hl:∀ (j:Nat) (p:ByteArray),n=j+1→ks[j]? = some p→less' p k=true):KeysTo ks (n+1):=by
 intro i k' hi hk'
 by_cases e:i=n
 ·subst e;rw [hk] at hk';cases hk';exact ⟨hv,hl⟩
 ·exact h i k' (by omega) hk'
def BoolPost (P:Prop) (w:World) (e:Ending) (w':World):Prop:=∃ b:Bool,e=.returned (.bool b)∧(b=true↔P)∧Below w.heap.size w w'
def SelfP (gk gn:Int) (gs:ByteArray) (gl:List GV) (gy:List ByteArray) (go:List GV):Prop:=
 (gk=0∨gk=1∨gk=2∨gk=3∨gk=4∨gk=5) ∧
 (gk=2∨gn=0∨gk=1∧gn=1)∧(gk=3∧valid gs=true∨gk≠3∧gs.toList=[]) ∧
 (gk=4∨gl=[])∧(gk=5∧KeysOk gy∨gk≠5∧go=[])
def SelfOk (g:GV):Prop:=SelfP g.kind g.num g.str g.items g.keys g.vals
attribute [local go_sem] Oper.semAt_some
mutual
def GV.Sound:GV→Prop
 | .mk k n s l ks ov=>SelfP k n s l ks ov∧GV.Sounds l∧GV.Sounds ov
def GV.Sounds:List GV→Prop
 | []=>True
 | g :: r=>GV.Sound g∧GV.Sounds r
end
open Go Go.RowKit Go.Shelf
attribute [local go_sem] Oper.semAt_some
attribute [local go_sem] Oper.semAt_some
mutual
def GV.Same:GV→GV→Prop
 | .mk k n s l ks ov,h=>SameSelf (.mk k n s l ks ov) h∧GV.Sames l h.items∧GV.Sames ov h.vals
def GV.Sames:List GV→List GV→Prop
 | [],_=>True
 | _ :: _,[]=>True
 | g :: r,h :: q=>GV.Same g h∧GV.Sames r q
end
theorem same_eq (g h:GV):g.Same h↔SameSelf g h∧GV.Sames g.items h.items∧GV.Sames g.vals h.vals:=by
 cases g with | mk k n s l ks ov=>simp only [GV.Same,GV.items,GV.vals]
section
variable {n0:Nat} {w0:World} {bm:Nat} {g h:GV}
end
open Go Go.RowKit Go.Sort
theorem wrap_small (x:Int) (h0:0≤x) (h1:x<9223372036854775808):IntKind.i64.wrap x=x:=by
 simp [IntKind.wrap,IntKind.bits,IntKind.signed]
 omega
theorem weights_get:∀ (l:List GV) (k:Nat) (h:k<l.length),l[k].weight≤GV.weights l
 | [],_,h=>by simp at h
 | x :: r,0,_=>by simp [GV.weights]
 | x :: r,k+1,h=>by
  have:=weights_get r k (by simpa using h)
  simp only [GV.weights,List.getElem_cons_succ]
  omega
def WtRel (W0:World) (ks:List ByteArray) (l:List GV) (z:Nat) (n i:Value) (wr:World):Prop:=∃ k:Nat,i=.int .i64 k∧k≤l.length∧n=.int .i64 (z+ksum (ks.take k)+GV.weights (l.take k):Nat)∧Below W0.heap.size W0 wr
theorem ref_Weight (F:Nat):∀ (ok:Nat→Prop) (v:Value) (g:GV) (w:World),g.size≤F→g.val ok w v→g.weight≤1000000000 →
  Calls Tryd.prog 62 #[v] w fun e w'=>e=.returned (.int .i64 g.weight)∧Below w.heap.size w w':=by
 induction F with
 | zero=>intro ok v g w hF;cases g with | mk k n s l ks ov=>simp only [GV.size] at hF;omega
 | succ F ih=>
  intro ok v g w hF hv hsz
  obtain ⟨L,O,rfl,hL,hO⟩:=hv
  have hkl:=hO.1
  obtain ⟨A,c,rfl,hc1,hc2,hf⟩:=hL.form
  obtain ⟨A',c',rfl,hc1',hc2',hf'⟩:=hO.form
  have hge:=size_eq g
  have hde:g.weight=1+g.str.size+GV.weights g.items+ksum g.keys+GV.weights g.vals:=by cases g with | mk k n s l ks ov=>simp only [GV.weight,GV.items,GV.vals,GV.keys,GV.str,ksum]
  have hs9:=size_le_weight g
  have hln1:=len_sizes g.items
  have hln2:=len_sizes g.vals
  rw [hde] at hsz hs9 ⊢
  unfold maxLen at hc2 hc2'
  generalize g.items=l at *
  generalize g.vals=ov at *
  generalize g.keys=ks at *
  generalize g.kind=gk
  generalize g.num=gn
  generalize g.str=gs at *
  have IH:=Lib.hid ih
  have HF:=Lib.hid hf
  have HF':=Lib.hid hf'
  have HSZ:=Lib.hid (And.intro hF (And.intro hsz hge))
  have hll:l.length≤1000000000:=by omega
  have hlo:ov.length≤1000000000:=by omega
  have hgs:gs.size≤1000000000:=by omega
  have HKL:=Lib.hid hkl
  clear ih hf hf' hF hsz hge hL hO hde hs9 hln1 hln2 hkl
  go_enter Tryd.func62,Tryd.ntmps62
  go_wp2
  have hB:Below w.heap.size w (w.alloc (.cells #[Value.int IntKind.u8 gk,Value.int IntKind.i64 gn,Value.string gs,Value.slice A l.length c,Value.slice A' ov.length c'] 31)):=(Below.refl _ _).alloc (Nat.le_refl _) _
  have hW:=Whole.new w 31 #[Value.int IntKind.u8 gk,Value.int IntKind.i64 gn,Value.string gs,Value.slice A l.length c,Value.slice A' ov.length c']
  generalize (w.alloc (.cells #[Value.int IntKind.u8 gk,Value.int IntKind.i64 gn,Value.string gs,Value.slice A l.length c,Value.slice A' ov.length c'] 31))=W0 at hB hW ⊢
  have HW:=Lib.hid hW
  have HB:=Lib.hid hB
  clear hW hB
  go_loopw [3,4] (WtRel W0 [] l (1+gs.size)) (fun _ i _=>l.length - (intOf i).toNat)
  case atStart=>exact ⟨0,rfl,Nat.zero_le _,by simp [GV.weights,ksum],Below.refl _ _⟩
  case round=>
   obtain ⟨k,rfl,hk,rfl,hr⟩:=hrel
   have hx3:wr.cell? ⟨w.heap.size,3,none⟩=some (.slice A l.length c):=((HW.out.below hr HW.out.lt).cell 3).trans rfl
   have hwr:Below w.heap.size w wr:=HB.out.trans (hr.mono HB.out.size)
   have HR:=Lib.hid hr
   clear hr
   have hd0:1+gs.size+ksum (([]:List ByteArray).take k)+GV.weights (l.take k)≤1000000000:=by have:=weights_take_le l k;have:=HSZ.out;simp [ksum];omega
   by_cases hlt:k<l.length
   ·obtain ⟨b,o,rfl,hK,hE⟩:=HF.out (by intro e;rw [e] at hlt;simp at hlt)
    obtain ⟨A1,c1,A2,c2,hcells,hval⟩:=item_at hE hK hlt
    obtain ⟨q0,q1,q2,q3,q4⟩:=hcells wr hwr
    have hz:=hval wr hwr
    have hs:=sizes_get l k hlt
    have hs2:=HSZ.out
    have hs3:=weights_get l k hlt
    have hxd:l[k].weight≤1000000000:=by omega
    have hcall:=IH.out _ _ l[k] wr (by omega) hz (by omega)
    have hT:=weights_take l k hlt
    have hT2:=weights_take_le l (k+1)
    have hd1:1+gs.size+ksum (([]:List ByteArray).take k)+GV.weights (l.take k)+l[k].weight≤1000000000:=by simp [ksum];omega
    have HT:=Lib.hid hT
    have HC:=Lib.hid hcall
    clear hcells hval hz hs hs2 hs3 hcall hE hK hT hT2
    generalize l[k]=x at *
    generalize hm:1+gs.size+ksum (([]:List ByteArray).take k)+GV.weights (l.take k)=m at *
    have HM:=Lib.hid hm
    clear hm
    go_wp2_with (go_at_call 62;refine HC.out.mono ?_;rintro e W1 ⟨rfl,hb1⟩;have HB1:=Lib.hid hb1;clear hb1)
    go_roundw
    case rel=>exact ⟨k+1,by go_simp,by omega,by have h1:=HT.out;have h2:=HM.out;congr 1;rw [h1,← h2];simp [ksum];omega,HR.out.trans (HB1.out.mono HR.out.size)⟩
    case measure=>simp [intOf];omega
   ·have hkl:k=l.length:=by omega
    subst hkl
    have hz0:1+gs.size+ksum (([]:List ByteArray).take l.length)+GV.weights (l.take l.length)=1+gs.size+GV.weights l:=by simp [ksum]
    rw [hz0] at *
    generalize hz:1+gs.size+GV.weights l=z at *
    have HZ:=Lib.hid hz
    clear hz hz0
    go_wp2
    clear hx3 hwr
    go_loopw [3,5] (WtRel W0 ks ov z) (fun _ i _=>ov.length - (intOf i).toNat)
    case atStart=>exact ⟨0,rfl,Nat.zero_le _,by simp [GV.weights,ksum],HR.out⟩
    case round=>
     clear HR
     obtain ⟨k,rfl,hk,rfl,hr⟩:=hrel
     have hx4:wr.cell? ⟨w.heap.size,4,none⟩=some (.slice A' ov.length c'):=((HW.out.below hr HW.out.lt).cell 4).trans rfl
     have hwr:Below w.heap.size w wr:=HB.out.trans (hr.mono HB.out.size)
     have HR:=Lib.hid hr
     clear hr
     have hd0:z+ksum (ks.take k)+GV.weights (ov.take k)≤1000000000:=by have:=weights_take_le ov k;have:=ksum_le ks k;have:=HSZ.out;have:=HZ.out;omega
     by_cases hlt:k<ov.length
     ·obtain ⟨b,o,rfl,hK,hks,hE⟩:=HF'.out (by intro e;rw [e] at hlt;simp at hlt)
      have hlk:k<ks.length:=by have:=HKL.out;omega
      obtain ⟨A1,c1,A2,c2,hcells,hval⟩:=field_at hks hE hK hlt hlk
      obtain ⟨q0,q1,q2,q3,q4,q5⟩:=hcells wr hwr
      have r0:=cell_regrown q0
      have r1:=cell_regrown q1
      have r2:=cell_regrown q2
      have r3:=cell_regrown q3
      have r4:=cell_regrown q4
      have r5:=cell_regrown q5
      have rx:=cell_regrown hx4
      have hs:=sizes_get ov k hlt
      have hs2:=HSZ.out
      have hs3:=weights_get ov k hlt
      have hxd:ov[k].weight≤1000000000:=by omega
      have hcall:=fun (d:Nat) (os:Array Obj)=>Calls.regrown_of (IH.out _ _ ov[k] (grow (redrawn wr d) os) (by omega) (hval _ (hwr.trans ((below_regrown wr d os).mono hwr.size))) (by omega))
      have hT:=weights_take ov k hlt
      have hU:=ksum_take ks k hlk
      have hT2:=weights_take_le ov (k+1)
      have hU2:=ksum_le ks (k+1)
      have hz2:=HZ.out
      have hd1:z+ksum (ks.take k)+GV.weights (ov.take k)+(ks[k].size+ov[k].weight)≤1000000000:=by omega
      have hks0:ks[k].size≤1000000000:=by omega
      have HT:=Lib.hid (And.intro hT hU)
      clear hcells hval hs hs2 hs3 hE hK hks hT hT2 hU hU2 hz2
      generalize ov[k]=x at *
      generalize ks[k]=kk at *
      generalize hm:z+ksum (ks.take k)+GV.weights (ov.take k)=m at *
      have HM:=Lib.hid hm
      clear hm
      go_wp2
      refine wp_region_quiet_below (by kernel_rfl) (by kernel_rfl) ?_
      repeat (quiet_step (exact hcall _ _))
      refine wpQuiet_nil ?_
      intro _ hw'
      obtain ⟨⟨dq,osq⟩,hw''⟩:=hw'
      subst hw''
      go_wp2
      go_roundw
      case rel=>exact ⟨k+1,by go_simp,by omega,by have h1:=HT.out;have h2:=HM.out;congr 1;rw [wrap_small ((kk.size:Int)+(x.weight:Int)) (by omega) (by omega),wrap_small _ (by omega) (by omega),h1.1,h1.2,← h2];omega,HR.out.trans ((below_regrown wr dq osq).mono HR.out.size)⟩
      case measure=>simp [intOf];omega
     ·have hkl:k=ov.length:=by omega
      subst hkl
      go_wp2
      refine bodyPost_ret (v:=.int .i64 (z+ksum (ks.take ov.length)+GV.weights (ov.take ov.length):Nat)) (by simp [results,Tryd.results62,go_sem]) rfl ?_
      refine ⟨?_,hwr⟩
      rw [← HZ.out,← HKL.out,List.take_length,HKL.out,List.take_length]
end Go.Proofs.YtlhfnemcpgfcdaaDoor
