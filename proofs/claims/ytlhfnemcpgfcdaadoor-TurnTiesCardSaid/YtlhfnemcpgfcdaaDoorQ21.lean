/- Texts in one: OneM, CompDy, OpA, OpW, TextZ, CompSd, TieM, TurnA. -/
import Derived.Test.YtlhfnemcpgfcdaaDoorQ19
import Derived.Test.YtlhfnemcpgfcdaaDoorQ20
import Derived.Test.YtlhfnemcpgfcdaaDoorQ1
import Derived.Test.YtlhfnemcpgfcdaaDoorQ12
import Derived.Lib.Builder
import Derived.Lib.OthersKept
import Derived.Lib.MakeNoZero
import Derived.Lib.BufferKept
import Derived.Lib.AppendStr
import Derived.Lib.UnsafeStr
import Derived.Lib.Strings
import Derived.Lib.Walk
import Derived.Laws.Externs
import Derived.Laws.BitsLemmas
import Derived.WalkKit
import Derived.Shelf.RegionOpenPlain
import Derived.RegionTactic
import Derived.BigQuiet
import Derived.Deep.QuietTactic
import Derived.Lib.Hide
import Derived.Test.YtlhfnemcpgfcdaaDoorQ14
import Derived.Test.YtlhfnemcpgfcdaaDoorLays
import Derived.Lib.QuietBelow
import Derived.Test.YtlhfnemcpgfcdaaDoorQ9
import Derived.Test.YtlhfnemcpgfcdaaDoorQ4
import Derived.Test.YtlhfnemcpgfcdaaDoorQ7
import Derived.Test.YtlhfnemcpgfcdaaDoorQ13
import Derived.Test.YtlhfnemcpgfcdaaDoorQ18
set_option maxRecDepth 100000
set_option maxHeartbeats 4000000
namespace Go.Proofs.YtlhfnemcpgfcdaaDoor
open Go Go.RowKit
set_option linter.unusedVariables false
set_option linter.unusedSimpArgs false
theorem inside_sound {g h:GV} {s:GStep} (hg:g.Sound) (hi:g.inside s=some h):h.Sound:=by
 rcases inside_cases hi with ⟨_,_,k',_,hgx⟩ | ⟨_,_,_,hgx⟩
 ·exact (sound_parts hg).2.1 h (List.mem_of_getElem? hgx)
 ·exact (sound_parts hg).2.2 h (List.mem_of_getElem? hgx)
theorem get_soundG:∀ (p:List GStep) (g h:GV),g.Sound→g.get p=some h→h.Sound
 | [],g,h,hg,e=>by simp [GV.get] at e;subst e;exact hg
 | s :: r,g,h,hg,e=>by
  simp only [GV.get] at e
  cases hi:g.inside s with
  | none=>rw [hi] at e;cases e
  | some y=>rw [hi] at e;exact get_soundG r y h (inside_sound hg hi) e
theorem weight_one (g:GV):1≤g.weight:=by cases g with | mk k n s l ks ov=>simp only [GV.weight];omega
theorem weights_len:∀ (l:List GV),l.length≤GV.weights l
 | []=>by simp
 | x :: r=>by have:=weights_len r;have:=weight_one x;simp only [GV.weights,List.length_cons];omega
def K2 (r s:Nat) (w1 W:World):Prop:=w1.heap.size≤W.heap.size∧∀ k,k≠r→k≠s→k<w1.heap.size→W.heap[k]? = w1.heap[k]?
def Fit (h:GV) (c:GC):Prop:=
 (c.kind=1∧h.kind=2∧c.key =⟨#[]⟩∧c.i=0∧c.j=0∧c.s =⟨#[]⟩∧c.v=noG) ∨
 (h.kind=3∧c.key =⟨#[]⟩∧c.j=0∧c.v=noG∧((c.kind=8∧(∃ a:Nat,c.i=a∧a≤h.str.size)∧c.n=0∧∃ s,c.s=strX++plainB s)∨(c.kind=9∧c.s =⟨#[]⟩∧∃ a b:Nat,c.i=a∧c.n=b∧1≤b∧a+b≤h.str.size))) ∨
 (h.kind=4∧c.key =⟨#[]⟩∧c.n=0∧c.s =⟨#[]⟩∧∃ k i j:Nat,c.kind=k∧c.i=i∧c.j=j∧4≤k∧k≤7∧chkL h.items.length k i j=0∧(k=7∨j=0)∧(k=4∨k=6∨c.v=noG)) ∨
 (h.kind=5∧c.i=0∧c.j=0∧c.n=0∧c.s =⟨#[]⟩∧valid c.key=true∧(c.kind=2∨(c.kind=3∧there c.key h.keys=true∧c.v=noG)))
structure OneG (g:GV) (c:GC) (m:Int):Prop where
 len:c.path.length≤5
 clean:∀ s∈c.path,Clean s
 v:VOk c.v
 key:c.key.size≤6001
 s:c.s.size≤41
 fits:m=0∨(m=1∧∃ h,g.get c.path=some h∧Fit h c)
end Go.Proofs.YtlhfnemcpgfcdaaDoor
namespace Go.Proofs.YtlhfnemcpgfcdaaDoor
open Go Go.RowKit
set_option linter.unusedVariables false
set_option linter.unusedSimpArgs false
theorem insL_weights (l:List GV) (i:Nat) (v:GV):GV.weights (insL l i v)≤GV.weights l+v.weight:=by
 unfold insL
 have:=weights_cut l i i (Nat.le_refl _)
 rw [weights_app]
 simp only [GV.weights]
 omega
theorem remL_weights (l:List GV) (i:Nat):GV.weights (remL l i)≤GV.weights l:=by
 unfold remL
 have:=weights_cut l i (i+1) (by omega)
 rw [weights_app]
 omega
theorem mem_weight (l:List GV) (k:Nat) (x:GV) (h:l[k]? = some x):x.weight≤GV.weights l+1:=by
 have h1:=weight_set_mem l k x noG h
 have h2:noG.weight=1:=by unfold noG;simp only [GV.weight,GV.weights,List.map_nil,List.sum_nil];decide
 omega
theorem set_weights (l:List GV) (k:Nat) (y:GV):GV.weights (l.set k y)≤GV.weights l+y.weight:=by
 by_cases h:k<l.length
 ·have:=weight_set_mem l k l[k] y (List.getElem?_eq_getElem h)
  omega
 ·rw [List.set_eq_of_length_le (by omega)]
  omega
theorem doL_weights (l:List GV) (c:Cm GV):GV.weights (doL l c)≤2 * GV.weights l+c.v.weight+1:=by
 unfold doL
 split
 ·have:=insL_weights l c.i c.v;omega
 ·split
  ·have:=remL_weights l c.i;omega
  ·split
   ·have:=insL_weights (remL l c.i) c.i c.v
    have:=remL_weights l c.i
    omega
   ·split
    ·rename_i x hx
     have:=insL_weights (remL l c.i) c.j x
     have:=remL_weights l c.i
     have:=mem_weight l c.i x hx
     omega
    ·omega
theorem insK_sum (l:List ByteArray) (i:Nat) (v:ByteArray):((insL l i v).map (·.size)).sum≤(l.map (·.size)).sum+v.size:=by
 have:=ksum_cut l i i (Nat.le_refl _)
 unfold ksum at this
 unfold insL
 rw [List.map_append,List.sum_append,List.map_cons,List.sum_cons]
 omega
theorem remK_sum (l:List ByteArray) (i:Nat):((remL l i).map (·.size)).sum≤(l.map (·.size)).sum:=by
 have:=ksum_cut l i (i+1) (by omega)
 unfold ksum at this
 unfold remL
 rw [List.map_append,List.sum_append]
 omega
theorem insS_size (s:ByteArray) (i:Nat) (t:ByteArray):(insS s i t).size≤s.size+t.size:=by
 unfold insS
 have:=cutS_le s i
 rw [ByteArray.size_append,ByteArray.size_append,ByteArray.size_extract,ByteArray.size_extract]
 omega
theorem delS_size (s:ByteArray) (i n:Nat):(delS s i n).size≤2 * s.size:=by
 unfold delS
 rw [ByteArray.size_append,ByteArray.size_extract,ByteArray.size_extract]
 omega
theorem weight_is (h:GV):h.weight=1+h.str.size+GV.weights h.items+(h.keys.map (·.size)).sum+GV.weights h.vals:=by
 cases h with | mk k n s l ks ov=>simp only [GV.weight,GV.str,GV.items,GV.keys,GV.vals]
theorem doH_weight (h:GV) (c:GC):(doH h c).weight≤2 * h.weight+c.v.weight+c.key.size+c.s.size+10:=by
 have a0:=weight_is h
 have a1:=insL_weights h.vals (place c.key h.keys) c.v
 have a2:=remL_weights h.vals (place c.key h.keys)
 have a3:=set_weights h.vals (place c.key h.keys) c.v
 have a4:=insK_sum h.keys (place c.key h.keys) c.key
 have a5:=remK_sum h.keys (place c.key h.keys)
 have a6:=insS_size h.str c.i.toNat c.s
 have a7:=delS_size h.str c.i.toNat c.n.toNat
 have a8:=doL_weights h.items ⟨c.kind.toNat,c.i.toNat,c.j.toNat,c.v⟩
 simp only at a8
 unfold doH
 by_cases k1:c.kind=1
 ·rw [if_pos k1];simp only [GV.weight];omega
 rw [if_neg k1]
 by_cases k2:c.kind=2
 ·rw [if_pos k2]
  by_cases ht:there c.key h.keys=true
  ·rw [if_pos ht];simp only [GV.weight];omega
  ·rw [if_neg ht];simp only [GV.weight];omega
 rw [if_neg k2]
 by_cases k3:c.kind=3
 ·rw [if_pos k3];simp only [GV.weight];omega
 rw [if_neg k3]
 by_cases k8:c.kind=8
 ·rw [if_pos k8];simp only [GV.weight];omega
 rw [if_neg k8]
 by_cases k9:c.kind=9
 ·rw [if_pos k9];simp only [GV.weight];omega
 rw [if_neg k9];simp only [GV.weight];omega
structure Small (c:GC):Prop where
 v:c.v.weight≤1000000
 k:c.key.size≤1000000
 s:c.s.size≤1000000
 pk:∀ s∈c.path,s.key.size≤9223372036854775807
end Go.Proofs.YtlhfnemcpgfcdaaDoor
namespace Go.Proofs.YtlhfnemcpgfcdaaDoor
open Go Go.RowKit
set_option linter.unusedVariables false
set_option linter.unusedSimpArgs false
structure EC where
 c:GC
 A:Option Addr
 cp:Nat
 AL:Option Addr
 cL:Nat
 AO:Option Addr
 cO:Nat
structure C12 (W:World) (b o:Nat) (e:EC):Prop where
 c0:W.cell? ⟨b,o,none⟩=some (.int .u8 e.c.kind)
 c1:W.cell? ⟨b,o+1,none⟩=some (.slice e.A e.c.path.length e.cp)
 c2:W.cell? ⟨b,o+2,none⟩=some (.string e.c.key)
 c3:W.cell? ⟨b,o+3,none⟩=some (.int .i64 e.c.i)
 c4:W.cell? ⟨b,o+4,none⟩=some (.int .i64 e.c.j)
 c5:W.cell? ⟨b,o+5,none⟩=some (.int .i64 e.c.n)
 c6:W.cell? ⟨b,o+6,none⟩=some (.int .u8 e.c.v.kind)
 c7:W.cell? ⟨b,o+7,none⟩=some (.int .i64 e.c.v.num)
 c8:W.cell? ⟨b,o+8,none⟩=some (.string e.c.v.str)
 c9:W.cell? ⟨b,o+9,none⟩=some (.slice e.AL e.c.v.items.length e.cL)
 c10:W.cell? ⟨b,o+10,none⟩=some (.slice e.AO e.c.v.vals.length e.cO)
 c11:W.cell? ⟨b,o+11,none⟩=some (.string e.c.s)
theorem C12.below {n:Nat} {W W':World} {b o:Nat} {e:EC} (h:C12 W b o e) (hb:Below n W W') (hn:b<n):C12 W' b o e:=
 ⟨(hb.cell hn).trans h.c0,(hb.cell hn).trans h.c1,(hb.cell hn).trans h.c2,(hb.cell hn).trans h.c3,(hb.cell hn).trans h.c4,(hb.cell hn).trans h.c5,(hb.cell hn).trans h.c6,(hb.cell hn).trans h.c7,(hb.cell hn).trans h.c8,(hb.cell hn).trans h.c9,(hb.cell hn).trans h.c10,(hb.cell hn).trans h.c11⟩
def EC.Ok (W:World) (e:EC):Prop:=Cc W e.c e.A e.AL e.AO e.cp e.cL e.cO∧Small e.c
theorem EC.Ok.later {W W':World} {e:EC} (h:e.Ok W) (hb:Below W.heap.size W W'):e.Ok W':=⟨h.1.later hb,h.2⟩
structure Ops (W:World) (A:Option Addr) (cap:Nat) (es:List EC):Prop where
 here:es≠[]→∃ b o,A=some ⟨b,o,none⟩∧b<W.heap.size∧∀ i e,es[i]? = some e→C12 W b (o+i * 12) e∧e.Ok W
 le:es.length≤cap
 cap:cap≤maxLen
theorem Ops.later {W W':World} {A:Option Addr} {cap:Nat} {es:List EC} (h:Ops W A cap es) (hb:Below W.heap.size W W'):Ops W' A cap es:=
 ⟨fun hn=>by
  obtain ⟨b,o,e,hl,hc⟩:=h.here hn
  exact ⟨b,o,e,Nat.lt_of_lt_of_le hl hb.size,fun i x hx=>⟨(hc i x hx).1.below hb hl,(hc i x hx).2.later hb⟩⟩,h.le,h.cap⟩
def Does1 (g:GV) (c:GC) (y:GV):Prop:=ChkIs g c 0∧∃ h,g.get c.path=some h∧chkH h c=0∧g.put (doH h c) c.path=some y
def Runs:GV→List EC→GV→Prop
 | g,[],y=>y=g
 | g,e :: r,y=>∃ z,Does1 g e.c z∧Runs z r y
theorem Runs.snoc {e:EC} {z:GV}:∀ {es:List EC} {g y:GV},Runs g es y→Does1 y e.c z→Runs g (es++[e]) z
 | [],g,y,h,hd=>by rw [show y=g from h] at hd;exact ⟨z,hd,rfl⟩
 | _ :: r,g,y,⟨x,hx,hr⟩,hd=>⟨x,hx,hr.snoc hd⟩
def VlIn (ok:Nat→Prop) (W:World) (y:GV) (BL BO:Option Addr) (dL dO:Nat):Prop:=LstV ok W (.slice BL y.items.length dL) y.items∧ObjV ok W (.slice BO y.vals.length dO) y.keys y.vals
theorem VlIn.vl {ok:Nat→Prop} {W:World} {y:GV} {BL BO:Option Addr} {dL dO:Nat} (h:VlIn ok W y BL BO dL dO):Vl W y BL BO dL dO:=
 ⟨h.1.keep (From.refl _ _) (fun _ _ _=>trivial),h.2.keep (From.refl _ _) (fun _ _ _=>trivial)⟩
theorem VlIn.later {ok:Nat→Prop} {W W':World} {y:GV} {BL BO:Option Addr} {dL dO:Nat} (h:VlIn ok W y BL BO dL dO) (hb:Below W.heap.size W W'):VlIn ok W' y BL BO dL dO:=
 ⟨h.1.keep (fun k _ hk=>hb.block k hk) (fun _ hk _=>hk),h.2.keep (fun k _ hk=>hb.block k hk) (fun _ hk _=>hk)⟩
theorem vl_in {W W':World} {y:GV} {BL BO:Option Addr} {dL dO:Nat} (h:Vl W y BL BO dL dO) (hb:Below W.heap.size W W'):VlIn (fun k=>k<W.heap.size) W' y BL BO dL dO:=
 ⟨h.1.keep (fun k _ hk=>hb.block k hk) (fun _ _ hk=>hk),h.2.keep (fun k _ hk=>hb.block k hk) (fun _ _ hk=>hk)⟩
def Off (ok:Nat→Prop) (B k:Nat):Prop:=(ok k∧k<B)∨B+1+1≤k
theorem Off.ne {ok:Nat→Prop} {B k:Nat} (h:Off ok B k):k≠B∧k≠B+1:=by
 rcases h with ⟨_,h⟩ | h
 ·exact ⟨by omega,by omega⟩
 ·exact ⟨by omega,by omega⟩
structure NB (ok:Nat→Prop) (w W:World) (y:GV) (BL BO:Option Addr) (dL dO:Nat):Prop where
 v:Whole W w.heap.size 31 #[.int .u8 y.kind,.int .i64 y.num,.string y.str,.slice BL y.items.length dL,.slice BO y.vals.length dO]
 r:Whole W (w.heap.size+1) 31 #[.int .u8 0,.int .i64 0,.string ⟨#[]⟩,.slice none 0 0,.slice none 0 0]
 off:VlIn (Off ok w.heap.size) W y BL BO dL dO
 below:Below w.heap.size w W
theorem NB.new {ok:Nat→Prop} {w:World} {y:GV} {BL BO:Option Addr} {dL dO:Nat} (h:VlIn ok w y BL BO dL dO):NB ok w ((w.alloc (.cells #[.int .u8 y.kind,.int .i64 y.num,.string y.str,.slice BL y.items.length dL,.slice BO y.vals.length dO] 31)).alloc (.cells #[.int .u8 0,.int .i64 0,.string ⟨#[]⟩,.slice none 0 0,.slice none 0 0] 31)) y BL BO dL dO:=by
 have hb:=((Below.refl _ w).alloc (Nat.le_refl _) (.cells #[.int .u8 y.kind,.int .i64 y.num,.string y.str,.slice BL y.items.length dL,.slice BO y.vals.length dO] 31)).alloc (by simp) (.cells #[.int .u8 0,.int .i64 0,.string ⟨#[]⟩,.slice none 0 0,.slice none 0 0] 31)
 have h2:=Whole.new (w.alloc (.cells #[.int .u8 y.kind,.int .i64 y.num,.string y.str,.slice BL y.items.length dL,.slice BO y.vals.length dO] 31)) 31 #[.int .u8 0,.int .i64 0,.string ⟨#[]⟩,.slice none 0 0,.slice none 0 0]
 rw [World.size_alloc] at h2
 exact ⟨(Whole.new w _ _).alloc _,h2,⟨h.1.keep (fun k _ hk=>hb.block k hk) (fun k hk hlt=>.inl ⟨hk,hlt⟩),h.2.keep (fun k _ hk=>hb.block k hk) (fun k hk hlt=>.inl ⟨hk,hlt⟩)⟩,hb⟩
theorem NB.vl {ok:Nat→Prop} {w W:World} {y:GV} {BL BO:Option Addr} {dL dO:Nat} (h:NB ok w W y BL BO dL dO):Vl W y BL BO dL dO:=h.off.vl
theorem NB.size {ok:Nat→Prop} {w W:World} {y:GV} {BL BO:Option Addr} {dL dO:Nat} (h:NB ok w W y BL BO dL dO):w.heap.size+1+1≤W.heap.size:=h.r.lt
theorem NB.step {ok:Nat→Prop} {w W W':World} {y:GV} {BL BO:Option Addr} {dL dO:Nat} (h:NB ok w W y BL BO dL dO) (hb:Below W.heap.size W W'):NB ok w W' y BL BO dL dO:=
 ⟨h.v.below hb h.v.lt,h.r.below hb h.r.lt,h.off.later hb,h.below.trans (hb.mono h.below.size)⟩
theorem VlNew.alloc {n:Nat} {W:World} {y:GV} {BL BO:Option Addr} {dL dO:Nat} (h:VlNew n W y BL BO dL dO) (o:Obj):VlNew n (W.alloc o) y BL BO dL dO:=
 ⟨h.1.keep (fun k _ hk=>(below_alloc W o).block k hk) (fun _ hk _=>hk),h.2.keep (fun k _ hk=>(below_alloc W o).block k hk) (fun _ hk _=>hk)⟩
theorem VlNew.mono {n m:Nat} {W:World} {y:GV} {BL BO:Option Addr} {dL dO:Nat} (h:VlNew n W y BL BO dL dO) (hm:m≤n):VlNew m W y BL BO dL dO:=
 ⟨h.1.keep (From.refl _ _) (fun _ hk _=>Nat.le_trans hm hk),h.2.keep (From.refl _ _) (fun _ hk _=>Nat.le_trans hm hk)⟩
theorem runs_next {g y z:GV} {es:List EC} {k:Nat} {E:EC} (h:Runs g (es.take k) y) (hE:es[k]? = some E) (hd:Does1 y E.c z):Runs g (es.take (k+1)) z:=by
 obtain ⟨hk,rfl⟩:=List.getElem?_eq_some_iff.1 hE
 rw [List.take_succ_eq_append_getElem hk]
 exact h.snoc hd
def DRel (ok:Nat→Prop) (g:GV) (es:List EC) (n:Nat) (w:World) (i:Value) (wr:World):Prop:=∃ (k:Nat) (y:GV) (BL BO:Option Addr) (dL dO:Nat),i=.int .i64 k∧k≤n∧Runs g (es.take k) y∧NB ok w wr y BL BO dL dO
end Go.Proofs.YtlhfnemcpgfcdaaDoor
namespace Go.Proofs.YtlhfnemcpgfcdaaDoor
open Go Go.RowKit
set_option linter.unusedVariables false
set_option linter.unusedSimpArgs false
theorem rem_exact:∀ (l:List GV) (i:Nat) (x:GV),l[i]? = some x→GV.weights (remL l i)+x.weight=GV.weights l
 | [],_,_,h=>by simp at h
 | y :: r,0,x,h=>by
  simp at h
  subst h
  simp only [remL,List.take_zero,List.nil_append,Nat.zero_add,List.drop_succ_cons,List.drop_zero,GV.weights]
  omega
 | y :: r,i+1,x,h=>by
  have:=rem_exact r i x (by simpa using h)
  simp only [remL,List.take_succ_cons,List.drop_succ_cons,List.cons_append,GV.weights] at this ⊢
  omega
theorem doL_sharp (l:List GV) (c:Cm GV):GV.weights (doL l c)≤GV.weights l+c.v.weight:=by
 unfold doL
 split
 ·have:=insL_weights l c.i c.v;omega
 ·split
  ·have:=remL_weights l c.i;omega
  ·split
   ·have:=insL_weights (remL l c.i) c.i c.v
    have:=remL_weights l c.i
    omega
   ·split
    ·rename_i x hx
     have:=insL_weights (remL l c.i) c.j x
     have:=rem_exact l c.i x hx
     omega
    ·omega
def GC.load (c:GC):Nat:=c.v.weight+c.key.size+c.s.size
def loads:List EC→Nat
 | []=>0
 | e :: r=>e.c.load+loads r
theorem delS_sharp (s:ByteArray) (i n:Nat):(delS s i n).size≤s.size:=by
 have h1:=cutS_tail s i n
 have h2:=cutS_le s (i+n)
 unfold delS
 rw [ByteArray.size_append,ByteArray.size_extract,ByteArray.size_extract]
 omega
theorem doH_sharp (h:GV) (c:GC):(doH h c).weight≤h.weight+c.load:=by
 have a0:=weight_is h
 have a1:=set_weights h.vals (place c.key h.keys) c.v
 have a2:=insL_weights h.vals (place c.key h.keys) c.v
 have a3:=remL_weights h.vals (place c.key h.keys)
 have a4:=insK_sum h.keys (place c.key h.keys) c.key
 have a5:=remK_sum h.keys (place c.key h.keys)
 have a6:=insS_size h.str c.i.toNat c.s
 have a7:=delS_sharp h.str c.i.toNat c.n.toNat
 have a8:=doL_sharp h.items ⟨c.kind.toNat,c.i.toNat,c.j.toNat,c.v⟩
 simp only at a8
 unfold doH GC.load
 by_cases k1:c.kind=1
 ·rw [if_pos k1];simp only [GV.weight];omega
 rw [if_neg k1]
 by_cases k2:c.kind=2
 ·rw [if_pos k2]
  by_cases ht:there c.key h.keys=true
  ·rw [if_pos ht];simp only [GV.weight];omega
  ·rw [if_neg ht];simp only [GV.weight];omega
 rw [if_neg k2]
 by_cases k3:c.kind=3
 ·rw [if_pos k3];simp only [GV.weight];omega
 rw [if_neg k3]
 by_cases k8:c.kind=8
 ·rw [if_pos k8];simp only [GV.weight];omega
 rw [if_neg k8]
 by_cases k9:c.kind=9
 ·rw [if_pos k9];simp only [GV.weight];omega
 rw [if_neg k9];simp only [GV.weight];omega
theorem put_sharp {x:GV}:∀ (p:List GStep) (g h y:GV),g.get p=some h→g.put x p=some y→y.weight+h.weight=g.weight+x.weight
 | [],g,h,y,hg,e=>by simp [GV.put] at e;simp [GV.get] at hg;subst e;subst hg;omega
 | s :: r,g,h,y,hg,e=>by
  simp only [GV.put] at e
  simp only [GV.get] at hg
  cases hi:g.inside s with
  | none=>rw [hi] at e;cases e
  | some u=>
   rw [hi] at e hg
   simp only [Option.bind_some] at e hg
   cases hp:u.put x r with
   | none=>rw [hp] at e;cases e
   | some z=>
    rw [hp] at e
    simp only [Option.map_some,Option.some.injEq] at e
    subst e
    have h1:=put_sharp r u h z hg hp
    have h2:=setIn_weight z hi
    omega
theorem does_weight {g y:GV} {c:GC} (h:Does1 g c y):y.weight≤g.weight+c.load:=by
 obtain ⟨_,h,hg,_,hp⟩:=h
 have h1:=put_sharp _ _ _ _ hg hp
 have h2:=doH_sharp h c
 omega
theorem runs_weight:∀ {es:List EC} {g y:GV},Runs g es y→y.weight≤g.weight+loads es
 | [],g,y,h=>by rw [show y=g from h];exact Nat.le_add_right _ _
 | e :: r,g,y,⟨z,hz,hr⟩=>by
  have h1:=does_weight hz
  have h2:=runs_weight hr
  simp only [loads]
  omega
theorem loads_take:∀ (es:List EC) (k:Nat),loads (es.take k)≤loads es
 | [],_=>by simp
 | e :: r,0=>Nat.zero_le _
 | e :: r,k+1=>by
  have:=loads_take r k
  simp only [List.take_succ_cons,loads]
  omega
theorem runs_light {g:GV} {es:List EC} (h:g.weight+loads es≤1000000):∀ k y,Runs g (es.take k) y→y.weight≤1000000:=fun k y hr=>by
 have h1:=runs_weight hr
 have h2:=loads_take es k
 omega
theorem runs_one:∀ {es:List EC} {g y z:GV},Runs g es y→Runs g es z→y=z
 | [],g,y,z,h,h'=>by rw [show y=g from h,show z=g from h']
 | e :: r,g,y,z,⟨u,hu,hr⟩,⟨v,hv,hr'⟩=>by
  obtain ⟨_,h,hg,_,hp⟩:=hu
  obtain ⟨_,h',hg',_,hp'⟩:=hv
  rw [hg] at hg'
  cases hg'
  rw [hp] at hp'
  cases hp'
  exact runs_one hr hr'
end Go.Proofs.YtlhfnemcpgfcdaaDoor
namespace Go.Proofs.YtlhfnemcpgfcdaaDoor
open Go Go.RowKit Go.Lib
set_option linter.unusedVariables false
set_option linter.unusedSimpArgs false
theorem valid_chars:∀ cs:List (List UInt8),(∀ u∈cs,IsChar u)→validD cs.flatten=true
 | [],_=>rfl
 | u :: r,h=>by
  have hu:=h u (List.mem_cons_self ..)
  have hp:=hu.pos
  have hne:u++r.flatten≠[]:=by
   intro e
   have:=congrArg List.length e
   simp only [List.length_append,List.length_nil] at this
   omega
  rw [List.flatten_cons,validD_step _ hne,decodeL_char _ hu,if_neg (fun e=>hu.1 (Prod.ext e.1 e.2)),hu.2,List.drop_left]
  exact valid_chars r (fun v hv=>h v (List.mem_cons_of_mem _ hv))
theorem Reads.valid {s:ByteArray} {cs:List (List UInt8)} (h:Reads s cs):Go.Proofs.YtlhfnemcpgfcdaaDoor.valid s=true:=by
 unfold Go.Proofs.YtlhfnemcpgfcdaaDoor.valid
 rw [h.1]
 exact valid_chars cs h.2
theorem ins_valid {s t:ByteArray} (i:Nat) (hs:valid s=true) (ht:valid t=true):valid (insS s i t)=true:=by
 obtain ⟨cs,h1⟩:=reads_of hs
 obtain ⟨ts,h2⟩:=reads_of ht
 exact (h1.ins h2 i).valid
theorem del_valid {s:ByteArray} (i n:Nat) (hs:valid s=true):valid (delS s i n)=true:=by
 obtain ⟨cs,h1⟩:=reads_of hs
 exact (h1.del i n).valid
end Go.Proofs.YtlhfnemcpgfcdaaDoor
namespace Go.Proofs.YtlhfnemcpgfcdaaDoor
open Go Go.RowKit
set_option linter.unusedVariables false
set_option linter.unusedSimpArgs false
theorem bytes_trans:∀ (a b c:List UInt8),Op.bytesLess a b=true→Op.bytesLess b c=true→Op.bytesLess a c=true
 | _,[],_,h,_=>by simp [Op.bytesLess] at h
 | _,_ :: _,[],_,h=>by simp [Op.bytesLess] at h
 | [],_ :: _,_ :: _,_,_=>by simp [Op.bytesLess]
 | x :: a,y :: b,z :: c,h1,h2=>by
  simp only [Op.bytesLess,Bool.or_eq_true,Bool.and_eq_true,decide_eq_true_eq,beq_iff_eq] at h1 h2 ⊢
  rcases h1 with h1 | ⟨rfl,h1⟩
  ·rcases h2 with h2 | ⟨rfl,h2⟩
   ·exact .inl (UInt8.lt_trans h1 h2)
   ·exact .inl h1
  ·rcases h2 with h2 | ⟨rfl,h2⟩
   ·exact .inl h2
   ·exact .inr ⟨rfl,bytes_trans a b c h1 h2⟩
theorem less_trans {a b c:ByteArray} (h1:less' a b=true) (h2:less' b c=true):less' a c=true:=bytes_trans _ _ _ h1 h2
theorem remK_ok {ks:List ByteArray} {i:Nat} (h:KeysOk ks) (hi:i<ks.length):KeysOk (remL ks i):=by
 intro a k ha hk
 have hl:=remL_len hi
 rw [remL_get hi] at hk
 by_cases h1:a<i
 ·rw [if_pos h1] at hk
  refine ⟨(h a k (by omega) hk).1,fun j p e hj=>?_⟩
  rw [remL_get hi,if_pos (by omega)] at hj
  exact (h a k (by omega) hk).2 j p e hj
 ·rw [if_neg h1] at hk
  have hk2:=(List.getElem?_eq_some_iff.1 hk).1
  refine ⟨(h (a+1) k hk2 hk).1,fun j p e hj=>?_⟩
  rw [remL_get hi] at hj
  by_cases h2:j<i
  ·rw [if_pos h2] at hj
   have hm : ks[a]? = some (ks[a]'(by omega)) := List.getElem?_eq_getElem _
   exact less_trans ((h a _ (by omega) hm).2 j p e hj) ((h (a+1) k hk2 hk).2 a _ rfl hm)
  ·rw [if_neg h2] at hj
   exact (h (a+1) k hk2 hk).2 (j+1) p (by omega) hj
theorem insK_is {key:ByteArray} {ks:List ByteArray} (h:there key ks=false):insK key ks=insL ks (place key ks) key:=by
 unfold insK insL insN
 rw [h]
 rfl
theorem insL_mem {α:Type} {l:List α} {i:Nat} {v x:α} (h:x∈insL l i v):x=v∨x∈l:=by
 unfold insL at h
 rcases List.mem_append.1 h with h | h
 ·exact .inr (List.mem_of_mem_take h)
 ·rcases List.mem_cons.1 h with h | h
  ·exact .inl h
  ·exact .inr (List.mem_of_mem_drop h)
theorem remL_mem {α:Type} {l:List α} {i:Nat} {x:α} (h:x∈remL l i):x∈l:=by
 unfold remL at h
 rcases List.mem_append.1 h with h | h
 ·exact List.mem_of_mem_take h
 ·exact List.mem_of_mem_drop h
theorem doL_mem {l:List GV} {c:Cm GV} {x:GV} (h:x∈doL l c):x=c.v∨x∈l:=by
 unfold doL at h
 split at h
 ·exact insL_mem h
 ·split at h
  ·exact .inr (remL_mem h)
  ·split at h
   ·rcases insL_mem h with h | h
    ·exact .inl h
    ·exact .inr (remL_mem h)
   ·split at h
    ·rename_i y hy
     rcases insL_mem h with h | h
     ·subst h;exact .inr (List.mem_of_getElem? hy)
     ·exact .inr (remL_mem h)
    ·exact .inr h
theorem chk_kind {h:GV} {c:GC} (e:chkH h c=0):h.kind=worksOn c.kind:=by
 unfold chkH at e
 by_cases hk:h.kind=worksOn c.kind
 ·exact hk
 ·rw [if_pos hk] at e
  cases e
theorem chk_there {h:GV} {c:GC} (e:chkH h c=0) (h3:c.kind=3):there c.key h.keys=true:=by
 have hw:worksOn c.kind=5:=by rw [h3];decide
 have hk:h.kind=5:=(chk_kind e).trans hw
 unfold chkH at e
 rw [if_neg (fun hn=>hn (hk.trans hw.symm)),if_neg (by omega),if_neg (by omega)] at e
 by_cases ht:there c.key h.keys=true
 ·exact ht
 ·rw [if_pos ⟨h3,by simpa using ht⟩] at e
  cases e
theorem doH_put {h:GV} {c:GC} (h2:c.kind=2) (ht:there c.key h.keys=true):doH h c=.mk h.kind h.num h.str h.items h.keys (h.vals.set (place c.key h.keys) c.v):=by
 unfold doH
 rw [if_neg (by omega),if_pos h2,if_pos ht]
theorem doH_new {h:GV} {c:GC} (h2:c.kind=2) (ht:¬ there c.key h.keys=true):doH h c=.mk h.kind h.num h.str h.items (insL h.keys (place c.key h.keys) c.key) (insL h.vals (place c.key h.keys) c.v):=by
 unfold doH
 rw [if_neg (by omega),if_pos h2,if_neg ht]
theorem doH_sound {h:GV} {c:GC} (hh:h.Sound) (hc:c.Sound) (e:chkH h c=0):(doH h c).Sound:=by
 have hk:=chk_kind e
 have hdel:=chk_there e
 obtain ⟨_,_,hkey,_,⟨⟨hk1,hk9⟩,_,hs8,_⟩,hv⟩:=hc
 have hvs:=hv.1
 cases h with
 | mk k n z l ks ov=>
  simp only [GV.Sound] at hh
  obtain ⟨⟨p1,p2,p3,p4,p5⟩,hl,ho⟩:=hh
  rw [sounds_iff] at hl ho
  simp only [GV.kind,GV.keys] at hk hdel
  unfold worksOn at hk
  by_cases h2:c.kind=2
  ·rw [if_neg (by omega),if_pos (.inl h2)] at hk
   have hko:KeysOk ks:=by
    rcases p5 with p | p
    ·exact p.2
    ·exact absurd hk p.1
   by_cases ht:there c.key ks=true
   ·rw [doH_put (h:=.mk k n z l ks ov) h2 ht]
    simp only [GV.kind,GV.num,GV.str,GV.items,GV.keys,GV.vals,GV.Sound]
    rw [sounds_iff,sounds_iff]
    refine ⟨⟨p1,p2,p3,p4,.inl ⟨hk,hko⟩⟩,hl,fun x hx=>?_⟩
    rcases List.mem_or_eq_of_mem_set hx with hx | hx
    ·exact ho x hx
    ·subst hx;exact hvs
   ·rw [doH_new (h:=.mk k n z l ks ov) h2 ht]
    simp only [GV.kind,GV.num,GV.str,GV.items,GV.keys,GV.vals,GV.Sound]
    rw [sounds_iff,sounds_iff]
    refine ⟨⟨p1,p2,p3,p4,.inl ⟨hk,by rw [← insK_is (by simpa using ht)];exact insK_ok hko hkey⟩⟩,hl,fun x hx=>?_⟩
    rcases insL_mem hx with hx | hx
    ·subst hx;exact hvs
    ·exact ho x hx
  unfold doH
  rw [if_neg h2]
  by_cases h1:c.kind=1
  ·rw [if_pos h1] at hk ⊢
   simp only [GV.kind,GV.num,GV.str,GV.items,GV.keys,GV.vals,GV.Sound]
   rw [sounds_iff,sounds_iff]
   exact ⟨⟨p1,.inl hk,p3,p4,p5⟩,hl,ho⟩
  rw [if_neg h1] at hk ⊢
  simp only [GV.kind,GV.num,GV.str,GV.items,GV.keys,GV.vals]
  by_cases h3:c.kind=3
  ·rw [if_pos (.inr h3)] at hk
   have hko:KeysOk ks:=by
    rcases p5 with p | p
    ·exact p.2
    ·exact absurd hk p.1
   rw [if_pos h3]
   simp only [GV.Sound]
   rw [sounds_iff,sounds_iff]
   exact ⟨⟨p1,p2,p3,p4,.inl ⟨hk,remK_ok hko (there_lt (hdel h3))⟩⟩,hl,fun x hx=>ho x (remL_mem hx)⟩
  rw [if_neg h3]
  rw [if_neg (by omega)] at hk
  by_cases h8:c.kind=8
  ·rw [if_pos (.inl h8)] at hk
   rw [if_pos h8]
   simp only [GV.Sound]
   rw [sounds_iff,sounds_iff]
   refine ⟨⟨p1,p2,.inl ⟨hk,ins_valid _ ?_ (hs8 h8).2⟩,p4,p5⟩,hl,ho⟩
   rcases p3 with p | p
   ·exact p.2
   ·exact absurd hk p.1
  rw [if_neg h8]
  by_cases h9:c.kind=9
  ·rw [if_pos (.inr h9)] at hk
   rw [if_pos h9]
   simp only [GV.Sound]
   rw [sounds_iff,sounds_iff]
   refine ⟨⟨p1,p2,.inl ⟨hk,del_valid _ _ ?_⟩,p4,p5⟩,hl,ho⟩
   rcases p3 with p | p
   ·exact p.2
   ·exact absurd hk p.1
  rw [if_neg h9]
  rw [if_neg (by omega)] at hk
  simp only [GV.Sound]
  rw [sounds_iff,sounds_iff]
  refine ⟨⟨p1,p2,p3,.inl hk,p5⟩,fun x hx=>?_,ho⟩
  rcases doL_mem hx with hx | hx
  ·subst hx;exact hvs
  ·exact hl x hx
end Go.Proofs.YtlhfnemcpgfcdaaDoor
namespace Go.Proofs.YtlhfnemcpgfcdaaDoor
open Go Go.RowKit
set_option linter.unusedVariables false
set_option linter.unusedSimpArgs false
def tieP (k:ByteArray) (x:GV):GC:=⟨2,[],k,0,0,0,x,⟨#[]⟩⟩
def tieD (k:ByteArray):GC:=⟨3,[],k,0,0,0,noG,⟨#[]⟩⟩
theorem noG_sound:noG.Sound:=by simp [noG,GV.Sound,GV.Sounds,SelfP]
theorem tie_empty:(⟨#[]⟩:ByteArray).toList=[]:=by decide +kernel
theorem tieP_sound {k:ByteArray} {x:GV} (hk:valid k=true) (hx:x.Sound) (hd:x.deep≤15) (hw:x.weight≤20000):(tieP k x).Sound:=
 ⟨Int.le_refl _,Int.le_refl _,hk,by show soundP []=true;decide,⟨⟨by show (1:Int)≤2;decide,by show (2:Int)≤9;decide⟩,⟨.inr (.inr rfl),.inl rfl,.inl rfl,.inr rfl,.inr rfl,.inr tie_empty⟩,fun h=>absurd h (by show ¬ (2:Int)=8;decide),fun h=>absurd h (by show ¬ (2:Int)=9;decide)⟩,hx,by show 0+1+x.deep≤16;omega,hw⟩
theorem tieD_sound {k:ByteArray} (hk:valid k=true):(tieD k).Sound:=
 ⟨Int.le_refl _,Int.le_refl _,hk,by show soundP []=true;decide,⟨⟨by show (1:Int)≤3;decide,by show (3:Int)≤9;decide⟩,⟨.inr (.inr rfl),.inr (.inl rfl),.inr (.inr (.inr (same_refl _))),.inr rfl,.inr rfl,.inr tie_empty⟩,fun h=>absurd h (by show ¬ (3:Int)=8;decide),fun h=>absurd h (by show ¬ (3:Int)=9;decide)⟩,noG_sound,by show 0+1+noG.deep≤16;decide +kernel,by show noG.weight≤20000;decide +kernel⟩
structure TieV (V:GV) (k:ByteArray):Prop where
 kind:V.kind=5
 sound:V.Sound
 len:V.keys.length=V.vals.length
 key:V.keys[place k V.keys]? = some k
theorem TieV.keys {V:GV} {k:ByteArray} (h:TieV V k):KeysOk V.keys:=by
 have hk:=h.kind
 have hs:=h.sound
 cases V with
 | mk a n z l ks ov=>
  simp only [GV.Sound] at hs
  obtain ⟨⟨_,_,_,_,p5⟩,_,_⟩:=hs
  rcases p5 with p | p
  ·exact p.2
  ·exact absurd hk p.1
theorem TieV.lt {V:GV} {k:ByteArray} (h:TieV V k):place k V.keys<V.keys.length:=(List.getElem?_eq_some_iff.1 h.key).1
theorem TieV.there {V:GV} {k:ByteArray} (h:TieV V k):there k V.keys=true:=by
 unfold Go.Proofs.YtlhfnemcpgfcdaaDoor.there
 rw [h.key]
 simp
def tieIn (V:GV) (k:ByteArray) (x:GV):GV:=.mk V.kind V.num V.str V.items V.keys (V.vals.set (place k V.keys) x)
def tieOut (V:GV) (k:ByteArray):GV:=.mk V.kind V.num V.str V.items (remL V.keys (place k V.keys)) (remL V.vals (place k V.keys))
theorem tieIn_in (V:GV) (k:ByteArray) (x y:GV):tieIn (tieIn V k y) k x=tieIn V k x:=by
 unfold tieIn
 simp only [GV.kind,GV.num,GV.str,GV.items,GV.keys,GV.vals,List.set_set]
theorem insL_remL {α:Type} {l:List α} {i:Nat} (x:α) (h:i<l.length):insL (remL l i) i x=l.set i x:=by
 unfold insL remL
 rw [List.take_append_of_le_length (by simp;omega),List.take_take,Nat.min_self,List.drop_append_of_le_length (by simp;omega),List.drop_take,Nat.sub_self,List.take_zero,List.nil_append,List.set_eq_take_append_cons_drop,if_pos h]
theorem tie_place {V:GV} {k:ByteArray} (h:TieV V k):place k (remL V.keys (place k V.keys))=place k V.keys∧there k (remL V.keys (place k V.keys))=false:=by
 have hlt:=h.lt
 have hl:=remL_len hlt
 have hno:∀ x,(remL V.keys (place k V.keys))[place k V.keys]? = some x→less k k=false→less x k=false∧(x.toList == k.toList)=false:=fun x hx _=>by
  rw [remL_get hlt,if_neg (by omega)] at hx
  have h2:=(h.keys (place k V.keys+1) x (List.getElem?_eq_some_iff.1 hx).1 hx).2 _ k rfl h.key
  have h3:=bl_asymm (show Op.bytesLess k.toList x.toList=true from h2)
  exact ⟨h3.1,h3.2.2⟩
 have hkk:less k k=false:=by
  have:=place_stop k V.keys k h.key
  exact this
 have hp:place k (remL V.keys (place k V.keys))=place k V.keys:=
  place_eq k _ _ (by omega) (fun i x hx hi=>by rw [remL_get hlt,if_pos hi] at hx;exact place_lt k _ i x hx hi) (fun x hx=>(hno x hx hkk).1)
 refine ⟨hp,?_⟩
 unfold Go.Proofs.YtlhfnemcpgfcdaaDoor.there
 rw [hp]
 cases hx:(remL V.keys (place k V.keys))[place k V.keys]? with
 | none=>rfl
 | some x=>exact (hno x hx hkk).2
theorem does_here {g:GV} {c:GC} (hs:c.Sound) (hp:c.path=[]) (hk:chkH g c=0):Does1 g c (doH g c):=
 ⟨.inr ⟨hs,.inr ⟨g,by rw [hp];rfl,hk.symm⟩⟩,g,by rw [hp];rfl,hk,by rw [hp];rfl⟩
theorem chk_put {g:GV} {k:ByteArray} {x:GV} (h:g.kind=5):chkH g (tieP k x)=0:=by
 unfold chkH
 rw [if_neg (by rw [h];show ¬ (5:Int)≠worksOn 2;decide),if_neg (by omega),if_neg (by omega),if_neg (by rintro ⟨h,_⟩;exact absurd h (by show ¬ (2:Int)=3;decide))]
theorem tie_put {V:GV} {k:ByteArray} {x:GV} (h:TieV V k) (hs:(tieP k x).Sound):Does1 V (tieP k x) (tieIn V k x):=by
 have:=does_here hs rfl (chk_put (x:=x) (k:=k) h.kind)
 rwa [doH_put (c:=tieP k x) rfl h.there] at this
theorem tie_put_in {V:GV} {k:ByteArray} {x y:GV} (h:TieV V k) (hs:(tieP k x).Sound):Does1 (tieIn V k y) (tieP k x) (tieIn V k x):=by
 have:=does_here (g:=tieIn V k y) hs rfl (chk_put (x:=x) (k:=k) h.kind)
 rw [doH_put (h:=tieIn V k y) (c:=tieP k x) rfl h.there] at this
 have h0:Does1 (tieIn V k y) (tieP k x) (tieIn (tieIn V k y) k x):=this
 rwa [tieIn_in] at h0
theorem tie_del {V:GV} {k:ByteArray} (h:TieV V k) (hk:valid k=true):Does1 V (tieD k) (tieOut V k):=by
 have hc:chkH V (tieD k)=0:=by
  unfold chkH
  rw [if_neg (by rw [h.kind];show ¬ (5:Int)≠worksOn 3;decide),if_neg (by rw [h.kind];decide),if_neg (by rw [h.kind];decide),if_neg (by rintro ⟨_,h2⟩;have h2:Go.Proofs.YtlhfnemcpgfcdaaDoor.there k V.keys=false:=h2;rw [h.there] at h2;cases h2)]
 exact does_here (tieD_sound hk) rfl hc
theorem tie_put_out {V:GV} {k:ByteArray} {x:GV} (h:TieV V k) (hs:(tieP k x).Sound):Does1 (tieOut V k) (tieP k x) (tieIn V k x):=by
 have ht:=tie_place h
 have:=does_here (g:=tieOut V k) hs rfl (chk_put (x:=x) (k:=k) h.kind)
 rw [doH_new (c:=tieP k x) rfl (by show ¬ Go.Proofs.YtlhfnemcpgfcdaaDoor.there k (remL V.keys (place k V.keys))=true;rw [ht.2];decide)] at this
 have e1:insL (remL V.keys (place k V.keys)) (place k V.keys) k=V.keys:=by
  rw [insL_remL k h.lt]
  exact List.ext_getElem? fun i=>by
   rw [List.getElem?_set]
   by_cases e:place k V.keys=i
   ·subst e;rw [if_pos rfl,if_pos h.lt,h.key]
   ·rw [if_neg e]
 have e2:insL (remL V.vals (place k V.keys)) (place k V.keys) x=V.vals.set (place k V.keys) x:=insL_remL x (by rw [← h.len];exact h.lt)
 have e3:place (tieP k x).key (tieOut V k).keys=place k V.keys:=ht.1
 rw [e3] at this
 unfold tieIn
 rw [← e2]
 have h0:Does1 (tieOut V k) (tieP k x) (.mk V.kind V.num V.str V.items (insL (remL V.keys (place k V.keys)) (place k V.keys) k) (insL (remL V.vals (place k V.keys)) (place k V.keys) x)):=this
 rwa [e1] at h0
theorem tie_with {k:ByteArray} {ks:List ByteArray} {ov:List GV} {y:GV} {n:Int} {s:ByteArray} {l:List GV} (hv:(GV.mk 5 n s l ks ov).Sound) (hk:valid k=true) (hy:y.Sound) (hl:ks.length=ov.length):TieV (.mk 5 n s l (insK k ks) (insV k ks ov y)) k:=by
 simp only [GV.Sound] at hv
 rw [sounds_iff,sounds_iff] at hv
 obtain ⟨⟨p1,p2,p3,p4,p5⟩,h1,h2⟩:=hv
 have hko:KeysOk ks:=by
  rcases p5 with p | p
  ·exact p.2
  ·exact absurd rfl p.1
 have hok:=insK_ok hko hk
 have hg:(insK k ks)[place k ks]? = some k:=by rw [insK_get,if_neg (by omega),if_pos rfl]
 refine ⟨rfl,?_,insK_len k ks ov y hl,?_⟩
 ·simp only [GV.Sound]
  rw [sounds_iff,sounds_iff]
  refine ⟨⟨p1,p2,p3,p4,.inl ⟨rfl,hok⟩⟩,h1,fun x hx=>?_⟩
  rcases insV_mem hx with hx | hx
  ·subst hx;exact hy
  ·exact h2 x hx
 ·show (insK k ks)[place k (insK k ks)]? = some k
  rw [(key_place hok hg).1]
  exact hg
theorem tie_with' {k:ByteArray} {V y:GV} (h5:V.kind=5) (hv:V.Sound) (hk:valid k=true) (hy:y.Sound) (hl:V.keys.length=V.vals.length):TieV (.mk V.kind V.num V.str V.items (insK k V.keys) (insV k V.keys V.vals y)) k:=by
 cases V with
 | mk a n s l ks ov=>
  simp only [GV.kind] at h5
  subst h5
  exact tie_with hv hk hy hl
theorem tie_weight (k:ByteArray) (V y:GV):(GV.mk V.kind V.num V.str V.items (insK k V.keys) (insV k V.keys V.vals y)).weight≤V.weight+k.size+y.weight:=by
 have h1:=weight_is V
 have h2:(GV.mk V.kind V.num V.str V.items (insK k V.keys) (insV k V.keys V.vals y)).weight=1+V.str.size+GV.weights V.items+((insK k V.keys).map (·.size)).sum+GV.weights (insV k V.keys V.vals y):=weight_is (GV.mk V.kind V.num V.str V.items (insK k V.keys) (insV k V.keys V.vals y))
 have h3:=insV_weights k V.keys V.vals y
 have h4:=insK_ksum k V.keys
 unfold ksum at h4
 omega
def tieK (s:ByteArray):Nat→ByteArray
 | 0=>⟨#[107]⟩
 | n+1=>tieK s n++strOfNums [97+((s.data.getD n 0).toNat:Int) % 26]
theorem tieK_next (s:ByteArray) (k:Nat) (h:k<s.size) (z:Int) (hz:z=97+(s[k].toNat:Int) % 26):tieK s k++strOfNums [z]=tieK s (k+1):=by
 rw [tieK,hz]
 have e:s.data.getD k 0=s[k]:=by
  have hk:k<s.data.size:=h
  unfold Array.getD
  rw [dif_pos hk]
  rfl
 rw [e]
theorem tieK_ascii (s:ByteArray):∀ n,∀ b∈(tieK s n).data.toList,b.toNat<128
 | 0,b,hb=>by
  have:b=107:=by simpa [tieK] using hb
  subst this
  decide
 | n+1,b,hb=>by
  rw [tieK,ByteArray.data_append,Array.toList_append] at hb
  rcases List.mem_append.1 hb with hb | hb
  ·exact tieK_ascii s n b hb
  ·rw [strOfNums_data] at hb
   simp only [List.map_cons,List.map_nil,List.mem_singleton] at hb
   subst hb
   rw [UInt8.toNat_ofNat']
   omega
theorem tieK_valid (s:ByteArray) (n:Nat):valid (tieK s n)=true:=by
 unfold valid
 have h:=Lib.validD_ascii (tieK s n).data.toList.length (tieK s n).data.toList (fun b hb=>by
  rw [List.take_length] at hb
  exact tieK_ascii s n b hb)
 rw [h,List.drop_length]
 rfl
theorem tieK_size (s:ByteArray):∀ n,(tieK s n).size=n+1
 | 0=>rfl
 | n+1=>by rw [tieK,ByteArray.size_append,tieK_size s n,strOfNums_size];rfl
end Go.Proofs.YtlhfnemcpgfcdaaDoor
namespace Go.Proofs.YtlhfnemcpgfcdaaDoor
open Go Go.RowKit
set_option linter.unusedVariables false
set_option linter.unusedSimpArgs false
structure CBd (c:GC):Prop where
 v:c.v.weight≤1000000000
 p:c.path.length≤1000000000
 k:c.key.size≤281474976710656
 s:c.s.size≤281474976710656
 pk:∀ s∈c.path,s.key.size≤281474976710656
def AloneIs (c:GC) (w:World) (e:Ending) (w':World):Prop:=∃ (b:Nat) (A AL AO:Option Addr) (cp cL cO:Nat),e=.returned (.slice (some ⟨b,0,none⟩) 1 1)∧w.heap.size≤b∧Whole w' b 36 #[.int .u8 c.kind,.slice A c.path.length cp,.string c.key,.int .i64 c.i,.int .i64 c.j,.int .i64 c.n,.int .u8 c.v.kind,.int .i64 c.v.num,.string c.v.str,.slice AL c.v.items.length cL,.slice AO c.v.vals.length cO,.string c.s]∧Cc w' c A AL AO cp cL cO∧Below w.heap.size w w'
theorem turn_alone (c:GC) (A AL AO:Option Addr) (cp cL cO:Nat) (w:World) (hc:Cc w c A AL AO cp cL cO) (hb:CBd c):Calls Tryd.prog 16 #[.agg #[.int .u8 c.kind,.slice A c.path.length cp,.string c.key,.int .i64 c.i,.int .i64 c.j,.int .i64 c.n,.int .u8 c.v.kind,.int .i64 c.v.num,.string c.v.str,.slice AL c.v.items.length cL,.slice AO c.v.vals.length cO,.string c.s]] w (AloneIs c w):=by
 have HC:=Lib.hid (fun W (h:Below w.heap.size w W)=>comp_Copy c A AL AO cp cL cO W (hc.later h) hb.v hb.p hb.k hb.s hb.pk)
 unfold SameNew at HC
 clear hc hb
 go_enter Tryd.func16,Tryd.ntmps16
 go_wp2_with (go_at_call 27;refine (HC.out _ (below_alloc w _)).mono ?_;rintro e w1 ⟨B,BL,BO,bp,bL,bO,rfl,hcc,hb⟩;have H1:=Lib.hid (And.intro hcc ((below_alloc w (.cells #[.int .u8 c.kind,.slice A c.path.length cp,.string c.key,.int .i64 c.i,.int .i64 c.j,.int .i64 c.n,.int .u8 c.v.kind,.int .i64 c.v.num,.string c.v.str,.slice AL c.v.items.length cL,.slice AO c.v.vals.length cO,.string c.s] 36)).trans (hb.mono (by simp))));clear hcc hb)
 go_ret
 exact ⟨w1.heap.size,B,BL,BO,bp,bL,bO,rfl,H1.out.2.size,Whole.new w1 _ _,H1.out.1.later (below_alloc _ _),H1.out.2.alloc H1.out.2.size _⟩
end Go.Proofs.YtlhfnemcpgfcdaaDoor
