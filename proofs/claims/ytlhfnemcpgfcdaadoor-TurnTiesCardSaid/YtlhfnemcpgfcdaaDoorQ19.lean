/- Texts in one: OneA, OpenA, CompT, CompU, CompV, CompW, CompY, CompDx, TextX. -/
import Derived.Test.YtlhfnemcpgfcdaaDoorQ18
import Derived.Laws.Concat
import Derived.Test.YtlhfnemcpgfcdaaDoorQ6
import Derived.Test.YtlhfnemcpgfcdaaDoorQ17
import Derived.BigQuiet
import Derived.Deep.QuietTactic
import Derived.Test.YtlhfnemcpgfcdaaDoorQ16
import Derived.Test.YtlhfnemcpgfcdaaDoorQ11
import Derived.ArgAppend
import Derived.Lib.SliceRun
import Derived.Test.YtlhfnemcpgfcdaaDoorQ10
import Derived.Laws.RangeString
import Derived.Laws.RangeAny
import Derived.Lib.RuneCount
import Derived.LoopTactic
import Derived.WalkSmall
set_option maxRecDepth 100000
namespace Go.Proofs.YtlhfnemcpgfcdaaDoor
open Go Go.RowKit
set_option linter.unusedVariables false
set_option linter.unusedSimpArgs false
structure GAct where
 path:List Int
 kind:Int
 i:Int
 j:Int
 n:Int
 s:ByteArray
 v:List GTok
structure ActOk (w:World) (x:GAct) (AP:Option Addr) (ap:Nat) (AD:Option Addr) (ad:Nat):Prop where
 bytes:Bytes w.heap.size w AP x.path
 rngp:∀ b∈x.path,0≤b∧b≤255
 capp:x.path.length≤ap∧ap≤maxLen
 kind:0≤x.kind∧x.kind≤255
 toks:Toks w.heap.size w AD x.v
 cap:x.v.length≤ad∧ad≤maxLen
 rng:∀ t∈x.v,0≤t.k∧t.k≤255∧0≤t.m∧t.m≤255
 sizes:∀ t∈x.v,t.s.size≤140737488351232
 str:x.s.size≤140737488351232
theorem ActOk.later {w W:World} {x:GAct} {AP:Option Addr} {ap:Nat} {AD:Option Addr} {ad:Nat} (h:ActOk w x AP ap AD ad) (hb:Below w.heap.size w W):ActOk W x AP ap AD ad:=
 ⟨h.bytes.keep hb hb.size,h.rngp,h.capp,h.kind,h.toks.keep hb hb.size,h.cap,h.rng,h.sizes,h.str⟩
def VOk (g:GV):Prop:=g.Sound∧g.deep≤6∧g.weight≤6000∧g.Asc
def BuildA (W:World) (e:Ending) (w':World):Prop:=
 ∃ (g:GV) (BL BO:Option Addr) (dL dO:Nat),e=.returned (.agg #[.int .u8 g.kind,.int .i64 g.num,.string g.str,.slice BL g.items.length dL,.slice BO g.vals.length dO])∧(LstV (fun k=>W.heap.size≤k) w' (.slice BL g.items.length dL) g.items∧ObjV (fun k=>W.heap.size≤k) w' (.slice BO g.vals.length dO) g.keys g.vals)∧VOk g∧Below W.heap.size W w'
theorem build_A (hi:Nat) (A:Option Addr) (cap:Nat) (ts:List GTok) (w:World) (hcap:ts.length≤cap) (hm:cap≤maxLen) (hhi:hi≤w.heap.size) (hT:Toks hi w A ts)
  (hr:∀ t∈ts,0≤t.k∧t.k≤255∧0≤t.m∧t.m≤255) (hss:∀ t∈ts,t.s.size≤140737488351232):Calls Tryd.prog 6 #[.slice A ts.length cap] w (BuildA w):=
 (Build_len hi A cap ts w hcap hm hhi hT hr hss).mono fun e w' ⟨g,v,he,hv,hg,hw,hb⟩=>by
  obtain ⟨L,O,rfl,hL,hO⟩:=hv
  obtain ⟨BL,dL,rfl⟩:=lst_form hL
  obtain ⟨BO,dO,rfl⟩:=obj_form hO
  exact ⟨g,BL,BO,dL,dO,he,⟨hL,hO⟩,⟨hg.1,by have:=hg.2.1;omega,hw,hg.2.2.2⟩,hb⟩
theorem vok_no:VOk noG:=⟨by simp [noG,GV.Sound,GV.Sounds,SelfP],by simp [noG,GV.deep,GV.deeps],by unfold noG;simp only [GV.weight,GV.weights,List.map_nil,List.sum_nil];decide,by simp [noG,GV.Asc,GV.Ascs,asc_none]⟩
def strX:ByteArray:=⟨#[120]⟩
theorem act_cells {W:World} {b:Nat} {t:TypeId} {a0 a1 a2 a3 a4 a5 a6:Value} (h:Whole W b t #[a0,a1,a2,a3,a4,a5,a6]):W.cell? ⟨b,0,none⟩=some a0∧W.cell? ⟨b,1,none⟩=some a1∧W.cell? ⟨b,2,none⟩=some a2∧W.cell? ⟨b,3,none⟩=some a3∧W.cell? ⟨b,4,none⟩=some a4∧W.cell? ⟨b,5,none⟩=some a5∧W.cell? ⟨b,6,none⟩=some a6:=
 ⟨h.cell 0,h.cell 1,h.cell 2,h.cell 3,h.cell 4,h.cell 5,h.cell 6⟩
end Go.Proofs.YtlhfnemcpgfcdaaDoor
namespace Go.Proofs.YtlhfnemcpgfcdaaDoor
open Go Go.ChangeShapes Go.WideShapes Go.ChangeAt Go.RowKit Go.Lib Go.Shelf
set_option linter.unusedVariables false
set_option linter.unusedSimpArgs false
theorem cells_bytesA:Tryd.prog.cellsOf 23=1:=by kernel_rfl
theorem cells_toksA:Tryd.prog.cellsOf 22=1:=by kernel_rfl
theorem cells_intA:Tryd.prog.cellsOf 3=1:=by kernel_rfl
theorem cells_act:Tryd.prog.cellsOf 25=7:=by kernel_rfl
theorem open_act {H:Type} {enc:TypeId × Value→H} {W:World} {spare:Nat→Bool} {held:Bool} {v:Value} {d:DataW H} {p:List MemPlace} (h:DataW.Trod enc Tryd.prog W 0 spare held 25 v d p)
  (hv:∃ cs,v=.agg cs∧cs.size=7) (hsz:∀ n∈d.weights Tryd.prog 25,n≤reachBytes):
  ∃ (x:GAct) (P:Option Addr) (pc:Nat) (D:Option Addr) (dc:Nat),v=.agg #[.slice P x.path.length pc,.int .u8 x.kind,.int .i64 x.i,.int .i64 x.j,.int .i64 x.n,.string x.s,.slice D x.v.length dc]∧ActOk W x P pc D dc:=by
 obtain ⟨fuel,hf⟩:=h
 obtain ⟨cs,rfl,hs7⟩:=hv
 obtain ⟨xs,n',_,hxx,hlen,hxl,hg⟩:=DataW.trod_struct Tryd.underlying25 hf
 obtain ⟨l⟩:=cs
 simp only [Value.cells] at hg hlen hxx
 match l,hs7 with
 | [c0,c1,c2,c3,c4,c5,c6],_=>
  have g0 : DataW.trod enc Tryd.prog W 0 spare held n' 23 [c0] = xs[0]? := by simpa [cells_bytesA] using hg 0 { name := "Path", type := 23, offset := 0, embedded := false, tag := "", pkgPath := "", byteOffset := 0 } rfl
  have g1 : DataW.trod enc Tryd.prog W 0 spare held n' 5 [c1] = xs[1]? := by simpa [cells_byte] using hg 1 { name := "Kind", type := 5, offset := 1, embedded := false, tag := "", pkgPath := "", byteOffset := 24 } rfl
  have g2 : DataW.trod enc Tryd.prog W 0 spare held n' 3 [c2] = xs[2]? := by simpa [cells_intA] using hg 2 { name := "I", type := 3, offset := 2, embedded := false, tag := "", pkgPath := "", byteOffset := 32 } rfl
  have g3 : DataW.trod enc Tryd.prog W 0 spare held n' 3 [c3] = xs[3]? := by simpa [cells_intA] using hg 3 { name := "J", type := 3, offset := 3, embedded := false, tag := "", pkgPath := "", byteOffset := 40 } rfl
  have g4 : DataW.trod enc Tryd.prog W 0 spare held n' 2 [c4] = xs[4]? := by simpa [cells_int64] using hg 4 { name := "N", type := 2, offset := 4, embedded := false, tag := "", pkgPath := "", byteOffset := 48 } rfl
  have g5 : DataW.trod enc Tryd.prog W 0 spare held n' 9 [c5] = xs[5]? := by simpa [cells_string] using hg 5 { name := "S", type := 9, offset := 5, embedded := false, tag := "", pkgPath := "", byteOffset := 56 } rfl
  have g6 : DataW.trod enc Tryd.prog W 0 spare held n' 22 [c6] = xs[6]? := by simpa [cells_toksA] using hg 6 { name := "V", type := 22, offset := 6, embedded := false, tag := "", pkgPath := "", byteOffset := 72 } rfl
  match xs,hxl with
  | [y0,y1,y2,y3,y4,y5,y6],_=>
   obtain ⟨k1,e1,f1,w1⟩:=DataW.trod_int Tryd.underlying5 g1
   obtain ⟨z2,e2,f2,w2⟩:=DataW.trod_int Tryd.underlying3 g2
   obtain ⟨z3,e3,f3,w3⟩:=DataW.trod_int Tryd.underlying3 g3
   obtain ⟨z4,e4,f4,w4⟩:=DataW.trod_int Tryd.underlying2 g4
   obtain ⟨s5,e5,f5,w5⟩:=DataW.trod_string Tryd.underlying9 g5
   simp only [List.cons.injEq,and_true] at e1 e2 e3 e4 e5
   subst e1 e2 e3 e4 e5
   simp only [Prod.mk.injEq] at hxx
   obtain ⟨hd,_⟩:=hxx
   simp only [List.map_cons,List.map_nil] at hd
   have slc:∀ {t e:TypeId} {c:Value} {x:DataW H × List MemPlace},Tryd.prog.underlying t=some (.slice e)→DataW.trod enc Tryd.prog W 0 spare held n' t [c]=some x→∃ A n cp,c=.slice A n cp:=fun hu hh=>by
    rcases Go.Deep.open_slice hu hh with ⟨hc,_⟩ | ⟨a,len,cap,_,_,_,_,hcs,_⟩
    ·simp only [List.cons.injEq,and_true] at hc;exact ⟨_,_,_,hc⟩
    ·simp only [List.cons.injEq,and_true] at hcs;exact ⟨_,_,_,hcs⟩
   have hv0:=slc Tryd.underlying23 (x:=y0) g0
   have hv6:=slc Tryd.underlying22 (x:=y6) g6
   have hw6:∀ n∈y6.1.weights Tryd.prog 22,n≤reachBytes:=fun n hn=>hsz n (by
    rw [hd]
    simp [DataW.weights,Tryd.underlying25,DataW.weightsEach,hn])
   have hw5:s5.data.toList.length≤reachBytes:=hsz _ (by
    rw [hd,f5]
    simp [DataW.weights,Tryd.underlying25,DataW.weightsEach])
   obtain ⟨P,pc,bs,rfl,hb1,hb2,hB,hbr⟩:=open_choice (d:=y0.1) (p:=y0.2) (v:=c0) ⟨n',by obtain ⟨A,n,c,rfl⟩:=hv0;simpa [Value.cells] using g0⟩ hv0
   obtain ⟨D,dc,ts,rfl,hl1,hl2,hT,hr,hss⟩:=open_toks (d:=y6.1) (p:=y6.2) (v:=c6) ⟨n',by obtain ⟨A,n,c,rfl⟩:=hv6;simpa [Value.cells] using g6⟩ hv6 hw6
   have hk:0≤k1∧k1≤255:=by simpa [Lit.wf,IntKind.min,IntKind.max,IntKind.signed,IntKind.bits] using w1
   exact ⟨⟨bs,k1,z2,z3,z4,s5,ts⟩,P,pc,D,dc,rfl,⟨hB,hbr,⟨hb1,hb2⟩,hk,hT,⟨hl1,hl2⟩,hr,hss,by show s5.size≤140737488351232;have:reachBytes=140737488351232:=rfl;simp at hw5;omega⟩⟩
end Go.Proofs.YtlhfnemcpgfcdaaDoor
namespace Go.Proofs.YtlhfnemcpgfcdaaDoor
open Go Go.RowKit
open Go.Sort (grow)
set_option linter.unusedVariables false
set_option linter.unusedSimpArgs false
theorem bool_det {P:Prop} {f:FuncId} {args:Array Value} {W:World} (h:Calls Tryd.prog f args W (BoolPost P W)):∀ bb:Bool,(bb=true↔P)→Calls Tryd.prog f args W fun e w''=>e=.returned (.bool bb)∧Below W.heap.size W w'':=fun bb hbb=>
 h.mono fun e w'' h=>by
  obtain ⟨b2,rfl,hb2,hbel⟩:=h
  have:b2=bb:=by rw [Bool.eq_iff_iff,hb2,hbb]
  subst this
  exact ⟨rfl,hbel⟩
theorem bool_some (P:Prop):∃ bb:Bool,bb=true↔P:=by
 by_cases h:P
 ·exact ⟨true,by simp [h]⟩
 ·exact ⟨false,by simp [h]⟩
end Go.Proofs.YtlhfnemcpgfcdaaDoor
namespace Go.Proofs.YtlhfnemcpgfcdaaDoor
open Go Go.RowKit
set_option linter.unusedVariables false
set_option linter.unusedSimpArgs false
theorem kind_ok_1 (c:GC) (hk:c.kind=1):c.KindOk↔c.key.toList=[]∧c.i=0∧c.j=0∧c.s.toList=[]∧c.v.Same noG:=by
 unfold GC.KindOk GC.Silent
 simp only [hk]
 constructor
 ·rintro ⟨_,⟨h1,h2,h3,h4,h5,h6⟩,h7,h8⟩
  simp at h1 h2 h3 h4 h5 h6 h7 h8
  simp_all
 ·intro h
  simp_all
theorem kind_ok_2 (c:GC) (hk:c.kind=2):c.KindOk↔c.i=0∧c.j=0∧c.n=0∧c.s.toList=[]:=by
 unfold GC.KindOk GC.Silent
 simp only [hk]
 constructor
 ·rintro ⟨_,⟨h1,h2,h3,h4,h5,h6⟩,h7,h8⟩
  simp at h1 h2 h3 h4 h5 h6 h7 h8
  simp_all
 ·intro h
  simp_all
theorem kind_ok_3 (c:GC) (hk:c.kind=3):c.KindOk↔c.i=0∧c.j=0∧c.n=0∧c.s.toList=[]∧c.v.Same noG:=by
 unfold GC.KindOk GC.Silent
 simp only [hk]
 constructor
 ·rintro ⟨_,⟨h1,h2,h3,h4,h5,h6⟩,h7,h8⟩
  simp at h1 h2 h3 h4 h5 h6 h7 h8
  simp_all
 ·intro h
  simp_all
theorem kind_ok_4 (c:GC) (hk:c.kind=4):c.KindOk↔c.key.toList=[]∧c.j=0∧c.n=0∧c.s.toList=[]:=by
 unfold GC.KindOk GC.Silent
 simp only [hk]
 constructor
 ·rintro ⟨_,⟨h1,h2,h3,h4,h5,h6⟩,h7,h8⟩
  simp at h1 h2 h3 h4 h5 h6 h7 h8
  simp_all
 ·intro h
  simp_all
theorem kind_ok_5 (c:GC) (hk:c.kind=5):c.KindOk↔c.key.toList=[]∧c.j=0∧c.n=0∧c.s.toList=[]∧c.v.Same noG:=by
 unfold GC.KindOk GC.Silent
 simp only [hk]
 constructor
 ·rintro ⟨_,⟨h1,h2,h3,h4,h5,h6⟩,h7,h8⟩
  simp at h1 h2 h3 h4 h5 h6 h7 h8
  simp_all
 ·intro h
  simp_all
theorem kind_ok_6 (c:GC) (hk:c.kind=6):c.KindOk↔c.key.toList=[]∧c.j=0∧c.n=0∧c.s.toList=[]:=by
 unfold GC.KindOk GC.Silent
 simp only [hk]
 constructor
 ·rintro ⟨_,⟨h1,h2,h3,h4,h5,h6⟩,h7,h8⟩
  simp at h1 h2 h3 h4 h5 h6 h7 h8
  simp_all
 ·intro h
  simp_all
theorem kind_ok_7 (c:GC) (hk:c.kind=7):c.KindOk↔c.key.toList=[]∧c.n=0∧c.s.toList=[]∧c.v.Same noG:=by
 unfold GC.KindOk GC.Silent
 simp only [hk]
 constructor
 ·rintro ⟨_,⟨h1,h2,h3,h4,h5,h6⟩,h7,h8⟩
  simp at h1 h2 h3 h4 h5 h6 h7 h8
  simp_all
 ·intro h
  simp_all
theorem kind_ok_9 (c:GC) (hk:c.kind=9):c.KindOk↔c.key.toList=[]∧c.j=0∧c.s.toList=[]∧c.v.Same noG∧1≤c.n:=by
 unfold GC.KindOk GC.Silent
 simp only [hk]
 constructor
 ·rintro ⟨_,⟨h1,h2,h3,h4,h5,h6⟩,h7,h8⟩
  simp at h1 h2 h3 h4 h5 h6 h7 h8
  simp_all
 ·intro h
  simp_all
theorem kind_ok_8 (c:GC) (hk:c.kind=8):c.KindOk↔(c.key.toList=[]∧c.j=0∧c.n=0∧c.v.Same noG)∧(c.s.toList≠[]∧valid c.s=true):=by
 unfold GC.KindOk GC.Silent
 simp only [hk]
 constructor
 ·rintro ⟨_,⟨h1,h2,h3,h4,h5,h6⟩,h7,h8⟩
  simp at h1 h2 h3 h4 h5 h6 h7 h8
  simp_all
 ·intro h
  simp_all
end Go.Proofs.YtlhfnemcpgfcdaaDoor
namespace Go.Proofs.YtlhfnemcpgfcdaaDoor
open Go Go.RowKit
open Go.Sort (grow)
set_option linter.unusedVariables false
set_option linter.unusedSimpArgs false
theorem chk_chkL (n k:Nat) (i j:Int):chk n k i j=chkL n k i j:=by
 unfold chk chkL withinB
 have e4:((k:Int)=4)=(k=4):=by simp;omega
 have e5:((k:Int)=5)=(k=5):=by simp;omega
 have e6:((k:Int)=6)=(k=6):=by simp;omega
 have e7:((k:Int)=7)=(k=7):=by simp;omega
 simp only [e4,e5,e6,e7]
 simp
end Go.Proofs.YtlhfnemcpgfcdaaDoor
namespace Go.Proofs.YtlhfnemcpgfcdaaDoor
open Go Go.RowKit
set_option linter.unusedVariables false
set_option linter.unusedSimpArgs false
def ChkIs (g:GV) (c:GC) (e:Int):Prop:=(¬ c.Sound∧e=60)∨(c.Sound∧((g.get c.path=none∧e=30)∨∃ h,g.get c.path=some h∧e=chkH h c))
theorem chk_one {g:GV} {c:GC} {e e':Int} (h:ChkIs g c e) (h':ChkIs g c e'):e=e':=by
 rcases h with ⟨h1,rfl⟩ | ⟨h1,⟨h2,rfl⟩ | ⟨x,h2,rfl⟩⟩<;>rcases h' with ⟨k1,rfl⟩ | ⟨k1,⟨k2,rfl⟩ | ⟨y,k2,rfl⟩⟩<;>first | rfl | exact absurd k1 h1 | exact absurd h1 k1 | (rw [h2] at k2;cases k2) | skip
 rfl
end Go.Proofs.YtlhfnemcpgfcdaaDoor
namespace Go.Proofs.YtlhfnemcpgfcdaaDoor
open Go Go.RowKit
set_option linter.unusedVariables false
set_option linter.unusedSimpArgs false
structure DB (w W:World) (cg cc cr:Array Value):Prop where
 g:Whole W w.heap.size 31 cg
 c:Whole W (w.heap.size+1) 36 cc
 r:Whole W (w.heap.size+1+1) 31 cr
 below:Below w.heap.size w W
theorem DB.new (w:World) (cg cc cr:Array Value):DB w (((w.alloc (.cells cg 31)).alloc (.cells cc 36)).alloc (.cells cr 31)) cg cc cr:=by
 have h1:=(Whole.new (w.alloc (.cells cg 31)) 36 cc).alloc (.cells cr 31)
 have h2:=Whole.new ((w.alloc (.cells cg 31)).alloc (.cells cc 36)) 31 cr
 rw [World.size_alloc] at h1
 rw [World.size_alloc,World.size_alloc] at h2
 exact ⟨((Whole.new w _ _).alloc _).alloc _,h1,h2,(((Below.refl _ w).alloc (Nat.le_refl _) _).alloc (by simp) _).alloc (by simp;omega) _⟩
theorem DB.step {w W W':World} {cg cc cr:Array Value} (h:DB w W cg cc cr) {B:Nat} (hB:w.heap.size+1+1+1≤B) (hb:Below B W W'):DB w W' cg cc cr:=
 ⟨h.g.below hb (by omega),h.c.below hb (by omega),h.r.below hb (by omega),h.below.trans (hb.mono (by omega))⟩
def VlNew (n:Nat) (W:World) (y:GV) (BL BO:Option Addr) (dL dO:Nat):Prop:=LstV (fun k=>n≤k) W (.slice BL y.items.length dL) y.items∧ObjV (fun k=>n≤k) W (.slice BO y.vals.length dO) y.keys y.vals
end Go.Proofs.YtlhfnemcpgfcdaaDoor
namespace Go.Proofs.YtlhfnemcpgfcdaaDoor
open Go Go.RowKit
set_option linter.unusedVariables false
set_option linter.unusedSimpArgs false
theorem chkL_ok {n:Nat} {k i j:Int} {v:GV} (hk:4≤k∧k≤7) (h:chkL n k i j=0):okC n (⟨k.toNat,i.toNat,j.toNat,v⟩:Cm GV):=by
 unfold chkL at h
 unfold okC
 simp only
 rcases (show k=4∨k=5∨k=6∨k=7 by omega) with rfl | rfl | rfl | rfl
 ·by_cases q:0≤i∧i≤n
  ·left;omega
  ·rw [if_pos rfl,if_neg q] at h;omega
 ·by_cases q:0≤i∧i<n
  ·right;left;omega
  ·rw [if_neg (by omega),if_pos (by omega),if_neg q] at h;omega
 ·by_cases q:0≤i∧i<n
  ·right;left;omega
  ·rw [if_neg (by omega),if_pos (by omega),if_neg q] at h;omega
 ·by_cases q:(0≤i∧i<n)∧0≤j∧j<n
  ·right;right;omega
  ·rw [if_neg (by omega),if_neg (by omega),if_pos rfl,if_neg q] at h;omega
theorem chkH_list {h:GV} {c:GC} (hk:4≤c.kind∧c.kind≤7) (hc:chkH h c=0):h.kind=4∧okC h.items.length (⟨c.kind.toNat,c.i.toNat,c.j.toNat,c.v⟩:Cm GV):=by
 have hw:worksOn c.kind=4:=by unfold worksOn;rw [if_neg (by omega),if_neg (by omega),if_neg (by omega)]
 unfold chkH at hc
 rw [hw] at hc
 by_cases h4:h.kind=4
 ·rw [if_neg (by omega),if_pos h4] at hc
  exact ⟨h4,chkL_ok hk hc⟩
 ·rw [if_pos h4] at hc
  omega
section
variable {P:Program} {w:World}
end
theorem remL_get {α:Type} {l:List α} {i k:Nat} (hi:i<l.length):(remL l i)[k]? = if k<i then l[k]? else l[k+1]?:=by
 unfold remL
 rw [List.getElem?_append,List.length_take,Nat.min_eq_left (by omega)]
 split
 ·rw [List.getElem?_take,if_pos (by assumption)]
 ·rw [List.getElem?_drop]
  congr 1
  omega
theorem remL_len {α:Type} {l:List α} {i:Nat} (hi:i<l.length):(remL l i).length=l.length - 1:=by
 unfold remL
 rw [List.length_append,List.length_take,List.length_drop]
 omega
open Go Go.RowKit
set_option linter.unusedVariables false
set_option linter.unusedSimpArgs false
section
variable {P:Program} (w:World)
end
section
variable {P:Program} {w:World}
end
open Go Go.RowKit
set_option linter.unusedVariables false
set_option linter.unusedSimpArgs false
end Go.Proofs.YtlhfnemcpgfcdaaDoor
namespace Go.Proofs.YtlhfnemcpgfcdaaDoor
open Go Go.RowKit
set_option linter.unusedVariables false
set_option linter.unusedSimpArgs false
theorem ret_intA {k:IntKind} {a b:Int} (h:a=b):Ending.returned (.int k a)=.returned (.int k b):=by rw [h]
end Go.Proofs.YtlhfnemcpgfcdaaDoor
