/- TurnTies, the Go function: it comes out true. -/
import Derived.Test.YtlhfnemcpgfcdaaDoorQ23
import Derived.Test.YtlhfnemcpgfcdaaDoorQ36
import Derived.Test.YtlhfnemcpgfcdaaDoorQ19
import Derived.Test.YtlhfnemcpgfcdaaDoorQ37
import Derived.Lib.QuietBelow
import Derived.BigQuiet
import Derived.Deep.QuietTactic
import Derived.Deep.RegionHeld3
import Derived.Deep.DeepCutAuto
set_option maxRecDepth 100000
set_option maxHeartbeats 16000000
namespace Go.Proofs.YtlhfnemcpgfcdaaDoor
open Go Go.RowKit
open Go.Sort (grow)
set_option linter.unusedVariables false
set_option linter.unusedSimpArgs false
theorem put_weight {x : GV} : ∀ (p : List GStep) (g y : GV), g.put x p = some y → y.weight ≤ g.weight + x.weight
  | [], g, y, e => by simp [GV.put] at e; subst e; omega
  | s :: r, g, y, e => by
    simp only [GV.put] at e
    cases hi : g.inside s with
    | none => rw [hi] at e; cases e
    | some h =>
      rw [hi] at e
      simp only [Option.bind_some] at e
      cases hp : h.put x r with
      | none => rw [hp] at e; cases e
      | some z =>
        rw [hp] at e
        simp only [Option.map_some, Option.some.injEq] at e
        subst e
        have h1 := put_weight r h z hp
        have h2 := setIn_weight z hi
        omega
theorem Outc.weight {g : GV} {c : GC} {y : GV} {n : Int} (h : Outc g c y n) (hs : Small c) : y.weight ≤ 3 * g.weight + 3000100 := by
  obtain ⟨_, ⟨_, rfl⟩ | ⟨_, hS, k, h1, h2, h3⟩⟩ := h
  · have := vok_no.2.2.1; omega
  · have h4 := put_weight _ _ _ h3
    have h5 := get_weight _ _ _ h1
    have h6 := doH_weight k c
    have h7 := hs.v
    have h8 := hs.k
    have h9 := hs.s
    omega
theorem VlNew.vl {n : Nat} {W : World} {y : GV} {BL BO : Option Addr} {dL dO : Nat} (h : VlNew n W y BL BO dL dO) : Vl W y BL BO dL dO := ⟨h.1.keep (From.refl _ _) (fun _ _ _ => trivial), h.2.keep (From.refl _ _) (fun _ _ _ => trivial)⟩
structure TieB (w W:World) (bv:Nat) (V:GV) (VL VO:Option Addr) (vl vo:Nat) (ca cb:Array Value):Prop where
 v:Whole W bv 31 #[.int .u8 V.kind,.int .i64 V.num,.string V.str,.slice VL V.items.length vl,.slice VO V.vals.length vo]
 vl:VlIn (fun k=>k≠bv) W V VL VO vl vo
 ab:AB2 w W ca cb
 lo:w.heap.size+2≤bv
theorem TieB.step {w W W':World} {bv:Nat} {V:GV} {VL VO:Option Addr} {vl vo:Nat} {ca cb:Array Value} (h:TieB w W bv V VL VO vl vo ca cb) (hb:Below W.heap.size W W'):TieB w W' bv V VL VO vl vo ca cb:=
 ⟨h.v.below hb h.v.lt,h.vl.later hb,h.ab.step hb,h.lo⟩
theorem TieB.alloc {w W:World} {bv:Nat} {V:GV} {VL VO:Option Addr} {vl vo:Nat} {ca cb:Array Value} (h:TieB w W bv V VL VO vl vo ca cb) (o:Obj):TieB w (W.alloc o) bv V VL VO vl vo ca cb:=h.step (below_alloc W o)
theorem tie_box {w W:World} {V:GV} {VL VO:Option Addr} {vl vo:Nat} {ca cb:Array Value} (h:AB2 w W ca cb) (hv:Vl W V VL VO vl vo):TieB w (W.alloc (.cells #[.int .u8 V.kind,.int .i64 V.num,.string V.str,.slice VL V.items.length vl,.slice VO V.vals.length vo] 31)) W.heap.size V VL VO vl vo ca cb:=
 ⟨Whole.new W _ _,by
  have:=vl_in hv (below_alloc W (.cells #[.int .u8 V.kind,.int .i64 V.num,.string V.str,.slice VL V.items.length vl,.slice VO V.vals.length vo] 31))
  exact ⟨this.1.keep (fun _ _ _=>rfl) (fun k hk _=>by omega),this.2.keep (fun _ _ _=>rfl) (fun k hk _=>by omega)⟩,h.alloc _,h.b.lt⟩
theorem TieB.put {w W:World} {bv:Nat} {V:GV} {VL VO:Option Addr} {vl vo:Nat} {ca cb:Array Value} (h:TieB w W bv V VL VO vl vo ca cb) (ks:List ByteArray) (ov:List GV) (B:Option Addr) (bo:Nat) (hO:ObjV (fun k=>k≠bv) W (.slice B ov.length bo) ks ov):TieB w (W.setCell ⟨bv,4,none⟩ (.slice B ov.length bo)) bv (.mk V.kind V.num V.str V.items ks ov) VL B vl bo ca cb:=
 ⟨h.v.put 4 (.slice B ov.length bo),⟨h.vl.1.keep (fun k hk _=>Below.heap_setCell _ _ _ _ hk) (fun _ hk _=>hk),hO.keep (fun k hk _=>Below.heap_setCell _ _ _ _ hk) (fun _ hk _=>hk)⟩,
  ⟨h.ab.a.far (by simp;have:=h.lo;omega) _,h.ab.b.far (by simp;have:=h.lo;omega) _,h.ab.below.setCell (by have:=h.lo;simp;omega) _⟩,h.lo⟩
structure TieG (V:GV):Prop where
 kind:V.kind=5
 sound:V.Sound
 weight:V.weight≤6000
theorem tie_empty_obj:TieG (.mk 5 0 ⟨#[]⟩ [] [] []):=by
 exact ⟨rfl,by simp [GV.Sound,GV.Sounds,SelfP,KeysOk,KeysTo],by decide +kernel⟩
theorem TieB.clear {w W:World} {bv:Nat} {V:GV} {VL VO:Option Addr} {vl vo:Nat} {ca cb:Array Value} (h:TieB w W bv V VL VO vl vo ca cb):TieB w (put5 W bv (.int .u8 5) (.int .i64 0) (.string ⟨#[]⟩) (.slice none 0 0) (.slice none 0 0)) bv (.mk 5 0 ⟨#[]⟩ [] [] []) none none 0 0 ca cb:=
 ⟨whole_put5 h.v _ _ _ _ _,⟨.inl ⟨rfl,rfl⟩,⟨rfl,.inl ⟨rfl,rfl⟩⟩⟩,
  ⟨h.ab.a.of_eq (put5_block _ _ _ _ _ _ _ _ (by have:=h.lo;omega)),h.ab.b.of_eq (put5_block _ _ _ _ _ _ _ _ (by have:=h.lo;omega)),put5_below h.ab.below (by have:=h.lo;omega) _ _ _ _ _⟩,h.lo⟩
def TieRel (w:World) (bv:Nat) (ca cb:Array Value) (W:World):Prop:=∃ (V:GV) (VL VO:Option Addr) (vl vo:Nat),TieG V∧TieB w W bv V VL VO vl vo ca cb
def TieRound (w:World) (bv:Nat) (ca cb:Array Value) (s:ByteArray) (k i:Value) (W:World):Prop:=∃ n:Nat,i=.int .i64 n∧n≤s.size∧k=.string (tieK s n)∧TieRel w bv ca cb W
theorem tie_conv (w:World) (z:Int):(convert 23 9 (.slice (some ⟨w.heap.size,0,none⟩) 1 1)).run Tryd.prog (w.alloc (.cells #[.int .u8 z] 5))=.ok (.string (strOfNums [z])) (w.alloc (.cells #[.int .u8 z] 5)):=by
 refine run_convert_bytes_arg _ _ _ Tryd.underlying23 Tryd.underlying5 w.heap.size 0 1 1 [z] rfl (fun i hi=>?_) _ Tryd.underlying9
 have:i=0:=by omega
 subst this
 exact ((Whole.new w 5 #[.int .u8 z]).cell 0).trans rfl
def tieG7:GV:=.mk 2 7 ⟨#[]⟩ [] [] []
theorem tieG7_val {ok:Nat→Prop} {W:World}:tieG7.val ok W (.agg #[.int .u8 2,.int .i64 7,.string ⟨#[]⟩,.slice none 0 0,.slice none 0 0]):=⟨_,_,rfl,.inl ⟨rfl,rfl⟩,rfl,.inl ⟨rfl,rfl⟩⟩
theorem tieG7_sound:tieG7.Sound:=by simp [tieG7,GV.Sound,GV.Sounds,SelfP]
theorem tieG7_weight:tieG7.weight=1:=by decide +kernel
theorem vals_len (g:GV):g.vals.length≤g.weight:=by
 have:=weight_is g
 have:=weights_len g.vals
 omega
mutual
theorem tie_pos:∀ (g:GV),g.Sound→g.Pos
 | .mk k n s l ks ov,h=>by
  simp only [GV.Sound] at h
  simp only [GV.Pos]
  exact ⟨by have:=h.1.1;omega,tie_poss l h.2.1,tie_poss ov h.2.2⟩
theorem tie_poss:∀ (l:List GV),GV.Sounds l→GV.Poss l
 | [],_=>by simp [GV.Poss]
 | x :: r,h=>by
  simp only [GV.Sounds] at h
  simp only [GV.Poss]
  exact ⟨tie_pos x h.1,tie_poss r h.2⟩
end
theorem tieP_load (k:ByteArray) (x:GV):(tieP k x).load=x.weight+k.size:=rfl
theorem tieD_load (k:ByteArray):(tieD k).load=noG.weight+k.size:=rfl
theorem noG_light:noG.weight≤1:=by decide +kernel
theorem tie_wbl {W W':World} {b:Nat} {t:TypeId} {cs:Array Value} (hb:Below W.heap.size W W') (h:Whole W b t cs):Whole W' b t cs∧b<W.heap.size:=⟨h.below hb h.lt,h.lt⟩
theorem tie_vput {W:World} {n m b:Nat} {y:GV} {YL YO:Option Addr} {yl yo:Nat} (h:VlIn (fun k=>k<n∨m≤k) W y YL YO yl yo) (h1:n≤b) (h2:b<m) (a0 a1 a2 a3 a4:Value):Vl (put5 W b a0 a1 a2 a3 a4) y YL YO yl yo:=
 ⟨h.1.keep (fun k hk _=>put5_block _ _ _ _ _ _ _ _ (by omega)) (fun _ _ _=>trivial),h.2.keep (fun k hk _=>put5_block _ _ _ _ _ _ _ _ (by omega)) (fun _ _ _=>trivial)⟩
theorem tie_append_nil {P:Program} {w:World} {ops:Array Oper} {o:Oper} {a:Act} {K:Act→World→Prop} {Q:Exit→Act→World→Prop} {E:Prop} (hgd:o.guard=none) (s x:Operand) (t:TypeId)
  (ho:o.op=.call { callee:=.builtin .append,args:=#[s,x],argTypes:=#[t,t] })
  (e:TypeId) (i:TypeInfo) (z:Value) (ht:P.underlying t=some (.slice e)) (hi:P.info? e=some i) (hz:i.zero=some z)
  (g:Nat) (hs:a.eval s=.slice (some ⟨g,0,none⟩) 1 1) (hx:a.eval x=.slice none 0 0) {t2:TypeId} {cs:Array Value} (hW:Whole w g t2 cs)
  (h:∀ g',Whole w g' t2 cs→K (a.put o.dst (.slice (some ⟨g',0,none⟩) 1 1)) w):
  if Region.wanted o (yielded ops a.tmps)=true then Oper.wp P o a w K Q else E:=by
 have hw:Region.wanted o (yielded ops a.tmps)=true:=by simp [Region.wanted,hgd]
 rw [if_pos hw]
 have hr:(Builtin.append_ #[t,t] o.type #[.slice (some ⟨g,0,none⟩) 1 1,.slice none 0 0]).run P w=.ok (.slice (some ⟨g,0,none⟩) 1 1) w:=by
  simp [Builtin.append_,run_underlying ht,sizeOf,typeInfo,Builtin.lenOf,Builtin.firstCells,storeCells, *]
 unfold Oper.wp execOp
 simp only [ho,resolve,invoke,builtin,Sem.run_bind,Sem.run_pure,Result.andThen_ok,List.map_toArray,List.map_cons,List.map_nil,hs,hx,hr]
 exact h g hW
theorem ops_whole {W:World} {g:Nat} {t:TypeId} {cs:Array Value} {e:EC} (h:Whole W g t cs) (he:cs.toList=cells12 e) (hok:e.Ok W):Ops W (some ⟨g,0,none⟩) 1 [e]:=
 ops_one (Nat.le_refl 1) (by decide) h.lt (fun j u hj=>by rw [Nat.zero_add];exact tie_add_cell h he hj) hok
def TieCut (w:World) (y:GV) (p q:Value) (W:World):Prop:=∃ (b:Nat) (YL YO:Option Addr) (yl yo:Nat),p=.pointer (some ⟨b,0,none⟩)∧q=.bool true∧Whole W b 31 #[.int .u8 y.kind,.int .i64 y.num,.string y.str,.slice YL y.items.length yl,.slice YO y.vals.length yo]∧Vl W y YL YO yl yo∧Below w.heap.size w W
theorem tties_true (hi:Nat) (L:Option Addr) (lc:Nat) (ts:List GTok) (x:GAct) (AP:Option Addr) (ap:Nat) (AD:Option Addr) (ad:Nat) (y:GAct) (BP:Option Addr) (bp:Nat) (BD:Option Addr) (bd:Nat) (s:ByteArray) (w:World) (hT:Toks hi w L ts) (hhi:hi≤w.heap.size) (hcap:ts.length≤lc) (hm:lc≤maxLen) (hr:∀ t∈ts,0≤t.k∧t.k≤255∧0≤t.m∧t.m≤255) (hss:∀ t∈ts,t.s.size≤140737488351232) (hx:ActOk w x AP ap AD ad) (hy:ActOk w y BP bp BD bd) (hU:Tabs w):
  Calls Tryd.prog 3 #[.slice L ts.length lc,.agg #[.slice AP x.path.length ap,.int .u8 x.kind,.int .i64 x.i,.int .i64 x.j,.int .i64 x.n,.string x.s,.slice AD x.v.length ad],.agg #[.slice BP y.path.length bp,.int .u8 y.kind,.int .i64 y.i,.int .i64 y.j,.int .i64 y.n,.string y.s,.slice BD y.v.length bd],.string s] w (fun e w'=>e=.returned (.bool true)∧Below w.heap.size w w'):=by
 have HHV:=Lib.hid (fun W (h:Below w.heap.size w W)=>heavy7_any hi L lc ts x AP ap AD ad y BP bp BD bd W (hT.keep (h.mono hhi) (Nat.le_refl _)) (Nat.le_trans hhi h.size) hcap hm (hx.later h) (hy.later h))
 have HBU:=Lib.hid (fun W (h:Below w.heap.size w W)=>build_A hi L lc ts W hcap hm (Nat.le_trans hhi h.size) (hT.keep (h.mono hhi) (Nat.le_refl _)) hr hss)
 have HBX:=Lib.hid (fun W (h:Below w.heap.size w W)=>build_A w.heap.size AD ad x.v W hx.cap.1 hx.cap.2 h.size (hx.toks.keep h (Nat.le_refl _)) hx.rng hx.sizes)
 have HBY:=Lib.hid (fun W (h:Below w.heap.size w W)=>build_A w.heap.size BD bd y.v W hy.cap.1 hy.cap.2 h.size (hy.toks.keep h (Nat.le_refl _)) hy.rng hy.sizes)
 have HTB:=Lib.hid (fun W (hb:Below w.heap.size w W)=>hU.below hb (Nat.le_refl _))
 unfold AnyBool at HHV
 unfold BuildA at HBU HBX HBY
 have H0:=Lib.hid (AB2.new w #[.slice AP x.path.length ap,.int .u8 x.kind,.int .i64 x.i,.int .i64 x.j,.int .i64 x.n,.string x.s,.slice AD x.v.length ad] #[.slice BP y.path.length bp,.int .u8 y.kind,.int .i64 y.i,.int .i64 y.j,.int .i64 y.n,.string y.s,.slice BD y.v.length bd])
 clear hT hhi hcap hm hr hss hx hy hU
 generalize hn:ts.length=n at *
 clear hn
 go_enter Tryd.func3,Tryd.ntmps3
 go_upto_if 41 with (first
  | (go_at_call 4;refine (HHV.out _ H0.out.below).mono ?_;rintro e w1 ⟨bh,rfl,hb⟩;have H1:=Lib.hid (H0.out.step hb);clear hb)
  | (go_at_call 5;refine (tknown_true _).mono ?_;rintro e w2 ⟨rfl,hb⟩;have H2:=Lib.hid (H1.out.step hb);clear hb)
  | (go_at_call 6;refine (HBU.out _ H2.out.below).mono ?_;rintro e w3 ⟨g,GL,GO,gl,go,rfl,hv,hg,hb⟩;have H3:=Lib.hid (H2.out.step hb);have HG:=Lib.hid hg;have B3:=Lib.hid (tie_box H3.out (show Vl w3 g GL GO gl go from ⟨hv.1.keep (From.refl _ _) (fun _ _ _=>trivial),hv.2.keep (From.refl _ _) (fun _ _ _=>trivial)⟩));obtain ⟨v0,v1,v2,v3,v4,_⟩:=B3.out.v.five;clear hv hg hb))
 all_goals first | (go_ret;first | exact ⟨rfl,H2.out.below⟩ | exact ⟨rfl,H1.out.below⟩) | skip
 generalize hbv:w3.heap.size=bv at *
 clear hbv
 go_cut [] (TieRel w bv #[.slice AP x.path.length ap,.int .u8 x.kind,.int .i64 x.i,.int .i64 x.j,.int .i64 x.n,.string x.s,.slice AD x.v.length ad] #[.slice BP y.path.length bp,.int .u8 y.kind,.int .i64 y.i,.int .i64 y.j,.int .i64 y.n,.string y.s,.slice BD y.v.length bd])
 case first=>
  by_cases h5:g.kind=5
  ·have hk5:(g.kind != 5)=false:=by simp;omega
   go_wp2_with fail
   go_meet
   exact ⟨g,GL,GO,gl,go,⟨h5,HG.out.1,HG.out.2.2.1⟩,B3.out⟩
  ·have hk5:(g.kind != 5)=true:=by simp;omega
   clear v0 v1 v2 v3 v4
   obtain ⟨v0,v1,v2,v3,v4,f0,f1,f2,f3,f4⟩:=B3.out.v.five
   go_wp2_with fail
   go_meet
   exact ⟨_,none,none,0,0,tie_empty_obj,B3.out.clear⟩
 case rest=>
  obtain ⟨V,VL,VO,vl,vo,hV,hB⟩:=hcut
  have hR0:TieRel w bv #[.slice AP x.path.length ap,.int .u8 x.kind,.int .i64 x.i,.int .i64 x.j,.int .i64 x.n,.string x.s,.slice AD x.v.length ad] #[.slice BP y.path.length bp,.int .u8 y.kind,.int .i64 y.i,.int .i64 y.j,.int .i64 y.n,.string y.s,.slice BD y.v.length bd] wc:=⟨V,VL,VO,vl,vo,hV,hB⟩
  clear hV hB B3 HG H3 H2 H1 H0 v0 v1 v2 v3 v4
  go_wp2_with fail
  go_loopw [10,11] (TieRound w bv #[.slice AP x.path.length ap,.int .u8 x.kind,.int .i64 x.i,.int .i64 x.j,.int .i64 x.n,.string x.s,.slice AD x.v.length ad] #[.slice BP y.path.length bp,.int .u8 y.kind,.int .i64 y.i,.int .i64 y.j,.int .i64 y.n,.string y.s,.slice BD y.v.length bd] s) (fun _ i _=>s.size - (intOf i).toNat)
  case atStart=>exact ⟨0,rfl,Nat.zero_le _,rfl,hR0⟩
  case round=>
   obtain ⟨k,rfl,hk,rfl,V,VL,VO,vl,vo,hV,hB⟩:=hrel
   have HV:=Lib.hid hV
   have HB:=Lib.hid hB
   clear hV hB
   by_cases hlt:k<s.size
   ·have hb0:0≤(s[k].toNat:Int):=by omega
    have hb1:(s[k].toNat:Int)≤255:=by have:=s[k].toNat_lt;omega
    obtain ⟨m,hm⟩:∃ m:Int,m=(s[k].toNat:Int) % 26:=⟨_,rfl⟩
    have hm0:0≤m:=by omega
    have hm1:m≤25:=by omega
    have HT:=Lib.hid (tieK_next s k hlt (97+m) (by rw [hm]))
    have hconv:=tie_conv wr (97+m)
    have hzz:(s[k].toNat:Int) % 26=m:=hm.symm
    have hwr:IntKind.u8.wrap (97+m)=97+m:=IntWalk.u8_in _ (by omega)
    have hcat:¬ 9223372036854775807<(tieK s k).size+(strOfNums [97+m]).size:=by rw [strOfNums_size,tieK_size];simp;omega
    clear hm
    go_wp2
    go_roundw
    case rel=>exact ⟨k+1,by go_num,by omega,congrArg Value.string HT.out,V,VL,VO,vl,vo,HV.out,HB.out.alloc _⟩
    case measure=>simp [intOf];omega
   ·obtain rfl:k=s.size:=by omega
    have HKV:=Lib.hid (tieK_valid s s.size)
    have HKS:=Lib.hid (tieK_size s s.size)
    generalize tieK s s.size=K at *
    have hs2:s.size≤200:=by omega
    have HKL:=Lib.hid (show K.size≤201 by rw [HKS.out];omega)
    have hvl:V.vals.length≤1000000000:=by have:=vals_len V;have:=HV.out.weight;omega
    have HWI:=Lib.hid (fun (W:World) (hO:ObjV (fun k=>k≠bv) W (.slice VO V.vals.length vo) V.keys V.vals)=>with_any (fun k=>k≠bv) (.slice VO V.vals.length vo) V.keys V.vals K tieG7 (.agg #[.int .u8 2,.int .i64 7,.string ⟨#[]⟩,.slice none 0 0,.slice none 0 0]) W hO tieG7_val hvl)
    obtain ⟨v0,v1,v2,v3,v4,_⟩:=HB.out.v.five
    clear hlt hR0 HKS hvl hs2
    go_upto_region 15 with (first
     | (go_at_call 7;refine (HWI.out _ HB.out.vl.2).mono ?_;rintro e w4 ⟨v',rfl,hv,hb⟩;obtain ⟨B,bo,rfl⟩:=obj_form hv;have HB4:=Lib.hid (HB.out.step hb);have H4:=Lib.hid (TieB.put HB4.out _ _ B bo (hv.keep (From.refl _ _) (fun k hk _=>by have:=HB.out.v.lt;omega)));clear v0 v1 v2 v3 v4 hv hb;obtain ⟨_,_,_,_,_,f0,f1,f2,f3,f4⟩:=HB4.out.v.five;have p6:=(act_cells H4.out.ab.a).2.2.2.2.2.2)
     | (go_at_call 6;((with_reducible refine (HBX.out _ H4.out.ab.below).mono ?_);rintro e w5 ⟨X,XL,XO,xl,xo,rfl,hv,hg,hb⟩;have H5:=Lib.hid (H4.out.step hb);have HX:=Lib.hid (And.intro hg (show Vl w5 X XL XO xl xo from ⟨hv.1.keep (From.refl _ _) (fun _ _ _=>trivial),hv.2.keep (From.refl _ _) (fun _ _ _=>trivial)⟩));clear p6 hv hg hb;have q6:=(act_cells (H5.out.alloc (.cells #[.int .u8 2,.slice none 0 0,.string K,.int .i64 0,.int .i64 0,.int .i64 0,.int .u8 X.kind,.int .i64 X.num,.string X.str,.slice XL X.items.length xl,.slice XO X.vals.length xo,.string ⟨#[]⟩] 36)).ab.b).2.2.2.2.2.2))
     | (go_at_call 6;((with_reducible refine (HBY.out _ (H5.out.alloc _).ab.below).mono ?_);rintro e w6 ⟨Y,YL,YO,yl,yo,rfl,hv,hg,hb⟩;have H6:=Lib.hid ((H5.out.alloc (.cells #[.int .u8 2,.slice none 0 0,.string K,.int .i64 0,.int .i64 0,.int .i64 0,.int .u8 X.kind,.int .i64 X.num,.string X.str,.slice XL X.items.length xl,.slice XO X.vals.length xo,.string ⟨#[]⟩] 36)).step hb);have HXB:=Lib.hid (tie_wb hb (tie_wn (W:=w5) (b:=w5.heap.size) (t:=36) (cs:=#[.int .u8 2,.slice none 0 0,.string K,.int .i64 0,.int .i64 0,.int .i64 0,.int .u8 X.kind,.int .i64 X.num,.string X.str,.slice XL X.items.length xl,.slice XO X.vals.length xo,.string ⟨#[]⟩]) rfl));have HX6:=Lib.hid ((HX.out.2.later (below_alloc w5 (.cells #[.int .u8 2,.slice none 0 0,.string K,.int .i64 0,.int .i64 0,.int .i64 0,.int .u8 X.kind,.int .i64 X.num,.string X.str,.slice XL X.items.length xl,.slice XO X.vals.length xo,.string ⟨#[]⟩] 36))).later hb);have HY:=Lib.hid (And.intro hg (show Vl w6 Y YL YO yl yo from ⟨hv.1.keep (From.refl _ _) (fun _ _ _=>trivial),hv.2.keep (From.refl _ _) (fun _ _ _=>trivial)⟩));clear q6 hv hg hb)))
    obtain ⟨wq,hwq⟩:∃ W,W=(w6.alloc (.cells #[.int .u8 2,.slice none 0 0,.string K,.int .i64 0,.int .i64 0,.int .i64 0,.int .u8 Y.kind,.int .i64 Y.num,.string Y.str,.slice YL Y.items.length yl,.slice YO Y.vals.length yo,.string ⟨#[]⟩] 36)).alloc (.cells #[.int .u8 3,.slice none 0 0,.string K,.int .i64 0,.int .i64 0,.int .i64 0,.int .u8 0,.int .i64 0,.string ⟨#[]⟩,.slice none 0 0,.slice none 0 0,.string ⟨#[]⟩] 36):=⟨_,rfl⟩
    have HQ:=Lib.hid ((H6.out.alloc (.cells #[.int .u8 2,.slice none 0 0,.string K,.int .i64 0,.int .i64 0,.int .i64 0,.int .u8 Y.kind,.int .i64 Y.num,.string Y.str,.slice YL Y.items.length yl,.slice YO Y.vals.length yo,.string ⟨#[]⟩] 36)).alloc (.cells #[.int .u8 3,.slice none 0 0,.string K,.int .i64 0,.int .i64 0,.int .i64 0,.int .u8 0,.int .i64 0,.string ⟨#[]⟩,.slice none 0 0,.slice none 0 0,.string ⟨#[]⟩] 36))
    have HXb:=Lib.hid (tie_wa (tie_wa HXB.out (.cells #[.int .u8 2,.slice none 0 0,.string K,.int .i64 0,.int .i64 0,.int .i64 0,.int .u8 Y.kind,.int .i64 Y.num,.string Y.str,.slice YL Y.items.length yl,.slice YO Y.vals.length yo,.string ⟨#[]⟩] 36)) (.cells #[.int .u8 3,.slice none 0 0,.string K,.int .i64 0,.int .i64 0,.int .i64 0,.int .u8 0,.int .i64 0,.string ⟨#[]⟩,.slice none 0 0,.slice none 0 0,.string ⟨#[]⟩] 36))
    have HYb:=Lib.hid (tie_wa (tie_wn (W:=w6) (b:=w6.heap.size) (t:=36) (cs:=#[.int .u8 2,.slice none 0 0,.string K,.int .i64 0,.int .i64 0,.int .i64 0,.int .u8 Y.kind,.int .i64 Y.num,.string Y.str,.slice YL Y.items.length yl,.slice YO Y.vals.length yo,.string ⟨#[]⟩]) rfl) (.cells #[.int .u8 3,.slice none 0 0,.string K,.int .i64 0,.int .i64 0,.int .i64 0,.int .u8 0,.int .i64 0,.string ⟨#[]⟩,.slice none 0 0,.slice none 0 0,.string ⟨#[]⟩] 36))
    have HDb:=Lib.hid (tie_wn (W:=w6.alloc (.cells #[.int .u8 2,.slice none 0 0,.string K,.int .i64 0,.int .i64 0,.int .i64 0,.int .u8 Y.kind,.int .i64 Y.num,.string Y.str,.slice YL Y.items.length yl,.slice YO Y.vals.length yo,.string ⟨#[]⟩] 36)) (b:=w6.heap.size+1) (t:=36) (cs:=#[.int .u8 3,.slice none 0 0,.string K,.int .i64 0,.int .i64 0,.int .i64 0,.int .u8 0,.int .i64 0,.string ⟨#[]⟩,.slice none 0 0,.slice none 0 0,.string ⟨#[]⟩]) (by simp))
    have VX:=Lib.hid ((HX6.out.later (below_alloc w6 (.cells #[.int .u8 2,.slice none 0 0,.string K,.int .i64 0,.int .i64 0,.int .i64 0,.int .u8 Y.kind,.int .i64 Y.num,.string Y.str,.slice YL Y.items.length yl,.slice YO Y.vals.length yo,.string ⟨#[]⟩] 36))).later (below_alloc (w6.alloc (.cells #[.int .u8 2,.slice none 0 0,.string K,.int .i64 0,.int .i64 0,.int .i64 0,.int .u8 Y.kind,.int .i64 Y.num,.string Y.str,.slice YL Y.items.length yl,.slice YO Y.vals.length yo,.string ⟨#[]⟩] 36)) (.cells #[.int .u8 3,.slice none 0 0,.string K,.int .i64 0,.int .i64 0,.int .i64 0,.int .u8 0,.int .i64 0,.string ⟨#[]⟩,.slice none 0 0,.slice none 0 0,.string ⟨#[]⟩] 36)))
    have VY:=Lib.hid ((HY.out.2.later (below_alloc w6 (.cells #[.int .u8 2,.slice none 0 0,.string K,.int .i64 0,.int .i64 0,.int .i64 0,.int .u8 Y.kind,.int .i64 Y.num,.string Y.str,.slice YL Y.items.length yl,.slice YO Y.vals.length yo,.string ⟨#[]⟩] 36))).later (below_alloc (w6.alloc (.cells #[.int .u8 2,.slice none 0 0,.string K,.int .i64 0,.int .i64 0,.int .i64 0,.int .u8 Y.kind,.int .i64 Y.num,.string Y.str,.slice YL Y.items.length yl,.slice YO Y.vals.length yo,.string ⟨#[]⟩] 36)) (.cells #[.int .u8 3,.slice none 0 0,.string K,.int .i64 0,.int .i64 0,.int .i64 0,.int .u8 0,.int .i64 0,.string ⟨#[]⟩,.slice none 0 0,.slice none 0 0,.string ⟨#[]⟩] 36)))
    rw [← hwq] at HQ HXb HYb HDb VX VY ⊢
    clear hwq HXB HX6 H6 H5 H4 HB4 HWI f0 f1 f2 f3 f4 HBX HBY HBU HHV
    have HTV:=tie_with' (k:=K) (y:=tieG7) HV.out.kind HV.out.sound HKV.out tieG7_sound HB.out.vl.2.1
    have HTW:=tie_weight K V tieG7
    rw [tieG7_weight] at HTW
    have hVW:=HV.out.weight
    clear HV HB
    generalize (GV.mk V.kind V.num V.str V.items (insK K V.keys) (insV K V.keys V.vals tieG7))=U at *
    generalize w5.heap.size=bx at *
    generalize w6.heap.size=b6 at *
    have hUW:U.weight≤7000:=by have:=HKL.out;omega
    have hXW:=HX.out.1.2.2.1
    have hYW:=HY.out.1.2.2.1
    have hK:=HKL.out
    have SX:=tieP_sound (k:=K) (x:=X) HKV.out HX.out.1.1 (by have:=HX.out.1.2.1;omega) (by omega)
    have SY:=tieP_sound (k:=K) (x:=Y) HKV.out HY.out.1.1 (by have:=HY.out.1.2.1;omega) (by omega)
    have PX:=tie_pos X HX.out.1.1
    have PY:=tie_pos Y HY.out.1.1
    have MX:Small (tieP K X):=⟨by show X.weight≤_;omega,by show K.size≤_;omega,Nat.zero_le _,fun s hs=>by simp [tieP] at hs⟩
    have MY:Small (tieP K Y):=⟨by show Y.weight≤_;omega,by show K.size≤_;omega,Nat.zero_le _,fun s hs=>by simp [tieP] at hs⟩
    have MD:Small (tieD K):=⟨by show noG.weight≤_;decide +kernel,by show K.size≤_;omega,Nat.zero_le _,fun s hs=>by simp [tieD] at hs⟩
    have HTB2:=Lib.hid (fun W (h:Below wq.heap.size wq W)=>HTB.out W (HQ.out.ab.below.trans (h.mono HQ.out.ab.below.size)))
    have D1:=Lib.hid (fun (W:World) (hb:Below wq.heap.size wq W) (A XL' XO':Option Addr) (cp xl' xo' g c:Nat) (ho:Ops W (some ⟨g,0,none⟩) c [⟨tieP K Y,none,0,YL,yl,YO,yo⟩,⟨tieP K X,A,cp,XL',xl',XO',xo'⟩])=>(show Calls Tryd.prog 8 #[.agg #[.int .u8 U.kind,.int .i64 U.num,.string U.str,.slice VL U.items.length vl,.slice B U.vals.length bo],.slice (some ⟨g,0,none⟩) (1+1) c] W (DoneIs (fun k=>k<wq.heap.size) (tieIn U K X) W) from law7_done (fun k=>k<wq.heap.size) U VL B vl bo [⟨tieP K Y,none,0,YL,yl,YO,yo⟩,⟨tieP K X,A,cp,XL',xl',XO',xo'⟩] (some ⟨g,0,none⟩) c (tieIn U K X) W (vl_in HQ.out.vl.vl hb) ho HTV.sound (by simp [tieP,PX,PY]) ⟨_,tie_put HTV SY,_,tie_put_in HTV SX,rfl⟩ (by simp only [loads,tieP_load];omega) (HTB2.out W hb)))
    have D2:=Lib.hid (fun (W:World) (hb:Below wq.heap.size wq W) (g c:Nat) (ho:Ops W (some ⟨g,0,none⟩) c [⟨tieP K X,none,0,XL,xl,XO,xo⟩])=>(show Calls Tryd.prog 8 #[.agg #[.int .u8 U.kind,.int .i64 U.num,.string U.str,.slice VL U.items.length vl,.slice B U.vals.length bo],.slice (some ⟨g,0,none⟩) 1 c] W (DoneIs (fun k=>k<wq.heap.size) (tieIn U K X) W) from law7_done (fun k=>k<wq.heap.size) U VL B vl bo [⟨tieP K X,none,0,XL,xl,XO,xo⟩] (some ⟨g,0,none⟩) c (tieIn U K X) W (vl_in HQ.out.vl.vl hb) ho HTV.sound (by simp [tieP,PX]) ⟨_,tie_put HTV SX,rfl⟩ (by simp only [loads,tieP_load];omega) (HTB2.out W hb)))
    have D3:=Lib.hid (fun (W:World) (hb:Below wq.heap.size wq W) (A XL' XO':Option Addr) (cp xl' xo' g c:Nat) (ho:Ops W (some ⟨g,0,none⟩) c [⟨tieD K,none,0,none,0,none,0⟩,⟨tieP K X,A,cp,XL',xl',XO',xo'⟩])=>(show Calls Tryd.prog 8 #[.agg #[.int .u8 U.kind,.int .i64 U.num,.string U.str,.slice VL U.items.length vl,.slice B U.vals.length bo],.slice (some ⟨g,0,none⟩) (1+1) c] W (DoneIs (fun k=>k<wq.heap.size) (tieIn U K X) W) from law7_done (fun k=>k<wq.heap.size) U VL B vl bo [⟨tieD K,none,0,none,0,none,0⟩,⟨tieP K X,A,cp,XL',xl',XO',xo'⟩] (some ⟨g,0,none⟩) c (tieIn U K X) W (vl_in HQ.out.vl.vl hb) ho HTV.sound (by simp [tieP,tieD,PX,tie_pos noG noG_sound]) ⟨_,tie_del HTV HKV.out,_,tie_put_out HTV SX,rfl⟩ (by simp only [loads,tieP_load,tieD_load];have:=noG_light;omega) (HTB2.out W hb)))
    have T1:=Lib.hid (fun (W:World) (hb:Below wq.heap.size wq W)=>tie_turn_pp K X XL XO xl xo Y YL YO yl yo W (by omega) (VX.out.later hb) (VY.out.later hb) (by omega))
    have T2:=Lib.hid (fun (W:World) (hb:Below wq.heap.size wq W)=>tie_turn_dp K X XL XO xl xo W (by omega) (VX.out.later hb))
    have T3:=Lib.hid (fun (W:World) (hb:Below wq.heap.size wq W)=>tie_turn_pd K X XL XO xl xo W (by omega) (VX.out.later hb) (by omega))
    obtain ⟨i1,hi1,hy0,hy1,hy2⟩:=info_parts tie_info
    have HI1:=Lib.hid (And.intro hi1 (And.intro hy0 (And.intro hy1 hy2)))
    have HMS:=Lib.hid (And.intro MX (And.intro MY MD))
    have HU:=Lib.hid (And.intro hUW (And.intro hXW HTV))
    have HSX:=Lib.hid (And.intro SX PX)
    clear hi1 hy0 hy1 hy2 MX MY MD SX SY PX PY HTV HTW hVW hUW hXW hYW hK HX HY HKV HKL
    have KEEP:=Lib.hid (fun (W:World) (hb:Below wq.heap.size wq W)=>(show W.cell? ⟨bv,0,none⟩=some (.int .u8 U.kind)∧W.cell? ⟨bv,1,none⟩=some (.int .i64 U.num)∧W.cell? ⟨bv,2,none⟩=some (.string U.str)∧W.cell? ⟨bv,3,none⟩=some (.slice VL U.items.length vl)∧W.cell? ⟨bv,4,none⟩=some (.slice B U.vals.length bo)∧W.cell? ⟨bx,0,none⟩=some (.int .u8 2)∧W.cell? ⟨bx,1,none⟩=some (.slice none 0 0)∧W.cell? ⟨bx,2,none⟩=some (.string K)∧W.cell? ⟨bx,3,none⟩=some (.int .i64 0)∧W.cell? ⟨bx,4,none⟩=some (.int .i64 0)∧W.cell? ⟨bx,5,none⟩=some (.int .i64 0)∧W.cell? ⟨bx,6,none⟩=some (.int .u8 X.kind)∧W.cell? ⟨bx,7,none⟩=some (.int .i64 X.num)∧W.cell? ⟨bx,8,none⟩=some (.string X.str)∧W.cell? ⟨bx,9,none⟩=some (.slice XL X.items.length xl)∧W.cell? ⟨bx,10,none⟩=some (.slice XO X.vals.length xo)∧W.cell? ⟨bx,11,none⟩=some (.string ⟨#[]⟩)∧W.cell? ⟨b6,0,none⟩=some (.int .u8 2)∧W.cell? ⟨b6,1,none⟩=some (.slice none 0 0)∧W.cell? ⟨b6,2,none⟩=some (.string K)∧W.cell? ⟨b6,3,none⟩=some (.int .i64 0)∧W.cell? ⟨b6,4,none⟩=some (.int .i64 0)∧W.cell? ⟨b6,5,none⟩=some (.int .i64 0)∧W.cell? ⟨b6,6,none⟩=some (.int .u8 Y.kind)∧W.cell? ⟨b6,7,none⟩=some (.int .i64 Y.num)∧W.cell? ⟨b6,8,none⟩=some (.string Y.str)∧W.cell? ⟨b6,9,none⟩=some (.slice YL Y.items.length yl)∧W.cell? ⟨b6,10,none⟩=some (.slice YO Y.vals.length yo)∧W.cell? ⟨b6,11,none⟩=some (.string ⟨#[]⟩) from And.intro (((HQ.out.v.below hb HQ.out.v.lt).cell 0).trans rfl) (And.intro (((HQ.out.v.below hb HQ.out.v.lt).cell 1).trans rfl) (And.intro (((HQ.out.v.below hb HQ.out.v.lt).cell 2).trans rfl) (And.intro (((HQ.out.v.below hb HQ.out.v.lt).cell 3).trans rfl) (And.intro (((HQ.out.v.below hb HQ.out.v.lt).cell 4).trans rfl) (And.intro (((HXb.out.below hb HXb.out.lt).cell 0).trans rfl) (And.intro (((HXb.out.below hb HXb.out.lt).cell 1).trans rfl) (And.intro (((HXb.out.below hb HXb.out.lt).cell 2).trans rfl) (And.intro (((HXb.out.below hb HXb.out.lt).cell 3).trans rfl) (And.intro (((HXb.out.below hb HXb.out.lt).cell 4).trans rfl) (And.intro (((HXb.out.below hb HXb.out.lt).cell 5).trans rfl) (And.intro (((HXb.out.below hb HXb.out.lt).cell 6).trans rfl) (And.intro (((HXb.out.below hb HXb.out.lt).cell 7).trans rfl) (And.intro (((HXb.out.below hb HXb.out.lt).cell 8).trans rfl) (And.intro (((HXb.out.below hb HXb.out.lt).cell 9).trans rfl) (And.intro (((HXb.out.below hb HXb.out.lt).cell 10).trans rfl) (And.intro (((HXb.out.below hb HXb.out.lt).cell 11).trans rfl) (And.intro (((HYb.out.below hb HYb.out.lt).cell 0).trans rfl) (And.intro (((HYb.out.below hb HYb.out.lt).cell 1).trans rfl) (And.intro (((HYb.out.below hb HYb.out.lt).cell 2).trans rfl) (And.intro (((HYb.out.below hb HYb.out.lt).cell 3).trans rfl) (And.intro (((HYb.out.below hb HYb.out.lt).cell 4).trans rfl) (And.intro (((HYb.out.below hb HYb.out.lt).cell 5).trans rfl) (And.intro (((HYb.out.below hb HYb.out.lt).cell 6).trans rfl) (And.intro (((HYb.out.below hb HYb.out.lt).cell 7).trans rfl) (And.intro (((HYb.out.below hb HYb.out.lt).cell 8).trans rfl) (And.intro (((HYb.out.below hb HYb.out.lt).cell 9).trans rfl) (And.intro (((HYb.out.below hb HYb.out.lt).cell 10).trans rfl) (((HYb.out.below hb HYb.out.lt).cell 11).trans rfl))))))))))))))))))))))))))))))
    obtain ⟨s0,s1,s2,s3,s4,_⟩:=HQ.out.v.five
    obtain ⟨s5,s6,s7,s8,s9,s10,s11,s12,s13,s14,s15,s16,_⟩:=HXb.out.tw
    obtain ⟨s17,s18,s19,s20,s21,s22,s23,s24,s25,s26,s27,s28,_⟩:=HYb.out.tw
    have HF:=Lib.hid (fun (W:World) (g:Nat) (h:Whole W g 36 #[.int .u8 2,.slice none 0 0,.string K,.int .i64 0,.int .i64 0,.int .i64 0,.int .u8 Y.kind,.int .i64 Y.num,.string Y.str,.slice YL Y.items.length yl,.slice YO Y.vals.length yo,.string ⟨#[]⟩])=>(fun (b:Addr) (e:some (⟨g,0,none⟩:Addr)=some b) (j:Nat) (u:Value) (hj:(cells12 ⟨tieP K Y,none,0,YL,yl,YO,yo⟩)[j]? = some u)=>tie_row (l:=cells12 ⟨tieP K Y,none,0,YL,yl,YO,yo⟩) h rfl b e j u hj))
    go_cut [15,16] (TieCut wq (tieIn U K X))
    case first=>
     clear D2 D3 T2 T3 HTB2 HU HSX HDb HTB
     go_region_held3 (fun W=>W.cell? ⟨bv,0,none⟩=some (.int .u8 U.kind)∧W.cell? ⟨bv,1,none⟩=some (.int .i64 U.num)∧W.cell? ⟨bv,2,none⟩=some (.string U.str)∧W.cell? ⟨bv,3,none⟩=some (.slice VL U.items.length vl)∧W.cell? ⟨bv,4,none⟩=some (.slice B U.vals.length bo)∧W.cell? ⟨bx,0,none⟩=some (.int .u8 2)∧W.cell? ⟨bx,1,none⟩=some (.slice none 0 0)∧W.cell? ⟨bx,2,none⟩=some (.string K)∧W.cell? ⟨bx,3,none⟩=some (.int .i64 0)∧W.cell? ⟨bx,4,none⟩=some (.int .i64 0)∧W.cell? ⟨bx,5,none⟩=some (.int .i64 0)∧W.cell? ⟨bx,6,none⟩=some (.int .u8 X.kind)∧W.cell? ⟨bx,7,none⟩=some (.int .i64 X.num)∧W.cell? ⟨bx,8,none⟩=some (.string X.str)∧W.cell? ⟨bx,9,none⟩=some (.slice XL X.items.length xl)∧W.cell? ⟨bx,10,none⟩=some (.slice XO X.vals.length xo)∧W.cell? ⟨bx,11,none⟩=some (.string ⟨#[]⟩)∧W.cell? ⟨b6,0,none⟩=some (.int .u8 2)∧W.cell? ⟨b6,1,none⟩=some (.slice none 0 0)∧W.cell? ⟨b6,2,none⟩=some (.string K)∧W.cell? ⟨b6,3,none⟩=some (.int .i64 0)∧W.cell? ⟨b6,4,none⟩=some (.int .i64 0)∧W.cell? ⟨b6,5,none⟩=some (.int .i64 0)∧W.cell? ⟨b6,6,none⟩=some (.int .u8 Y.kind)∧W.cell? ⟨b6,7,none⟩=some (.int .i64 Y.num)∧W.cell? ⟨b6,8,none⟩=some (.string Y.str)∧W.cell? ⟨b6,9,none⟩=some (.slice YL Y.items.length yl)∧W.cell? ⟨b6,10,none⟩=some (.slice YO Y.vals.length yo)∧W.cell? ⟨b6,11,none⟩=some (.string ⟨#[]⟩))
      (first | with_reducible exact KEEP.out _ (tie_s5b B9.out (by first | exact (Nat.le_refl _) | exact (Nat.le_succ _) | exact B7.out.size | exact (Nat.le_succ_of_le B7.out.size) | exact B8.out.size) _ _ _ _ _) | with_reducible exact KEEP.out _ (by (repeat (first | with_reducible exact B9.out | with_reducible exact B8.out | with_reducible exact B7.out | with_reducible exact Below.refl _ _ | with_reducible refine tie_bd ?_ | with_reducible refine tie_ba ?_ _))<;>fail))
      (first
       | (go_at_call 9;((with_reducible refine (T1.out _ (by (repeat (first | with_reducible exact Below.refl _ _ | with_reducible refine tie_bd ?_ | with_reducible refine tie_ba ?_ _))<;>fail)).mono ?_);rintro e w7 ⟨b7,A7,XL7,XO7,cp7,xl7,xo7,rfl,h7,hc7,hb⟩;have HB7:=Lib.hid hb;have B7:=Lib.hid (show Below wq.heap.size wq w7 from Below.trans (by (repeat (first | with_reducible exact Below.refl _ _ | with_reducible refine tie_bd ?_ | with_reducible refine tie_ba ?_ _))<;>fail) (hb.mono ((show Below wq.heap.size wq _ from (by (repeat (first | with_reducible exact Below.refl _ _ | with_reducible refine tie_bd ?_ | with_reducible refine tie_ba ?_ _))<;>fail)).size)));have H7:=Lib.hid (And.intro h7 hc7);clear h7 hc7 hb))
       | (refine step_append_full rfl (.tmp 79) (.tmp 82) 39 rfl 36 i1 _ 12 168 Tryd.underlying39 HI1.out.1 HI1.out.2.1 HI1.out.2.2.1 HI1.out.2.2.2 rfl (by decide) _ 1 1 (cells12 ⟨tieP K Y,none,0,YL,yl,YO,yo⟩) rfl (fun h=>by cases h) rfl ?hh ⟨b7,0,none⟩ 1 1 (cells12 ⟨tieP K X,A7,cp7,XL7,xl7,XO7,xo7⟩) rfl rfl (H7.out.1 _ (by (repeat (first | with_reducible exact Below.refl _ _ | with_reducible refine tie_bd ?_ | with_reducible refine tie_ba ?_ _))<;>fail)) (cells12_one _) (by decide) (by decide) (by decide) ?_;(case hh=>exact HF.out _ _ (by (repeat (first | with_reducible exact tie_wn (by first | rfl | (simp;done)) | with_reducible refine tie_wa ?_ _ | with_reducible refine tie_wd ?_ | with_reducible refine tie_wb HB9.out ?_ | with_reducible refine tie_wb HB8.out ?_ | with_reducible refine tie_wb HB7.out ?_))<;>fail));intro v8 w8 hown8 hgrow8;have HB8:=Lib.hid (tie_grown hgrow8);have B8:=Lib.hid (show Below wq.heap.size wq w8 from Below.trans (by (repeat (first | with_reducible exact B9.out | with_reducible exact B8.out | with_reducible exact B7.out | with_reducible exact Below.refl _ _ | with_reducible refine tie_bd ?_ | with_reducible refine tie_ba ?_ _))<;>fail) (HB8.out.mono ((show Below wq.heap.size wq _ from (by (repeat (first | with_reducible exact B9.out | with_reducible exact B8.out | with_reducible exact B7.out | with_reducible exact Below.refl _ _ | with_reducible refine tie_bd ?_ | with_reducible refine tie_ba ?_ _))<;>fail)).size)));obtain ⟨g8,c8,rfl,_,hg8,hc8,hm8,hcell8⟩:=tie_own (n:=1) hown8;have OP8:=Lib.hid (ops_two (e:=⟨tieP K Y,none,0,YL,yl,YO,yo⟩) (f:=⟨tieP K X,A7,cp7,XL7,xl7,XO7,xo7⟩) hc8 hm8 hg8 hcell8 ⟨(tieP_cc VY.out).later B8.out,HMS.out.2.1⟩ ⟨(H7.out.2.later (show Below w7.heap.size w7 _ from (by (repeat (first | with_reducible exact Below.refl _ _ | with_reducible refine tie_bd ?_ | with_reducible refine tie_ba ?_ _))<;>fail))).later HB8.out,HMS.out.1⟩);clear hown8 hgrow8 hg8 hc8 hm8 hcell8)
       | (go_at_call 8;(with_reducible refine (D1.out _ ?hb A7 XL7 XO7 cp7 xl7 xo7 g8 c8 (OP8.out.later ?ho)).mono ?_);(case hb=>exact (by (repeat (first | with_reducible exact B9.out | with_reducible exact B8.out | with_reducible exact B7.out | with_reducible exact Below.refl _ _ | with_reducible refine tie_bd ?_ | with_reducible refine tie_ba ?_ _))<;>fail));(case ho=>exact (by (repeat (first | with_reducible exact Below.refl _ _ | with_reducible refine tie_bd ?_ | with_reducible refine tie_ba ?_ _))<;>fail));rintro e w9 ⟨ZL,ZO,zl,zo,rfl,hv,hb⟩;have HV9:=Lib.hid hv;have HB9:=Lib.hid hb;have B9:=Lib.hid (show Below wq.heap.size wq w9 from Below.trans (by (repeat (first | with_reducible exact B9.out | with_reducible exact B8.out | with_reducible exact B7.out | with_reducible exact Below.refl _ _ | with_reducible refine tie_bd ?_ | with_reducible refine tie_ba ?_ _))<;>fail) (hb.mono ((show Below wq.heap.size wq _ from (by (repeat (first | with_reducible exact B9.out | with_reducible exact B8.out | with_reducible exact B7.out | with_reducible exact Below.refl _ _ | with_reducible refine tie_bd ?_ | with_reducible refine tie_ba ?_ _))<;>fail)).size)));(first | (with_reducible have HZ9:=Lib.hid (tie_wbl (t:=31) (cs:=#[.int .u8 0,.int .i64 0,.string ⟨#[]⟩,.slice none 0 0,.slice none 0 0]) hb (tie_wn1 w8 _ _));obtain ⟨z0,z1,z2,z3,z4,f0,f1,f2,f3,f4⟩:=HZ9.out.1.five) | (with_reducible have HZ9:=Lib.hid (tie_wbl (t:=31) (cs:=#[.int .u8 0,.int .i64 0,.string ⟨#[]⟩,.slice none 0 0,.slice none 0 0]) hb (tie_wb HB8.out (tie_wn1 w7 _ _)));obtain ⟨z0,z1,z2,z3,z4,f0,f1,f2,f3,f4⟩:=HZ9.out.1.five) | (with_reducible have HZ9:=Lib.hid (tie_wbl (t:=31) (cs:=#[.int .u8 0,.int .i64 0,.string ⟨#[]⟩,.slice none 0 0,.slice none 0 0]) hb (tie_wb HB8.out (tie_wn2 w7 _ _ _)));obtain ⟨z0,z1,z2,z3,z4,f0,f1,f2,f3,f4⟩:=HZ9.out.1.five) | (with_reducible have HZ9:=Lib.hid (tie_wbl (t:=31) (cs:=#[.int .u8 0,.int .i64 0,.string ⟨#[]⟩,.slice none 0 0,.slice none 0 0]) hb (tie_wb HB8.out (tie_wa (tie_wn1 w7 _ _) _)));obtain ⟨z0,z1,z2,z3,z4,f0,f1,f2,f3,f4⟩:=HZ9.out.1.five) | (with_reducible have HZ9:=Lib.hid (tie_wbl (t:=31) (cs:=#[.int .u8 0,.int .i64 0,.string ⟨#[]⟩,.slice none 0 0,.slice none 0 0]) hb (tie_wb HB8.out (tie_wb HB7.out (tie_wd (tie_wn1 wq _ _)))));obtain ⟨z0,z1,z2,z3,z4,f0,f1,f2,f3,f4⟩:=HZ9.out.1.five) | (with_reducible have HZ9:=Lib.hid (tie_wbl (t:=31) (cs:=#[.int .u8 0,.int .i64 0,.string ⟨#[]⟩,.slice none 0 0,.slice none 0 0]) hb (tie_wb HB8.out (tie_wa (tie_wb HB7.out (tie_wd (tie_wn1 wq _ _))) _)));obtain ⟨z0,z1,z2,z3,z4,f0,f1,f2,f3,f4⟩:=HZ9.out.1.five) | (with_reducible have HZ9:=Lib.hid (tie_wbl (t:=31) (cs:=#[.int .u8 0,.int .i64 0,.string ⟨#[]⟩,.slice none 0 0,.slice none 0 0]) hb (tie_wb HB8.out (tie_wb HB7.out (tie_wd (tie_wa (tie_wn1 wq _ _) _)))));obtain ⟨z0,z1,z2,z3,z4,f0,f1,f2,f3,f4⟩:=HZ9.out.1.five) | (with_reducible have HZ9:=Lib.hid (tie_wbl (t:=31) (cs:=#[.int .u8 0,.int .i64 0,.string ⟨#[]⟩,.slice none 0 0,.slice none 0 0]) hb (tie_wb HB8.out (tie_wb HB7.out (tie_wd (tie_wn2 wq _ _ _)))));obtain ⟨z0,z1,z2,z3,z4,f0,f1,f2,f3,f4⟩:=HZ9.out.1.five) | skip);clear hv hb))
     all_goals as_aux_lemma=>
      all_goals clear KEEP HF D1 T1 HQ HXb VX VY HMS HI1 HYb s0 s1 s2 s3 s4 s5 s6 s7 s8 s9 s10 s11 s12 s13 s14 s15 s16 s17 s18 s19 s20 s21 s22 s23 s24 s25 s26 s27 s28
      all_goals go_wp2_with fail
      all_goals go_meet
      all_goals refine ⟨_,ZL,ZO,zl,zo,rfl,rfl,?_,?_,?_⟩
      all_goals first | with_reducible exact tie_s5w HZ9.out.1 _ _ _ _ _ | with_reducible exact tie_s5v HV9.out (by first | exact (Nat.le_refl _) | exact (Nat.le_succ _) | exact B7.out.size | exact (Nat.le_succ_of_le B7.out.size) | exact B8.out.size) HZ9.out.2 _ _ _ _ _ | with_reducible exact tie_s5b B9.out (by first | exact (Nat.le_refl _) | exact (Nat.le_succ _) | exact B7.out.size | exact (Nat.le_succ_of_le B7.out.size) | exact B8.out.size) _ _ _ _ _ | exact tie_wn1 w9 _ _ | exact HV9.out.vl.later (below_alloc _ _) | exact tie_ba B9.out _
    case rest=>
     obtain ⟨b11,P1L,P1O,p1l,p1o,rfl,rfl,hw1,hv1,hB1⟩:=hcut
     obtain ⟨wz,hwz⟩:∃ W,W=wc:=⟨_,rfl⟩
     subst hwz
     have G1:=Lib.hid hB1
     have R1:=Lib.hid (And.intro hw1 hv1)
     replace HQ:=Lib.hid (HQ.out.step hB1)
     replace HXb:=Lib.hid (tie_wb hB1 HXb.out)
     replace HYb:=Lib.hid (tie_wb hB1 HYb.out)
     replace HDb:=Lib.hid (tie_wb hB1 HDb.out)
     replace VX:=Lib.hid (VX.out.later hB1)
     replace VY:=Lib.hid (VY.out.later hB1)
     replace HTB2:=Lib.hid (fun (W:World) (h:Below wz.heap.size wz W)=>HTB2.out W (hB1.trans (h.mono hB1.size)))
     replace D2:=Lib.hid (fun (W:World) (hb:Below wz.heap.size wz W)=>D2.out W (hB1.trans (hb.mono hB1.size)))
     replace T2:=Lib.hid (fun (W:World) (hb:Below wz.heap.size wz W)=>T2.out W (hB1.trans (hb.mono hB1.size)))
     replace D3:=Lib.hid (fun (W:World) (hb:Below wz.heap.size wz W)=>D3.out W (hB1.trans (hb.mono hB1.size)))
     replace T3:=Lib.hid (fun (W:World) (hb:Below wz.heap.size wz W)=>T3.out W (hB1.trans (hb.mono hB1.size)))
     clear hw1 hv1 hB1 KEEP HF D1 T1
     clear s0 s1 s2 s3 s4 s5 s6 s7 s8 s9 s10 s11 s12 s13 s14 s15 s16 s17 s18 s19 s20 s21 s22 s23 s24 s25 s26 s27 s28
     go_wp2_with fail
     have KEEP:=Lib.hid (fun (W:World) (hb:Below wz.heap.size wz W)=>(show W.cell? ⟨bv,0,none⟩=some (.int .u8 U.kind)∧W.cell? ⟨bv,1,none⟩=some (.int .i64 U.num)∧W.cell? ⟨bv,2,none⟩=some (.string U.str)∧W.cell? ⟨bv,3,none⟩=some (.slice VL U.items.length vl)∧W.cell? ⟨bv,4,none⟩=some (.slice B U.vals.length bo)∧W.cell? ⟨bx,0,none⟩=some (.int .u8 2)∧W.cell? ⟨bx,1,none⟩=some (.slice none 0 0)∧W.cell? ⟨bx,2,none⟩=some (.string K)∧W.cell? ⟨bx,3,none⟩=some (.int .i64 0)∧W.cell? ⟨bx,4,none⟩=some (.int .i64 0)∧W.cell? ⟨bx,5,none⟩=some (.int .i64 0)∧W.cell? ⟨bx,6,none⟩=some (.int .u8 X.kind)∧W.cell? ⟨bx,7,none⟩=some (.int .i64 X.num)∧W.cell? ⟨bx,8,none⟩=some (.string X.str)∧W.cell? ⟨bx,9,none⟩=some (.slice XL X.items.length xl)∧W.cell? ⟨bx,10,none⟩=some (.slice XO X.vals.length xo)∧W.cell? ⟨bx,11,none⟩=some (.string ⟨#[]⟩)∧W.cell? ⟨b6+1,0,none⟩=some (.int .u8 3)∧W.cell? ⟨b6+1,1,none⟩=some (.slice none 0 0)∧W.cell? ⟨b6+1,2,none⟩=some (.string K)∧W.cell? ⟨b6+1,3,none⟩=some (.int .i64 0)∧W.cell? ⟨b6+1,4,none⟩=some (.int .i64 0)∧W.cell? ⟨b6+1,5,none⟩=some (.int .i64 0)∧W.cell? ⟨b6+1,6,none⟩=some (.int .u8 0)∧W.cell? ⟨b6+1,7,none⟩=some (.int .i64 0)∧W.cell? ⟨b6+1,8,none⟩=some (.string ⟨#[]⟩)∧W.cell? ⟨b6+1,9,none⟩=some (.slice none 0 0)∧W.cell? ⟨b6+1,10,none⟩=some (.slice none 0 0)∧W.cell? ⟨b6+1,11,none⟩=some (.string ⟨#[]⟩) from And.intro (((HQ.out.v.below hb HQ.out.v.lt).cell 0).trans rfl) (And.intro (((HQ.out.v.below hb HQ.out.v.lt).cell 1).trans rfl) (And.intro (((HQ.out.v.below hb HQ.out.v.lt).cell 2).trans rfl) (And.intro (((HQ.out.v.below hb HQ.out.v.lt).cell 3).trans rfl) (And.intro (((HQ.out.v.below hb HQ.out.v.lt).cell 4).trans rfl) (And.intro (((HXb.out.below hb HXb.out.lt).cell 0).trans rfl) (And.intro (((HXb.out.below hb HXb.out.lt).cell 1).trans rfl) (And.intro (((HXb.out.below hb HXb.out.lt).cell 2).trans rfl) (And.intro (((HXb.out.below hb HXb.out.lt).cell 3).trans rfl) (And.intro (((HXb.out.below hb HXb.out.lt).cell 4).trans rfl) (And.intro (((HXb.out.below hb HXb.out.lt).cell 5).trans rfl) (And.intro (((HXb.out.below hb HXb.out.lt).cell 6).trans rfl) (And.intro (((HXb.out.below hb HXb.out.lt).cell 7).trans rfl) (And.intro (((HXb.out.below hb HXb.out.lt).cell 8).trans rfl) (And.intro (((HXb.out.below hb HXb.out.lt).cell 9).trans rfl) (And.intro (((HXb.out.below hb HXb.out.lt).cell 10).trans rfl) (And.intro (((HXb.out.below hb HXb.out.lt).cell 11).trans rfl) (And.intro (((HDb.out.below hb HDb.out.lt).cell 0).trans rfl) (And.intro (((HDb.out.below hb HDb.out.lt).cell 1).trans rfl) (And.intro (((HDb.out.below hb HDb.out.lt).cell 2).trans rfl) (And.intro (((HDb.out.below hb HDb.out.lt).cell 3).trans rfl) (And.intro (((HDb.out.below hb HDb.out.lt).cell 4).trans rfl) (And.intro (((HDb.out.below hb HDb.out.lt).cell 5).trans rfl) (And.intro (((HDb.out.below hb HDb.out.lt).cell 6).trans rfl) (And.intro (((HDb.out.below hb HDb.out.lt).cell 7).trans rfl) (And.intro (((HDb.out.below hb HDb.out.lt).cell 8).trans rfl) (And.intro (((HDb.out.below hb HDb.out.lt).cell 9).trans rfl) (And.intro (((HDb.out.below hb HDb.out.lt).cell 10).trans rfl) (((HDb.out.below hb HDb.out.lt).cell 11).trans rfl))))))))))))))))))))))))))))))
     obtain ⟨s0,s1,s2,s3,s4,_⟩:=HQ.out.v.five
     obtain ⟨s5,s6,s7,s8,s9,s10,s11,s12,s13,s14,s15,s16,_⟩:=HXb.out.tw
     obtain ⟨s17,s18,s19,s20,s21,s22,s23,s24,s25,s26,s27,s28,_⟩:=HDb.out.tw
     have HF:=Lib.hid (fun (W:World) (g:Nat) (h:Whole W g 36 #[.int .u8 2,.slice none 0 0,.string K,.int .i64 0,.int .i64 0,.int .i64 0,.int .u8 X.kind,.int .i64 X.num,.string X.str,.slice XL X.items.length xl,.slice XO X.vals.length xo,.string ⟨#[]⟩])=>(fun (b:Addr) (e:some (⟨g,0,none⟩:Addr)=some b) (j:Nat) (u:Value) (hj:(cells12 ⟨tieP K X,none,0,XL,xl,XO,xo⟩)[j]? = some u)=>tie_row (l:=cells12 ⟨tieP K X,none,0,XL,xl,XO,xo⟩) h rfl b e j u hj))
     go_cut [17,18] (TieCut wz (tieIn U K X))
     case first=>
      clear D3 T3 HTB2 HU HSX HYb HTB R1
      go_region_held3 (fun W=>W.cell? ⟨bv,0,none⟩=some (.int .u8 U.kind)∧W.cell? ⟨bv,1,none⟩=some (.int .i64 U.num)∧W.cell? ⟨bv,2,none⟩=some (.string U.str)∧W.cell? ⟨bv,3,none⟩=some (.slice VL U.items.length vl)∧W.cell? ⟨bv,4,none⟩=some (.slice B U.vals.length bo)∧W.cell? ⟨bx,0,none⟩=some (.int .u8 2)∧W.cell? ⟨bx,1,none⟩=some (.slice none 0 0)∧W.cell? ⟨bx,2,none⟩=some (.string K)∧W.cell? ⟨bx,3,none⟩=some (.int .i64 0)∧W.cell? ⟨bx,4,none⟩=some (.int .i64 0)∧W.cell? ⟨bx,5,none⟩=some (.int .i64 0)∧W.cell? ⟨bx,6,none⟩=some (.int .u8 X.kind)∧W.cell? ⟨bx,7,none⟩=some (.int .i64 X.num)∧W.cell? ⟨bx,8,none⟩=some (.string X.str)∧W.cell? ⟨bx,9,none⟩=some (.slice XL X.items.length xl)∧W.cell? ⟨bx,10,none⟩=some (.slice XO X.vals.length xo)∧W.cell? ⟨bx,11,none⟩=some (.string ⟨#[]⟩)∧W.cell? ⟨b6+1,0,none⟩=some (.int .u8 3)∧W.cell? ⟨b6+1,1,none⟩=some (.slice none 0 0)∧W.cell? ⟨b6+1,2,none⟩=some (.string K)∧W.cell? ⟨b6+1,3,none⟩=some (.int .i64 0)∧W.cell? ⟨b6+1,4,none⟩=some (.int .i64 0)∧W.cell? ⟨b6+1,5,none⟩=some (.int .i64 0)∧W.cell? ⟨b6+1,6,none⟩=some (.int .u8 0)∧W.cell? ⟨b6+1,7,none⟩=some (.int .i64 0)∧W.cell? ⟨b6+1,8,none⟩=some (.string ⟨#[]⟩)∧W.cell? ⟨b6+1,9,none⟩=some (.slice none 0 0)∧W.cell? ⟨b6+1,10,none⟩=some (.slice none 0 0)∧W.cell? ⟨b6+1,11,none⟩=some (.string ⟨#[]⟩))
       (first | with_reducible exact KEEP.out _ (tie_s5b B9.out (by first | exact (Nat.le_refl _) | exact (Nat.le_succ _) | exact B7.out.size | exact (Nat.le_succ_of_le B7.out.size) | exact (Nat.le_trans G1.out.size (Nat.le_refl _)) | exact (Nat.le_trans G1.out.size (Nat.le_succ _)) | exact (Nat.le_trans G1.out.size B7.out.size) | exact (Nat.le_trans G1.out.size (Nat.le_succ_of_le B7.out.size))) _ _ _ _ _) | with_reducible exact KEEP.out _ (by (repeat (first | with_reducible exact B9.out | with_reducible exact B8.out | with_reducible exact B7.out | with_reducible exact Below.refl _ _ | with_reducible refine tie_bd ?_ | with_reducible refine tie_ba ?_ _))<;>fail))
       (first
        | (go_at_call 9;((with_reducible refine (T2.out _ (by (repeat (first | with_reducible exact Below.refl _ _ | with_reducible refine tie_bd ?_ | with_reducible refine tie_ba ?_ _))<;>fail)).mono ?_);rintro e w7 ⟨rfl,hb⟩;have HB7:=Lib.hid hb;have B7:=Lib.hid (show Below wz.heap.size wz w7 from Below.trans (by (repeat (first | with_reducible exact Below.refl _ _ | with_reducible refine tie_bd ?_ | with_reducible refine tie_ba ?_ _))<;>fail) (hb.mono ((show Below wz.heap.size wz _ from (by (repeat (first | with_reducible exact Below.refl _ _ | with_reducible refine tie_bd ?_ | with_reducible refine tie_ba ?_ _))<;>fail)).size)));clear hb))
        | (refine tie_append_nil rfl (.tmp 90) (.tmp 93) 39 rfl 36 i1 _ Tryd.underlying39 HI1.out.1 HI1.out.2.1 _ rfl rfl (t2:=36) (cs:=#[.int .u8 2,.slice none 0 0,.string K,.int .i64 0,.int .i64 0,.int .i64 0,.int .u8 X.kind,.int .i64 X.num,.string X.str,.slice XL X.items.length xl,.slice XO X.vals.length xo,.string ⟨#[]⟩]) ?hh ?_;(case hh=>exact (by (repeat (first | with_reducible exact tie_wn (by first | rfl | (simp;done)) | with_reducible refine tie_wa ?_ _ | with_reducible refine tie_wd ?_ | with_reducible refine tie_wb HB9.out ?_ | with_reducible refine tie_wb HB8.out ?_ | with_reducible refine tie_wb HB7.out ?_))<;>fail));intro g8 hw8;have H8:=Lib.hid hw8;clear hw8)
        | (go_at_call 8;(with_reducible refine (D2.out _ ?hb g8 1 ?ho).mono ?_);(case hb=>exact (by (repeat (first | with_reducible exact B9.out | with_reducible exact B8.out | with_reducible exact B7.out | with_reducible exact Below.refl _ _ | with_reducible refine tie_bd ?_ | with_reducible refine tie_ba ?_ _))<;>fail));(case ho=>exact ops_whole (t:=36) (cs:=#[.int .u8 2,.slice none 0 0,.string K,.int .i64 0,.int .i64 0,.int .i64 0,.int .u8 X.kind,.int .i64 X.num,.string X.str,.slice XL X.items.length xl,.slice XO X.vals.length xo,.string ⟨#[]⟩]) (e:=⟨tieP K X,none,0,XL,xl,XO,xo⟩) (by (repeat (first | with_reducible exact H8.out | with_reducible refine tie_wa ?_ _ | with_reducible refine tie_wd ?_))<;>fail) rfl ⟨(tieP_cc VX.out).later (by (repeat (first | with_reducible exact B9.out | with_reducible exact B8.out | with_reducible exact B7.out | with_reducible exact Below.refl _ _ | with_reducible refine tie_bd ?_ | with_reducible refine tie_ba ?_ _))<;>fail),HMS.out.1⟩);rintro e w9 ⟨ZL,ZO,zl,zo,rfl,hv,hb⟩;have HV9:=Lib.hid hv;have HB9:=Lib.hid hb;have B9:=Lib.hid (show Below wz.heap.size wz w9 from Below.trans (by (repeat (first | with_reducible exact B9.out | with_reducible exact B8.out | with_reducible exact B7.out | with_reducible exact Below.refl _ _ | with_reducible refine tie_bd ?_ | with_reducible refine tie_ba ?_ _))<;>fail) (hb.mono ((show Below wz.heap.size wz _ from (by (repeat (first | with_reducible exact B9.out | with_reducible exact B8.out | with_reducible exact B7.out | with_reducible exact Below.refl _ _ | with_reducible refine tie_bd ?_ | with_reducible refine tie_ba ?_ _))<;>fail)).size)));(first | (with_reducible have HZ9:=Lib.hid (tie_wbl (t:=31) (cs:=#[.int .u8 0,.int .i64 0,.string ⟨#[]⟩,.slice none 0 0,.slice none 0 0]) hb (tie_wn1 w7 _ _));obtain ⟨z0,z1,z2,z3,z4,f0,f1,f2,f3,f4⟩:=HZ9.out.1.five) | (with_reducible have HZ9:=Lib.hid (tie_wbl (t:=31) (cs:=#[.int .u8 0,.int .i64 0,.string ⟨#[]⟩,.slice none 0 0,.slice none 0 0]) hb (tie_wn2 w7 _ _ _));obtain ⟨z0,z1,z2,z3,z4,f0,f1,f2,f3,f4⟩:=HZ9.out.1.five) | (with_reducible have HZ9:=Lib.hid (tie_wbl (t:=31) (cs:=#[.int .u8 0,.int .i64 0,.string ⟨#[]⟩,.slice none 0 0,.slice none 0 0]) hb (tie_wa (tie_wn1 w7 _ _) _));obtain ⟨z0,z1,z2,z3,z4,f0,f1,f2,f3,f4⟩:=HZ9.out.1.five) | (with_reducible have HZ9:=Lib.hid (tie_wbl (t:=31) (cs:=#[.int .u8 0,.int .i64 0,.string ⟨#[]⟩,.slice none 0 0,.slice none 0 0]) hb (tie_wb HB7.out (tie_wd (tie_wn1 wz _ _))));obtain ⟨z0,z1,z2,z3,z4,f0,f1,f2,f3,f4⟩:=HZ9.out.1.five) | (with_reducible have HZ9:=Lib.hid (tie_wbl (t:=31) (cs:=#[.int .u8 0,.int .i64 0,.string ⟨#[]⟩,.slice none 0 0,.slice none 0 0]) hb (tie_wa (tie_wb HB7.out (tie_wd (tie_wn1 wz _ _))) _));obtain ⟨z0,z1,z2,z3,z4,f0,f1,f2,f3,f4⟩:=HZ9.out.1.five) | (with_reducible have HZ9:=Lib.hid (tie_wbl (t:=31) (cs:=#[.int .u8 0,.int .i64 0,.string ⟨#[]⟩,.slice none 0 0,.slice none 0 0]) hb (tie_wb HB7.out (tie_wd (tie_wa (tie_wn1 wz _ _) _))));obtain ⟨z0,z1,z2,z3,z4,f0,f1,f2,f3,f4⟩:=HZ9.out.1.five) | (with_reducible have HZ9:=Lib.hid (tie_wbl (t:=31) (cs:=#[.int .u8 0,.int .i64 0,.string ⟨#[]⟩,.slice none 0 0,.slice none 0 0]) hb (tie_wb HB7.out (tie_wd (tie_wn2 wz _ _ _))));obtain ⟨z0,z1,z2,z3,z4,f0,f1,f2,f3,f4⟩:=HZ9.out.1.five) | skip);clear hv hb))
      all_goals as_aux_lemma=>
       all_goals clear KEEP HF D2 T2 HQ HXb VX VY HMS HI1 HDb s0 s1 s2 s3 s4 s5 s6 s7 s8 s9 s10 s11 s12 s13 s14 s15 s16 s17 s18 s19 s20 s21 s22 s23 s24 s25 s26 s27 s28
       all_goals go_wp2_with fail
       all_goals go_meet
       all_goals refine ⟨_,ZL,ZO,zl,zo,rfl,rfl,?_,?_,?_⟩
       all_goals first | with_reducible exact tie_s5w HZ9.out.1 _ _ _ _ _ | with_reducible exact tie_s5v HV9.out (by first | exact (Nat.le_refl _) | exact (Nat.le_succ _) | exact B7.out.size | exact (Nat.le_succ_of_le B7.out.size) | exact (Nat.le_trans G1.out.size (Nat.le_refl _)) | exact (Nat.le_trans G1.out.size (Nat.le_succ _)) | exact (Nat.le_trans G1.out.size B7.out.size) | exact (Nat.le_trans G1.out.size (Nat.le_succ_of_le B7.out.size))) HZ9.out.2 _ _ _ _ _ | with_reducible exact tie_s5b B9.out (by first | exact (Nat.le_refl _) | exact (Nat.le_succ _) | exact B7.out.size | exact (Nat.le_succ_of_le B7.out.size) | exact (Nat.le_trans G1.out.size (Nat.le_refl _)) | exact (Nat.le_trans G1.out.size (Nat.le_succ _)) | exact (Nat.le_trans G1.out.size B7.out.size) | exact (Nat.le_trans G1.out.size (Nat.le_succ_of_le B7.out.size))) _ _ _ _ _ | exact tie_wn1 w9 _ _ | exact HV9.out.vl.later (below_alloc _ _) | exact tie_ba B9.out _
     case rest=>
      obtain ⟨b21,P2L,P2O,p2l,p2o,rfl,rfl,hw1,hv1,hB1⟩:=hcut
      obtain ⟨wy,hwz⟩:∃ W,W=wc:=⟨_,rfl⟩
      subst hwz
      have G2:=Lib.hid hB1
      have R2:=Lib.hid (And.intro hw1 hv1)
      replace R1:=Lib.hid (And.intro (R1.out.1.below hB1 R1.out.1.lt) (R1.out.2.later hB1))
      replace HQ:=Lib.hid (HQ.out.step hB1)
      replace HXb:=Lib.hid (tie_wb hB1 HXb.out)
      replace HYb:=Lib.hid (tie_wb hB1 HYb.out)
      replace HDb:=Lib.hid (tie_wb hB1 HDb.out)
      replace VX:=Lib.hid (VX.out.later hB1)
      replace VY:=Lib.hid (VY.out.later hB1)
      replace HTB2:=Lib.hid (fun (W:World) (h:Below wy.heap.size wy W)=>HTB2.out W (hB1.trans (h.mono hB1.size)))
      replace D3:=Lib.hid (fun (W:World) (hb:Below wy.heap.size wy W)=>D3.out W (hB1.trans (hb.mono hB1.size)))
      replace T3:=Lib.hid (fun (W:World) (hb:Below wy.heap.size wy W)=>T3.out W (hB1.trans (hb.mono hB1.size)))
      clear hw1 hv1 hB1 KEEP HF D2 T2
      clear s0 s1 s2 s3 s4 s5 s6 s7 s8 s9 s10 s11 s12 s13 s14 s15 s16 s17 s18 s19 s20 s21 s22 s23 s24 s25 s26 s27 s28
      go_wp2_with fail
      have KEEP:=Lib.hid (fun (W:World) (hb:Below wy.heap.size wy W)=>(show W.cell? ⟨bv,0,none⟩=some (.int .u8 U.kind)∧W.cell? ⟨bv,1,none⟩=some (.int .i64 U.num)∧W.cell? ⟨bv,2,none⟩=some (.string U.str)∧W.cell? ⟨bv,3,none⟩=some (.slice VL U.items.length vl)∧W.cell? ⟨bv,4,none⟩=some (.slice B U.vals.length bo)∧W.cell? ⟨bx,0,none⟩=some (.int .u8 2)∧W.cell? ⟨bx,1,none⟩=some (.slice none 0 0)∧W.cell? ⟨bx,2,none⟩=some (.string K)∧W.cell? ⟨bx,3,none⟩=some (.int .i64 0)∧W.cell? ⟨bx,4,none⟩=some (.int .i64 0)∧W.cell? ⟨bx,5,none⟩=some (.int .i64 0)∧W.cell? ⟨bx,6,none⟩=some (.int .u8 X.kind)∧W.cell? ⟨bx,7,none⟩=some (.int .i64 X.num)∧W.cell? ⟨bx,8,none⟩=some (.string X.str)∧W.cell? ⟨bx,9,none⟩=some (.slice XL X.items.length xl)∧W.cell? ⟨bx,10,none⟩=some (.slice XO X.vals.length xo)∧W.cell? ⟨bx,11,none⟩=some (.string ⟨#[]⟩)∧W.cell? ⟨b6+1,0,none⟩=some (.int .u8 3)∧W.cell? ⟨b6+1,1,none⟩=some (.slice none 0 0)∧W.cell? ⟨b6+1,2,none⟩=some (.string K)∧W.cell? ⟨b6+1,3,none⟩=some (.int .i64 0)∧W.cell? ⟨b6+1,4,none⟩=some (.int .i64 0)∧W.cell? ⟨b6+1,5,none⟩=some (.int .i64 0)∧W.cell? ⟨b6+1,6,none⟩=some (.int .u8 0)∧W.cell? ⟨b6+1,7,none⟩=some (.int .i64 0)∧W.cell? ⟨b6+1,8,none⟩=some (.string ⟨#[]⟩)∧W.cell? ⟨b6+1,9,none⟩=some (.slice none 0 0)∧W.cell? ⟨b6+1,10,none⟩=some (.slice none 0 0)∧W.cell? ⟨b6+1,11,none⟩=some (.string ⟨#[]⟩) from And.intro (((HQ.out.v.below hb HQ.out.v.lt).cell 0).trans rfl) (And.intro (((HQ.out.v.below hb HQ.out.v.lt).cell 1).trans rfl) (And.intro (((HQ.out.v.below hb HQ.out.v.lt).cell 2).trans rfl) (And.intro (((HQ.out.v.below hb HQ.out.v.lt).cell 3).trans rfl) (And.intro (((HQ.out.v.below hb HQ.out.v.lt).cell 4).trans rfl) (And.intro (((HXb.out.below hb HXb.out.lt).cell 0).trans rfl) (And.intro (((HXb.out.below hb HXb.out.lt).cell 1).trans rfl) (And.intro (((HXb.out.below hb HXb.out.lt).cell 2).trans rfl) (And.intro (((HXb.out.below hb HXb.out.lt).cell 3).trans rfl) (And.intro (((HXb.out.below hb HXb.out.lt).cell 4).trans rfl) (And.intro (((HXb.out.below hb HXb.out.lt).cell 5).trans rfl) (And.intro (((HXb.out.below hb HXb.out.lt).cell 6).trans rfl) (And.intro (((HXb.out.below hb HXb.out.lt).cell 7).trans rfl) (And.intro (((HXb.out.below hb HXb.out.lt).cell 8).trans rfl) (And.intro (((HXb.out.below hb HXb.out.lt).cell 9).trans rfl) (And.intro (((HXb.out.below hb HXb.out.lt).cell 10).trans rfl) (And.intro (((HXb.out.below hb HXb.out.lt).cell 11).trans rfl) (And.intro (((HDb.out.below hb HDb.out.lt).cell 0).trans rfl) (And.intro (((HDb.out.below hb HDb.out.lt).cell 1).trans rfl) (And.intro (((HDb.out.below hb HDb.out.lt).cell 2).trans rfl) (And.intro (((HDb.out.below hb HDb.out.lt).cell 3).trans rfl) (And.intro (((HDb.out.below hb HDb.out.lt).cell 4).trans rfl) (And.intro (((HDb.out.below hb HDb.out.lt).cell 5).trans rfl) (And.intro (((HDb.out.below hb HDb.out.lt).cell 6).trans rfl) (And.intro (((HDb.out.below hb HDb.out.lt).cell 7).trans rfl) (And.intro (((HDb.out.below hb HDb.out.lt).cell 8).trans rfl) (And.intro (((HDb.out.below hb HDb.out.lt).cell 9).trans rfl) (And.intro (((HDb.out.below hb HDb.out.lt).cell 10).trans rfl) (((HDb.out.below hb HDb.out.lt).cell 11).trans rfl))))))))))))))))))))))))))))))
      obtain ⟨s0,s1,s2,s3,s4,_⟩:=HQ.out.v.five
      obtain ⟨s5,s6,s7,s8,s9,s10,s11,s12,s13,s14,s15,s16,_⟩:=HXb.out.tw
      obtain ⟨s17,s18,s19,s20,s21,s22,s23,s24,s25,s26,s27,s28,_⟩:=HDb.out.tw
      have HF:=Lib.hid (fun (W:World) (g:Nat) (h:Whole W g 36 #[.int .u8 3,.slice none 0 0,.string K,.int .i64 0,.int .i64 0,.int .i64 0,.int .u8 0,.int .i64 0,.string ⟨#[]⟩,.slice none 0 0,.slice none 0 0,.string ⟨#[]⟩])=>(fun (b:Addr) (e:some (⟨g,0,none⟩:Addr)=some b) (j:Nat) (u:Value) (hj:(cells12 ⟨tieD K,none,0,none,0,none,0⟩)[j]? = some u)=>tie_row (l:=cells12 ⟨tieD K,none,0,none,0,none,0⟩) h rfl b e j u hj))
      go_cut [19,20] (TieCut wy (tieIn U K X))
      case first=>
       clear HTB2 HU HSX HYb HTB R1 R2
       go_region_held3 (fun W=>W.cell? ⟨bv,0,none⟩=some (.int .u8 U.kind)∧W.cell? ⟨bv,1,none⟩=some (.int .i64 U.num)∧W.cell? ⟨bv,2,none⟩=some (.string U.str)∧W.cell? ⟨bv,3,none⟩=some (.slice VL U.items.length vl)∧W.cell? ⟨bv,4,none⟩=some (.slice B U.vals.length bo)∧W.cell? ⟨bx,0,none⟩=some (.int .u8 2)∧W.cell? ⟨bx,1,none⟩=some (.slice none 0 0)∧W.cell? ⟨bx,2,none⟩=some (.string K)∧W.cell? ⟨bx,3,none⟩=some (.int .i64 0)∧W.cell? ⟨bx,4,none⟩=some (.int .i64 0)∧W.cell? ⟨bx,5,none⟩=some (.int .i64 0)∧W.cell? ⟨bx,6,none⟩=some (.int .u8 X.kind)∧W.cell? ⟨bx,7,none⟩=some (.int .i64 X.num)∧W.cell? ⟨bx,8,none⟩=some (.string X.str)∧W.cell? ⟨bx,9,none⟩=some (.slice XL X.items.length xl)∧W.cell? ⟨bx,10,none⟩=some (.slice XO X.vals.length xo)∧W.cell? ⟨bx,11,none⟩=some (.string ⟨#[]⟩)∧W.cell? ⟨b6+1,0,none⟩=some (.int .u8 3)∧W.cell? ⟨b6+1,1,none⟩=some (.slice none 0 0)∧W.cell? ⟨b6+1,2,none⟩=some (.string K)∧W.cell? ⟨b6+1,3,none⟩=some (.int .i64 0)∧W.cell? ⟨b6+1,4,none⟩=some (.int .i64 0)∧W.cell? ⟨b6+1,5,none⟩=some (.int .i64 0)∧W.cell? ⟨b6+1,6,none⟩=some (.int .u8 0)∧W.cell? ⟨b6+1,7,none⟩=some (.int .i64 0)∧W.cell? ⟨b6+1,8,none⟩=some (.string ⟨#[]⟩)∧W.cell? ⟨b6+1,9,none⟩=some (.slice none 0 0)∧W.cell? ⟨b6+1,10,none⟩=some (.slice none 0 0)∧W.cell? ⟨b6+1,11,none⟩=some (.string ⟨#[]⟩))
        (first | with_reducible exact KEEP.out _ (tie_s5b B9.out (by first | exact (Nat.le_refl _) | exact (Nat.le_succ _) | exact B7.out.size | exact (Nat.le_succ_of_le B7.out.size) | exact B8.out.size | exact (Nat.le_trans (Nat.le_trans G1.out.size G2.out.size) (Nat.le_refl _)) | exact (Nat.le_trans (Nat.le_trans G1.out.size G2.out.size) (Nat.le_succ _)) | exact (Nat.le_trans (Nat.le_trans G1.out.size G2.out.size) B7.out.size) | exact (Nat.le_trans (Nat.le_trans G1.out.size G2.out.size) (Nat.le_succ_of_le B7.out.size)) | exact (Nat.le_trans (Nat.le_trans G1.out.size G2.out.size) B8.out.size)) _ _ _ _ _) | with_reducible exact KEEP.out _ (by (repeat (first | with_reducible exact B9.out | with_reducible exact B8.out | with_reducible exact B7.out | with_reducible exact Below.refl _ _ | with_reducible refine tie_bd ?_ | with_reducible refine tie_ba ?_ _))<;>fail))
        (first
         | (go_at_call 9;((with_reducible refine (T3.out _ (by (repeat (first | with_reducible exact Below.refl _ _ | with_reducible refine tie_bd ?_ | with_reducible refine tie_ba ?_ _))<;>fail)).mono ?_);rintro e w7 ⟨b7,A7,XL7,XO7,cp7,xl7,xo7,rfl,h7,hc7,hb⟩;have HB7:=Lib.hid hb;have B7:=Lib.hid (show Below wy.heap.size wy w7 from Below.trans (by (repeat (first | with_reducible exact Below.refl _ _ | with_reducible refine tie_bd ?_ | with_reducible refine tie_ba ?_ _))<;>fail) (hb.mono ((show Below wy.heap.size wy _ from (by (repeat (first | with_reducible exact Below.refl _ _ | with_reducible refine tie_bd ?_ | with_reducible refine tie_ba ?_ _))<;>fail)).size)));have H7:=Lib.hid (And.intro h7 hc7);clear h7 hc7 hb))
         | (refine step_append_full rfl (.tmp 101) (.tmp 104) 39 rfl 36 i1 _ 12 168 Tryd.underlying39 HI1.out.1 HI1.out.2.1 HI1.out.2.2.1 HI1.out.2.2.2 rfl (by decide) _ 1 1 (cells12 ⟨tieD K,none,0,none,0,none,0⟩) rfl (fun h=>by cases h) rfl ?hh ⟨b7,0,none⟩ 1 1 (cells12 ⟨tieP K X,A7,cp7,XL7,xl7,XO7,xo7⟩) rfl rfl (H7.out.1 _ (by (repeat (first | with_reducible exact Below.refl _ _ | with_reducible refine tie_bd ?_ | with_reducible refine tie_ba ?_ _))<;>fail)) (cells12_one _) (by decide) (by decide) (by decide) ?_;(case hh=>exact HF.out _ _ (by (repeat (first | with_reducible exact tie_wn (by first | rfl | (simp;done)) | with_reducible refine tie_wa ?_ _ | with_reducible refine tie_wd ?_ | with_reducible refine tie_wb HB9.out ?_ | with_reducible refine tie_wb HB8.out ?_ | with_reducible refine tie_wb HB7.out ?_))<;>fail));intro v8 w8 hown8 hgrow8;have HB8:=Lib.hid (tie_grown hgrow8);have B8:=Lib.hid (show Below wy.heap.size wy w8 from Below.trans (by (repeat (first | with_reducible exact B9.out | with_reducible exact B8.out | with_reducible exact B7.out | with_reducible exact Below.refl _ _ | with_reducible refine tie_bd ?_ | with_reducible refine tie_ba ?_ _))<;>fail) (HB8.out.mono ((show Below wy.heap.size wy _ from (by (repeat (first | with_reducible exact B9.out | with_reducible exact B8.out | with_reducible exact B7.out | with_reducible exact Below.refl _ _ | with_reducible refine tie_bd ?_ | with_reducible refine tie_ba ?_ _))<;>fail)).size)));obtain ⟨g8,c8,rfl,_,hg8,hc8,hm8,hcell8⟩:=tie_own (n:=1) hown8;have OP8:=Lib.hid (ops_two (e:=⟨tieD K,none,0,none,0,none,0⟩) (f:=⟨tieP K X,A7,cp7,XL7,xl7,XO7,xo7⟩) hc8 hm8 hg8 hcell8 ⟨tieD_cc,HMS.out.2.2⟩ ⟨(H7.out.2.later (show Below w7.heap.size w7 _ from (by (repeat (first | with_reducible exact Below.refl _ _ | with_reducible refine tie_bd ?_ | with_reducible refine tie_ba ?_ _))<;>fail))).later HB8.out,HMS.out.1⟩);clear hown8 hgrow8 hg8 hc8 hm8 hcell8)
         | (go_at_call 8;(with_reducible refine (D3.out _ ?hb A7 XL7 XO7 cp7 xl7 xo7 g8 c8 (OP8.out.later ?ho)).mono ?_);(case hb=>exact (by (repeat (first | with_reducible exact B9.out | with_reducible exact B8.out | with_reducible exact B7.out | with_reducible exact Below.refl _ _ | with_reducible refine tie_bd ?_ | with_reducible refine tie_ba ?_ _))<;>fail));(case ho=>exact (by (repeat (first | with_reducible exact Below.refl _ _ | with_reducible refine tie_bd ?_ | with_reducible refine tie_ba ?_ _))<;>fail));rintro e w9 ⟨ZL,ZO,zl,zo,rfl,hv,hb⟩;have HV9:=Lib.hid hv;have HB9:=Lib.hid hb;have B9:=Lib.hid (show Below wy.heap.size wy w9 from Below.trans (by (repeat (first | with_reducible exact B9.out | with_reducible exact B8.out | with_reducible exact B7.out | with_reducible exact Below.refl _ _ | with_reducible refine tie_bd ?_ | with_reducible refine tie_ba ?_ _))<;>fail) (hb.mono ((show Below wy.heap.size wy _ from (by (repeat (first | with_reducible exact B9.out | with_reducible exact B8.out | with_reducible exact B7.out | with_reducible exact Below.refl _ _ | with_reducible refine tie_bd ?_ | with_reducible refine tie_ba ?_ _))<;>fail)).size)));(first | (with_reducible have HZ9:=Lib.hid (tie_wbl (t:=31) (cs:=#[.int .u8 0,.int .i64 0,.string ⟨#[]⟩,.slice none 0 0,.slice none 0 0]) hb (tie_wn1 w8 _ _));obtain ⟨z0,z1,z2,z3,z4,f0,f1,f2,f3,f4⟩:=HZ9.out.1.five) | (with_reducible have HZ9:=Lib.hid (tie_wbl (t:=31) (cs:=#[.int .u8 0,.int .i64 0,.string ⟨#[]⟩,.slice none 0 0,.slice none 0 0]) hb (tie_wb HB8.out (tie_wn1 w7 _ _)));obtain ⟨z0,z1,z2,z3,z4,f0,f1,f2,f3,f4⟩:=HZ9.out.1.five) | (with_reducible have HZ9:=Lib.hid (tie_wbl (t:=31) (cs:=#[.int .u8 0,.int .i64 0,.string ⟨#[]⟩,.slice none 0 0,.slice none 0 0]) hb (tie_wb HB8.out (tie_wn2 w7 _ _ _)));obtain ⟨z0,z1,z2,z3,z4,f0,f1,f2,f3,f4⟩:=HZ9.out.1.five) | (with_reducible have HZ9:=Lib.hid (tie_wbl (t:=31) (cs:=#[.int .u8 0,.int .i64 0,.string ⟨#[]⟩,.slice none 0 0,.slice none 0 0]) hb (tie_wb HB8.out (tie_wa (tie_wn1 w7 _ _) _)));obtain ⟨z0,z1,z2,z3,z4,f0,f1,f2,f3,f4⟩:=HZ9.out.1.five) | (with_reducible have HZ9:=Lib.hid (tie_wbl (t:=31) (cs:=#[.int .u8 0,.int .i64 0,.string ⟨#[]⟩,.slice none 0 0,.slice none 0 0]) hb (tie_wb HB8.out (tie_wb HB7.out (tie_wd (tie_wn1 wy _ _)))));obtain ⟨z0,z1,z2,z3,z4,f0,f1,f2,f3,f4⟩:=HZ9.out.1.five) | (with_reducible have HZ9:=Lib.hid (tie_wbl (t:=31) (cs:=#[.int .u8 0,.int .i64 0,.string ⟨#[]⟩,.slice none 0 0,.slice none 0 0]) hb (tie_wb HB8.out (tie_wa (tie_wb HB7.out (tie_wd (tie_wn1 wy _ _))) _)));obtain ⟨z0,z1,z2,z3,z4,f0,f1,f2,f3,f4⟩:=HZ9.out.1.five) | (with_reducible have HZ9:=Lib.hid (tie_wbl (t:=31) (cs:=#[.int .u8 0,.int .i64 0,.string ⟨#[]⟩,.slice none 0 0,.slice none 0 0]) hb (tie_wb HB8.out (tie_wb HB7.out (tie_wd (tie_wa (tie_wn1 wy _ _) _)))));obtain ⟨z0,z1,z2,z3,z4,f0,f1,f2,f3,f4⟩:=HZ9.out.1.five) | (with_reducible have HZ9:=Lib.hid (tie_wbl (t:=31) (cs:=#[.int .u8 0,.int .i64 0,.string ⟨#[]⟩,.slice none 0 0,.slice none 0 0]) hb (tie_wb HB8.out (tie_wb HB7.out (tie_wd (tie_wn2 wy _ _ _)))));obtain ⟨z0,z1,z2,z3,z4,f0,f1,f2,f3,f4⟩:=HZ9.out.1.five) | skip);clear hv hb))
       all_goals as_aux_lemma=>
        all_goals clear KEEP HF D3 T3 HQ HXb VX VY HMS HI1 HDb s0 s1 s2 s3 s4 s5 s6 s7 s8 s9 s10 s11 s12 s13 s14 s15 s16 s17 s18 s19 s20 s21 s22 s23 s24 s25 s26 s27 s28
        all_goals go_wp2_with fail
        all_goals go_meet
        all_goals refine ⟨_,ZL,ZO,zl,zo,rfl,rfl,?_,?_,?_⟩
        all_goals first | with_reducible exact tie_s5w HZ9.out.1 _ _ _ _ _ | with_reducible exact tie_s5v HV9.out (by first | exact (Nat.le_refl _) | exact (Nat.le_succ _) | exact B7.out.size | exact (Nat.le_succ_of_le B7.out.size) | exact B8.out.size | exact (Nat.le_trans (Nat.le_trans G1.out.size G2.out.size) (Nat.le_refl _)) | exact (Nat.le_trans (Nat.le_trans G1.out.size G2.out.size) (Nat.le_succ _)) | exact (Nat.le_trans (Nat.le_trans G1.out.size G2.out.size) B7.out.size) | exact (Nat.le_trans (Nat.le_trans G1.out.size G2.out.size) (Nat.le_succ_of_le B7.out.size)) | exact (Nat.le_trans (Nat.le_trans G1.out.size G2.out.size) B8.out.size)) HZ9.out.2 _ _ _ _ _ | with_reducible exact tie_s5b B9.out (by first | exact (Nat.le_refl _) | exact (Nat.le_succ _) | exact B7.out.size | exact (Nat.le_succ_of_le B7.out.size) | exact B8.out.size | exact (Nat.le_trans (Nat.le_trans G1.out.size G2.out.size) (Nat.le_refl _)) | exact (Nat.le_trans (Nat.le_trans G1.out.size G2.out.size) (Nat.le_succ _)) | exact (Nat.le_trans (Nat.le_trans G1.out.size G2.out.size) B7.out.size) | exact (Nat.le_trans (Nat.le_trans G1.out.size G2.out.size) (Nat.le_succ_of_le B7.out.size)) | exact (Nat.le_trans (Nat.le_trans G1.out.size G2.out.size) B8.out.size)) _ _ _ _ _ | exact tie_wn1 w9 _ _ | exact HV9.out.vl.later (below_alloc _ _) | exact tie_ba B9.out _
      case rest=>
       obtain ⟨b31,P3L,P3O,p3l,p3o,rfl,rfl,hw1,hv1,hB1⟩:=hcut
       obtain ⟨wx,hwz⟩:∃ W,W=wc:=⟨_,rfl⟩
       subst hwz
       have G3:=Lib.hid hB1
       have R3:=Lib.hid (And.intro hw1 hv1)
       replace R1:=Lib.hid (And.intro (R1.out.1.below hB1 R1.out.1.lt) (R1.out.2.later hB1))
       replace R2:=Lib.hid (And.intro (R2.out.1.below hB1 R2.out.1.lt) (R2.out.2.later hB1))
       replace HQ:=Lib.hid (HQ.out.step hB1)
       replace HXb:=Lib.hid (tie_wb hB1 HXb.out)
       replace HYb:=Lib.hid (tie_wb hB1 HYb.out)
       replace HDb:=Lib.hid (tie_wb hB1 HDb.out)
       replace VX:=Lib.hid (VX.out.later hB1)
       replace VY:=Lib.hid (VY.out.later hB1)
       replace HTB2:=Lib.hid (fun (W:World) (h:Below wx.heap.size wx W)=>HTB2.out W (hB1.trans (h.mono hB1.size)))
       clear hw1 hv1 hB1 KEEP HF D3 T3
       clear s0 s1 s2 s3 s4 s5 s6 s7 s8 s9 s10 s11 s12 s13 s14 s15 s16 s17 s18 s19 s20 s21 s22 s23 s24 s25 s26 s27 s28
       skip
       obtain ⟨v0,v1,v2,v3,v4,_⟩:=HQ.out.v.five
       obtain ⟨x0,x1,x2,x3,x4,x5,x6,x7,x8,x9,x10,x11,_⟩:=HXb.out.tw
       have HDO:=Lib.hid (ref_DoO U VL B vl bo (tieP K X) none XL XO 0 xl xo wx HQ.out.vl.vl (tieP_cc VX.out) (by have:=HU.out.1;omega) HMS.out.1 HSX.out.2 HU.out.2.2.sound (HTB2.out wx (Below.refl _ _)) (does_outc (tie_put HU.out.2.2 HSX.out.1)))
       go_upto_region 19 with (go_at_call 10;refine HDO.out.mono ?_;rintro e w8 ⟨YL8,YO8,yl8,yo8,rfl,hv,hb⟩;have H8:=Lib.hid (And.intro hv.vl hb);clear hv hb v0 v1 v2 v3 v4 x0 x1 x2 x3 x4 x5 x6 x7 x8 x9 x10 x11)
       have HB8:=Lib.hid (HQ.out.ab.below.trans ((H8.out.2.trans (below_alloc w8 (.cells #[.int .u8 (tieIn U K X).kind,.int .i64 (tieIn U K X).num,.string (tieIn U K X).str,.slice YL8 (tieIn U K X).items.length yl8,.slice YO8 (tieIn U K X).vals.length yo8] 31) |>.mono H8.out.2.size)).mono HQ.out.ab.below.size))
       have M8:=Lib.hid (And.intro (tie_wn1 w8 31 #[.int .u8 (tieIn U K X).kind,.int .i64 (tieIn U K X).num,.string (tieIn U K X).str,.slice YL8 (tieIn U K X).items.length yl8,.slice YO8 (tieIn U K X).vals.length yo8]) (H8.out.1.later (below_alloc w8 (.cells #[.int .u8 (tieIn U K X).kind,.int .i64 (tieIn U K X).num,.string (tieIn U K X).str,.slice YL8 (tieIn U K X).items.length yl8,.slice YO8 (tieIn U K X).vals.length yo8] 31))))
       replace R1:=Lib.hid (And.intro ((R1.out.1.below H8.out.2 R1.out.1.lt).alloc (.cells #[.int .u8 (tieIn U K X).kind,.int .i64 (tieIn U K X).num,.string (tieIn U K X).str,.slice YL8 (tieIn U K X).items.length yl8,.slice YO8 (tieIn U K X).vals.length yo8] 31)) ((R1.out.2.later H8.out.2).later (below_alloc w8 (.cells #[.int .u8 (tieIn U K X).kind,.int .i64 (tieIn U K X).num,.string (tieIn U K X).str,.slice YL8 (tieIn U K X).items.length yl8,.slice YO8 (tieIn U K X).vals.length yo8] 31))))
       replace R2:=Lib.hid (And.intro ((R2.out.1.below H8.out.2 R2.out.1.lt).alloc (.cells #[.int .u8 (tieIn U K X).kind,.int .i64 (tieIn U K X).num,.string (tieIn U K X).str,.slice YL8 (tieIn U K X).items.length yl8,.slice YO8 (tieIn U K X).vals.length yo8] 31)) ((R2.out.2.later H8.out.2).later (below_alloc w8 (.cells #[.int .u8 (tieIn U K X).kind,.int .i64 (tieIn U K X).num,.string (tieIn U K X).str,.slice YL8 (tieIn U K X).items.length yl8,.slice YO8 (tieIn U K X).vals.length yo8] 31))))
       replace R3:=Lib.hid (And.intro ((R3.out.1.below H8.out.2 R3.out.1.lt).alloc (.cells #[.int .u8 (tieIn U K X).kind,.int .i64 (tieIn U K X).num,.string (tieIn U K X).str,.slice YL8 (tieIn U K X).items.length yl8,.slice YO8 (tieIn U K X).vals.length yo8] 31)) ((R3.out.2.later H8.out.2).later (below_alloc w8 (.cells #[.int .u8 (tieIn U K X).kind,.int .i64 (tieIn U K X).num,.string (tieIn U K X).str,.slice YL8 (tieIn U K X).items.length yl8,.slice YO8 (tieIn U K X).vals.length yo8] 31))))
       generalize w8.heap.size=b8 at *
       generalize (w8.alloc (.cells #[.int .u8 (tieIn U K X).kind,.int .i64 (tieIn U K X).num,.string (tieIn U K X).str,.slice YL8 (tieIn U K X).items.length yl8,.slice YO8 (tieIn U K X).vals.length yo8] 31))=Wx at *
       have hyw:(tieIn U K X).weight≤1000000000:=by have:=(does_outc (tie_put HU.out.2.2 HSX.out.1)).weight HMS.out.1;have:=HU.out.1;omega
       have E1:=Lib.hid (fun (W:World) (hb:Below Wx.heap.size Wx W)=>same_is (R1.out.2.later hb) (M8.out.2.later hb) hyw)
       have E2:=Lib.hid (fun (W:World) (hb:Below Wx.heap.size Wx W)=>same_is (R2.out.2.later hb) (M8.out.2.later hb) hyw)
       have E3:=Lib.hid (fun (W:World) (hb:Below Wx.heap.size Wx W)=>same_is (R3.out.2.later hb) (M8.out.2.later hb) hyw)
       clear HQ HXb HYb HDb VX VY HTB2 HU HSX HMS HI1 G1 G2 G3 H8 HDO hyw
       obtain ⟨a0,a1,a2,a3,a4,_⟩:=R1.out.1.five
       obtain ⟨m0,m1,m2,m3,m4,_⟩:=M8.out.1.five
       go_wp2_with (first
        | (go_at_call 11;((with_reducible refine (E1.out _ (Below.refl _ _)).mono ?_);rintro e w9 ⟨rfl,hb⟩;have B9:=Lib.hid (show Below Wx.heap.size Wx w9 from hb);clear hb a0 a1 a2 a3 a4 m0 m1 m2 m3 m4;obtain ⟨a0,a1,a2,a3,a4,_⟩:=(R2.out.1.below B9.out R2.out.1.lt).five;obtain ⟨m0,m1,m2,m3,m4,_⟩:=(M8.out.1.below B9.out M8.out.1.lt).five))
        | (go_at_call 11;((with_reducible refine (E2.out _ B9.out).mono ?_);rintro e w10 ⟨rfl,hb⟩;have B10:=Lib.hid (show Below Wx.heap.size Wx w10 from B9.out.trans (hb.mono B9.out.size));clear hb a0 a1 a2 a3 a4 m0 m1 m2 m3 m4;obtain ⟨a0,a1,a2,a3,a4,_⟩:=(R3.out.1.below B10.out R3.out.1.lt).five;obtain ⟨m0,m1,m2,m3,m4,_⟩:=(M8.out.1.below B10.out M8.out.1.lt).five))
        | (go_at_call 11;((with_reducible refine (E3.out _ B10.out).mono ?_);rintro e w11 ⟨rfl,hb⟩;have B11:=Lib.hid (show Below Wx.heap.size Wx w11 from B10.out.trans (hb.mono B10.out.size));clear hb a0 a1 a2 a3 a4 m0 m1 m2 m3 m4)))
       go_ret
       exact ⟨rfl,HB8.out.trans (B11.out.mono HB8.out.size)⟩
end Go.Proofs.YtlhfnemcpgfcdaaDoor
