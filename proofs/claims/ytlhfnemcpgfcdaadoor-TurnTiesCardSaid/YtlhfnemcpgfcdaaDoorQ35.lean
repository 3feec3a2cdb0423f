/- The document's own Do of a component. -/
import Derived.Test.YtlhfnemcpgfcdaaDoorQ29
import Derived.Test.YtlhfnemcpgfcdaaDoorQ31
import Derived.Test.YtlhfnemcpgfcdaaDoorQ33
import Derived.Test.YtlhfnemcpgfcdaaDoorQ34
import Derived.Test.YtlhfnemcpgfcdaaDoorQ21
set_option maxRecDepth 100000
set_option maxHeartbeats 8000000
namespace Go.Proofs.YtlhfnemcpgfcdaaDoor
open Go Go.RowKit Go.Shelf
set_option linter.unusedVariables false
set_option linter.unusedSimpArgs false
theorem DB.later {w W W':World} {cg cc cr:Array Value} (h:DB w W cg cc cr) (hb:Below W.heap.size W W'):DB w W' cg cc cr:=h.step (Nat.succ_le_of_lt h.r.lt) hb
theorem DB.set {w W:World} {cg cc cr:Array Value} (h:DB w W cg cc cr) {X:Nat} (hX:w.heap.size+1+1<X) (j:Nat) (u:Value):DB w (W.setCell ⟨X,j,none⟩ u) cg cc cr:=
 ⟨h.g.of_eq (Below.heap_setCell _ _ _ _ (by simp only;omega)),h.c.of_eq (Below.heap_setCell _ _ _ _ (by simp only;omega)),h.r.of_eq (Below.heap_setCell _ _ _ _ (by simp only;omega)),h.below.setCell (p:=⟨X,j,none⟩) (by simp only;omega) _⟩
def RDone (y:GV) (w:World) (e:Ending) (w':World):Prop:=∃ BL BO dB dP,e=.returned (.tuple #[.agg #[.int .u8 y.kind,.int .i64 y.num,.string y.str,.slice BL y.items.length dB,.slice BO y.vals.length dP],.int .i64 0])∧VlNew w.heap.size w' y BL BO dB dP∧Below w.heap.size w w'
theorem ins_rem_set {l:List GV} {i:Nat} {v:GV} (hi:i<l.length):insL (remL l i) i v=l.set i v:=by
 unfold insL remL
 rw [List.set_eq_take_append_cons_drop,if_pos hi]
 rw [List.take_append_of_le_length (by simp;omega),List.drop_append_of_le_length (by simp;omega),List.take_take,Nat.min_self,List.drop_of_length_le (l:=l.take i) (by simp;omega)]
 rfl
theorem ref_DoL (A0:Option Addr) (c0:Nat) (l:List GV) (k i j:Nat) (g:GV) (A AL AO:Option Addr) (pl cp cL cO:Nat) (ky cs:ByteArray) (n:Int) (w:World) (hL:ListIn l A0 c0 w) (hok:okC l.length (⟨k,i,j,g⟩:Cm GV)) (hn:l.length≤1000000) (hw:GV.weights l≤900000000) (hv:Vl w g AL AO cL cO) (hgw:g.weight≤1000000000):
  Calls Tryd.prog 23 #[.slice A0 l.length c0,.agg #[.int .u8 k,.slice A pl cp,.string ky,.int .i64 i,.int .i64 j,.int .i64 n,.int .u8 g.kind,.int .i64 g.num,.string g.str,.slice AL g.items.length cL,.slice AO g.vals.length cO,.string cs]] w (RDoN (doL l ⟨k,i,j,g⟩) w):=by
 unfold okC at hok
 simp only at hok
 by_cases h4:k=4
 ·subst h4
  rw [show doL l ⟨4,i,j,g⟩=insL l i g from rfl]
  exact ndo_ins A0 c0 l 4 i j g A AL AO pl cp cL cO ky cs n w hL rfl (by omega) hn hw hv hgw
 ·by_cases h5:k=5
  ·subst h5
   rw [show doL l ⟨5,i,j,g⟩=remL l i from rfl]
   exact ndo_rem A0 c0 l 5 i j g A AL AO pl cp cL cO ky cs n w hL rfl (by omega) hn hw hv hgw
  ·by_cases h6:k=6
   ·subst h6
    rw [do_set rfl,ins_rem_set (show i<l.length by omega)]
    exact ndo_set A0 c0 l 6 i j g A AL AO pl cp cL cO ky cs n w hL rfl (by omega) hn hw hv hgw
   ·have h7:k=7:=by omega
    subst h7
    rw [do_move rfl (show i<l.length by omega)]
    exact ndo_move A0 c0 l 7 i j g A AL AO pl cp cL cO ky cs n w hL rfl (by omega) (by omega) hn hw hv hgw
theorem len_weights (l:List GV):l.length≤GV.weights l:=by
 induction l with
 | nil=>simp [GV.weights]
 | cons g r ih=>have:=weight_is g;simp only [GV.weights,List.length_cons];omega
theorem doH_f {h:GV} {c:GC} (hk:c.kind=2∨c.kind=3):(doH h c).kind=h.kind∧(doH h c).num=h.num∧(doH h c).str=h.str∧(doH h c).items=h.items:=by
 unfold doH
 rcases hk with hk | hk
 ·rw [if_neg (by omega),if_pos hk];split<;>exact ⟨rfl,rfl,rfl,rfl⟩
 ·rw [if_neg (by omega),if_neg (by omega),if_pos hk];exact ⟨rfl,rfl,rfl,rfl⟩
theorem doH_l {h:GV} {c:GC} (hk:4≤c.kind∧c.kind≤7):doH h c=.mk h.kind h.num h.str (doL h.items ⟨c.kind.toNat,c.i.toNat,c.j.toNat,c.v⟩) h.keys h.vals:=by
 unfold doH
 rw [if_neg (by omega),if_neg (by omega),if_neg (by omega),if_neg (by omega),if_neg (by omega)]
theorem sound_keysok {h:GV} (hh:h.Sound) (h5:h.kind=5):KeysOk h.keys:=by
 obtain ⟨k,n,s,l,ks,ov⟩:=h
 unfold GV.Sound SelfP at hh
 rcases hh.1.2.2.2.2 with h | h
 ·exact h.2
 ·exact absurd h5 h.1
theorem dchk (g:GV) (GL GO:Option Addr) (eL eO:Nat) (c:GC) (A AL AO:Option Addr) (cp cL cO:Nat) (w:World) (hg:Vl w g GL GO eL eO) (hc:Cc w c A AL AO cp cL cO) (hgw:g.weight≤1000000) (hs:Small c) (hpos:c.v.Pos) (hT:Tabs w) {n:Int} (hchk:ChkIs g c n) (W:World) (hb:Below w.heap.size w W):
  Calls Tryd.prog 19 #[.agg #[.int .u8 g.kind,.int .i64 g.num,.string g.str,.slice GL g.items.length eL,.slice GO g.vals.length eO],.agg #[.int .u8 c.kind,.slice A c.path.length cp,.string c.key,.int .i64 c.i,.int .i64 c.j,.int .i64 c.n,.int .u8 c.v.kind,.int .i64 c.v.num,.string c.v.str,.slice AL c.v.items.length cL,.slice AO c.v.vals.length cO,.string c.s]] W fun e w'=>e=.returned (.int .i64 n)∧Below W.heap.size W w':=
 (ref_CheckC g GL GO eL eO c A AL AO cp cL cO W (hg.later hb) (hc.later hb) (by omega) hs hpos (hT.below hb (Nat.le_refl _))).mono fun e w' ⟨m,he,hm,hb'⟩=>⟨by rw [he,chk_one hm hchk],hb'⟩
theorem dget (g:GV) (GL GO:Option Addr) (eL eO:Nat) (c:GC) (A:Option Addr) (cp:Nat) (w:World) (hg:Vl w g GL GO eL eO) (hp:Wy w A cp c.path) (hgw:g.weight≤1000000) (h:GV) (hget:g.get c.path=some h) (W:World) (hb:Below w.heap.size w W):
  Calls Tryd.prog 20 #[.agg #[.int .u8 g.kind,.int .i64 g.num,.string g.str,.slice GL g.items.length eL,.slice GO g.vals.length eO],.slice A c.path.length cp] W fun e w'=>∃ HL HO dL dO,e=.returned (.tuple #[.agg #[.int .u8 h.kind,.int .i64 h.num,.string h.str,.slice HL h.items.length dL,.slice HO h.vals.length dO],.int .i64 0])∧(LstV (fun k=>W.heap.size≤k) w' (.slice HL h.items.length dL) h.items∧ObjV (fun k=>W.heap.size≤k) w' (.slice HO h.vals.length dO) h.keys h.vals)∧Below W.heap.size W w':=
 (ref_Get (fun _=>True) _ g W.heap.size A cp c.path W (hg.later hb).val (hp.later hb).steps (Nat.le_refl _) hp.le hp.cap (Nat.le_trans (size_le_weight _) (by omega))).mono fun e w' ⟨hb',hq⟩=>by
  rcases hq with ⟨h1,_⟩ | ⟨h',v',h1,he,L,O,hv,hL,hO⟩
  ·rw [hget] at h1;cases h1
  ·rw [hget] at h1
   cases h1
   subst hv
   obtain ⟨HL,dL,rfl⟩:=lst_form hL
   obtain ⟨HO,dO,rfl⟩:=obj_form hO
   exact ⟨HL,HO,dL,dO,he,⟨hL,hO⟩,hb'⟩
theorem dput (g:GV) (GL GO:Option Addr) (eL eO:Nat) (c:GC) (A:Option Addr) (cp:Nat) (w:World) (hg:Vl w g GL GO eL eO) (hp:Wy w A cp c.path) (hgw:g.weight≤1000000) (h y:GV) (hput:g.put h c.path=some y) (hhw:h.weight≤1000000000) (W:World) (hb:Below w.heap.size w W) (XL XO:Option Addr) (xL xO:Nat) (hx:Vl W h XL XO xL xO):
  Calls Tryd.prog 24 #[.agg #[.int .u8 g.kind,.int .i64 g.num,.string g.str,.slice GL g.items.length eL,.slice GO g.vals.length eO],.slice A c.path.length cp,.agg #[.int .u8 h.kind,.int .i64 h.num,.string h.str,.slice XL h.items.length xL,.slice XO h.vals.length xO]] W fun e w'=>∃ BL BO dB dP,e=.returned (.tuple #[.agg #[.int .u8 y.kind,.int .i64 y.num,.string y.str,.slice BL y.items.length dB,.slice BO y.vals.length dP],.int .i64 0])∧(LstV (fun k=>W.heap.size≤k) w' (.slice BL y.items.length dB) y.items∧ObjV (fun k=>W.heap.size≤k) w' (.slice BO y.vals.length dP) y.keys y.vals)∧Below W.heap.size W w':=
 (ref_Put c.path (fun _=>True) _ _ g h W.heap.size A cp W (hg.later hb).val hx.val (hp.later hb).steps (Nat.le_refl _) hp.le hp.cap (Nat.le_trans (size_le_weight _) (by omega)) (Nat.le_trans (size_le_weight _) hhw)).mono fun e w' ⟨hb',hq⟩=>by
  rcases hq with ⟨h1,_⟩ | ⟨y',v',h1,he,L,O,hv,hL,hO⟩
  ·rw [hput] at h1;cases h1
  ·rw [hput] at h1
   cases h1
   subst hv
   obtain ⟨BL,dB,rfl⟩:=lst_form hL
   obtain ⟨BO,dP,rfl⟩:=obj_form hO
   exact ⟨BL,BO,dB,dP,he,⟨hL,hO⟩,hb'⟩
theorem docD_f2 (g:GV) (GL GO:Option Addr) (eL eO:Nat) (c:GC) (A AL AO:Option Addr) (cp cL cO:Nat) (w:World) (hg:Vl w g GL GO eL eO) (hc:Cc w c A AL AO cp cL cO) (hgw:g.weight≤1000000) (hs:Small c) (hpos:c.v.Pos) (hT:Tabs w) (h y:GV) (hS:c.Sound) (hget:g.get c.path=some h) (hck:chkH h c=0) (hput:g.put (doH h c) c.path=some y) (hgs:h.Sound) (hk0:c.kind=2):
  Calls Tryd.prog 10 #[.agg #[.int .u8 g.kind,.int .i64 g.num,.string g.str,.slice GL g.items.length eL,.slice GO g.vals.length eO],.agg #[.int .u8 c.kind,.slice A c.path.length cp,.string c.key,.int .i64 c.i,.int .i64 c.j,.int .i64 c.n,.int .u8 c.v.kind,.int .i64 c.v.num,.string c.v.str,.slice AL c.v.items.length cL,.slice AO c.v.vals.length cO,.string c.s]] w (RDone y w):=by
 have H0:=Lib.hid (DB.new w #[.int .u8 g.kind,.int .i64 g.num,.string g.str,.slice GL g.items.length eL,.slice GO g.vals.length eO] #[.int .u8 c.kind,.slice A c.path.length cp,.string c.key,.int .i64 c.i,.int .i64 c.j,.int .i64 c.n,.int .u8 c.v.kind,.int .i64 c.v.num,.string c.v.str,.slice AL c.v.items.length cL,.slice AO c.v.vals.length cO,.string c.s] #[.int .u8 0,.int .i64 0,.string ⟨#[]⟩,.slice none 0 0,.slice none 0 0])
 have hchk:ChkIs g c 0:=.inr ⟨hS,.inr ⟨h,hget,hck.symm⟩⟩
 have hcv:=hs.v
 have hck1:=hs.k
 have hcs:=hs.s
 have hhw:=get_weight c.path g h hget
 have hwi:=weight_is h
 have hll:=len_weights h.items
 have hlv:=len_weights h.vals
 have hdw:=doH_weight h c
 have HCK:=Lib.hid (dchk g GL GO eL eO c A AL AO cp cL cO w hg hc hgw hs hpos hT hchk)
 have HGE:=Lib.hid (dget g GL GO eL eO c A cp w hg hc.path hgw h hget)
 have hpu:=dput g GL GO eL eO c A cp w hg hc.path hgw (doH h c) y hput (by omega)
 have k1:(c.kind == 1)=false:=by simp;omega
 have k2:(c.kind == 2)=true:=by simp;omega
 have k3:(c.kind == 3)=false:=by simp;omega
 have k8:(c.kind == 8)=false:=by simp;omega
 have k9:(c.kind == 9)=false:=by simp;omega
 have hk:c.kind=2∨c.kind=3:=by omega
 have hdf:=doH_f (h:=h) hk
 simp only [hdf.1,hdf.2.1,hdf.2.2.1,hdf.2.2.2] at hpu
 have h5:h.kind=5:=by have:=chk_kind hck;unfold worksOn at this;omega
 have hth:c.kind=3→there c.key h.keys=true:=fun h3=>chk_there hck h3
 have hfk:c.kind=2∨(c.kind=3∧there c.key h.keys=true):=by rcases hk with h2 | h3;exact .inl h2;exact .inr ⟨h3,hth h3⟩
 have hko:=sound_keysok hgs h5
 have HFI:=Lib.hid (fun W (hb:Below w.heap.size w W) (X:Nat) (hX:X<W.heap.size) (OA:Option Addr) (oc:Nat) (ho:ObjV (fun k=>k≠X) W (.slice OA h.vals.length oc) h.keys h.vals)=>ref_fields (fun k=>k≠X) h OA oc c A AL AO cp cL cO W (fun k hk=>by omega) ho hko (hc.v.later hb) (by omega) (by omega) hfk)
 have HDF:=Lib.hid hdf
 unfold FldOut at HFI
 have HPU:=Lib.hid hpu
 clear hpu hg hc hgw hs hpos hT hS hget hck hput hgs hchk hhw hwi hdw hll hlv hcv hck1 hcs hdf h5 hth hfk hko hk hk0
 obtain ⟨g0,g1,g2,g3,g4,_⟩:=H0.out.g.five
 obtain ⟨c0,c1,c2,c3,c4,c5,c6,c7,c8,c9,c10,c11,_⟩:=H0.out.c.tw
 go_enter Tryd.func10,Tryd.ntmps10
 go_wp2_with (first
  | (go_at_call 19;refine (HCK.out _ H0.out.below).mono ?_;rintro e w1 ⟨rfl,hb⟩;have H1:=Lib.hid (H0.out.later hb);clear hb g0 g1 g2 g3 g4 c0 c1 c2 c3 c4 c5 c6 c7 c8 c9 c10 c11;obtain ⟨g0,g1,g2,g3,g4,_⟩:=H1.out.g.five;obtain ⟨c0,c1,c2,c3,c4,c5,c6,c7,c8,c9,c10,c11,_⟩:=H1.out.c.tw)
  | (go_at_call 20;refine (HGE.out _ H1.out.below).mono ?_;rintro e w2 ⟨HL,HO,dL,dO,rfl,hvv,hb⟩;have HSZ:=Lib.hid (show w.heap.size+1+1<w2.heap.size from Nat.lt_of_lt_of_le H1.out.r.lt hb.size);have H2:=Lib.hid ((H1.out.later hb).later (below_alloc w2 (.cells #[.int .u8 h.kind,.int .i64 h.num,.string h.str,.slice HL h.items.length dL,.slice HO h.vals.length dO] 31)));have HX:=Lib.hid (Whole.new w2 31 #[.int .u8 h.kind,.int .i64 h.num,.string h.str,.slice HL h.items.length dL,.slice HO h.vals.length dO]);have HLO:=Lib.hid (And.intro (hvv.1.keep (From.of_below (below_alloc w2 (.cells #[.int .u8 h.kind,.int .i64 h.num,.string h.str,.slice HL h.items.length dL,.slice HO h.vals.length dO] 31))) (fun _ _ h=>h):LstV (fun k=>k<w2.heap.size) (w2.alloc (.cells #[.int .u8 h.kind,.int .i64 h.num,.string h.str,.slice HL h.items.length dL,.slice HO h.vals.length dO] 31)) (.slice HL h.items.length dL) h.items) (hvv.2.keep (From.of_below (below_alloc w2 (.cells #[.int .u8 h.kind,.int .i64 h.num,.string h.str,.slice HL h.items.length dL,.slice HO h.vals.length dO] 31))) (fun _ _ h=>h):ObjV (fun k=>k<w2.heap.size) (w2.alloc (.cells #[.int .u8 h.kind,.int .i64 h.num,.string h.str,.slice HL h.items.length dL,.slice HO h.vals.length dO] 31)) (.slice HO h.vals.length dO) h.keys h.vals));clear hb hvv g0 g1 g2 g3 g4 c0 c1 c2 c3 c4 c5 c6 c7 c8 c9 c10 c11;obtain ⟨x0,x1,x2,x3,x4,_⟩:=HX.out.five;obtain ⟨g0,g1,g2,g3,g4,_⟩:=H2.out.g.five;obtain ⟨c0,c1,c2,c3,c4,c5,c6,c7,c8,c9,c10,c11,_⟩:=H2.out.c.tw)
  | (go_at_call 21;refine (HFI.out _ H2.out.below w2.heap.size HX.out.lt _ _ (HLO.out.2.keep (From.refl _ _) (fun k hk _=>by omega))).mono ?_;rintro e w3 ⟨D,d,rfl,ho,hb⟩;have H3:=Lib.hid (H2.out.later hb);have HX3:=Lib.hid (HX.out.below hb HX.out.lt);have H4:=Lib.hid (H3.out.set HSZ.out 4 (.slice D (doH h c).vals.length d));have HX4:=Lib.hid (show Whole (w3.setCell ⟨w2.heap.size,4,none⟩ (.slice D (doH h c).vals.length d)) w2.heap.size 31 #[.int .u8 h.kind,.int .i64 h.num,.string h.str,.slice HL h.items.length dL,.slice D (doH h c).vals.length d] from HX3.out.put 4 (.slice D (doH h c).vals.length d));have hset:=fun (k:Nat) (hk:k≠w2.heap.size)=>Below.heap_setCell w3 ⟨w2.heap.size,4,none⟩ (.slice D (doH h c).vals.length d) k hk;have HXV:=Lib.hid (show Vl (w3.setCell ⟨w2.heap.size,4,none⟩ (.slice D (doH h c).vals.length d)) (doH h c) HL D dL d from ⟨by rw [HDF.out.2.2.2];exact (HLO.out.1.keep (fun k hk _=>(hset k (by omega)).trans (hb.block k (by simp;omega))) (fun _ _ _=>trivial)),ho.keep (fun k hk _=>hset k hk) (fun _ _ _=>trivial)⟩);clear hset hb ho g0 g1 g2 g3 g4 x0 x1 x2 x3 x4 c0 c1 c2 c3 c4 c5 c6 c7 c8 c9 c10 c11;have y0:=HX3.out.frozen 0;have y1:=HX3.out.frozen 1;have y2:=HX3.out.frozen 2;have y3:=HX3.out.frozen 3;have y4:=HX3.out.frozen 4;obtain ⟨m0,m1,m2,m3,m4,_⟩:=HX3.out.five;obtain ⟨x0,x1,x2,x3,x4,_⟩:=HX4.out.five;obtain ⟨g0,g1,g2,g3,g4,_⟩:=H4.out.g.five;obtain ⟨c0,c1,c2,c3,c4,c5,c6,c7,c8,c9,c10,c11,_⟩:=H4.out.c.tw)
  | (go_at_call 24;refine (HPU.out _ H4.out.below _ _ _ _ HXV.out).mono ?_;rintro e w5 ⟨BL,BO,dB,dP,rfl,hvv,hb⟩;have H5:=Lib.hid (And.intro (H4.out.later hb) (And.intro hvv H4.out.r.lt));clear hb hvv;obtain ⟨r0,r1,r2,r3,r4,f0,f1,f2,f3,f4⟩:=H5.out.1.r.five))
 have hlt:=H5.out.2.2
 have h5:=whole_put5 H5.out.1.r (.int .u8 y.kind) (.int .i64 y.num) (.string y.str) (.slice BL y.items.length dB) (.slice BO y.vals.length dP)
 obtain ⟨d0,d1,d2,d3,d4,_⟩:=h5.five
 unfold put5 at d0 d1 d2 d3 d4
 refine bodyPost_ret (v:=.tuple #[.agg #[.int .u8 y.kind,.int .i64 y.num,.string y.str,.slice BL y.items.length dB,.slice BO y.vals.length dP],.int .i64 0]) (by simp [results,Tryd.results10,go_sem,d0,d1,d2,d3,d4]) rfl ?_
 have hsz:=H4.out.below.size
 exact ⟨BL,BO,dB,dP,rfl,⟨H5.out.2.1.1.keep (fun k hk _=>put5_block _ _ _ _ _ _ _ _ (by omega)) (fun k hk _=>Nat.le_trans hsz hk),H5.out.2.1.2.keep (fun k hk _=>put5_block _ _ _ _ _ _ _ _ (by omega)) (fun k hk _=>Nat.le_trans hsz hk)⟩,put5_below H5.out.1.below (by omega) _ _ _ _ _⟩
theorem docD_f3 (g:GV) (GL GO:Option Addr) (eL eO:Nat) (c:GC) (A AL AO:Option Addr) (cp cL cO:Nat) (w:World) (hg:Vl w g GL GO eL eO) (hc:Cc w c A AL AO cp cL cO) (hgw:g.weight≤1000000) (hs:Small c) (hpos:c.v.Pos) (hT:Tabs w) (h y:GV) (hS:c.Sound) (hget:g.get c.path=some h) (hck:chkH h c=0) (hput:g.put (doH h c) c.path=some y) (hgs:h.Sound) (hk0:c.kind=3):
  Calls Tryd.prog 10 #[.agg #[.int .u8 g.kind,.int .i64 g.num,.string g.str,.slice GL g.items.length eL,.slice GO g.vals.length eO],.agg #[.int .u8 c.kind,.slice A c.path.length cp,.string c.key,.int .i64 c.i,.int .i64 c.j,.int .i64 c.n,.int .u8 c.v.kind,.int .i64 c.v.num,.string c.v.str,.slice AL c.v.items.length cL,.slice AO c.v.vals.length cO,.string c.s]] w (RDone y w):=by
 have H0:=Lib.hid (DB.new w #[.int .u8 g.kind,.int .i64 g.num,.string g.str,.slice GL g.items.length eL,.slice GO g.vals.length eO] #[.int .u8 c.kind,.slice A c.path.length cp,.string c.key,.int .i64 c.i,.int .i64 c.j,.int .i64 c.n,.int .u8 c.v.kind,.int .i64 c.v.num,.string c.v.str,.slice AL c.v.items.length cL,.slice AO c.v.vals.length cO,.string c.s] #[.int .u8 0,.int .i64 0,.string ⟨#[]⟩,.slice none 0 0,.slice none 0 0])
 have hchk:ChkIs g c 0:=.inr ⟨hS,.inr ⟨h,hget,hck.symm⟩⟩
 have hcv:=hs.v
 have hck1:=hs.k
 have hcs:=hs.s
 have hhw:=get_weight c.path g h hget
 have hwi:=weight_is h
 have hll:=len_weights h.items
 have hlv:=len_weights h.vals
 have hdw:=doH_weight h c
 have HCK:=Lib.hid (dchk g GL GO eL eO c A AL AO cp cL cO w hg hc hgw hs hpos hT hchk)
 have HGE:=Lib.hid (dget g GL GO eL eO c A cp w hg hc.path hgw h hget)
 have hpu:=dput g GL GO eL eO c A cp w hg hc.path hgw (doH h c) y hput (by omega)
 have k1:(c.kind == 1)=false:=by simp;omega
 have k2:(c.kind == 2)=false:=by simp;omega
 have k3:(c.kind == 3)=true:=by simp;omega
 have k8:(c.kind == 8)=false:=by simp;omega
 have k9:(c.kind == 9)=false:=by simp;omega
 have hk:c.kind=2∨c.kind=3:=by omega
 have hdf:=doH_f (h:=h) hk
 simp only [hdf.1,hdf.2.1,hdf.2.2.1,hdf.2.2.2] at hpu
 have h5:h.kind=5:=by have:=chk_kind hck;unfold worksOn at this;omega
 have hth:c.kind=3→there c.key h.keys=true:=fun h3=>chk_there hck h3
 have hfk:c.kind=2∨(c.kind=3∧there c.key h.keys=true):=by rcases hk with h2 | h3;exact .inl h2;exact .inr ⟨h3,hth h3⟩
 have hko:=sound_keysok hgs h5
 have HFI:=Lib.hid (fun W (hb:Below w.heap.size w W) (X:Nat) (hX:X<W.heap.size) (OA:Option Addr) (oc:Nat) (ho:ObjV (fun k=>k≠X) W (.slice OA h.vals.length oc) h.keys h.vals)=>ref_fields (fun k=>k≠X) h OA oc c A AL AO cp cL cO W (fun k hk=>by omega) ho hko (hc.v.later hb) (by omega) (by omega) hfk)
 have HDF:=Lib.hid hdf
 unfold FldOut at HFI
 have HPU:=Lib.hid hpu
 clear hpu hg hc hgw hs hpos hT hS hget hck hput hgs hchk hhw hwi hdw hll hlv hcv hck1 hcs hdf h5 hth hfk hko hk hk0
 obtain ⟨g0,g1,g2,g3,g4,_⟩:=H0.out.g.five
 obtain ⟨c0,c1,c2,c3,c4,c5,c6,c7,c8,c9,c10,c11,_⟩:=H0.out.c.tw
 go_enter Tryd.func10,Tryd.ntmps10
 go_wp2_with (first
  | (go_at_call 19;refine (HCK.out _ H0.out.below).mono ?_;rintro e w1 ⟨rfl,hb⟩;have H1:=Lib.hid (H0.out.later hb);clear hb g0 g1 g2 g3 g4 c0 c1 c2 c3 c4 c5 c6 c7 c8 c9 c10 c11;obtain ⟨g0,g1,g2,g3,g4,_⟩:=H1.out.g.five;obtain ⟨c0,c1,c2,c3,c4,c5,c6,c7,c8,c9,c10,c11,_⟩:=H1.out.c.tw)
  | (go_at_call 20;refine (HGE.out _ H1.out.below).mono ?_;rintro e w2 ⟨HL,HO,dL,dO,rfl,hvv,hb⟩;have HSZ:=Lib.hid (show w.heap.size+1+1<w2.heap.size from Nat.lt_of_lt_of_le H1.out.r.lt hb.size);have H2:=Lib.hid ((H1.out.later hb).later (below_alloc w2 (.cells #[.int .u8 h.kind,.int .i64 h.num,.string h.str,.slice HL h.items.length dL,.slice HO h.vals.length dO] 31)));have HX:=Lib.hid (Whole.new w2 31 #[.int .u8 h.kind,.int .i64 h.num,.string h.str,.slice HL h.items.length dL,.slice HO h.vals.length dO]);have HLO:=Lib.hid (And.intro (hvv.1.keep (From.of_below (below_alloc w2 (.cells #[.int .u8 h.kind,.int .i64 h.num,.string h.str,.slice HL h.items.length dL,.slice HO h.vals.length dO] 31))) (fun _ _ h=>h):LstV (fun k=>k<w2.heap.size) (w2.alloc (.cells #[.int .u8 h.kind,.int .i64 h.num,.string h.str,.slice HL h.items.length dL,.slice HO h.vals.length dO] 31)) (.slice HL h.items.length dL) h.items) (hvv.2.keep (From.of_below (below_alloc w2 (.cells #[.int .u8 h.kind,.int .i64 h.num,.string h.str,.slice HL h.items.length dL,.slice HO h.vals.length dO] 31))) (fun _ _ h=>h):ObjV (fun k=>k<w2.heap.size) (w2.alloc (.cells #[.int .u8 h.kind,.int .i64 h.num,.string h.str,.slice HL h.items.length dL,.slice HO h.vals.length dO] 31)) (.slice HO h.vals.length dO) h.keys h.vals));clear hb hvv g0 g1 g2 g3 g4 c0 c1 c2 c3 c4 c5 c6 c7 c8 c9 c10 c11;obtain ⟨x0,x1,x2,x3,x4,_⟩:=HX.out.five;obtain ⟨g0,g1,g2,g3,g4,_⟩:=H2.out.g.five;obtain ⟨c0,c1,c2,c3,c4,c5,c6,c7,c8,c9,c10,c11,_⟩:=H2.out.c.tw)
  | (go_at_call 21;refine (HFI.out _ H2.out.below w2.heap.size HX.out.lt _ _ (HLO.out.2.keep (From.refl _ _) (fun k hk _=>by omega))).mono ?_;rintro e w3 ⟨D,d,rfl,ho,hb⟩;have H3:=Lib.hid (H2.out.later hb);have HX3:=Lib.hid (HX.out.below hb HX.out.lt);have H4:=Lib.hid (H3.out.set HSZ.out 4 (.slice D (doH h c).vals.length d));have HX4:=Lib.hid (show Whole (w3.setCell ⟨w2.heap.size,4,none⟩ (.slice D (doH h c).vals.length d)) w2.heap.size 31 #[.int .u8 h.kind,.int .i64 h.num,.string h.str,.slice HL h.items.length dL,.slice D (doH h c).vals.length d] from HX3.out.put 4 (.slice D (doH h c).vals.length d));have hset:=fun (k:Nat) (hk:k≠w2.heap.size)=>Below.heap_setCell w3 ⟨w2.heap.size,4,none⟩ (.slice D (doH h c).vals.length d) k hk;have HXV:=Lib.hid (show Vl (w3.setCell ⟨w2.heap.size,4,none⟩ (.slice D (doH h c).vals.length d)) (doH h c) HL D dL d from ⟨by rw [HDF.out.2.2.2];exact (HLO.out.1.keep (fun k hk _=>(hset k (by omega)).trans (hb.block k (by simp;omega))) (fun _ _ _=>trivial)),ho.keep (fun k hk _=>hset k hk) (fun _ _ _=>trivial)⟩);clear hset hb ho g0 g1 g2 g3 g4 x0 x1 x2 x3 x4 c0 c1 c2 c3 c4 c5 c6 c7 c8 c9 c10 c11;have y0:=HX3.out.frozen 0;have y1:=HX3.out.frozen 1;have y2:=HX3.out.frozen 2;have y3:=HX3.out.frozen 3;have y4:=HX3.out.frozen 4;obtain ⟨m0,m1,m2,m3,m4,_⟩:=HX3.out.five;obtain ⟨x0,x1,x2,x3,x4,_⟩:=HX4.out.five;obtain ⟨g0,g1,g2,g3,g4,_⟩:=H4.out.g.five;obtain ⟨c0,c1,c2,c3,c4,c5,c6,c7,c8,c9,c10,c11,_⟩:=H4.out.c.tw)
  | (go_at_call 24;refine (HPU.out _ H4.out.below _ _ _ _ HXV.out).mono ?_;rintro e w5 ⟨BL,BO,dB,dP,rfl,hvv,hb⟩;have H5:=Lib.hid (And.intro (H4.out.later hb) (And.intro hvv H4.out.r.lt));clear hb hvv;obtain ⟨r0,r1,r2,r3,r4,f0,f1,f2,f3,f4⟩:=H5.out.1.r.five))
 have hlt:=H5.out.2.2
 have h5:=whole_put5 H5.out.1.r (.int .u8 y.kind) (.int .i64 y.num) (.string y.str) (.slice BL y.items.length dB) (.slice BO y.vals.length dP)
 obtain ⟨d0,d1,d2,d3,d4,_⟩:=h5.five
 unfold put5 at d0 d1 d2 d3 d4
 refine bodyPost_ret (v:=.tuple #[.agg #[.int .u8 y.kind,.int .i64 y.num,.string y.str,.slice BL y.items.length dB,.slice BO y.vals.length dP],.int .i64 0]) (by simp [results,Tryd.results10,go_sem,d0,d1,d2,d3,d4]) rfl ?_
 have hsz:=H4.out.below.size
 exact ⟨BL,BO,dB,dP,rfl,⟨H5.out.2.1.1.keep (fun k hk _=>put5_block _ _ _ _ _ _ _ _ (by omega)) (fun k hk _=>Nat.le_trans hsz hk),H5.out.2.1.2.keep (fun k hk _=>put5_block _ _ _ _ _ _ _ _ (by omega)) (fun k hk _=>Nat.le_trans hsz hk)⟩,put5_below H5.out.1.below (by omega) _ _ _ _ _⟩
theorem docD_l (g:GV) (GL GO:Option Addr) (eL eO:Nat) (c:GC) (A AL AO:Option Addr) (cp cL cO:Nat) (w:World) (hg:Vl w g GL GO eL eO) (hc:Cc w c A AL AO cp cL cO) (hgw:g.weight≤1000000) (hs:Small c) (hpos:c.v.Pos) (hT:Tabs w) (h y:GV) (hS:c.Sound) (hget:g.get c.path=some h) (hck:chkH h c=0) (hput:g.put (doH h c) c.path=some y) (hgs:h.Sound) (hk:4≤c.kind∧c.kind≤7):
  Calls Tryd.prog 10 #[.agg #[.int .u8 g.kind,.int .i64 g.num,.string g.str,.slice GL g.items.length eL,.slice GO g.vals.length eO],.agg #[.int .u8 c.kind,.slice A c.path.length cp,.string c.key,.int .i64 c.i,.int .i64 c.j,.int .i64 c.n,.int .u8 c.v.kind,.int .i64 c.v.num,.string c.v.str,.slice AL c.v.items.length cL,.slice AO c.v.vals.length cO,.string c.s]] w (RDone y w):=by
 have H0:=Lib.hid (DB.new w #[.int .u8 g.kind,.int .i64 g.num,.string g.str,.slice GL g.items.length eL,.slice GO g.vals.length eO] #[.int .u8 c.kind,.slice A c.path.length cp,.string c.key,.int .i64 c.i,.int .i64 c.j,.int .i64 c.n,.int .u8 c.v.kind,.int .i64 c.v.num,.string c.v.str,.slice AL c.v.items.length cL,.slice AO c.v.vals.length cO,.string c.s] #[.int .u8 0,.int .i64 0,.string ⟨#[]⟩,.slice none 0 0,.slice none 0 0])
 have hchk:ChkIs g c 0:=.inr ⟨hS,.inr ⟨h,hget,hck.symm⟩⟩
 have hcv:=hs.v
 have hck1:=hs.k
 have hcs:=hs.s
 have hhw:=get_weight c.path g h hget
 have hwi:=weight_is h
 have hll:=len_weights h.items
 have hlv:=len_weights h.vals
 have hdw:=doH_weight h c
 have HCK:=Lib.hid (dchk g GL GO eL eO c A AL AO cp cL cO w hg hc hgw hs hpos hT hchk)
 have HGE:=Lib.hid (dget g GL GO eL eO c A cp w hg hc.path hgw h hget)
 have hpu:=dput g GL GO eL eO c A cp w hg hc.path hgw (doH h c) y hput (by omega)
 have k1:(c.kind == 1)=false:=by simp;omega
 have k2:(c.kind == 2)=false:=by simp;omega
 have k3:(c.kind == 3)=false:=by simp;omega
 have k8:(c.kind == 8)=false:=by simp;omega
 have k9:(c.kind == 9)=false:=by simp;omega
 have hdl:=doH_l (h:=h) hk
 have hok:=(chkH_list hk hck).2
 have ek:((c.kind.toNat:Nat):Int)=c.kind:=by omega
 have ei:((c.i.toNat:Nat):Int)=c.i:=Int.toNat_of_nonneg hS.1
 have ej:((c.j.toNat:Nat):Int)=c.j:=Int.toNat_of_nonneg hS.2.1
 have HLI:=Lib.hid (fun W (hb:Below w.heap.size w W) (B:Option Addr) (d:Nat) (hl:ListIn h.items B d W)=>ref_DoL B d h.items c.kind.toNat c.i.toNat c.j.toNat c.v A AL AO c.path.length cp cL cO c.key c.s c.n W hl hok (by omega) (by omega) (hc.v.later hb) (by omega))
 rw [ek,ei,ej] at HLI
 unfold RDoN at HLI
 rw [hdl] at hpu
 generalize doL h.items ⟨c.kind.toNat,c.i.toNat,c.j.toNat,c.v⟩=l' at *
 have HPU:=Lib.hid hpu
 clear hpu hg hc hgw hs hpos hT hS hget hck hput hgs hchk hhw hwi hdw hll hlv hcv hck1 hcs hdl hok ek ei ej hk
 obtain ⟨g0,g1,g2,g3,g4,_⟩:=H0.out.g.five
 obtain ⟨c0,c1,c2,c3,c4,c5,c6,c7,c8,c9,c10,c11,_⟩:=H0.out.c.tw
 go_enter Tryd.func10,Tryd.ntmps10
 go_wp2_with (first
  | (go_at_call 19;refine (HCK.out _ H0.out.below).mono ?_;rintro e w1 ⟨rfl,hb⟩;have H1:=Lib.hid (H0.out.later hb);clear hb g0 g1 g2 g3 g4 c0 c1 c2 c3 c4 c5 c6 c7 c8 c9 c10 c11;obtain ⟨g0,g1,g2,g3,g4,_⟩:=H1.out.g.five;obtain ⟨c0,c1,c2,c3,c4,c5,c6,c7,c8,c9,c10,c11,_⟩:=H1.out.c.tw)
  | (go_at_call 20;refine (HGE.out _ H1.out.below).mono ?_;rintro e w2 ⟨HL,HO,dL,dO,rfl,hvv,hb⟩;have HSZ:=Lib.hid (show w.heap.size+1+1<w2.heap.size from Nat.lt_of_lt_of_le H1.out.r.lt hb.size);have H2:=Lib.hid ((H1.out.later hb).later (below_alloc w2 (.cells #[.int .u8 h.kind,.int .i64 h.num,.string h.str,.slice HL h.items.length dL,.slice HO h.vals.length dO] 31)));have HX:=Lib.hid (Whole.new w2 31 #[.int .u8 h.kind,.int .i64 h.num,.string h.str,.slice HL h.items.length dL,.slice HO h.vals.length dO]);have HLO:=Lib.hid (And.intro (hvv.1.keep (From.of_below (below_alloc w2 (.cells #[.int .u8 h.kind,.int .i64 h.num,.string h.str,.slice HL h.items.length dL,.slice HO h.vals.length dO] 31))) (fun _ _ h=>h):LstV (fun k=>k<w2.heap.size) (w2.alloc (.cells #[.int .u8 h.kind,.int .i64 h.num,.string h.str,.slice HL h.items.length dL,.slice HO h.vals.length dO] 31)) (.slice HL h.items.length dL) h.items) (hvv.2.keep (From.of_below (below_alloc w2 (.cells #[.int .u8 h.kind,.int .i64 h.num,.string h.str,.slice HL h.items.length dL,.slice HO h.vals.length dO] 31))) (fun _ _ h=>h):ObjV (fun k=>k<w2.heap.size) (w2.alloc (.cells #[.int .u8 h.kind,.int .i64 h.num,.string h.str,.slice HL h.items.length dL,.slice HO h.vals.length dO] 31)) (.slice HO h.vals.length dO) h.keys h.vals));clear hb hvv g0 g1 g2 g3 g4 c0 c1 c2 c3 c4 c5 c6 c7 c8 c9 c10 c11;obtain ⟨x0,x1,x2,x3,x4,_⟩:=HX.out.five;obtain ⟨g0,g1,g2,g3,g4,_⟩:=H2.out.g.five;obtain ⟨c0,c1,c2,c3,c4,c5,c6,c7,c8,c9,c10,c11,_⟩:=H2.out.c.tw)
  | (go_at_call 23;refine (HLI.out _ H2.out.below _ _ (HLO.out.1.keep (From.refl _ _) (fun _ _ _=>trivial))).mono ?_;rintro e w3 ⟨D,d,rfl,hl,hb⟩;have H3:=Lib.hid (H2.out.later hb);have HX3:=Lib.hid (HX.out.below hb HX.out.lt);have H4:=Lib.hid (H3.out.set HSZ.out 3 (.slice D l'.length d));have HX4:=Lib.hid (show Whole (w3.setCell ⟨w2.heap.size,3,none⟩ (.slice D l'.length d)) w2.heap.size 31 #[.int .u8 h.kind,.int .i64 h.num,.string h.str,.slice D l'.length d,.slice HO h.vals.length dO] from HX3.out.put 3 (.slice D l'.length d));have hset:=fun (k:Nat) (hk:k≠w2.heap.size)=>Below.heap_setCell w3 ⟨w2.heap.size,3,none⟩ (.slice D l'.length d) k hk;have HXV:=Lib.hid (show Vl (w3.setCell ⟨w2.heap.size,3,none⟩ (.slice D l'.length d)) (.mk h.kind h.num h.str l' h.keys h.vals) D HO d dO from ⟨hl.keep (fun k hk _=>hset k (by have:(w2.alloc (.cells #[.int .u8 h.kind,.int .i64 h.num,.string h.str,.slice HL h.items.length dL,.slice HO h.vals.length dO] 31)).heap.size≤k:=hk;simp at this;omega)) (fun _ _ _=>trivial),(HLO.out.2.keep (fun k hk _=>(hset k (by omega)).trans (hb.block k (by simp;omega))) (fun _ _ _=>trivial))⟩);clear hset hb hl g0 g1 g2 g3 g4 x0 x1 x2 x3 x4 c0 c1 c2 c3 c4 c5 c6 c7 c8 c9 c10 c11;have y0:=HX3.out.frozen 0;have y1:=HX3.out.frozen 1;have y2:=HX3.out.frozen 2;have y3:=HX3.out.frozen 3;have y4:=HX3.out.frozen 4;obtain ⟨m0,m1,m2,m3,m4,_⟩:=HX3.out.five;obtain ⟨x0,x1,x2,x3,x4,_⟩:=HX4.out.five;obtain ⟨g0,g1,g2,g3,g4,_⟩:=H4.out.g.five;obtain ⟨c0,c1,c2,c3,c4,c5,c6,c7,c8,c9,c10,c11,_⟩:=H4.out.c.tw)
  | (go_at_call 24;refine (HPU.out _ H4.out.below _ _ _ _ HXV.out).mono ?_;rintro e w5 ⟨BL,BO,dB,dP,rfl,hvv,hb⟩;have H5:=Lib.hid (And.intro (H4.out.later hb) (And.intro hvv H4.out.r.lt));clear hb hvv;obtain ⟨r0,r1,r2,r3,r4,f0,f1,f2,f3,f4⟩:=H5.out.1.r.five))
 have hlt:=H5.out.2.2
 have h5:=whole_put5 H5.out.1.r (.int .u8 y.kind) (.int .i64 y.num) (.string y.str) (.slice BL y.items.length dB) (.slice BO y.vals.length dP)
 obtain ⟨d0,d1,d2,d3,d4,_⟩:=h5.five
 unfold put5 at d0 d1 d2 d3 d4
 refine bodyPost_ret (v:=.tuple #[.agg #[.int .u8 y.kind,.int .i64 y.num,.string y.str,.slice BL y.items.length dB,.slice BO y.vals.length dP],.int .i64 0]) (by simp [results,Tryd.results10,go_sem,d0,d1,d2,d3,d4]) rfl ?_
 have hsz:=H4.out.below.size
 exact ⟨BL,BO,dB,dP,rfl,⟨H5.out.2.1.1.keep (fun k hk _=>put5_block _ _ _ _ _ _ _ _ (by omega)) (fun k hk _=>Nat.le_trans hsz hk),H5.out.2.1.2.keep (fun k hk _=>put5_block _ _ _ _ _ _ _ _ (by omega)) (fun k hk _=>Nat.le_trans hsz hk)⟩,put5_below H5.out.1.below (by omega) _ _ _ _ _⟩
theorem docD_s (g:GV) (GL GO:Option Addr) (eL eO:Nat) (c:GC) (A AL AO:Option Addr) (cp cL cO:Nat) (w:World) (hg:Vl w g GL GO eL eO) (hc:Cc w c A AL AO cp cL cO) (hgw:g.weight≤1000000) (hs:Small c) (hpos:c.v.Pos) (hT:Tabs w) (h y:GV) (hS:c.Sound) (hget:g.get c.path=some h) (hck:chkH h c=0) (hput:g.put (doH h c) c.path=some y) (hgs:h.Sound) (hk:c.kind=8):
  Calls Tryd.prog 10 #[.agg #[.int .u8 g.kind,.int .i64 g.num,.string g.str,.slice GL g.items.length eL,.slice GO g.vals.length eO],.agg #[.int .u8 c.kind,.slice A c.path.length cp,.string c.key,.int .i64 c.i,.int .i64 c.j,.int .i64 c.n,.int .u8 c.v.kind,.int .i64 c.v.num,.string c.v.str,.slice AL c.v.items.length cL,.slice AO c.v.vals.length cO,.string c.s]] w (RDone y w):=by
 have H0:=Lib.hid (DB.new w #[.int .u8 g.kind,.int .i64 g.num,.string g.str,.slice GL g.items.length eL,.slice GO g.vals.length eO] #[.int .u8 c.kind,.slice A c.path.length cp,.string c.key,.int .i64 c.i,.int .i64 c.j,.int .i64 c.n,.int .u8 c.v.kind,.int .i64 c.v.num,.string c.v.str,.slice AL c.v.items.length cL,.slice AO c.v.vals.length cO,.string c.s] #[.int .u8 0,.int .i64 0,.string ⟨#[]⟩,.slice none 0 0,.slice none 0 0])
 have hchk:ChkIs g c 0:=.inr ⟨hS,.inr ⟨h,hget,hck.symm⟩⟩
 have hcv:=hs.v
 have hck1:=hs.k
 have hcs:=hs.s
 have hhw:=get_weight c.path g h hget
 have hwi:=weight_is h
 have hll:=len_weights h.items
 have hlv:=len_weights h.vals
 have hdw:=doH_weight h c
 have HCK:=Lib.hid (dchk g GL GO eL eO c A AL AO cp cL cO w hg hc hgw hs hpos hT hchk)
 have HGE:=Lib.hid (dget g GL GO eL eO c A cp w hg hc.path hgw h hget)
 have hpu:=dput g GL GO eL eO c A cp w hg hc.path hgw (doH h c) y hput (by omega)
 have k1:(c.kind == 1)=false:=by simp;omega
 have k2:(c.kind == 2)=false:=by simp;omega
 have k3:(c.kind == 3)=false:=by simp;omega
 have k8:(c.kind == 8)=true:=by simp;omega
 have k9:(c.kind == 9)=false:=by simp;omega
 have hdl:doH h c=.mk h.kind h.num (insS h.str c.i.toNat c.s) h.items h.keys h.vals:=by unfold doH;rw [if_neg (by omega),if_neg (by omega),if_neg (by omega),if_pos hk]
 have h3:h.kind=3:=by have:=chk_kind hck;unfold worksOn at this;omega
 have hct:chkT (nChars h.str) c.kind.toNat c.i c.n=0:=by have h1:=hck;simp [chkH,hk,h3,worksOn] at h1;rw [hk];exact h1
 obtain ⟨i,hi,hin,hrest⟩:=chkT_ok hct
 have HTI:=Lib.hid (fun W (hb:Below w.heap.size w W)=>ref_Do_ins h.str c i A AL AO cp cL cO W (by omega) (by omega) (hT.below hb (Nat.le_refl _)) hk hi hin)
 rw [show i=c.i.toNat by omega] at HTI
 rw [hdl] at hpu
 have HIN:=Lib.hid hin
 have HII:=Lib.hid hi
 generalize insS h.str c.i.toNat c.s=s' at *
 have HPU:=Lib.hid hpu
 clear hpu hg hc hgw hs hpos hT hS hget hck hput hgs hchk hhw hwi hdw hll hlv hcv hck1 hcs hdl h3 hct hi hin hrest hk
 obtain ⟨g0,g1,g2,g3,g4,_⟩:=H0.out.g.five
 obtain ⟨c0,c1,c2,c3,c4,c5,c6,c7,c8,c9,c10,c11,_⟩:=H0.out.c.tw
 go_enter Tryd.func10,Tryd.ntmps10
 go_wp2_with (first
  | (go_at_call 19;refine (HCK.out _ H0.out.below).mono ?_;rintro e w1 ⟨rfl,hb⟩;have H1:=Lib.hid (H0.out.later hb);clear hb g0 g1 g2 g3 g4 c0 c1 c2 c3 c4 c5 c6 c7 c8 c9 c10 c11;obtain ⟨g0,g1,g2,g3,g4,_⟩:=H1.out.g.five;obtain ⟨c0,c1,c2,c3,c4,c5,c6,c7,c8,c9,c10,c11,_⟩:=H1.out.c.tw)
  | (go_at_call 20;refine (HGE.out _ H1.out.below).mono ?_;rintro e w2 ⟨HL,HO,dL,dO,rfl,hvv,hb⟩;have HSZ:=Lib.hid (show w.heap.size+1+1<w2.heap.size from Nat.lt_of_lt_of_le H1.out.r.lt hb.size);have H2:=Lib.hid ((H1.out.later hb).later (below_alloc w2 (.cells #[.int .u8 h.kind,.int .i64 h.num,.string h.str,.slice HL h.items.length dL,.slice HO h.vals.length dO] 31)));have HX:=Lib.hid (Whole.new w2 31 #[.int .u8 h.kind,.int .i64 h.num,.string h.str,.slice HL h.items.length dL,.slice HO h.vals.length dO]);have HLO:=Lib.hid (And.intro (hvv.1.keep (From.of_below (below_alloc w2 (.cells #[.int .u8 h.kind,.int .i64 h.num,.string h.str,.slice HL h.items.length dL,.slice HO h.vals.length dO] 31))) (fun _ _ h=>h):LstV (fun k=>k<w2.heap.size) (w2.alloc (.cells #[.int .u8 h.kind,.int .i64 h.num,.string h.str,.slice HL h.items.length dL,.slice HO h.vals.length dO] 31)) (.slice HL h.items.length dL) h.items) (hvv.2.keep (From.of_below (below_alloc w2 (.cells #[.int .u8 h.kind,.int .i64 h.num,.string h.str,.slice HL h.items.length dL,.slice HO h.vals.length dO] 31))) (fun _ _ h=>h):ObjV (fun k=>k<w2.heap.size) (w2.alloc (.cells #[.int .u8 h.kind,.int .i64 h.num,.string h.str,.slice HL h.items.length dL,.slice HO h.vals.length dO] 31)) (.slice HO h.vals.length dO) h.keys h.vals));clear hb hvv g0 g1 g2 g3 g4 c0 c1 c2 c3 c4 c5 c6 c7 c8 c9 c10 c11;obtain ⟨x0,x1,x2,x3,x4,_⟩:=HX.out.five;obtain ⟨g0,g1,g2,g3,g4,_⟩:=H2.out.g.five;obtain ⟨c0,c1,c2,c3,c4,c5,c6,c7,c8,c9,c10,c11,_⟩:=H2.out.c.tw)
  | (go_at_call 22;refine (HTI.out _ H2.out.below).mono ?_;rintro e w3 ⟨rfl,hb⟩;have H3:=Lib.hid (H2.out.later hb);have HX3:=Lib.hid (HX.out.below hb HX.out.lt);have H4:=Lib.hid (H3.out.set HSZ.out 2 (.string s'));have HX4:=Lib.hid (show Whole (w3.setCell ⟨w2.heap.size,2,none⟩ (.string s')) w2.heap.size 31 #[.int .u8 h.kind,.int .i64 h.num,.string s',.slice HL h.items.length dL,.slice HO h.vals.length dO] from HX3.out.put 2 (.string s'));have hset:=fun (k:Nat) (hk:k≠w2.heap.size)=>Below.heap_setCell w3 ⟨w2.heap.size,2,none⟩ (.string s') k hk;have HXV:=Lib.hid (show Vl (w3.setCell ⟨w2.heap.size,2,none⟩ (.string s')) (.mk h.kind h.num s' h.items h.keys h.vals) HL HO dL dO from ⟨(HLO.out.1.keep (fun k hk _=>(hset k (by omega)).trans (hb.block k (by simp;omega))) (fun _ _ _=>trivial)),(HLO.out.2.keep (fun k hk _=>(hset k (by omega)).trans (hb.block k (by simp;omega))) (fun _ _ _=>trivial))⟩);clear hset hb  g0 g1 g2 g3 g4 x0 x1 x2 x3 x4 c0 c1 c2 c3 c4 c5 c6 c7 c8 c9 c10 c11;have y0:=HX3.out.frozen 0;have y1:=HX3.out.frozen 1;have y2:=HX3.out.frozen 2;have y3:=HX3.out.frozen 3;have y4:=HX3.out.frozen 4;obtain ⟨m0,m1,m2,m3,m4,_⟩:=HX3.out.five;obtain ⟨x0,x1,x2,x3,x4,_⟩:=HX4.out.five;obtain ⟨g0,g1,g2,g3,g4,_⟩:=H4.out.g.five;obtain ⟨c0,c1,c2,c3,c4,c5,c6,c7,c8,c9,c10,c11,_⟩:=H4.out.c.tw)
  | (go_at_call 24;refine (HPU.out _ H4.out.below _ _ _ _ HXV.out).mono ?_;rintro e w5 ⟨BL,BO,dB,dP,rfl,hvv,hb⟩;have H5:=Lib.hid (And.intro (H4.out.later hb) (And.intro hvv H4.out.r.lt));clear hb hvv;obtain ⟨r0,r1,r2,r3,r4,f0,f1,f2,f3,f4⟩:=H5.out.1.r.five))
 have hlt:=H5.out.2.2
 have h5:=whole_put5 H5.out.1.r (.int .u8 y.kind) (.int .i64 y.num) (.string y.str) (.slice BL y.items.length dB) (.slice BO y.vals.length dP)
 obtain ⟨d0,d1,d2,d3,d4,_⟩:=h5.five
 unfold put5 at d0 d1 d2 d3 d4
 refine bodyPost_ret (v:=.tuple #[.agg #[.int .u8 y.kind,.int .i64 y.num,.string y.str,.slice BL y.items.length dB,.slice BO y.vals.length dP],.int .i64 0]) (by simp [results,Tryd.results10,go_sem,d0,d1,d2,d3,d4]) rfl ?_
 have hsz:=H4.out.below.size
 exact ⟨BL,BO,dB,dP,rfl,⟨H5.out.2.1.1.keep (fun k hk _=>put5_block _ _ _ _ _ _ _ _ (by omega)) (fun k hk _=>Nat.le_trans hsz hk),H5.out.2.1.2.keep (fun k hk _=>put5_block _ _ _ _ _ _ _ _ (by omega)) (fun k hk _=>Nat.le_trans hsz hk)⟩,put5_below H5.out.1.below (by omega) _ _ _ _ _⟩
theorem docD_d (g:GV) (GL GO:Option Addr) (eL eO:Nat) (c:GC) (A AL AO:Option Addr) (cp cL cO:Nat) (w:World) (hg:Vl w g GL GO eL eO) (hc:Cc w c A AL AO cp cL cO) (hgw:g.weight≤1000000) (hs:Small c) (hpos:c.v.Pos) (hT:Tabs w) (h y:GV) (hS:c.Sound) (hget:g.get c.path=some h) (hck:chkH h c=0) (hput:g.put (doH h c) c.path=some y) (hgs:h.Sound) (hk:c.kind=9):
  Calls Tryd.prog 10 #[.agg #[.int .u8 g.kind,.int .i64 g.num,.string g.str,.slice GL g.items.length eL,.slice GO g.vals.length eO],.agg #[.int .u8 c.kind,.slice A c.path.length cp,.string c.key,.int .i64 c.i,.int .i64 c.j,.int .i64 c.n,.int .u8 c.v.kind,.int .i64 c.v.num,.string c.v.str,.slice AL c.v.items.length cL,.slice AO c.v.vals.length cO,.string c.s]] w (RDone y w):=by
 have H0:=Lib.hid (DB.new w #[.int .u8 g.kind,.int .i64 g.num,.string g.str,.slice GL g.items.length eL,.slice GO g.vals.length eO] #[.int .u8 c.kind,.slice A c.path.length cp,.string c.key,.int .i64 c.i,.int .i64 c.j,.int .i64 c.n,.int .u8 c.v.kind,.int .i64 c.v.num,.string c.v.str,.slice AL c.v.items.length cL,.slice AO c.v.vals.length cO,.string c.s] #[.int .u8 0,.int .i64 0,.string ⟨#[]⟩,.slice none 0 0,.slice none 0 0])
 have hchk:ChkIs g c 0:=.inr ⟨hS,.inr ⟨h,hget,hck.symm⟩⟩
 have hcv:=hs.v
 have hck1:=hs.k
 have hcs:=hs.s
 have hhw:=get_weight c.path g h hget
 have hwi:=weight_is h
 have hll:=len_weights h.items
 have hlv:=len_weights h.vals
 have hdw:=doH_weight h c
 have HCK:=Lib.hid (dchk g GL GO eL eO c A AL AO cp cL cO w hg hc hgw hs hpos hT hchk)
 have HGE:=Lib.hid (dget g GL GO eL eO c A cp w hg hc.path hgw h hget)
 have hpu:=dput g GL GO eL eO c A cp w hg hc.path hgw (doH h c) y hput (by omega)
 have k1:(c.kind == 1)=false:=by simp;omega
 have k2:(c.kind == 2)=false:=by simp;omega
 have k3:(c.kind == 3)=false:=by simp;omega
 have k8:(c.kind == 8)=false:=by simp;omega
 have k9:(c.kind == 9)=true:=by simp;omega
 have hdl:doH h c=.mk h.kind h.num (delS h.str c.i.toNat c.n.toNat) h.items h.keys h.vals:=by unfold doH;rw [if_neg (by omega),if_neg (by omega),if_neg (by omega),if_neg (by omega),if_pos hk]
 have h3:h.kind=3:=by have:=chk_kind hck;unfold worksOn at this;omega
 have hct:chkT (nChars h.str) c.kind.toNat c.i c.n=0:=by have h1:=hck;simp [chkH,hk,h3,worksOn] at h1;rw [hk];exact h1
 obtain ⟨i,hi,hin,hrest⟩:=chkT_ok hct
 obtain ⟨n,hn,h1n,hinn⟩:∃ n:Nat,c.n=n∧1≤n∧i+n≤nChars h.str:=by rcases hrest with h8 | ⟨_,n,hn,h1n,hinn⟩;omega;exact ⟨n,hn,h1n,hinn⟩
 have HTI:=Lib.hid (fun W (hb:Below w.heap.size w W)=>ref_Do_del h.str c i n A AL AO cp cL cO W (by omega) (hT.below hb (Nat.le_refl _)) hk hi hn h1n hinn)
 rw [show i=c.i.toNat by omega,show n=c.n.toNat by omega] at HTI
 rw [hdl] at hpu
 have HIN:=Lib.hid hin
 have HII:=Lib.hid hi
 generalize delS h.str c.i.toNat c.n.toNat=s' at *
 have HPU:=Lib.hid hpu
 clear hpu hg hc hgw hs hpos hT hS hget hck hput hgs hchk hhw hwi hdw hll hlv hcv hck1 hcs hdl h3 hct hi hin hrest hk hn h1n hinn
 obtain ⟨g0,g1,g2,g3,g4,_⟩:=H0.out.g.five
 obtain ⟨c0,c1,c2,c3,c4,c5,c6,c7,c8,c9,c10,c11,_⟩:=H0.out.c.tw
 go_enter Tryd.func10,Tryd.ntmps10
 go_wp2_with (first
  | (go_at_call 19;refine (HCK.out _ H0.out.below).mono ?_;rintro e w1 ⟨rfl,hb⟩;have H1:=Lib.hid (H0.out.later hb);clear hb g0 g1 g2 g3 g4 c0 c1 c2 c3 c4 c5 c6 c7 c8 c9 c10 c11;obtain ⟨g0,g1,g2,g3,g4,_⟩:=H1.out.g.five;obtain ⟨c0,c1,c2,c3,c4,c5,c6,c7,c8,c9,c10,c11,_⟩:=H1.out.c.tw)
  | (go_at_call 20;refine (HGE.out _ H1.out.below).mono ?_;rintro e w2 ⟨HL,HO,dL,dO,rfl,hvv,hb⟩;have HSZ:=Lib.hid (show w.heap.size+1+1<w2.heap.size from Nat.lt_of_lt_of_le H1.out.r.lt hb.size);have H2:=Lib.hid ((H1.out.later hb).later (below_alloc w2 (.cells #[.int .u8 h.kind,.int .i64 h.num,.string h.str,.slice HL h.items.length dL,.slice HO h.vals.length dO] 31)));have HX:=Lib.hid (Whole.new w2 31 #[.int .u8 h.kind,.int .i64 h.num,.string h.str,.slice HL h.items.length dL,.slice HO h.vals.length dO]);have HLO:=Lib.hid (And.intro (hvv.1.keep (From.of_below (below_alloc w2 (.cells #[.int .u8 h.kind,.int .i64 h.num,.string h.str,.slice HL h.items.length dL,.slice HO h.vals.length dO] 31))) (fun _ _ h=>h):LstV (fun k=>k<w2.heap.size) (w2.alloc (.cells #[.int .u8 h.kind,.int .i64 h.num,.string h.str,.slice HL h.items.length dL,.slice HO h.vals.length dO] 31)) (.slice HL h.items.length dL) h.items) (hvv.2.keep (From.of_below (below_alloc w2 (.cells #[.int .u8 h.kind,.int .i64 h.num,.string h.str,.slice HL h.items.length dL,.slice HO h.vals.length dO] 31))) (fun _ _ h=>h):ObjV (fun k=>k<w2.heap.size) (w2.alloc (.cells #[.int .u8 h.kind,.int .i64 h.num,.string h.str,.slice HL h.items.length dL,.slice HO h.vals.length dO] 31)) (.slice HO h.vals.length dO) h.keys h.vals));clear hb hvv g0 g1 g2 g3 g4 c0 c1 c2 c3 c4 c5 c6 c7 c8 c9 c10 c11;obtain ⟨x0,x1,x2,x3,x4,_⟩:=HX.out.five;obtain ⟨g0,g1,g2,g3,g4,_⟩:=H2.out.g.five;obtain ⟨c0,c1,c2,c3,c4,c5,c6,c7,c8,c9,c10,c11,_⟩:=H2.out.c.tw)
  | (go_at_call 22;refine (HTI.out _ H2.out.below).mono ?_;rintro e w3 ⟨rfl,hb⟩;have H3:=Lib.hid (H2.out.later hb);have HX3:=Lib.hid (HX.out.below hb HX.out.lt);have H4:=Lib.hid (H3.out.set HSZ.out 2 (.string s'));have HX4:=Lib.hid (show Whole (w3.setCell ⟨w2.heap.size,2,none⟩ (.string s')) w2.heap.size 31 #[.int .u8 h.kind,.int .i64 h.num,.string s',.slice HL h.items.length dL,.slice HO h.vals.length dO] from HX3.out.put 2 (.string s'));have hset:=fun (k:Nat) (hk:k≠w2.heap.size)=>Below.heap_setCell w3 ⟨w2.heap.size,2,none⟩ (.string s') k hk;have HXV:=Lib.hid (show Vl (w3.setCell ⟨w2.heap.size,2,none⟩ (.string s')) (.mk h.kind h.num s' h.items h.keys h.vals) HL HO dL dO from ⟨(HLO.out.1.keep (fun k hk _=>(hset k (by omega)).trans (hb.block k (by simp;omega))) (fun _ _ _=>trivial)),(HLO.out.2.keep (fun k hk _=>(hset k (by omega)).trans (hb.block k (by simp;omega))) (fun _ _ _=>trivial))⟩);clear hset hb  g0 g1 g2 g3 g4 x0 x1 x2 x3 x4 c0 c1 c2 c3 c4 c5 c6 c7 c8 c9 c10 c11;have y0:=HX3.out.frozen 0;have y1:=HX3.out.frozen 1;have y2:=HX3.out.frozen 2;have y3:=HX3.out.frozen 3;have y4:=HX3.out.frozen 4;obtain ⟨m0,m1,m2,m3,m4,_⟩:=HX3.out.five;obtain ⟨x0,x1,x2,x3,x4,_⟩:=HX4.out.five;obtain ⟨g0,g1,g2,g3,g4,_⟩:=H4.out.g.five;obtain ⟨c0,c1,c2,c3,c4,c5,c6,c7,c8,c9,c10,c11,_⟩:=H4.out.c.tw)
  | (go_at_call 24;refine (HPU.out _ H4.out.below _ _ _ _ HXV.out).mono ?_;rintro e w5 ⟨BL,BO,dB,dP,rfl,hvv,hb⟩;have H5:=Lib.hid (And.intro (H4.out.later hb) (And.intro hvv H4.out.r.lt));clear hb hvv;obtain ⟨r0,r1,r2,r3,r4,f0,f1,f2,f3,f4⟩:=H5.out.1.r.five))
 have hlt:=H5.out.2.2
 have h5:=whole_put5 H5.out.1.r (.int .u8 y.kind) (.int .i64 y.num) (.string y.str) (.slice BL y.items.length dB) (.slice BO y.vals.length dP)
 obtain ⟨d0,d1,d2,d3,d4,_⟩:=h5.five
 unfold put5 at d0 d1 d2 d3 d4
 refine bodyPost_ret (v:=.tuple #[.agg #[.int .u8 y.kind,.int .i64 y.num,.string y.str,.slice BL y.items.length dB,.slice BO y.vals.length dP],.int .i64 0]) (by simp [results,Tryd.results10,go_sem,d0,d1,d2,d3,d4]) rfl ?_
 have hsz:=H4.out.below.size
 exact ⟨BL,BO,dB,dP,rfl,⟨H5.out.2.1.1.keep (fun k hk _=>put5_block _ _ _ _ _ _ _ _ (by omega)) (fun k hk _=>Nat.le_trans hsz hk),H5.out.2.1.2.keep (fun k hk _=>put5_block _ _ _ _ _ _ _ _ (by omega)) (fun k hk _=>Nat.le_trans hsz hk)⟩,put5_below H5.out.1.below (by omega) _ _ _ _ _⟩
theorem docD_a (g:GV) (GL GO:Option Addr) (eL eO:Nat) (c:GC) (A AL AO:Option Addr) (cp cL cO:Nat) (w:World) (hg:Vl w g GL GO eL eO) (hc:Cc w c A AL AO cp cL cO) (hgw:g.weight≤1000000) (hs:Small c) (hpos:c.v.Pos) (hT:Tabs w) (h y:GV) (hS:c.Sound) (hget:g.get c.path=some h) (hck:chkH h c=0) (hput:g.put (doH h c) c.path=some y) (hgs:h.Sound) (hk:c.kind=1):
  Calls Tryd.prog 10 #[.agg #[.int .u8 g.kind,.int .i64 g.num,.string g.str,.slice GL g.items.length eL,.slice GO g.vals.length eO],.agg #[.int .u8 c.kind,.slice A c.path.length cp,.string c.key,.int .i64 c.i,.int .i64 c.j,.int .i64 c.n,.int .u8 c.v.kind,.int .i64 c.v.num,.string c.v.str,.slice AL c.v.items.length cL,.slice AO c.v.vals.length cO,.string c.s]] w (RDone y w):=by
 have H0:=Lib.hid (DB.new w #[.int .u8 g.kind,.int .i64 g.num,.string g.str,.slice GL g.items.length eL,.slice GO g.vals.length eO] #[.int .u8 c.kind,.slice A c.path.length cp,.string c.key,.int .i64 c.i,.int .i64 c.j,.int .i64 c.n,.int .u8 c.v.kind,.int .i64 c.v.num,.string c.v.str,.slice AL c.v.items.length cL,.slice AO c.v.vals.length cO,.string c.s] #[.int .u8 0,.int .i64 0,.string ⟨#[]⟩,.slice none 0 0,.slice none 0 0])
 have hchk:ChkIs g c 0:=.inr ⟨hS,.inr ⟨h,hget,hck.symm⟩⟩
 have hcv:=hs.v
 have hck1:=hs.k
 have hcs:=hs.s
 have hhw:=get_weight c.path g h hget
 have hwi:=weight_is h
 have hll:=len_weights h.items
 have hlv:=len_weights h.vals
 have hdw:=doH_weight h c
 have HCK:=Lib.hid (dchk g GL GO eL eO c A AL AO cp cL cO w hg hc hgw hs hpos hT hchk)
 have HGE:=Lib.hid (dget g GL GO eL eO c A cp w hg hc.path hgw h hget)
 have hpu:=dput g GL GO eL eO c A cp w hg hc.path hgw (doH h c) y hput (by omega)
 have k1:(c.kind == 1)=true:=by simp;omega
 have k2:(c.kind == 2)=false:=by simp;omega
 have k3:(c.kind == 3)=false:=by simp;omega
 have k8:(c.kind == 8)=false:=by simp;omega
 have k9:(c.kind == 9)=false:=by simp;omega
 have hdl:doH h c=.mk h.kind (wrap64 (h.num+c.n)) h.str h.items h.keys h.vals:=by unfold doH;rw [if_pos hk,IntWalk.i64_left]
 rw [hdl] at hpu
 have HPU:=Lib.hid hpu
 clear hpu hg hc hgw hs hpos hT hS hget hck hput hgs hchk hhw hwi hdw hll hlv hcv hck1 hcs hdl hk
 obtain ⟨g0,g1,g2,g3,g4,_⟩:=H0.out.g.five
 obtain ⟨c0,c1,c2,c3,c4,c5,c6,c7,c8,c9,c10,c11,_⟩:=H0.out.c.tw
 go_enter Tryd.func10,Tryd.ntmps10
 go_wp2_with (first
  | (go_at_call 19;refine (HCK.out _ H0.out.below).mono ?_;rintro e w1 ⟨rfl,hb⟩;have H1:=Lib.hid (H0.out.later hb);clear hb g0 g1 g2 g3 g4 c0 c1 c2 c3 c4 c5 c6 c7 c8 c9 c10 c11;obtain ⟨g0,g1,g2,g3,g4,_⟩:=H1.out.g.five;obtain ⟨c0,c1,c2,c3,c4,c5,c6,c7,c8,c9,c10,c11,_⟩:=H1.out.c.tw)
  | (go_at_call 20;refine (HGE.out _ H1.out.below).mono ?_;rintro e w2 ⟨HL,HO,dL,dO,rfl,hvv,hb⟩;have HSZ:=Lib.hid (show w.heap.size+1+1<w2.heap.size from Nat.lt_of_lt_of_le H1.out.r.lt hb.size);have H2:=Lib.hid ((H1.out.later hb).later (below_alloc w2 (.cells #[.int .u8 h.kind,.int .i64 h.num,.string h.str,.slice HL h.items.length dL,.slice HO h.vals.length dO] 31)));have HX:=Lib.hid (Whole.new w2 31 #[.int .u8 h.kind,.int .i64 h.num,.string h.str,.slice HL h.items.length dL,.slice HO h.vals.length dO]);have HLO:=Lib.hid (And.intro (hvv.1.keep (From.of_below (below_alloc w2 (.cells #[.int .u8 h.kind,.int .i64 h.num,.string h.str,.slice HL h.items.length dL,.slice HO h.vals.length dO] 31))) (fun _ _ h=>h):LstV (fun k=>k<w2.heap.size) (w2.alloc (.cells #[.int .u8 h.kind,.int .i64 h.num,.string h.str,.slice HL h.items.length dL,.slice HO h.vals.length dO] 31)) (.slice HL h.items.length dL) h.items) (hvv.2.keep (From.of_below (below_alloc w2 (.cells #[.int .u8 h.kind,.int .i64 h.num,.string h.str,.slice HL h.items.length dL,.slice HO h.vals.length dO] 31))) (fun _ _ h=>h):ObjV (fun k=>k<w2.heap.size) (w2.alloc (.cells #[.int .u8 h.kind,.int .i64 h.num,.string h.str,.slice HL h.items.length dL,.slice HO h.vals.length dO] 31)) (.slice HO h.vals.length dO) h.keys h.vals));clear g0 g1 g2 g3 g4 c0 c1 c2 c3 c4 c5 c6 c7 c8 c9 c10 c11;obtain ⟨x0,x1,x2,x3,x4,_⟩:=HX.out.five;obtain ⟨g0,g1,g2,g3,g4,_⟩:=H2.out.g.five;obtain ⟨c0,c1,c2,c3,c4,c5,c6,c7,c8,c9,c10,c11,_⟩:=H2.out.c.tw;have H4:=Lib.hid ((H1.out.later hb).later (below_alloc w2 (.cells #[.int .u8 h.kind,.int .i64 (wrap64 (h.num+c.n)),.string h.str,.slice HL h.items.length dL,.slice HO h.vals.length dO] 31)));have HX4:=Lib.hid (Whole.new w2 31 #[.int .u8 h.kind,.int .i64 (wrap64 (h.num+c.n)),.string h.str,.slice HL h.items.length dL,.slice HO h.vals.length dO]);have HXV:=Lib.hid (show Vl (w2.alloc (.cells #[.int .u8 h.kind,.int .i64 (wrap64 (h.num+c.n)),.string h.str,.slice HL h.items.length dL,.slice HO h.vals.length dO] 31)) (.mk h.kind (wrap64 (h.num+c.n)) h.str h.items h.keys h.vals) HL HO dL dO from ⟨hvv.1.keep (From.of_below (below_alloc w2 (.cells #[.int .u8 h.kind,.int .i64 (wrap64 (h.num+c.n)),.string h.str,.slice HL h.items.length dL,.slice HO h.vals.length dO] 31))) (fun _ _ _=>trivial),hvv.2.keep (From.of_below (below_alloc w2 (.cells #[.int .u8 h.kind,.int .i64 (wrap64 (h.num+c.n)),.string h.str,.slice HL h.items.length dL,.slice HO h.vals.length dO] 31))) (fun _ _ _=>trivial)⟩);obtain ⟨z0,z1,z2,z3,z4,_⟩:=HX4.out.five;obtain ⟨u0,u1,u2,u3,u4,_⟩:=H4.out.g.five;obtain ⟨v0,v1,v2,v3,v4,v5,v6,v7,v8,v9,v10,v11,_⟩:=H4.out.c.tw;clear hb hvv)
  | (go_at_call 24;refine (HPU.out _ H4.out.below _ _ _ _ HXV.out).mono ?_;rintro e w5 ⟨BL,BO,dB,dP,rfl,hvv,hb⟩;have H5:=Lib.hid (And.intro (H4.out.later hb) (And.intro hvv H4.out.r.lt));clear hb hvv;obtain ⟨r0,r1,r2,r3,r4,f0,f1,f2,f3,f4⟩:=H5.out.1.r.five))
 have hlt:=H5.out.2.2
 have h5:=whole_put5 H5.out.1.r (.int .u8 y.kind) (.int .i64 y.num) (.string y.str) (.slice BL y.items.length dB) (.slice BO y.vals.length dP)
 obtain ⟨d0,d1,d2,d3,d4,_⟩:=h5.five
 unfold put5 at d0 d1 d2 d3 d4
 refine bodyPost_ret (v:=.tuple #[.agg #[.int .u8 y.kind,.int .i64 y.num,.string y.str,.slice BL y.items.length dB,.slice BO y.vals.length dP],.int .i64 0]) (by simp [results,Tryd.results10,go_sem,d0,d1,d2,d3,d4]) rfl ?_
 have hsz:=H4.out.below.size
 exact ⟨BL,BO,dB,dP,rfl,⟨H5.out.2.1.1.keep (fun k hk _=>put5_block _ _ _ _ _ _ _ _ (by omega)) (fun k hk _=>Nat.le_trans hsz hk),H5.out.2.1.2.keep (fun k hk _=>put5_block _ _ _ _ _ _ _ _ (by omega)) (fun k hk _=>Nat.le_trans hsz hk)⟩,put5_below H5.out.1.below (by omega) _ _ _ _ _⟩
end Go.Proofs.YtlhfnemcpgfcdaaDoor
