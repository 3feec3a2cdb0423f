/- Texts in one: CompDt, CompDu. -/
import Derived.Test.YtamlaknfakaanaaGreatDoorR33
import Derived.Test.YtamlaknfakaanaaGreatDoorR34
import Derived.Test.YtamlaknfakaanaaGreatDoorR38
set_option maxRecDepth 100000
set_option maxHeartbeats 8000000
namespace Go.Proofs.YtamlaknfakaanaaGreatDoor
open Go Go.RowKit
set_option linter.unusedVariables false
set_option linter.unusedSimpArgs false
theorem do_tins (h:GV) (c:GC) (A AL AO:Option Addr) (cp cL cO:Nat) (w:World) (hk:c.kind=8) (i:Nat) (hi:c.i=i) (hin:i≤nChars h.str) (hs:h.str.size+c.s.size≤140737488355328):PlaceDoes h c A AL AO cp cL cO w:=by
 intro HL HO dL lo W hB hlo hlW hv hf
 obtain ⟨Lh,Oh,eh,hL,hO⟩:=hv
 obtain ⟨rfl,rfl⟩:Value.slice HL h.items.length dL=Lh∧Value.slice HO h.vals.length h.vals.length=Oh:=by simpa using eh
 have hd:doH h c=.mk h.kind h.num (insS h.str c.i.toNat c.s) h.items h.keys h.vals:=by
  unfold doH
  rw [if_neg (by omega),if_neg (by omega),if_neg (by omega),if_pos hk]
 rw [hd]
 have ei:c.i.toNat=i:=by omega
 rw [ei]
 have g1:(c.kind == 1)=false:=by simp;omega
 have g2:(c.kind == 2)=false:=by simp;omega
 have g3:(c.kind == 3)=false:=by simp;omega
 have g8:(c.kind == 8)=true:=by simp;omega
 have g9:(c.kind == 9)=false:=by simp;omega
 obtain ⟨hP,hC,hB2⟩:=pc_boxes W #[.int .u8 h.kind,.int .i64 h.num,.string h.str,.slice HL h.items.length dL,.slice HO h.vals.length h.vals.length] #[.int .u8 c.kind,.slice A c.path.length cp,.string c.key,.int .i64 c.i,.int .i64 c.j,.int .i64 c.n,.int .u8 c.v.kind,.int .i64 c.v.num,.string c.v.str,.slice AL c.v.items.length cL,.slice AO c.v.vals.length cO,.string c.s]
 have HSQ:=Lib.hid (fun (W':World)=>text_Do_ins h.str c i A AL AO cp cL cO W' hs hk hi hin)
 have HL1:=Lib.hid (And.intro hL (And.intro hO hlW))
 clear hf hd hk hi hin hs hL hO hB hlo ei
 generalize (insS h.str i c.s)=s' at *
 generalize hb:W.heap.size=b at *
 have HBE:=Lib.hid hb
 go_enter Tryz.func22,Tryz.ntmps22
 go_wp2
 have hkeep:∀ k,k<b→((W.alloc (.cells #[.int .u8 h.kind,.int .i64 h.num,.string h.str,.slice HL h.items.length dL,.slice HO h.vals.length h.vals.length] 64)).alloc (.cells #[.int .u8 c.kind,.slice A c.path.length cp,.string c.key,.int .i64 c.i,.int .i64 c.j,.int .i64 c.n,.int .u8 c.v.kind,.int .i64 c.v.num,.string c.v.str,.slice AL c.v.items.length cL,.slice AO c.v.vals.length cO,.string c.s] 35)).heap[k]? = W.heap[k]?:=fun k hk=>hB2.block k hk
 have hB3:Below lo (W.alloc (.cells #[.int .u8 h.kind,.int .i64 h.num,.string h.str,.slice HL h.items.length dL,.slice HO h.vals.length h.vals.length] 64)) ((W.alloc (.cells #[.int .u8 h.kind,.int .i64 h.num,.string h.str,.slice HL h.items.length dL,.slice HO h.vals.length h.vals.length] 64)).alloc (.cells #[.int .u8 c.kind,.slice A c.path.length cp,.string c.key,.int .i64 c.i,.int .i64 c.j,.int .i64 c.n,.int .u8 c.v.kind,.int .i64 c.v.num,.string c.v.str,.slice AL c.v.items.length cL,.slice AO c.v.vals.length cO,.string c.s] 35)):=(Below.refl _ _).alloc (by simp;omega) _
 generalize ((W.alloc (.cells #[.int .u8 h.kind,.int .i64 h.num,.string h.str,.slice HL h.items.length dL,.slice HO h.vals.length h.vals.length] 64)).alloc (.cells #[.int .u8 c.kind,.slice A c.path.length cp,.string c.key,.int .i64 c.i,.int .i64 c.j,.int .i64 c.n,.int .u8 c.v.kind,.int .i64 c.v.num,.string c.v.str,.slice AL c.v.items.length cL,.slice AO c.v.vals.length cO,.string c.s] 35))=W2 at *
 have HK:=Lib.hid (And.intro hkeep (And.intro hB3 hB2))
 have HP:=Lib.hid hP
 obtain ⟨p0,p1,p2,p3,p4,f0,f1,f2,f3,f4⟩:=hP.five
 obtain ⟨c0,c1,c2,c3,c4,c5,c6,c7,c8,c9,c10,c11,_⟩:=hC.tw
 clear hkeep hP hC hB2 hB3 hb
 go_region_with (go_at_call 46;refine (HSQ.out W2.drew).mono ?_;rintro e w3 ⟨rfl,hbl⟩;have H3:=Lib.hid (show Below W2.heap.size W2 w3 from (Below.refl W2.heap.size W2).drew.trans hbl);clear hbl;obtain ⟨p0,p1,p2,p3,p4,f0,f1,f2,f3,f4⟩:=(HP.out.below H3.out HP.out.lt).five)
 all_goals
  go_wp2
  go_end0
  have hlt:=HP.out.lt
  have hb3:=HBE.out
  have hkw:∀ k,k<b→k<W.heap.size→(w3.setCell ⟨b,2,none⟩ (.string s')).heap[k]? = W.heap[k]?:=fun k hk _=>by
   rw [Below.heap_setCell w3 ⟨b,2,none⟩ _ k (by simp;omega)]
   exact (H3.out.block k (by omega)).trans (HK.out.1 k hk)
  refine ⟨rfl,HL,HO,dL,h.vals.length,(HP.out.below H3.out HP.out.lt).put 2 (.string s'),⟨?_,?_⟩,HK.out.2.1.trans ((H3.out.mono (by have:=HL1.out.2.2;omega)).setCell (p:=⟨b,2,none⟩) HL1.out.2.2 _)⟩
  ·exact (HL1.out.1.keep (ok':=fun k=>k<b) (From.refl _ W) (fun k _ hl=>by omega)).keep hkw (fun _ _ _=>trivial)
  ·exact (HL1.out.2.1.keep (ok':=fun k=>k<b) (From.refl _ W) (fun k _ hl=>by omega)).keep hkw (fun _ _ _=>trivial)
theorem do_tdel (h:GV) (c:GC) (A AL AO:Option Addr) (cp cL cO:Nat) (w:World) (hk:c.kind=9) (i n:Nat) (hi:c.i=i) (hn:c.n=n) (h1:1≤n) (hin:i+n≤nChars h.str) (hs:h.str.size≤70368744177664):PlaceDoes h c A AL AO cp cL cO w:=by
 intro HL HO dL lo W hB hlo hlW hv hf
 obtain ⟨Lh,Oh,eh,hL,hO⟩:=hv
 obtain ⟨rfl,rfl⟩:Value.slice HL h.items.length dL=Lh∧Value.slice HO h.vals.length h.vals.length=Oh:=by simpa using eh
 have hd:doH h c=.mk h.kind h.num (delS h.str c.i.toNat c.n.toNat) h.items h.keys h.vals:=by
  unfold doH
  rw [if_neg (by omega),if_neg (by omega),if_neg (by omega),if_neg (by omega),if_pos hk]
 rw [hd]
 have ei:c.i.toNat=i:=by omega
 have en:c.n.toNat=n:=by omega
 rw [ei,en]
 have g1:(c.kind == 1)=false:=by simp;omega
 have g2:(c.kind == 2)=false:=by simp;omega
 have g3:(c.kind == 3)=false:=by simp;omega
 have g8:(c.kind == 8)=false:=by simp;omega
 have g9:(c.kind == 9)=true:=by simp;omega
 obtain ⟨hP,hC,hB2⟩:=pc_boxes W #[.int .u8 h.kind,.int .i64 h.num,.string h.str,.slice HL h.items.length dL,.slice HO h.vals.length h.vals.length] #[.int .u8 c.kind,.slice A c.path.length cp,.string c.key,.int .i64 c.i,.int .i64 c.j,.int .i64 c.n,.int .u8 c.v.kind,.int .i64 c.v.num,.string c.v.str,.slice AL c.v.items.length cL,.slice AO c.v.vals.length cO,.string c.s]
 have HSQ:=Lib.hid (fun (W':World)=>text_Do_del h.str c i n A AL AO cp cL cO W' hs hk hi hn h1 hin)
 have HL1:=Lib.hid (And.intro hL (And.intro hO hlW))
 clear hf hd hk hi hin hs hL hO hB hlo ei hn h1 en
 generalize (delS h.str i n)=s' at *
 generalize hb:W.heap.size=b at *
 have HBE:=Lib.hid hb
 go_enter Tryz.func22,Tryz.ntmps22
 go_wp2
 have hkeep:∀ k,k<b→((W.alloc (.cells #[.int .u8 h.kind,.int .i64 h.num,.string h.str,.slice HL h.items.length dL,.slice HO h.vals.length h.vals.length] 64)).alloc (.cells #[.int .u8 c.kind,.slice A c.path.length cp,.string c.key,.int .i64 c.i,.int .i64 c.j,.int .i64 c.n,.int .u8 c.v.kind,.int .i64 c.v.num,.string c.v.str,.slice AL c.v.items.length cL,.slice AO c.v.vals.length cO,.string c.s] 35)).heap[k]? = W.heap[k]?:=fun k hk=>hB2.block k hk
 have hB3:Below lo (W.alloc (.cells #[.int .u8 h.kind,.int .i64 h.num,.string h.str,.slice HL h.items.length dL,.slice HO h.vals.length h.vals.length] 64)) ((W.alloc (.cells #[.int .u8 h.kind,.int .i64 h.num,.string h.str,.slice HL h.items.length dL,.slice HO h.vals.length h.vals.length] 64)).alloc (.cells #[.int .u8 c.kind,.slice A c.path.length cp,.string c.key,.int .i64 c.i,.int .i64 c.j,.int .i64 c.n,.int .u8 c.v.kind,.int .i64 c.v.num,.string c.v.str,.slice AL c.v.items.length cL,.slice AO c.v.vals.length cO,.string c.s] 35)):=(Below.refl _ _).alloc (by simp;omega) _
 generalize ((W.alloc (.cells #[.int .u8 h.kind,.int .i64 h.num,.string h.str,.slice HL h.items.length dL,.slice HO h.vals.length h.vals.length] 64)).alloc (.cells #[.int .u8 c.kind,.slice A c.path.length cp,.string c.key,.int .i64 c.i,.int .i64 c.j,.int .i64 c.n,.int .u8 c.v.kind,.int .i64 c.v.num,.string c.v.str,.slice AL c.v.items.length cL,.slice AO c.v.vals.length cO,.string c.s] 35))=W2 at *
 have HK:=Lib.hid (And.intro hkeep (And.intro hB3 hB2))
 have HP:=Lib.hid hP
 obtain ⟨p0,p1,p2,p3,p4,f0,f1,f2,f3,f4⟩:=hP.five
 obtain ⟨c0,c1,c2,c3,c4,c5,c6,c7,c8,c9,c10,c11,_⟩:=hC.tw
 clear hkeep hP hC hB2 hB3 hb
 go_region_with (go_at_call 46;refine (HSQ.out W2.drew).mono ?_;rintro e w3 ⟨rfl,hbl⟩;have H3:=Lib.hid (show Below W2.heap.size W2 w3 from (Below.refl W2.heap.size W2).drew.trans hbl);clear hbl;obtain ⟨p0,p1,p2,p3,p4,f0,f1,f2,f3,f4⟩:=(HP.out.below H3.out HP.out.lt).five)
 all_goals
  go_wp2
  go_end0
  have hlt:=HP.out.lt
  have hb3:=HBE.out
  have hkw:∀ k,k<b→k<W.heap.size→(w3.setCell ⟨b,2,none⟩ (.string s')).heap[k]? = W.heap[k]?:=fun k hk _=>by
   rw [Below.heap_setCell w3 ⟨b,2,none⟩ _ k (by simp;omega)]
   exact (H3.out.block k (by omega)).trans (HK.out.1 k hk)
  refine ⟨rfl,HL,HO,dL,h.vals.length,(HP.out.below H3.out HP.out.lt).put 2 (.string s'),⟨?_,?_⟩,HK.out.2.1.trans ((H3.out.mono (by have:=HL1.out.2.2;omega)).setCell (p:=⟨b,2,none⟩) HL1.out.2.2 _)⟩
  ·exact (HL1.out.1.keep (ok':=fun k=>k<b) (From.refl _ W) (fun k _ hl=>by omega)).keep hkw (fun _ _ _=>trivial)
  ·exact (HL1.out.2.1.keep (ok':=fun k=>k<b) (From.refl _ W) (fun k _ hl=>by omega)).keep hkw (fun _ _ _=>trivial)
theorem inside_vl {W:World} {g h:GV} {AL AO:Option Addr} {cL cO:Nat} {s:GStep} (hv:Vl W g AL AO cL cO) (hi:g.inside s=some h):∃ BL BO dL dO,Vl W h BL BO dL dO:=by
 rcases inside_cases hi with ⟨_,_,k,_,hx⟩ | ⟨_,_,_,hx⟩
 ·rcases hv.lst with ⟨h0,_⟩ | ⟨b,o,c,he,_⟩
  ·rw [h0] at hx;simp at hx
  ·simp only [Value.slice.injEq] at he
   obtain ⟨rfl,_,_⟩:=he
   obtain ⟨EL,EO,eL,eO,hsp⟩:=lst_at hv.lst hx
   exact ⟨EL,EO,eL,eO,hsp.lst.keep (From.refl _ _) (fun _ _ _=>trivial),hsp.obj.keep (From.refl _ _) (fun _ _ _=>trivial)⟩
 ·rcases hv.obj.2 with ⟨h0,_⟩ | ⟨b,o,c,he,_⟩
  ·rw [h0] at hx;simp at hx
  ·simp only [Value.slice.injEq] at he
   obtain ⟨rfl,_,_⟩:=he
   obtain ⟨EL,EO,eL,eO,hsp⟩:=obj_at hv.obj hx
   exact ⟨EL,EO,eL,eO,hsp.lst.keep (From.refl _ _) (fun _ _ _=>trivial),hsp.obj.keep (From.refl _ _) (fun _ _ _=>trivial)⟩
theorem get_vl {W:World}:∀ (p:List GStep) (g h:GV) (AL AO:Option Addr) (cL cO:Nat),Vl W g AL AO cL cO→g.get p=some h→∃ BL BO dL dO,Vl W h BL BO dL dO
 | [],g,h,AL,AO,cL,cO,hv,e=>by simp [GV.get] at e;subst e;exact ⟨AL,AO,cL,cO,hv⟩
 | s :: r,g,h,AL,AO,cL,cO,hv,e=>by
  simp only [GV.get] at e
  cases hi:g.inside s with
  | none=>rw [hi] at e;cases e
  | some y=>
   rw [hi] at e
   obtain ⟨BL,BO,dL,dO,hy⟩:=inside_vl hv hi
   exact get_vl r y h BL BO dL dO hy e
theorem insL_weights (l:List GV) (i:Nat) (v:GV):GV.weights (insL l i v)≤GV.weights l+v.weight:=by
 unfold insL
 have:=weights_cut l i i (Nat.le_refl _)
 rw [weights_app]
 simp only [GV.weights]
 omega
theorem remL_weights (l:List GV) (i:Nat):GV.weights (remL l i)≤GV.weights l:=by
 unfold remL
 have:=weights_cut l i (i+1) (by omega)
 rw [weights_app]
 omega
theorem mem_weight (l:List GV) (k:Nat) (x:GV) (h:l[k]? = some x):x.weight≤GV.weights l+1:=by
 have h1:=weight_set_mem l k x noG h
 have h2:noG.weight=1:=by unfold noG;simp only [GV.weight,GV.weights,List.map_nil,List.sum_nil];decide
 omega
theorem set_weights (l:List GV) (k:Nat) (y:GV):GV.weights (l.set k y)≤GV.weights l+y.weight:=by
 by_cases h:k<l.length
 ·have:=weight_set_mem l k l[k] y (List.getElem?_eq_getElem h)
  omega
 ·rw [List.set_eq_of_length_le (by omega)]
  omega
theorem doL_weights (l:List GV) (c:Cm GV):GV.weights (doL l c)≤2 * GV.weights l+c.v.weight+1:=by
 unfold doL
 split
 ·have:=insL_weights l c.i c.v;omega
 ·split
  ·have:=remL_weights l c.i;omega
  ·split
   ·have:=insL_weights (remL l c.i) c.i c.v
    have:=remL_weights l c.i
    omega
   ·split
    ·rename_i x hx
     have:=insL_weights (remL l c.i) c.j x
     have:=remL_weights l c.i
     have:=mem_weight l c.i x hx
     omega
    ·omega
theorem insK_sum (l:List ByteArray) (i:Nat) (v:ByteArray):((insL l i v).map (·.size)).sum≤(l.map (·.size)).sum+v.size:=by
 have:=ksum_cut l i i (Nat.le_refl _)
 unfold ksum at this
 unfold insL
 rw [List.map_append,List.sum_append,List.map_cons,List.sum_cons]
 omega
theorem remK_sum (l:List ByteArray) (i:Nat):((remL l i).map (·.size)).sum≤(l.map (·.size)).sum:=by
 have:=ksum_cut l i (i+1) (by omega)
 unfold ksum at this
 unfold remL
 rw [List.map_append,List.sum_append]
 omega
theorem insS_size (s:ByteArray) (i:Nat) (t:ByteArray):(insS s i t).size≤s.size+t.size:=by
 unfold insS
 have:=cutS_le s i
 rw [ByteArray.size_append,ByteArray.size_append,ByteArray.size_extract,ByteArray.size_extract]
 omega
theorem delS_size (s:ByteArray) (i n:Nat):(delS s i n).size≤2 * s.size:=by
 unfold delS
 rw [ByteArray.size_append,ByteArray.size_extract,ByteArray.size_extract]
 omega
theorem weight_is (h:GV):h.weight=1+h.str.size+GV.weights h.items+(h.keys.map (·.size)).sum+GV.weights h.vals:=by
 cases h with | mk k n s l ks ov=>simp only [GV.weight,GV.str,GV.items,GV.keys,GV.vals]
theorem doH_weight (h:GV) (c:GC):(doH h c).weight≤2 * h.weight+c.v.weight+c.key.size+c.s.size+10:=by
 have a0:=weight_is h
 have a1:=insL_weights h.vals (place c.key h.keys) c.v
 have a2:=remL_weights h.vals (place c.key h.keys)
 have a3:=set_weights h.vals (place c.key h.keys) c.v
 have a4:=insK_sum h.keys (place c.key h.keys) c.key
 have a5:=remK_sum h.keys (place c.key h.keys)
 have a6:=insS_size h.str c.i.toNat c.s
 have a7:=delS_size h.str c.i.toNat c.n.toNat
 have a8:=doL_weights h.items ⟨c.kind.toNat,c.i.toNat,c.j.toNat,c.v⟩
 simp only at a8
 unfold doH
 by_cases k1:c.kind=1
 ·rw [if_pos k1];simp only [GV.weight];omega
 rw [if_neg k1]
 by_cases k2:c.kind=2
 ·rw [if_pos k2]
  by_cases ht:there c.key h.keys=true
  ·rw [if_pos ht];simp only [GV.weight];omega
  ·rw [if_neg ht];simp only [GV.weight];omega
 rw [if_neg k2]
 by_cases k3:c.kind=3
 ·rw [if_pos k3];simp only [GV.weight];omega
 rw [if_neg k3]
 by_cases k8:c.kind=8
 ·rw [if_pos k8];simp only [GV.weight];omega
 rw [if_neg k8]
 by_cases k9:c.kind=9
 ·rw [if_pos k9];simp only [GV.weight];omega
 rw [if_neg k9];simp only [GV.weight];omega
structure Small (c:GC):Prop where
 v:c.v.weight≤1000000
 k:c.key.size≤1000000
 s:c.s.size≤1000000
 pk:∀ s∈c.path,s.key.size≤9223372036854775807
theorem works3 {k:Int} (h:worksOn k=3):k=8∨k=9:=by
 unfold worksOn at h
 split at h
 ·omega
 ·split at h
  ·omega
  ·split at h
   ·assumption
   ·omega
theorem comp_DoA (g:GV) (GL GO:Option Addr) (eL eO:Nat) (c:GC) (A AL AO:Option Addr) (cp cL cO:Nat) (w:World) (hg:Vl w g GL GO eL eO) (hc:Cc w c A AL AO cp cL cO) (hgw:g.weight≤1000000) (hs:Small c) (hT:Tabs w):
  Calls Tryz.prog 10 #[.agg #[.int .u8 g.kind,.int .i64 g.num,.string g.str,.slice GL g.items.length eL,.slice GO g.vals.length eO],.agg #[.int .u8 c.kind,.slice A c.path.length cp,.string c.key,.int .i64 c.i,.int .i64 c.j,.int .i64 c.n,.int .u8 c.v.kind,.int .i64 c.v.num,.string c.v.str,.slice AL c.v.items.length cL,.slice AO c.v.vals.length cO,.string c.s]] w (DoesOut g c w):=by
 have hsv:=hs.v
 have hsk:=hs.k
 have hss:=hs.s
 refine comp_Do g GL GO eL eO c A AL AO cp cL cO w hg hc (by omega) (by omega) (by omega) (by omega) (fun s hm=>by have:=hs.pk s hm;omega) hT ?_ ?_ ?_
 ·intro h h3 hw hwk W hb
  have:=(parts_weight h).1
  exact text_Check h.str c A AL AO cp cL cO W (by omega) (works3 hwk)
 ·intro h hget hck hS
  have hw:=get_weight _ _ _ hget
  obtain ⟨p1,p2,p3⟩:=parts_weight h
  obtain ⟨BL,BO,dL,dO,hvh⟩:=get_vl _ _ _ _ _ _ _ hg hget
  have hkl:=hvh.obj.1
  have hkr:=hS.2.2.2.2.1.1
  have hi0:=hS.1
  have hj0:=hS.2.1
  by_cases h7:c.kind≤7
  ·refine do_kinds h c A AL AO cp cL cO w ⟨hkr.1,h7⟩ hck hi0 hj0 hc.v hkl (by omega) (by omega) fun _=>?_
   have:=doL_weights h.items ⟨c.kind.toNat,c.i.toNat,c.j.toNat,c.v⟩
   have h2:GV.weights h.items≤h.weight:=by cases h with | mk k n s l ks ov=>simp only [GV.weight,GV.items];omega
   simp only at this
   omega
  ·have h3:h.kind=3∧chkT (nChars h.str) c.kind.toNat c.i c.n=0:=by
    have hwk:worksOn c.kind=3:=by unfold worksOn;rw [if_neg (by omega),if_neg (by omega),if_pos (by omega)]
    unfold chkH at hck
    rw [hwk] at hck
    by_cases e:h.kind=3
    ·rw [if_neg (by omega),if_neg (by omega),if_pos e] at hck
     exact ⟨e,hck⟩
    ·rw [if_pos e] at hck
     omega
   obtain ⟨i,hi,hin,h8 | ⟨h9,n,hn,hn1,hin2⟩⟩:=chkT_ok h3.2
   ·exact do_tins h c A AL AO cp cL cO w (by omega) i hi hin (by omega)
   ·exact do_tdel h c A AL AO cp cL cO w (by omega) i n hi hn hn1 hin2 (by omega)
 ·intro h hget hck
  have hw:=get_weight _ _ _ hget
  have:=doH_weight h c
  omega
end Go.Proofs.YtamlaknfakaanaaGreatDoor
