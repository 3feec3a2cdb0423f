/- Texts in one: CompOz, CompZ, CompDx. -/
import Derived.Test.YtmmgdkpkcoopgaaGreatDoorP17
import Derived.Test.YtmmgdkpkcoopgaaGreatDoorP18
import Derived.Test.YtmmgdkpkcoopgaaGreatDoorP19
import Derived.Test.YtmmgdkpkcoopgaaGreatDoorP16
import Derived.ArgAppend
import Derived.Lib.SliceRun
set_option maxRecDepth 100000
set_option maxHeartbeats 8000000
namespace Go.Proofs.YtmmgdkpkcoopgaaGreatDoor
open Go.Lib(hid)
open Go Go.RowKit
set_option linter.unusedVariables false
set_option linter.unusedSimpArgs false
theorem zj4 (c A AL AO cp cL cO w) (hc:Cc w c A AL AO cp cL cO) (hk:¬ (1<=c.kq/\c.kq<=9)):
  Calls Tryz.prog 42 #[.agg #[.int .u8 c.kq,.slice A c.path.length cp,.string c.key,.int .i64 c.i,.int .i64 c.j,.int .i64 c.n,.int .u8 c.v.kq,.int .i64 c.v.num,.string c.v.str,.slice AL c.v.il.length cL,.slice AO c.v.vz.length cO,.string c.s]] w (BoolPost c.Sound w):=by
 have HN:=hid (show ¬ c.Sound from fun h=>hk h.2.2.2.2.1.1)
 have HB:=hid (zaa w (.cells #[.int .u8 c.kq,.slice A c.path.length cp,.string c.key,.int .i64 c.i,.int .i64 c.j,.int .i64 c.n,.int .u8 c.v.kq,.int .i64 c.v.num,.string c.v.str,.slice AL c.v.il.length cL,.slice AO c.v.vz.length cO,.string c.s] 45));have HSAY:=hid (fun W=>zbj c.kq W)
 rw [show saysB c.kq =⟨#[]⟩ by unfold saysB;simp only [show ¬ c.kq=1 by omega,show ¬ c.kq=2 by omega,show ¬ c.kq=3 by omega,show ¬ c.kq=4 by omega,show ¬ c.kq=5 by omega,show ¬ c.kq=6 by omega,show ¬ c.kq=7 by omega,show ¬ c.kq=8 by omega,show ¬ c.kq=9 by omega,if_false]] at HSAY
 have z:(⟨#[]⟩:ByteArray).toList.isEmpty=true:=by decide +kernel
 clear hc hk;generalize c.Sound=SS at *;go_enter Tryz.func42,Tryz.ntmps42
 go_wp2_with (go_at_call 67;refine (HSAY.out _).mono ?_;rintro e w' ⟨rfl,rfl⟩)
 go_ret
 exact ⟨false,rfl,⟨(fun h=>by cases h),fun h=>absurd h HN.out⟩,HB.out⟩
theorem ziT (c A AL AO cp cL cO w) (hc:Cc w c A AL AO cp cL cO) (hw:c.v.weight<=1000000000) (hpos:c.v.Pos) (hky:c.key.size<=9223372036854775807) (hs:c.s.size<=9223372036854775807) (hpk:∀ s∈c.path,s.key.size<=9223372036854775807) (hT:Tabs w):
  Calls Tryz.prog 42 #[.agg #[.int .u8 c.kq,.slice A c.path.length cp,.string c.key,.int .i64 c.i,.int .i64 c.j,.int .i64 c.n,.int .u8 c.v.kq,.int .i64 c.v.num,.string c.v.str,.slice AL c.v.il.length cL,.slice AO c.v.vz.length cO,.string c.s]] w (BoolPost c.Sound w):=by
 by_cases h:1<=c.kq/\c.kq<=9
 ·rcases (show c.kq=1\/c.kq=2\/c.kq=3\/c.kq=4\/c.kq=5\/c.kq=6\/c.kq=7\/c.kq=8\/c.kq=9 by omega) with k | k | k | k | k | k | k | k | k
  ·exact zkr c A AL AO cp cL cO w hc hw hpos hky hs hpk hT k
  ·exact zkC c A AL AO cp cL cO w hc hw hpos hky hs hpk hT k
  ·exact zkO c A AL AO cp cL cO w hc hw hpos hky hs hpk hT k
  ·exact zkP c A AL AO cp cL cO w hc hw hpos hky hs hpk hT k
  ·exact zly c A AL AO cp cL cO w hc hw hpos hky hs hpk hT k
  ·exact zln c A AL AO cp cL cO w hc hw hpos hky hs hpk hT k
  ·exact zkJ c A AL AO cp cL cO w hc hw hpos hky hs hpk hT k
  ·exact zlq c A AL AO cp cL cO w hc hw hpos hky hs hpk hT k
  ·exact zlw c A AL AO cp cL cO w hc hw hpos hky hs hpk hT k
 ·exact zj4 c A AL AO cp cL cO w hc h
end Go.Proofs.YtmmgdkpkcoopgaaGreatDoor
namespace Go.Proofs.YtmmgdkpkcoopgaaGreatDoor
open Go.Lib(hid)
open Go Go.RowKit
set_option linter.unusedVariables false
set_option linter.unusedSimpArgs false
theorem zky (W:World) (cp cc:Array Value):Whole ((W.alloc (.cells cp 79)).alloc (.cells cc 45)) W.heap.size 79 cp/\Whole ((W.alloc (.cells cp 79)).alloc (.cells cc 45)) (W.heap.size+1) 45 cc/\Below W.heap.size W ((W.alloc (.cells cp 79)).alloc (.cells cc 45)):=by
 have h2:=Whole.new (W.alloc (.cells cp 79)) 45 cc;rw [World.size_alloc] at h2;exact ⟨(Whole.new W _ _).alloc _,h2,(zaa W _).alloc (by simp) _⟩
end Go.Proofs.YtmmgdkpkcoopgaaGreatDoor
namespace Go.Proofs.YtmmgdkpkcoopgaaGreatDoor
open Go.Lib(hid)
open Go Go.RowKit
set_option linter.unusedVariables false
set_option linter.unusedSimpArgs false
theorem zl0 {n:Nat} {k i j:Int} {v:GV} (hk:4<=k/\k<=7) (h:chkL n k i j=0):okC n (⟨k.toNat,i.toNat,j.toNat,v⟩:Cm GV):=by
 unfold chkL at h;unfold okC;simp only;rcases (show k=4\/k=5\/k=6\/k=7 by omega) with rfl | rfl | rfl | rfl
 ·by_cases q:0<=i/\i<=n
  ·left;omega
  ·rw [if_pos rfl,if_neg q] at h;omega
 ·by_cases q:0<=i/\i<n
  ·right;left;omega
  ·rw [if_neg (by omega),if_pos (by omega),if_neg q] at h;omega
 ·by_cases q:0<=i/\i<n
  ·right;left;omega
  ·rw [if_neg (by omega),if_pos (by omega),if_neg q] at h;omega
 ·by_cases q:(0<=i/\i<n)/\0<=j/\j<n
  ·right;right;omega
  ·rw [if_neg (by omega),if_neg (by omega),if_pos rfl,if_neg q] at h;omega
theorem ziX {h:GV} {c:GC} (hk:4<=c.kq/\c.kq<=7) (hc:chkH h c=0):h.kq=4/\okC h.il.length (⟨c.kq.toNat,c.i.toNat,c.j.toNat,c.v⟩:Cm GV):=by
 have hw:worksOn c.kq=4:=by unfold worksOn;rw [if_neg (by omega),if_neg (by omega),if_neg (by omega)]
 unfold chkH at hc;rw [hw] at hc;by_cases h4:h.kq=4
 ·rw [if_neg (by omega),if_pos h4] at hc
  exact ⟨h4,zl0 hk hc⟩
 ·rw [if_pos h4] at hc
  omega
theorem ziK {ok W W' g lo n} {L:Value} (hJ:Just g lo n W W') (h:LstV ok W L []):LstV (fun _=>True) W' L []:=by
 rcases h with h | ⟨b',o',c,e,h1,h2,hK,_⟩
 ·exact .inl h
 ·refine .inr ⟨b',o',c,e,h1,h2,?_,?_⟩
  ·obtain ⟨_,cs,hcs⟩:=hK
   by_cases q:b'=g
   ·subst q
    obtain ⟨cs',hw'⟩:=hJ.row _ _ hcs;exact ⟨trivial,cs',hw'⟩
   ·exact ⟨trivial,cs,(hJ.far b' (Whole.lt hcs) q).trans hcs⟩
  ·exact GV.els_of fun i a ha=>by simp at ha
theorem zmB (lo b i:Nat) (h:GV) (HL:Option Addr) (g o dL:Nat) (key:ByteArray) (v:GV) (AL AO:Option Addr) (cL cO:Nat) (w:World) (hbx:Whole w b 79 #[.int .u8 h.kq,.int .i64 h.num,.string h.str,.slice HL h.il.length dL,.slice (some ⟨g,o,none⟩) h.vz.length h.vz.length])
  (hL:LstV (fun k=>k<b) w (.slice HL h.il.length dL) h.il) (hO:ObjV (fun k=>k<b) w (.slice (some ⟨g,o,none⟩) h.vz.length h.vz.length) h.keys h.vz) (hLn:h.il≠[]->LstV (fun k=>lo<=k/\k≠g) w (.slice HL h.il.length dL) h.il) (hE:GV.els (fun k=>lo<=k/\k≠g) w g 6 (o+1) h.vz)
  (hvL:LstV (fun k=>k<lo) w (.slice AL v.il.length cL) v.il) (hvO:ObjV (fun k=>k<lo) w (.slice AO v.vz.length cO) v.keys v.vz) (hlg:lo<=g) (hgb:g<b) (hth:there key h.keys=true) (hpl:place key h.keys=i) (hi:i<h.vz.length):
  Calls Tryz.prog 59 #[.pointer (some ⟨b,0,none⟩),.string key,.agg #[.int .u8 v.kq,.int .i64 v.num,.string v.str,.slice AL v.il.length cL,.slice AO v.vz.length cO]] w (PlaceIs lo b (.mk h.kq h.num h.str h.il h.keys (h.vz.set i v)) w):=by
 have hlt:=hbx.lt;have hB0:=zaa w (.cells #[.int .u8 v.kq,.int .i64 v.num,.string v.str,.slice AL v.il.length cL,.slice AO v.vz.length cO] 29);have HVB:=hid (Whole.new w 29 #[.int .u8 v.kq,.int .i64 v.num,.string v.str,.slice AL v.il.length cL,.slice AO v.vz.length cO]);have HF:=hid (fun W (hb:Below w.heap.size w W)=>(zd9 (fun _=>True) _ h key W ⟨_,_,rfl,hL.keep (From.of_below hb) (fun _ _ _=>trivial),hO.keep (From.of_below hb) (fun _ _ _=>trivial)⟩).mono (R':=fun e w'=>e=.returned (.tuple #[.int .i64 i,.bool true])/\Below W.heap.size W w') fun e w' hq=>by
  obtain ⟨he,hb'⟩:=hq;rw [hth,hpl] at he;exact ⟨he,hb'⟩)
 have HBX:=hid hbx;have H4:=hid (And.intro hL (And.intro hO (And.intro hvL (And.intro hvO (And.intro hLn (And.intro hE (And.intro hlg (And.intro hgb hi))))))));obtain ⟨c0,c1,c2,c3,c4,_⟩:=hbx.five;replace c0:=fun o=>zab o c0
 replace c1:=fun o=>zab o c1
 replace c2:=fun o=>zab o c2
 replace c3:=fun o=>zab o c3
 replace c4:=fun o=>zab o c4
 have HB0:=hid hB0;have hm0:(0:Int)<=(i:Int):=by omega
 have hm1:(i:Int)<(h.vz.length:Int):=by omega
 clear hbx hL hO hvL hvO hLn hE hlg hgb hB0 hth hpl hi;go_enter Tryz.func59,Tryz.ntmps59
 go_wp2_with (go_at_call 92;refine (HF.out _ HB0.out).mono ?_;rintro e w2 ⟨rfl,hb2⟩;have HB2:=hid (HB0.out.trans (hb2.mono HB0.out.size));have HV2:=hid (HVB.out.below hb2 HVB.out.lt);clear hb2 c0 c1 c2 c3 c4)
 have hP5:=HBX.out.below HB2.out HBX.out.lt;have hV5:=HV2.out;have hE5:=GV.els_keep (ok':=fun k=>lo<=k/\k≠g) (W':=w2) (fun k hk hl=>HB2.out.block k hl) (fun k hk _=>hk) _ (HB2.out.block g (by have:=H4.out.2.2.2.2.2.2.2.1;omega)) H4.out.2.2.2.2.2.1
 have hO5:=H4.out.2.1.keep (ok':=fun _=>True) (From.of_below HB2.out) (fun _ _ _=>trivial)
 obtain ⟨p0,p1,p2,p3,p4,_⟩:=hP5.five;obtain ⟨v0,v1,v2,v3,v4,_⟩:=hV5.five;obtain ⟨cur,hG5⟩:∃ cur,Whole w2 g 56 cur:=by
  rcases hO5.2 with ⟨h0,h1⟩ | ⟨b',o',d',he,_,_,hK,_⟩
  ·cases h1
  ·simp only [Value.slice.injEq,Option.some.injEq,Addr.mk.injEq] at he
   obtain ⟨⟨rfl,rfl,_⟩,_⟩:=he;exact hK.2
 have hat := GV.els_get hE5 (i := i) (g := h.vz[i]'H4.out.2.2.2.2.2.2.2.2) (by simp [H4.out.2.2.2.2.2.2.2.2])
 obtain ⟨L0,O0,t0,t1,t2,t3,t4,_,_⟩:=GV.at_iff.1 hat;rw [show o+1+i * 6=o+i * 6+1 by omega] at t0 t1 t2 t3 t4
 have z0:=hG5.frozen (o+i * 6+1);have z1:=hG5.frozen (o+i * 6+1+1);have z2:=hG5.frozen (o+i * 6+1+2);have z3:=hG5.frozen (o+i * 6+1+3);have z4:=hG5.frozen (o+i * 6+1+4);have HP5:=hid hP5;have HK5:=hid (And.intro hO5 (And.intro hE5 (And.intro hG5 hlt)));clear hP5 hV5 hE5 hO5 hG5 hat;generalize h.vz[i]'H4.out.2.2.2.2.2.2.2.2 = y0 at *
 go_region
 all_goals
  go_wp2
  go_end0
  have hJ:=zbl (b:=g) (off:=o+i * 6+1) w2 (.int .u8 v.kq) (.int .i64 v.num) (.string v.str) (.slice AL v.il.length cL) (.slice AO v.vz.length cO);obtain ⟨hL,hO,hvL,hvO,hLn,hE,hlg,hgb,hi⟩:=H4.out;obtain ⟨hO5,hE5,hG5,hlt⟩:=HK5.out;have hva:=zgH (x:=v) (R:=lo) t0 t1 t2 t3 t4 hlg (hvL.keep (ok':=fun k=>k<lo) (fun k hk hl=>HB2.out.block k hl) (fun k hk _=>hk)) (hvO.keep (ok':=fun k=>k<lo) (fun k hk hl=>HB2.out.block k hl) (fun k hk _=>hk))
  have hset:=zlY (lo:=lo) (k:=i) (y:=v) hO5 hE5 hJ hva (fun e=>by rw [e] at hi;cases hi)
  have hJ2:=hJ.trans (Just.of_below (Below.refl _ _).drew (by have:=hJ.size;have:=HB2.out.size;omega))
  have hbl:Below lo w _:=(HB2.out.mono (by omega)).trans (hJ2.below (B:=lo) hlg (by have:=HB2.out.size;omega))
  refine ⟨rfl,HL,some ⟨g,o,none⟩,dL,h.vz.length,?_,⟨?_,?_⟩,hbl⟩
  ·show Whole _ b 79 #[.int .u8 h.kq,.int .i64 h.num,.string h.str,.slice HL h.il.length dL,.slice (some ⟨g,o,none⟩) (h.vz.set i v).length h.vz.length]
   rw [List.length_set];exact HP5.out.of_eq (hJ2.far b HP5.out.lt (by omega))
  ·show LstV _ _ (.slice HL h.il.length dL) h.il
   by_cases q:h.il=[]
   ·have h0:=hL.keep (ok':=fun _=>True) (From.of_below HB2.out) (fun _ _ _=>trivial)
    rw [q] at h0 ⊢;exact ziK hJ2 h0
   ·exact ((hLn q).keep (ok':=fun k=>lo<=k/\k≠g) (fun k hk hl=>HB2.out.block k hl) (fun k hk _=>hk)).keep (hJ2.from (by simp)) (fun _ _ _=>trivial)
  ·show ObjV _ _ (.slice (some ⟨g,o,none⟩) (h.vz.set i v).length h.vz.length) h.keys (h.vz.set i v)
   rw [List.length_set];exact hset.keep (From.of_below (Below.refl _ _).drew) (fun _ _ _=>trivial)
theorem ziU (h:GV) (c:GC) (A AL AO:Option Addr) (cp cL cO:Nat) (w) (hk:c.kq=2) (hcv:Vl w c.v AL AO cL cO) (hth:there c.key h.keys=true):PlaceDoes h c A AL AO cp cL cO w:=by
 intro HL HO dL lo W hB hlo hlW hv hf;obtain ⟨Lh,Oh,eh,hL,hO⟩:=hv;obtain ⟨rfl,rfl⟩:Value.slice HL h.il.length dL=Lh/\Value.slice HO h.vz.length h.vz.length=Oh:=by simpa using eh
 have hd:doH h c=.mk h.kq h.num h.str h.il h.keys (h.vz.set (place c.key h.keys) c.v):=by
  unfold doH;rw [if_neg (by omega),if_pos hk,if_pos hth]
 rw [hd];have hi:place c.key h.keys<h.vz.length:=by have:=zbP hth;have:=hO.1;omega
 have hne:h.vz≠[]:=fun e=>by rw [e] at hi;cases hi
 obtain ⟨g,o,rfl,hgb⟩:∃ g o,HO=some ⟨g,o,none⟩/\g<W.heap.size:=by
  rcases hO.2 with ⟨h0,_⟩ | ⟨b',o',d',he,_,_,hK,_⟩
  ·exact absurd h0 hne
  ·simp only [Value.slice.injEq] at he
   exact ⟨b',o',he.1,hK.lt⟩
 obtain ⟨L',A',e',hf⟩:=hf;obtain ⟨rfl,rfl⟩:Value.slice HL h.il.length dL=L'/\some ⟨g,o,none⟩=A':=by simpa using e'
 obtain ⟨hlg,hLn,hE⟩:=hf _ rfl hne;simp only at hlg hLn hE;have g1:(c.kq == 1)=false:=by rw [hk];rfl
 have g2:(c.kq == 2)=true:=by rw [hk];rfl
 obtain ⟨hP,hC,hB2⟩:=zky W #[.int .u8 h.kq,.int .i64 h.num,.string h.str,.slice HL h.il.length dL,.slice (some ⟨g,o,none⟩) h.vz.length h.vz.length] #[.int .u8 c.kq,.slice A c.path.length cp,.string c.key,.int .i64 c.i,.int .i64 c.j,.int .i64 c.n,.int .u8 c.v.kq,.int .i64 c.v.num,.string c.v.str,.slice AL c.v.il.length cL,.slice AO c.v.vz.length cO,.string c.s];have hkeep:∀ k,k<W.heap.size->((W.alloc (.cells #[.int .u8 h.kq,.int .i64 h.num,.string h.str,.slice HL h.il.length dL,.slice (some ⟨g,o,none⟩) h.vz.length h.vz.length] 79)).alloc (.cells #[.int .u8 c.kq,.slice A c.path.length cp,.string c.key,.int .i64 c.i,.int .i64 c.j,.int .i64 c.n,.int .u8 c.v.kq,.int .i64 c.v.num,.string c.v.str,.slice AL c.v.il.length cL,.slice AO c.v.vz.length cO,.string c.s] 45)).heap[k]? = W.heap[k]?:=fun k hk=>hB2.block k hk
 have hkw:∀ k,k<w.heap.size->((W.alloc (.cells #[.int .u8 h.kq,.int .i64 h.num,.string h.str,.slice HL h.il.length dL,.slice (some ⟨g,o,none⟩) h.vz.length h.vz.length] 79)).alloc (.cells #[.int .u8 c.kq,.slice A c.path.length cp,.string c.key,.int .i64 c.i,.int .i64 c.j,.int .i64 c.n,.int .u8 c.v.kq,.int .i64 c.v.num,.string c.v.str,.slice AL c.v.il.length cL,.slice AO c.v.vz.length cO,.string c.s] 45)).heap[k]? = w.heap[k]?:=fun k hk=>(hkeep k (by have:=hB.size;omega)).trans (hB.block k hk)
 have HPUT:=hid (zmB lo W.heap.size (place c.key h.keys) h HL g o dL c.key c.v AL AO cL cO _ hP (hL.keep (fun k _ hl=>hkeep k hl) (fun k _ hl=>hl)) (hO.keep (fun k _ hl=>hkeep k hl) (fun k _ hl=>hl)) (fun q=>(hLn q).keep (fun k _ hl=>hkeep k hl) (fun k hk _=>hk)) (GV.els_keep (fun k _ hl=>hkeep k hl) (fun k hk _=>hk) _ (hkeep g hgb) hE)
  (hcv.lst.keep (fun k _ hl=>hkw k hl) (fun k _ hl=>by omega)) (hcv.obj.keep (fun k _ hl=>hkw k hl) (fun k _ hl=>by omega)) hlg hgb hth rfl hi)
 have HB3:=hid (show Below lo (W.alloc (.cells #[.int .u8 h.kq,.int .i64 h.num,.string h.str,.slice HL h.il.length dL,.slice (some ⟨g,o,none⟩) h.vz.length h.vz.length] 79)) ((W.alloc (.cells #[.int .u8 h.kq,.int .i64 h.num,.string h.str,.slice HL h.il.length dL,.slice (some ⟨g,o,none⟩) h.vz.length h.vz.length] 79)).alloc (.cells #[.int .u8 c.kq,.slice A c.path.length cp,.string c.key,.int .i64 c.i,.int .i64 c.j,.int .i64 c.n,.int .u8 c.v.kq,.int .i64 c.v.num,.string c.v.str,.slice AL c.v.il.length cL,.slice AO c.v.vz.length cO,.string c.s] 45)) from (Below.refl _ _).alloc (by simp;omega) _)
 clear hd hk hL hO hB hlo hcv hth hi hne hP hC hB2 hkeep hkw hf hlg hLn hE;go_enter Tryz.func37,Tryz.ntmps37
 go_wp2_with (go_at_call 59;refine HPUT.out.mono ?_;rintro e w2 ⟨rfl,XL,XO,xL,xO,hwh,hvl,hb⟩;have H2:=hid (And.intro hwh (And.intro hvl hb));clear hwh hvl hb)
 go_end0
 exact ⟨rfl,XL,XO,xL,xO,H2.out.1,H2.out.2.1,HB3.out.trans H2.out.2.2⟩
section
variable {P:Program} {w:World}
end
theorem zdi {α:Type} {l:List α} {i k:Nat} (hi:i<l.length):(remL l i)[k]? = if k<i then l[k]? else l[k+1]?:=by
 unfold remL;rw [List.getElem?_append,List.length_take,Nat.min_eq_left (by omega)]
 split
 ·rw [List.getElem?_take,if_pos (by assumption)]
 ·rw [List.getElem?_drop]
  congr 1
  omega
theorem zhP {α:Type} {l:List α} {i:Nat} (hi:i<l.length):(remL l i).length=l.length - 1:=by
 unfold remL;rw [List.length_append,List.length_take,List.length_drop];omega
open Go Go.RowKit
set_option linter.unusedVariables false
set_option linter.unusedSimpArgs false
section
variable {P:Program} (w:World)
end
section
variable {P:Program} {w:World}
theorem zdk {ops:Array Oper} {rest:List Oper} {o:Oper} {a:Act} {Q:Exit->Act->World->Prop} (hgd:o.guard=none) (s x:Operand) (t tx:TypeId) (ho:o.op=.call { callee:=.builtin .append,args:=#[s,x],argTypes:=#[t,tx] })
  (v1 v2 v':Value) (w':World) (hs:a.eval s=v1) (hx:a.eval x=v2) (hrun:(Builtin.append_ #[t,tx] o.type #[v1,v2]).run P w=.ok v' w') (h:wpList P ops Q rest (a.put o.dst v') w'):wpList P ops Q (o :: rest) a w:=by
 refine wpList_plain hgd fun K hK=>?_
 unfold Oper.wp execOp;simp only [ho,resolve,invoke,builtin,Sem.run_bind,Sem.run_pure,Result.andThen_ok,List.map_toArray,List.map_cons,List.map_nil,hs,hx,hrun];exact hK _ _ h
end
open Go Go.RowKit
set_option linter.unusedVariables false
set_option linter.unusedSimpArgs false
end Go.Proofs.YtmmgdkpkcoopgaaGreatDoor
