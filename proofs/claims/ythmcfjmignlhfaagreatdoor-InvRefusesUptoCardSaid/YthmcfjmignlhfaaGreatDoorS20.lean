/- Texts in one: CompDl, CompDp, CompDd, CompDi, CompDm, CompDo. -/
import Derived.Test.YthmcfjmignlhfaaGreatDoorS19
import Derived.ArgAppend
import Derived.Lib.SliceRun
set_option maxRecDepth 100000
set_option maxHeartbeats 8000000
namespace Go.Proofs.YthmcfjmignlhfaaGreatDoor
open Go.Lib(hid)
open Go Go.RowKit
set_option linter.unusedVariables false
set_option linter.unusedSimpArgs false
theorem zkz {n:Nat} {k i j:Int} {v:GV} (hk:4<=k/\k<=7) (h:chkL n k i j=0):okC n (⟨k.toNat,i.toNat,j.toNat,v⟩:Cm GV):=by
 unfold chkL at h;unfold okC;simp only;rcases (show k=4\/k=5\/k=6\/k=7 by omega) with rfl | rfl | rfl | rfl
 ·by_cases q:0<=i/\i<=n
  ·left;omega
  ·rw [if_pos rfl,if_neg q] at h;omega
 ·by_cases q:0<=i/\i<n
  ·right;left;omega
  ·rw [if_neg (by omega),if_pos (by omega),if_neg q] at h;omega
 ·by_cases q:0<=i/\i<n
  ·right;left;omega
  ·rw [if_neg (by omega),if_pos (by omega),if_neg q] at h;omega
 ·by_cases q:(0<=i/\i<n)/\0<=j/\j<n
  ·right;right;omega
  ·rw [if_neg (by omega),if_neg (by omega),if_pos rfl,if_neg q] at h;omega
theorem ziM {h:GV} {c:GC} (hk:4<=c.kq/\c.kq<=7) (hc:chkH h c=0):h.kq=4/\okC h.il.length (⟨c.kq.toNat,c.i.toNat,c.j.toNat,c.v⟩:Cm GV):=by
 have hw:worksOn c.kq=4:=by unfold worksOn;rw [if_neg (by omega),if_neg (by omega),if_neg (by omega)]
 unfold chkH at hc;rw [hw] at hc;by_cases h4:h.kq=4
 ·rw [if_neg (by omega),if_pos h4] at hc
  exact ⟨h4,zkz hk hc⟩
 ·rw [if_pos h4] at hc
  omega
theorem zk8 (h:GV) (c:GC) (A AL AO:Option Addr) (cp cL cO:Nat) (w) (hk:4<=c.kq/\c.kq<=7) (hi0:0<=c.i) (hj0:0<=c.j) (hok:okC h.il.length (⟨c.kq.toNat,c.i.toNat,c.j.toNat,c.v⟩:Cm GV)) (hcv:Vl w c.v AL AO cL cO) (hn:h.il.length<=1000000) (hw:GV.weights (doL h.il ⟨c.kq.toNat,c.i.toNat,c.j.toNat,c.v⟩)<=900000000):PlaceDoes h c A AL AO cp cL cO w:=by
 intro HL HO dL lo W hB hlo hlW hv hf;obtain ⟨Lh,Oh,eh,hL,hO⟩:=hv;obtain ⟨rfl,rfl⟩:Value.slice HL h.il.length dL=Lh/\Value.slice HO h.vz.length h.vz.length=Oh:=by simpa using eh
 have hd:doH h c=.mk h.kq h.num h.str (doL h.il ⟨c.kq.toNat,c.i.toNat,c.j.toNat,c.v⟩) h.keys h.vz:=by
  unfold doH;rw [if_neg (by omega),if_neg (by omega),if_neg (by omega),if_neg (by omega),if_neg (by omega)]
 rw [hd];have g1:(c.kq == 1)=false:=by simp;omega
 have g2:(c.kq == 2)=false:=by simp;omega
 have g3:(c.kq == 3)=false:=by simp;omega
 have g8:(c.kq == 8)=false:=by simp;omega
 have g9:(c.kq == 9)=false:=by simp;omega
 obtain ⟨hP,hC,hB2⟩:=zbm W #[.int .u8 h.kq,.int .i64 h.num,.string h.str,.slice HL h.il.length dL,.slice HO h.vz.length h.vz.length] #[.int .u8 c.kq,.slice A c.path.length cp,.string c.key,.int .i64 c.i,.int .i64 c.j,.int .i64 c.n,.int .u8 c.v.kq,.int .i64 c.v.num,.string c.v.str,.slice AL c.v.il.length cL,.slice AO c.v.vz.length cO,.string c.s];have hcv2:=hcv.later hB;have ek:((c.kq.toNat:Nat):Int)=c.kq:=by omega
 have ei:((c.i.toNat:Nat):Int)=c.i:=by omega
 have ej:((c.j.toNat:Nat):Int)=c.j:=by omega
 have HSQ:=hid (fun (W':World) (hb:Below W.heap.size W W')=>zlz HL dL h.il c.kq.toNat c.i.toNat c.j.toNat c.v A AL AO c.path.length cp cL cO c.key c.s c.n W' (hL.keep (From.of_below hb) (fun _ _ _=>trivial)) (hcv2.later hb) hok hn hw)
 rw [ek,ei,ej] at HSQ;unfold DoOut at HSQ;have HL1:=hid (And.intro hO hlW);clear hf hd hk hi0 hj0 hok hn hw hcv hcv2 ek ei ej hL hO hB hlo;generalize doL h.il ⟨c.kq.toNat,c.i.toNat,c.j.toNat,c.v⟩=l' at *;generalize hb:W.heap.size=b at *;have HBE:=hid hb;go_enter Tryz.func56,Tryz.ntmps56
 go_wp2
 have hkeep:∀ k,k<b->((W.alloc (.cells #[.int .u8 h.kq,.int .i64 h.num,.string h.str,.slice HL h.il.length dL,.slice HO h.vz.length h.vz.length] 93)).alloc (.cells #[.int .u8 c.kq,.slice A c.path.length cp,.string c.key,.int .i64 c.i,.int .i64 c.j,.int .i64 c.n,.int .u8 c.v.kq,.int .i64 c.v.num,.string c.v.str,.slice AL c.v.il.length cL,.slice AO c.v.vz.length cO,.string c.s] 48)).heap[k]? = W.heap[k]?:=fun k hk=>hB2.block k hk
 have hB3:Below lo (W.alloc (.cells #[.int .u8 h.kq,.int .i64 h.num,.string h.str,.slice HL h.il.length dL,.slice HO h.vz.length h.vz.length] 93)) ((W.alloc (.cells #[.int .u8 h.kq,.int .i64 h.num,.string h.str,.slice HL h.il.length dL,.slice HO h.vz.length h.vz.length] 93)).alloc (.cells #[.int .u8 c.kq,.slice A c.path.length cp,.string c.key,.int .i64 c.i,.int .i64 c.j,.int .i64 c.n,.int .u8 c.v.kq,.int .i64 c.v.num,.string c.v.str,.slice AL c.v.il.length cL,.slice AO c.v.vz.length cO,.string c.s] 48)):=(Below.refl _ _).alloc (by simp;omega) _
 generalize ((W.alloc (.cells #[.int .u8 h.kq,.int .i64 h.num,.string h.str,.slice HL h.il.length dL,.slice HO h.vz.length h.vz.length] 93)).alloc (.cells #[.int .u8 c.kq,.slice A c.path.length cp,.string c.key,.int .i64 c.i,.int .i64 c.j,.int .i64 c.n,.int .u8 c.v.kq,.int .i64 c.v.num,.string c.v.str,.slice AL c.v.il.length cL,.slice AO c.v.vz.length cO,.string c.s] 48))=W2 at *;have HK:=hid (And.intro hkeep (And.intro hB3 hB2));have HP:=hid hP;obtain ⟨p0,p1,p2,p3,p4,f0,f1,f2,f3,f4⟩:=hP.five;obtain ⟨c0,c1,c2,c3,c4,c5,c6,c7,c8,c9,c10,c11,_⟩:=hC.tw;clear hkeep hP hC hB2 hB3 hb
 go_region_with (go_at_call 90;refine (HSQ.out W2.drew HK.out.2.2.drew).mono ?_;rintro e w3 ⟨D,d,rfl,hl,hbl⟩;have H3:=hid (And.intro hl (show Below W2.heap.size W2 w3 from (Below.refl W2.heap.size W2).drew.trans hbl));clear hl hbl;obtain ⟨p0,p1,p2,p3,p4,f0,f1,f2,f3,f4⟩:=(HP.out.below H3.out.2 HP.out.lt).five)
 all_goals
  go_wp2
  go_end0
  have hlt:=HP.out.lt;have hb3:=HBE.out;have hsz:=H3.out.2.size;have hkw:∀ k,k<b->k<W.heap.size->(w3.setCell ⟨b,3,none⟩ (.slice D l'.length d)).heap[k]? = W.heap[k]?:=fun k hk _=>by
   rw [Below.heap_setCell w3 ⟨b,3,none⟩ _ k (by simp;omega)]
   exact (H3.out.2.block k (by omega)).trans (HK.out.1 k hk)
  refine ⟨rfl,D,HO,d,h.vz.length,(HP.out.below H3.out.2 HP.out.lt).put 3 (.slice D l'.length d),⟨?_,?_⟩,HK.out.2.1.trans ((H3.out.2.mono (by have:=HL1.out.2;omega)).setCell (p:=⟨b,3,none⟩) HL1.out.2 _)⟩
  ·exact H3.out.1.keep (fun k hk hl=>Below.heap_setCell w3 ⟨b,3,none⟩ _ k (by
    have:W2.heap.size<=k:=hk;simp;omega)) (fun _ _ _=>trivial)
  ·exact (HL1.out.1.keep (ok':=fun k=>k<b) (From.refl _ W) (fun k _ hl=>by omega)).keep hkw (fun _ _ _=>trivial)
theorem zcS {ok W W' g lo n} {L:Value} (hJ:Just g lo n W W') (h:LstV ok W L []):LstV (fun _=>True) W' L []:=by
 rcases h with h | ⟨b',o',c,e,h1,h2,hK,_⟩
 ·exact .inl h
 ·refine .inr ⟨b',o',c,e,h1,h2,?_,?_⟩
  ·obtain ⟨_,cs,hcs⟩:=hK
   by_cases q:b'=g
   ·subst q
    obtain ⟨cs',hw'⟩:=hJ.row _ _ hcs;exact ⟨trivial,cs',hw'⟩
   ·exact ⟨trivial,cs,(hJ.far b' (Whole.lt hcs) q).trans hcs⟩
  ·exact GV.els_of fun i a ha=>by simp at ha
theorem zli (lo b i:Nat) (h:GV) (HL:Option Addr) (g o dL:Nat) (key:ByteArray) (v:GV) (AL AO:Option Addr) (cL cO:Nat) (w:World) (hbx:Whole w b 93 #[.int .u8 h.kq,.int .i64 h.num,.string h.str,.slice HL h.il.length dL,.slice (some ⟨g,o,none⟩) h.vz.length h.vz.length])
  (hL:LstV (fun k=>k<b) w (.slice HL h.il.length dL) h.il) (hO:ObjV (fun k=>k<b) w (.slice (some ⟨g,o,none⟩) h.vz.length h.vz.length) h.keys h.vz) (hLn:h.il≠[]->LstV (fun k=>lo<=k/\k≠g) w (.slice HL h.il.length dL) h.il) (hE:GV.els (fun k=>lo<=k/\k≠g) w g 6 (o+1) h.vz)
  (hvL:LstV (fun k=>k<lo) w (.slice AL v.il.length cL) v.il) (hvO:ObjV (fun k=>k<lo) w (.slice AO v.vz.length cO) v.keys v.vz) (hlg:lo<=g) (hgb:g<b) (hth:there key h.keys=true) (hpl:place key h.keys=i) (hi:i<h.vz.length):
  Calls Tryz.prog 87 #[.pointer (some ⟨b,0,none⟩),.string key,.agg #[.int .u8 v.kq,.int .i64 v.num,.string v.str,.slice AL v.il.length cL,.slice AO v.vz.length cO]] w (PlaceIs lo b (.mk h.kq h.num h.str h.il h.keys (h.vz.set i v)) w):=by
 have hlt:=hbx.lt;have hB0:=zaa w (.cells #[.int .u8 v.kq,.int .i64 v.num,.string v.str,.slice AL v.il.length cL,.slice AO v.vz.length cO] 29);have HVB:=hid (Whole.new w 29 #[.int .u8 v.kq,.int .i64 v.num,.string v.str,.slice AL v.il.length cL,.slice AO v.vz.length cO]);have HF:=hid (fun W (hb:Below w.heap.size w W)=>(zbx (fun _=>True) _ h key W ⟨_,_,rfl,hL.keep (From.of_below hb) (fun _ _ _=>trivial),hO.keep (From.of_below hb) (fun _ _ _=>trivial)⟩).mono (R':=fun e w'=>e=.returned (.tuple #[.int .i64 i,.bool true])/\Below W.heap.size W w') fun e w' hq=>by
  obtain ⟨he,hb'⟩:=hq;rw [hth,hpl] at he;exact ⟨he,hb'⟩)
 have HBX:=hid hbx;have H4:=hid (And.intro hL (And.intro hO (And.intro hvL (And.intro hvO (And.intro hLn (And.intro hE (And.intro hlg (And.intro hgb hi))))))));obtain ⟨c0,c1,c2,c3,c4,_⟩:=hbx.five;replace c0:=fun o=>zab o c0
 replace c1:=fun o=>zab o c1
 replace c2:=fun o=>zab o c2
 replace c3:=fun o=>zab o c3
 replace c4:=fun o=>zab o c4
 have HB0:=hid hB0;have hm0:(0:Int)<=(i:Int):=by omega
 have hm1:(i:Int)<(h.vz.length:Int):=by omega
 clear hbx hL hO hvL hvO hLn hE hlg hgb hB0 hth hpl hi;go_enter Tryz.func87,Tryz.ntmps87
 go_wp2_with (go_at_call 113;refine (HF.out _ HB0.out).mono ?_;rintro e w2 ⟨rfl,hb2⟩;have HB2:=hid (HB0.out.trans (hb2.mono HB0.out.size));have HV2:=hid (HVB.out.below hb2 HVB.out.lt);clear hb2 c0 c1 c2 c3 c4)
 have hP5:=HBX.out.below HB2.out HBX.out.lt;have hV5:=HV2.out;have hE5:=GV.els_keep (ok':=fun k=>lo<=k/\k≠g) (W':=w2) (fun k hk hl=>HB2.out.block k hl) (fun k hk _=>hk) _ (HB2.out.block g (by have:=H4.out.2.2.2.2.2.2.2.1;omega)) H4.out.2.2.2.2.2.1
 have hO5:=H4.out.2.1.keep (ok':=fun _=>True) (From.of_below HB2.out) (fun _ _ _=>trivial)
 obtain ⟨p0,p1,p2,p3,p4,_⟩:=hP5.five;obtain ⟨v0,v1,v2,v3,v4,_⟩:=hV5.five;obtain ⟨cur,hG5⟩:∃ cur,Whole w2 g 70 cur:=by
  rcases hO5.2 with ⟨h0,h1⟩ | ⟨b',o',d',he,_,_,hK,_⟩
  ·cases h1
  ·simp only [Value.slice.injEq,Option.some.injEq,Addr.mk.injEq] at he
   obtain ⟨⟨rfl,rfl,_⟩,_⟩:=he;exact hK.2
 have hat := GV.els_get hE5 (i := i) (g := h.vz[i]'H4.out.2.2.2.2.2.2.2.2) (by simp [H4.out.2.2.2.2.2.2.2.2])
 obtain ⟨L0,O0,t0,t1,t2,t3,t4,_,_⟩:=GV.at_iff.1 hat;rw [show o+1+i * 6=o+i * 6+1 by omega] at t0 t1 t2 t3 t4
 have z0:=hG5.frozen (o+i * 6+1);have z1:=hG5.frozen (o+i * 6+1+1);have z2:=hG5.frozen (o+i * 6+1+2);have z3:=hG5.frozen (o+i * 6+1+3);have z4:=hG5.frozen (o+i * 6+1+4);have HP5:=hid hP5;have HK5:=hid (And.intro hO5 (And.intro hE5 (And.intro hG5 hlt)));clear hP5 hV5 hE5 hO5 hG5 hat;generalize h.vz[i]'H4.out.2.2.2.2.2.2.2.2 = y0 at *
 go_region
 all_goals
  go_wp2
  go_end0
  have hJ:=zbw (b:=g) (off:=o+i * 6+1) w2 (.int .u8 v.kq) (.int .i64 v.num) (.string v.str) (.slice AL v.il.length cL) (.slice AO v.vz.length cO);obtain ⟨hL,hO,hvL,hvO,hLn,hE,hlg,hgb,hi⟩:=H4.out;obtain ⟨hO5,hE5,hG5,hlt⟩:=HK5.out;have hva:=zcz (x:=v) (R:=lo) t0 t1 t2 t3 t4 hlg (hvL.keep (ok':=fun k=>k<lo) (fun k hk hl=>HB2.out.block k hl) (fun k hk _=>hk)) (hvO.keep (ok':=fun k=>k<lo) (fun k hk hl=>HB2.out.block k hl) (fun k hk _=>hk))
  have hset:=zgC (lo:=lo) (k:=i) (y:=v) hO5 hE5 hJ hva (fun e=>by rw [e] at hi;cases hi)
  have hJ2:=hJ.trans (Just.of_below (Below.refl _ _).drew (by have:=hJ.size;have:=HB2.out.size;omega))
  have hbl:Below lo w _:=(HB2.out.mono (by omega)).trans (hJ2.below (B:=lo) hlg (by have:=HB2.out.size;omega))
  refine ⟨rfl,HL,some ⟨g,o,none⟩,dL,h.vz.length,?_,⟨?_,?_⟩,hbl⟩
  ·show Whole _ b 93 #[.int .u8 h.kq,.int .i64 h.num,.string h.str,.slice HL h.il.length dL,.slice (some ⟨g,o,none⟩) (h.vz.set i v).length h.vz.length]
   rw [List.length_set];exact HP5.out.of_eq (hJ2.far b HP5.out.lt (by omega))
  ·show LstV _ _ (.slice HL h.il.length dL) h.il
   by_cases q:h.il=[]
   ·have h0:=hL.keep (ok':=fun _=>True) (From.of_below HB2.out) (fun _ _ _=>trivial)
    rw [q] at h0 ⊢;exact zcS hJ2 h0
   ·exact ((hLn q).keep (ok':=fun k=>lo<=k/\k≠g) (fun k hk hl=>HB2.out.block k hl) (fun k hk _=>hk)).keep (hJ2.from (by simp)) (fun _ _ _=>trivial)
  ·show ObjV _ _ (.slice (some ⟨g,o,none⟩) (h.vz.set i v).length h.vz.length) h.keys (h.vz.set i v)
   rw [List.length_set];exact hset.keep (From.of_below (Below.refl _ _).drew) (fun _ _ _=>trivial)
theorem zfb (h:GV) (c:GC) (A AL AO:Option Addr) (cp cL cO:Nat) (w) (hk:c.kq=2) (hcv:Vl w c.v AL AO cL cO) (hth:there c.key h.keys=true):PlaceDoes h c A AL AO cp cL cO w:=by
 intro HL HO dL lo W hB hlo hlW hv hf;obtain ⟨Lh,Oh,eh,hL,hO⟩:=hv;obtain ⟨rfl,rfl⟩:Value.slice HL h.il.length dL=Lh/\Value.slice HO h.vz.length h.vz.length=Oh:=by simpa using eh
 have hd:doH h c=.mk h.kq h.num h.str h.il h.keys (h.vz.set (place c.key h.keys) c.v):=by
  unfold doH;rw [if_neg (by omega),if_pos hk,if_pos hth]
 rw [hd];have hi:place c.key h.keys<h.vz.length:=by have:=zb4 hth;have:=hO.1;omega
 have hne:h.vz≠[]:=fun e=>by rw [e] at hi;cases hi
 obtain ⟨g,o,rfl,hgb⟩:∃ g o,HO=some ⟨g,o,none⟩/\g<W.heap.size:=by
  rcases hO.2 with ⟨h0,_⟩ | ⟨b',o',d',he,_,_,hK,_⟩
  ·exact absurd h0 hne
  ·simp only [Value.slice.injEq] at he
   exact ⟨b',o',he.1,hK.lt⟩
 obtain ⟨L',A',e',hf⟩:=hf;obtain ⟨rfl,rfl⟩:Value.slice HL h.il.length dL=L'/\some ⟨g,o,none⟩=A':=by simpa using e'
 obtain ⟨hlg,hLn,hE⟩:=hf _ rfl hne;simp only at hlg hLn hE;have g1:(c.kq == 1)=false:=by rw [hk];rfl
 have g2:(c.kq == 2)=true:=by rw [hk];rfl
 obtain ⟨hP,hC,hB2⟩:=zbm W #[.int .u8 h.kq,.int .i64 h.num,.string h.str,.slice HL h.il.length dL,.slice (some ⟨g,o,none⟩) h.vz.length h.vz.length] #[.int .u8 c.kq,.slice A c.path.length cp,.string c.key,.int .i64 c.i,.int .i64 c.j,.int .i64 c.n,.int .u8 c.v.kq,.int .i64 c.v.num,.string c.v.str,.slice AL c.v.il.length cL,.slice AO c.v.vz.length cO,.string c.s];have hkeep:∀ k,k<W.heap.size->((W.alloc (.cells #[.int .u8 h.kq,.int .i64 h.num,.string h.str,.slice HL h.il.length dL,.slice (some ⟨g,o,none⟩) h.vz.length h.vz.length] 93)).alloc (.cells #[.int .u8 c.kq,.slice A c.path.length cp,.string c.key,.int .i64 c.i,.int .i64 c.j,.int .i64 c.n,.int .u8 c.v.kq,.int .i64 c.v.num,.string c.v.str,.slice AL c.v.il.length cL,.slice AO c.v.vz.length cO,.string c.s] 48)).heap[k]? = W.heap[k]?:=fun k hk=>hB2.block k hk
 have hkw:∀ k,k<w.heap.size->((W.alloc (.cells #[.int .u8 h.kq,.int .i64 h.num,.string h.str,.slice HL h.il.length dL,.slice (some ⟨g,o,none⟩) h.vz.length h.vz.length] 93)).alloc (.cells #[.int .u8 c.kq,.slice A c.path.length cp,.string c.key,.int .i64 c.i,.int .i64 c.j,.int .i64 c.n,.int .u8 c.v.kq,.int .i64 c.v.num,.string c.v.str,.slice AL c.v.il.length cL,.slice AO c.v.vz.length cO,.string c.s] 48)).heap[k]? = w.heap[k]?:=fun k hk=>(hkeep k (by have:=hB.size;omega)).trans (hB.block k hk)
 have HPUT:=hid (zli lo W.heap.size (place c.key h.keys) h HL g o dL c.key c.v AL AO cL cO _ hP (hL.keep (fun k _ hl=>hkeep k hl) (fun k _ hl=>hl)) (hO.keep (fun k _ hl=>hkeep k hl) (fun k _ hl=>hl)) (fun q=>(hLn q).keep (fun k _ hl=>hkeep k hl) (fun k hk _=>hk)) (GV.els_keep (fun k _ hl=>hkeep k hl) (fun k hk _=>hk) _ (hkeep g hgb) hE)
  (hcv.lst.keep (fun k _ hl=>hkw k hl) (fun k _ hl=>by omega)) (hcv.obj.keep (fun k _ hl=>hkw k hl) (fun k _ hl=>by omega)) hlg hgb hth rfl hi)
 have HB3:=hid (show Below lo (W.alloc (.cells #[.int .u8 h.kq,.int .i64 h.num,.string h.str,.slice HL h.il.length dL,.slice (some ⟨g,o,none⟩) h.vz.length h.vz.length] 93)) ((W.alloc (.cells #[.int .u8 h.kq,.int .i64 h.num,.string h.str,.slice HL h.il.length dL,.slice (some ⟨g,o,none⟩) h.vz.length h.vz.length] 93)).alloc (.cells #[.int .u8 c.kq,.slice A c.path.length cp,.string c.key,.int .i64 c.i,.int .i64 c.j,.int .i64 c.n,.int .u8 c.v.kq,.int .i64 c.v.num,.string c.v.str,.slice AL c.v.il.length cL,.slice AO c.v.vz.length cO,.string c.s] 48)) from (Below.refl _ _).alloc (by simp;omega) _)
 clear hd hk hL hO hB hlo hcv hth hi hne hP hC hB2 hkeep hkw hf hlg hLn hE;go_enter Tryz.func56,Tryz.ntmps56
 go_wp2_with (go_at_call 87;refine HPUT.out.mono ?_;rintro e w2 ⟨rfl,XL,XO,xL,xO,hwh,hvl,hb⟩;have H2:=hid (And.intro hwh (And.intro hvl hb));clear hwh hvl hb)
 go_end0
 exact ⟨rfl,XL,XO,xL,xO,H2.out.1,H2.out.2.1,HB3.out.trans H2.out.2.2⟩
section
variable {P:Program} {w:World}
theorem zd2 {ops:Array Oper} {o:Oper} {a:Act} {K:Act->World->Prop} {Q:Exit->Act->World->Prop} {E:Prop} (hgd:o.guard=none) (s x:Operand) (t:TypeId)
  (ho:o.op=.call { callee:=.builtin .append,args:=#[s,x],argTypes:=#[t,t] }) (v1 v2 v':Value) (w':World) (hs:a.eval s=v1) (hx:a.eval x=v2) (hrun:(Builtin.append_ #[t,t] o.type #[v1,v2]).run P w=.ok v' w') (h:K (a.put o.dst v') w'):
  if Region.wanted o (yielded ops a.tmps)=true then Oper.wp P o a w K Q else E:=by
 have hw:Region.wanted o (yielded ops a.tmps)=true:=by simp [Region.wanted,hgd]
 rw [if_pos hw];unfold Oper.wp execOp;simp only [ho,resolve,invoke,builtin,Sem.run_bind,Sem.run_pure,Result.andThen_ok,List.map_toArray,List.map_cons,List.map_nil,hs,hx,hrun];exact h
end
theorem zdv (g o j:Nat):(⟨g,o,none⟩:Addr).add j =⟨g,o+j,none⟩:=by unfold Addr.add;split<;>simp_all
theorem zc0 {b lo n:Nat}:∀ (vs:List Value) (o:Nat) (W:World),lo<=o->o+vs.length<=lo+n->Just b lo n W (W.setCells b o vs)
 | [],_,W,_,_=>Just.refl _ _ _ _
 | v :: r,o,W,h1,h2=>(Just.set W h1 (by simp at h2;omega) v).trans (zc0 r (o+1) _ (by omega) (by simp at h2;omega))
def restAt (g o n i:Nat):Addr:=if n=i+1 then ⟨g,o,none⟩ else ⟨g,o+(i+1) * 6,none⟩
theorem zcm (g o n i p m:Nat) (hp:n=p+1) (hm:p=i+m) (hn:n<=1000000) (W:World):
  (Instr.slice 27 (.slice (some ⟨g,o,none⟩) n n) (some (.int .i64 i)) (some (.int .i64 ((i:Int)+1))) (some (.int .i64 n))).run Tryz.prog W=.ok (.slice (some ⟨g,o+i * 6,none⟩) 1 (n - i)) W /\
  (Instr.slice 27 (.slice (some ⟨g,o,none⟩) n n) none (some (.int .i64 i)) none).run Tryz.prog W=.ok (.slice (some ⟨g,o,none⟩) i n) W /\
  (Instr.slice 27 (.slice (some ⟨g,o,none⟩) n n) (some (.int .i64 ((i:Int)+1))) none none).run Tryz.prog W=.ok (.slice (some (restAt g o n i)) m m) W /\
  (Instr.slice 27 (.slice (some ⟨g,o,none⟩) p n) (some (.int .i64 p)) (some (.int .i64 n)) none).run Tryz.prog W=.ok (.slice (some ⟨g,o+p * 6,none⟩) 1 1) W:=by
 refine ⟨?_,?_,?_,?_⟩
 ·rw [run_slice_lhm (ht:=Tryz.underlying27) (h0:=by omega) (h1:=by omega) (h2:=by omega) (h3:=by omega)]
  have e1:((i:Int)+1).toNat=i+1:=by omega
  have hni:¬ (n - i=0):=by omega
  have hz:¬ ((n:Int)=i):=by omega
  have hz2:¬ (n=i):=by omega
  simp [go_sem,Addr.add,e1,hni,hz,hz2]
 ·rw [run_slice_h (ht:=Tryz.underlying27) (h0:=by omega) (h2:=by omega)]
  simp [go_sem,Addr.add]
 ·rw [run_slice_l (ht:=Tryz.underlying27) (h0:=by omega) (h1:=by omega)]
  have e1:((i:Int)+1).toNat=i+1:=by omega
  rw [e1];unfold restAt;by_cases e:n=i+1
  ·obtain rfl:m=0:=by omega
   subst e;simp [go_sem,Addr.add]
  ·have hz:¬ ((n:Int)=(i:Int)+1):=by omega
   have hmm:n - (i+1)=m:=by omega
   have hne:¬ (m=0):=by omega
   simp [go_sem,Addr.add,e,hmm,hne]
 ·rw [run_slice_lh (ht:=Tryz.underlying27) (h0:=by omega) (h1:=by omega) (h2:=by omega)]
  have hmm:n - p=1:=by omega
  have hnp:¬ (n=p):=by omega
  by_cases e0:p=0
  ·subst e0
   simp [go_sem,Addr.add,hnp]
   try omega
  ·have e6:¬ (p * 6=0):=by omega
   simp [go_sem,Addr.add,hmm,hnp,e6]
theorem zho (g o n p i m:Nat) (xs:List Value) (ty:TypeId) (W:World) (hp:n=p+1) (hm:p=i+m) (hlen:xs.length=n * 6) (hcell:∀ j u,xs[j]? = some u->W.cell? ⟨g,o+j,none⟩=some u) (h1:∀ u∈xs,u.oneCell'=true) (hf:∀ j,W.frozen? ⟨g,j,none⟩=false):
  (Builtin.append_ #[27,27] ty #[.slice (some ⟨g,o,none⟩) i n,.slice (some (restAt g o n i)) m m]).run Tryz.prog W=.ok (.slice (some ⟨g,o,none⟩) p n) (W.setCells g (o+i * 6) (xs.drop ((i+1) * 6))):=by
 obtain ⟨i0,hi,hz0,hz1,hz2⟩:=info_parts infoField;have hl:(xs.drop ((i+1) * 6)).length=m * 6:=by rw [List.length_drop,hlen];omega
 have hr:=run_append_room_cells (P:=Tryz.prog) W 27 ty 70 i0 Tryz.underlying27 hi g o i n (restAt g o n i) m m (xs.drop ((i+1) * 6)) (by rw [hz1];exact hl) (fun j u hj=>by
   unfold restAt;by_cases e:n=i+1
   ·rw [List.drop_eq_nil_of_le (by omega)] at hj
    simp at hj
   ·rw [if_neg e,zdv,Nat.add_assoc]
    exact hcell _ u (by rw [List.getElem?_drop] at hj;exact hj)) (fun u hu=>h1 u (List.mem_of_mem_drop hu)) (by omega) (fun j hj=>by
   rw [hz1,Nat.add_assoc];have hlt:i * 6+j<xs.length:=by omega
   rw [hcell _ _ (List.getElem?_eq_getElem hlt)]
   rfl) (fun j _=>hf _)
 rw [hz1] at hr;rw [hr,<- hm]
theorem zi2 (g o:Nat) (ty:TypeId) (W:World) (hc:∀ j,j<6->(W.cell? ⟨g,o+j,none⟩).isSome=true) (hf:∀ j,W.frozen? ⟨g,j,none⟩=false):
  (Builtin.clear_ #[27] ty #[.slice (some ⟨g,o,none⟩) 1 1]).run Tryz.prog W=.ok (.tuple #[]) (W.setCells g o (newF ⟨#[]⟩).toList):=by
 obtain ⟨i0,hi,hz0,hz1,hz2⟩:=info_parts infoField;have hzc:(Builtin.zeroCells (Value.agg #[.string ⟨#[]⟩,.int .u8 0,.int .i64 0,.string ⟨#[]⟩,.slice none 0 0,.slice none 0 0]).cells 1).toList=(newF ⟨#[]⟩).toList:=by
  simp [Builtin.zeroCells,newF,Value.cells]
  rfl
 have hst:=run_storeCells_cells (P:=Tryz.prog) g o (newF ⟨#[]⟩).toList 0 W (by simpa [newF] using hc) (fun j _=>hf _) (by simp [newF,Value.oneCell'])
 simp only [Nat.add_zero] at hst;simp [Builtin.clear_,run_underlying Tryz.underlying27,zeroValue,typeInfo,hi,hz0,hzc,hst]
theorem zcF {α:Type} {l:List α} {i k:Nat} (hi:i<l.length):(remL l i)[k]? = if k<i then l[k]? else l[k+1]?:=by
 unfold remL;rw [List.getElem?_append,List.length_take,Nat.min_eq_left (by omega)]
 split
 ·rw [List.getElem?_take,if_pos (by assumption)]
 ·rw [List.getElem?_drop]
  congr 1
  omega
theorem zdk {α:Type} {l:List α} {i:Nat} (hi:i<l.length):(remL l i).length=l.length - 1:=by
 unfold remL;rw [List.length_append,List.length_take,List.length_drop];omega
theorem zkV {ok:Nat->Prop} {W W':World} {g o n d p i:Nat} {ks:List ByteArray} {l:List GV} (hO:ObjV (fun _=>True) W (.slice (some ⟨g,o,none⟩) n d) ks l) (hE:GV.els ok W g 6 (o+1) l) (hok:¬ ok g) (hp:l.length=p+1) (hi:i<l.length)
  (hJ:Just g (o+i * 6) ((l.length - i) * 6) W W') (hmv:∀ j,j<(p - i) * 6->W'.cell? ⟨g,o+i * 6+j,none⟩=W.cell? ⟨g,o+(i+1) * 6+j,none⟩):ObjV (fun k=>ok k\/k=g) W' (.slice (some ⟨g,o,none⟩) p d) (remL ks i) (remL l i):=by
 obtain ⟨hl,hO⟩:=hO;rcases hO with ⟨rfl,_⟩ | ⟨b',o',d',he,h1,h2,hK,hks,_⟩
 ·cases hi
 simp only [Value.slice.injEq,Option.some.injEq,Addr.mk.injEq] at he;obtain ⟨⟨rfl,rfl,_⟩,rfl,rfl⟩:=he;have hF:From ok W W':=hJ.from hok;obtain ⟨_,cs,hcs⟩:=hK;obtain ⟨cs',hw'⟩:=hJ.row _ _ hcs;have hlen:=zdk hi;have hlk:=zdk (l:=ks) (i:=i) (by omega)
 -- where a field's cells have come from
 have hcell:∀ k c,k<p->c<6->W'.cell? ⟨g,o+k * 6+c,none⟩=W.cell? ⟨g,o+(if k<i then k else k+1) * 6+c,none⟩:=fun k c hk hc=>by
  by_cases q:k<i
  ·rw [if_pos q]
   exact hJ.near _ (.inl (by omega))
  ·rw [if_neg q]
   have:=hmv ((k - i) * 6+c) (by omega)
   rwa [show o+i * 6+((k - i) * 6+c)=o+k * 6+c by omega,show o+(i+1) * 6+((k - i) * 6+c)=o+(k+1) * 6+c by omega] at this
 refine ⟨by rw [hlen,hlk];omega,.inr ⟨g,o,d,by rw [hlen,hp];rfl,by omega,h2,⟨.inr rfl,cs',hw'⟩,KeysAt.of fun k a ha=>?_,GV.els_of fun k a ha=>?_⟩⟩
 ·have hk:k<p:=by
   have:=(List.getElem?_eq_some_iff.1 ha).1;omega
  rw [zcF (by omega)] at ha
  have h0:=hcell k 0 hk (by omega)
  simp only [Nat.add_zero] at h0;refine h0.trans ?_
  by_cases q:k<i
  ·rw [if_pos q] at ha ⊢
   exact hks.get ha
  ·rw [if_neg q] at ha ⊢
   exact hks.get ha
 ·have hk:k<p:=by
   have:=(List.getElem?_eq_some_iff.1 ha).1;omega
  rw [zcF hi] at ha;obtain ⟨L,O,c0,c1,c2,c3,c4,hL,hO⟩:=GV.at_iff.1 (show a.at ok W g (o+1+(if k<i then k else k+1) * 6) by
   by_cases q:k<i
   ·rw [if_pos q] at ha ⊢
    exact GV.els_get hE ha
   ·rw [if_neg q] at ha ⊢
    exact GV.els_get hE ha)
  have hm:∀ c,c<5->W'.cell? ⟨g,o+1+k * 6+c,none⟩=W.cell? ⟨g,o+1+(if k<i then k else k+1) * 6+c,none⟩:=fun c hc=>by
   have:=hcell k (1+c) hk (by omega)
   rwa [show o+k * 6+(1+c)=o+1+k * 6+c by omega,show o+(if k<i then k else k+1) * 6+(1+c)=o+1+(if k<i then k else k+1) * 6+c by omega] at this
  have n0:=hm 0 (by omega)
  rw [Nat.add_zero,Nat.add_zero] at n0;exact GV.at_iff.2 ⟨L,O,n0.trans c0,(hm 1 (by omega)).trans c1,(hm 2 (by omega)).trans c2,(hm 3 (by omega)).trans c3,(hm 4 (by omega)).trans c4,hL.keep hF (fun _ hk _=>.inl hk),hO.keep hF (fun _ hk _=>.inl hk)⟩
theorem zhz (g o n p i m:Nat) (ks:List ByteArray) (l:List GV) (w:World) (hO:ObjV (fun _=>True) w (.slice (some ⟨g,o,none⟩) n n) ks l) (hl:l.length=n) (hp:n=p+1) (hm:p=i+m) (hn:n<=1000000):
  Calls Tryz.prog 115 #[.slice (some ⟨g,o,none⟩) n n,.int .i64 i,.int .i64 ((i:Int)+1)] w fun e w'=>e=.returned (.slice (some ⟨g,o,none⟩) p n)/\Just g (o+i * 6) ((n - i) * 6) w w'/\∀ j,j<(p - i) * 6->w'.cell? ⟨g,o+i * 6+j,none⟩=w.cell? ⟨g,o+(i+1) * 6+j,none⟩:=by
 obtain ⟨xs,cur,hG,hlen,hcell,h1c⟩:∃ (xs:List Value) (cur:Array Value),Whole w g 70 cur/\xs.length=n * 6/\(∀ j u,xs[j]? = some u->w.cell? ⟨g,o+j,none⟩=some u)/\(∀ u∈xs,u.oneCell'=true):=by
  obtain ⟨hkl,hO⟩:=hO;rcases hO with ⟨rfl,he⟩ | ⟨b',o',c',he,h1,h2,hK,hks,hE⟩
  ·cases he
  ·simp only [Value.slice.injEq,Option.some.injEq,Addr.mk.injEq] at he
   obtain ⟨⟨rfl,rfl,_⟩,_,_⟩:=he;obtain ⟨_,cur,hG⟩:=hK;obtain ⟨xs,hr,hlen,hcell,h1c⟩:=zbB hkl hks hE;exact ⟨xs,cur,hG,by rw [hlen,hl],hcell,h1c⟩
 have hfr:∀ j,w.frozen? ⟨g,j,none⟩=false:=fun j=>hG.frozen j
 have hA:=fun ty=>zho g o n p i m xs ty w.drew hp hm hlen hcell h1c hfr
 obtain ⟨W1,hW1⟩:∃ W1,W1=w.drew.setCells g (o+i * 6) (xs.drop ((i+1) * 6)):=⟨_,rfl⟩;have hnl:(xs.drop ((i+1) * 6)).length=m * 6:=by rw [List.length_drop,hlen];omega
 have hC:=fun ty=>zi2 g (o+p * 6) ty W1 (fun j hj=>by
  rw [hW1,World.cell?_setCells_out _ _ _ _ _ (fun _ _=>.inr (by rw [hnl];simp only;omega))]
  have hlt:p * 6+j<xs.length:=by omega
  have:=hcell _ _ (List.getElem?_eq_getElem hlt);rw [show o+p * 6+j=o+(p * 6+j) by omega]
  exact (congrArg Option.isSome this).trans rfl) (fun j=>by rw [hW1,World.frozen?_setCells];exact hfr j)
 obtain ⟨W2,hW2⟩:∃ W2,W2=W1.setCells g (o+p * 6) (newF ⟨#[]⟩).toList:=⟨_,rfl⟩;rw [<- hW1] at hA;simp only [<- hW2] at hC;have hfin:Just g (o+i * 6) ((n - i) * 6) w W2/\∀ j,j<(p - i) * 6->W2.cell? ⟨g,o+i * 6+j,none⟩=w.cell? ⟨g,o+(i+1) * 6+j,none⟩:=by
  refine ⟨?_,fun j hj=>?_⟩
  ·refine (Just.of_below (W:=w) (W':=w.drew) (Below.refl _ _).drew hG.lt).trans ?_
   rw [hW2,hW1];refine (zc0 _ _ _ (Nat.le_refl _) (by rw [hnl];omega)).trans (zc0 _ _ _ (by omega) ?_)
   simp [newF]
   omega
  ·rw [hW2,World.cell?_setCells_out _ _ _ _ _ (fun _ _=>.inl (by simp only;omega)),hW1]
   have hlt:(i+1) * 6+j<xs.length:=by omega
   have hin:=World.cell?_setCells_in g (xs.drop ((i+1) * 6)) (o+i * 6) w.drew (fun q hq=>by
    have hlq:i * 6+q<xs.length:=by omega
    have:=hcell _ _ (List.getElem?_eq_getElem hlq);rw [show o+i * 6+q=o+(i * 6+q) by omega]
    exact (congrArg Option.isSome this).trans rfl) j (by omega)
   rw [hin,List.getElem_drop,Nat.add_assoc];exact (hcell _ _ (List.getElem?_eq_getElem hlt)).symm
 obtain ⟨hs1,hs2,hs3,hs4⟩:(∀ W:World,_)/\(∀ W:World,_)/\(∀ W:World,_)/\(∀ W:World,_):=
  ⟨fun W=>(zcm g o n i p m hp hm hn W).1,fun W=>(zcm g o n i p m hp hm hn W).2.1,fun W=>(zcm g o n i p m hp hm hn W).2.2.1,fun W=>(zcm g o n i p m hp hm hn W).2.2.2⟩
 have HA:=hid hA;have HC:=hid hC;have HFIN:=hid hfin;have hne:((i:Int) == (i:Int)+1)=false:=by simp;omega
 clear hA hC hfin hW1 hW2 hG hlen hcell h1c hfr hnl hO hl hp hm hn;generalize restAt g o n i=B at *;go_enter Tryz.func115,Tryz.ntmps115
 go_wp2
 go_region_law (refine zd2 rfl (.tmp 22) (.tmp 25) 27 rfl _ _ _ _ rfl rfl (HA.out _) ?_)
 all_goals
  have hc0:=HC.out 0;go_wp2
  go_ret
  exact ⟨rfl,HFIN.out.1,HFIN.out.2⟩
theorem zly (lo b i p m:Nat) (h:GV) (HL:Option Addr) (g o dL:Nat) (key:ByteArray) (w:World) (hbx:Whole w b 93 #[.int .u8 h.kq,.int .i64 h.num,.string h.str,.slice HL h.il.length dL,.slice (some ⟨g,o,none⟩) h.vz.length h.vz.length])
  (hL:LstV (fun k=>k<b) w (.slice HL h.il.length dL) h.il) (hO:ObjV (fun k=>k<b) w (.slice (some ⟨g,o,none⟩) h.vz.length h.vz.length) h.keys h.vz) (hLn:h.il≠[]->LstV (fun k=>lo<=k/\k≠g/\k<b) w (.slice HL h.il.length dL) h.il) (hE:GV.els (fun k=>lo<=k/\k≠g/\k<b) w g 6 (o+1) h.vz)
  (hlg:lo<=g) (hgb:g<b) (hpl:place key h.keys=i) (hp:h.vz.length=p+1) (hm:p=i+m) (hn:h.vz.length<=1000000):
  Calls Tryz.prog 88 #[.pointer (some ⟨b,0,none⟩),.string key] w (PlaceIs lo b (.mk h.kq h.num h.str h.il (remL h.keys i) (remL h.vz i)) w):=by
 have hlt:=hbx.lt;have HF:=hid (fun W (hb:Below w.heap.size w W)=>(zbx (fun _=>True) _ h key W ⟨_,_,rfl,hL.keep (From.of_below hb) (fun _ _ _=>trivial),hO.keep (From.of_below hb) (fun _ _ _=>trivial)⟩).mono (R':=fun e w'=>e=.returned (.tuple #[.int .i64 i,.bool (there key h.keys)])/\Below W.heap.size W w') fun e w' hq=>by
  obtain ⟨he,hb'⟩:=hq;rw [hpl] at he;exact ⟨he,hb'⟩)
 have HD:=hid (fun W (hb:Below w.heap.size w W)=>zhz g o h.vz.length p i m h.keys h.vz W (hO.keep (From.of_below hb) (fun _ _ _=>trivial)) rfl hp hm hn)
 have HBX:=hid hbx;have H4:=hid (And.intro hL (And.intro hO (And.intro hLn (And.intro hE (And.intro hlg (And.intro hgb (And.intro hp (And.intro hm hlt))))))));obtain ⟨c0,c1,c2,c3,c4,_⟩:=hbx.five;have hwr:IntKind.i64.wrap ((i:Int)+1)=(i:Int)+1:=IntWalk.i64_in _ (by omega)
 generalize there key h.keys=th at *;clear hbx hL hO hLn hE hlg hgb hpl hp hm hn;go_enter Tryz.func88,Tryz.ntmps88
 go_wp2_with (first
  | (go_at_call 113;refine (HF.out _ (Below.refl _ _)).mono ?_;rintro e w2 ⟨rfl,hb2⟩;have HB2:=hid hb2;obtain ⟨p0,p1,p2,p3,p4,_⟩:=(HBX.out.below HB2.out HBX.out.lt).five;clear hb2 c0 c1 c2 c3 c4)
  | (go_at_call 115;refine (HD.out _ HB2.out).mono ?_;rintro e w3 ⟨rfl,hj,hmv⟩;have H3:=hid (And.intro hj hmv);clear hj hmv p0 p1 p2 p3 p4;obtain ⟨p0,p1,p2,p3,p4,f0,f1,f2,f3,f4⟩:=((HBX.out.below HB2.out HBX.out.lt).of_eq (H3.out.1.far b (HBX.out.below HB2.out HBX.out.lt).lt (by have:=H4.out.2.2.2.2.2.1;omega))).five))
 go_end0
 obtain ⟨hL,hO,hLn,hE,hlg,hgb,hp,hm,hlt⟩:=H4.out;have hP3:=(HBX.out.below HB2.out HBX.out.lt).of_eq (H3.out.1.far b (HBX.out.below HB2.out HBX.out.lt).lt (by omega))
 have hs2:=HB2.out.size;have hset:=zkV (ok:=fun k=>lo<=k/\k≠g/\k<b) (hO.keep (ok':=fun _=>True) (From.of_below HB2.out) (fun _ _ _=>trivial)) (GV.els_keep (ok':=fun k=>lo<=k/\k≠g/\k<b) (W':=w2) (fun k hk hl=>HB2.out.block k hl) (fun k hk _=>hk) _ (HB2.out.block g (by omega)) hE) (by simp) hp (by omega) H3.out.1 H3.out.2
 have hb4:∀ k,k≠b->(w3.setCell ⟨b,4,none⟩ (.slice (some ⟨g,o,none⟩) p h.vz.length)).heap[k]? = w3.heap[k]?:=fun k hk=>Below.heap_setCell w3 ⟨b,4,none⟩ _ k (by simpa using hk)
 have hbl:Below lo w (w3.setCell ⟨b,4,none⟩ (.slice (some ⟨g,o,none⟩) p h.vz.length)):=((HB2.out.mono (by omega)).trans (H3.out.1.below (B:=lo) hlg (by omega))).setCell (p:=⟨b,4,none⟩) (by simp;omega) _
 have hlen:(remL h.vz i).length=p:=by rw [zdk (by omega),hp];rfl
 refine ⟨rfl,HL,some ⟨g,o,none⟩,dL,h.vz.length,?_,⟨?_,?_⟩,hbl⟩
 ·show Whole _ b 93 #[.int .u8 h.kq,.int .i64 h.num,.string h.str,.slice HL h.il.length dL,.slice (some ⟨g,o,none⟩) (remL h.vz i).length h.vz.length]
  rw [hlen];exact hP3.put 4 _
 ·show LstV _ _ (.slice HL h.il.length dL) h.il
  by_cases q:h.il=[]
  ·have h0:=hL.keep (ok':=fun _=>True) (From.of_below HB2.out) (fun _ _ _=>trivial)
   rw [q] at h0 ⊢;exact zcS (Just.set (b:=b) (lo:=4) (n:=1) w3 (Nat.le_refl _) (by omega) _) (zcS H3.out.1 h0)
  ·exact (((hLn q).keep (ok':=fun k=>lo<=k/\k≠g/\k<b) (fun k hk hl=>HB2.out.block k hl) (fun k hk _=>hk)).keep (ok':=fun k=>lo<=k/\k≠g/\k<b) (H3.out.1.from (by simp)) (fun k hk _=>hk)).keep (fun k hk _=>hb4 k (by omega)) (fun _ _ _=>trivial)
 ·show ObjV _ _ (.slice (some ⟨g,o,none⟩) (remL h.vz i).length h.vz.length) (remL h.keys i) (remL h.vz i)
  rw [hlen];exact hset.keep (fun k hk _=>hb4 k (by omega)) (fun _ _ _=>trivial)
theorem zln (h:GV) (c:GC) (A AL AO:Option Addr) (cp cL cO:Nat) (w:World) (hk:c.kq=3) (hth:there c.key h.keys=true) (hn:h.vz.length<=1000000):PlaceDoes h c A AL AO cp cL cO w:=by
 intro HL HO dL lo W hB hlo hlW hv hf;obtain ⟨Lh,Oh,eh,hL,hO⟩:=hv;obtain ⟨rfl,rfl⟩:Value.slice HL h.il.length dL=Lh/\Value.slice HO h.vz.length h.vz.length=Oh:=by simpa using eh
 have hd:doH h c=.mk h.kq h.num h.str h.il (remL h.keys (place c.key h.keys)) (remL h.vz (place c.key h.keys)):=by
  unfold doH;rw [if_neg (by omega),if_neg (by omega),if_pos hk]
 rw [hd];have hi:place c.key h.keys<h.vz.length:=by have:=zb4 hth;have:=hO.1;omega
 have hne:h.vz≠[]:=fun e=>by rw [e] at hi;cases hi
 obtain ⟨g,o,rfl,hgb⟩:∃ g o,HO=some ⟨g,o,none⟩/\g<W.heap.size:=by
  rcases hO.2 with ⟨h0,_⟩ | ⟨b',o',d',he,_,_,hK,_⟩
  ·exact absurd h0 hne
  ·simp only [Value.slice.injEq] at he
   exact ⟨b',o',he.1,hK.lt⟩
 obtain ⟨L',A',e',hf⟩:=hf;obtain ⟨rfl,rfl⟩:Value.slice HL h.il.length dL=L'/\some ⟨g,o,none⟩=A':=by simpa using e'
 obtain ⟨hlg,hLn,hE⟩:=hf _ rfl hne;simp only at hlg hLn hE;obtain ⟨p,hp⟩:∃ p,h.vz.length=p+1:=⟨h.vz.length - 1,by omega⟩
 obtain ⟨m,hm⟩:∃ m,p=place c.key h.keys+m:=⟨p - place c.key h.keys,by omega⟩
 have g1:(c.kq == 1)=false:=by rw [hk];rfl
 have g2:(c.kq == 2)=false:=by rw [hk];rfl
 have g3:(c.kq == 3)=true:=by rw [hk];rfl
 obtain ⟨hP,hC,hB2⟩:=zbm W #[.int .u8 h.kq,.int .i64 h.num,.string h.str,.slice HL h.il.length dL,.slice (some ⟨g,o,none⟩) h.vz.length h.vz.length] #[.int .u8 c.kq,.slice A c.path.length cp,.string c.key,.int .i64 c.i,.int .i64 c.j,.int .i64 c.n,.int .u8 c.v.kq,.int .i64 c.v.num,.string c.v.str,.slice AL c.v.il.length cL,.slice AO c.v.vz.length cO,.string c.s];have hkeep:∀ k,k<W.heap.size->((W.alloc (.cells #[.int .u8 h.kq,.int .i64 h.num,.string h.str,.slice HL h.il.length dL,.slice (some ⟨g,o,none⟩) h.vz.length h.vz.length] 93)).alloc (.cells #[.int .u8 c.kq,.slice A c.path.length cp,.string c.key,.int .i64 c.i,.int .i64 c.j,.int .i64 c.n,.int .u8 c.v.kq,.int .i64 c.v.num,.string c.v.str,.slice AL c.v.il.length cL,.slice AO c.v.vz.length cO,.string c.s] 48)).heap[k]? = W.heap[k]?:=fun k hk=>hB2.block k hk
 have HDEL:=hid (zly lo W.heap.size (place c.key h.keys) p m h HL g o dL c.key _ hP (hL.keep (fun k _ hl=>hkeep k hl) (fun k _ hl=>hl)) (hO.keep (fun k _ hl=>hkeep k hl) (fun k _ hl=>hl)) (fun q=>(hLn q).keep (fun k _ hl=>hkeep k hl) (fun k hk hl=>⟨hk.1,hk.2,hl⟩)) (GV.els_keep (fun k _ hl=>hkeep k hl) (fun k hk hl=>⟨hk.1,hk.2,hl⟩) _ (hkeep g hgb) hE)
  hlg hgb rfl hp hm hn)
 have HB3:=hid (show Below lo (W.alloc (.cells #[.int .u8 h.kq,.int .i64 h.num,.string h.str,.slice HL h.il.length dL,.slice (some ⟨g,o,none⟩) h.vz.length h.vz.length] 93)) ((W.alloc (.cells #[.int .u8 h.kq,.int .i64 h.num,.string h.str,.slice HL h.il.length dL,.slice (some ⟨g,o,none⟩) h.vz.length h.vz.length] 93)).alloc (.cells #[.int .u8 c.kq,.slice A c.path.length cp,.string c.key,.int .i64 c.i,.int .i64 c.j,.int .i64 c.n,.int .u8 c.v.kq,.int .i64 c.v.num,.string c.v.str,.slice AL c.v.il.length cL,.slice AO c.v.vz.length cO,.string c.s] 48)) from (Below.refl _ _).alloc (by simp;omega) _)
 clear hd hk hL hO hB hlo hth hi hne hP hC hB2 hkeep hf hlg hLn hE hn hp hm;go_enter Tryz.func56,Tryz.ntmps56
 go_wp2_with (go_at_call 88;refine HDEL.out.mono ?_;rintro e w2 ⟨rfl,XL,XO,xL,xO,hwh,hvl,hb⟩;have H2:=hid (And.intro hwh (And.intro hvl hb));clear hwh hvl hb)
 go_end0
 exact ⟨rfl,XL,XO,xL,xO,H2.out.1,H2.out.2.1,HB3.out.trans H2.out.2.2⟩
open Go Go.RowKit
set_option linter.unusedVariables false
set_option linter.unusedSimpArgs false
section
variable {P:Program} (w:World)
theorem zdd (t tx ty e:TypeId) (i:TypeInfo) (z:Value) (ht:P.underlying t=some (.slice e)) (hu:P.underlying tx=some (.int .i64)) (hi:P.info? e=some i) (hz:i.zero=some z)
  (b:Addr) (sLen sCap:Nat) (olds:List Value) (hlo:olds.length=sLen * i.size) (holds:∀ j v,olds[j]? = some v->w.cell? (b.add j)=some v)
  (n:Nat) (hp:0<n * i.size) (hg:sCap<sLen+n) (h63:((sLen+n:Nat):Int)<=9223372036854775807) (hb:(n:Int) * i.bytes<=281474976710656) (hfit:Builtin.nextslicecap (sLen+n) sCap * i.bytes<=281474976710656):
  (Builtin.append_ #[t,tx] ty #[.slice (some b) sLen sCap,.int .i64 n]).run P w =
   .ok (.slice (some ⟨w.heap.size,0,none⟩) (sLen+n) (grownCap w (sLen+n) sCap e))
    (w.drew.alloc (.cells (olds.toArray++Builtin.zeroCells z.cells n++Builtin.zeroCells z.cells (grownCap w (sLen+n) sCap e - (sLen+n))) e)):=by
 have hn:¬ (sLen+n<=sCap):=by omega
 have h63':¬ (9223372036854775807<((sLen:Int)+(n:Int))):=by omega
 have h48':¬ (281474976710656<Builtin.nextslicecap (sLen+n) sCap * i.bytes):=by omega
 have hw:IntKind.i64.wrap (n:Int)=n:=IntWalk.i64_in _ (by omega)
 have hn0:¬ ((n:Int)<0):=by omega
 have hnb:¬ (281474976710656<(n:Int) * i.bytes):=by omega
 have hnz:¬ (n * i.size=0):=by omega
 have hfo:=run_firstCells_some (P:=P) w.drew i.size sLen b sLen sCap olds hlo (by simpa using holds)
 have hai:(asIntOf (.int .i64 (n:Int))).run P w=.ok (.i64,(n:Int)) w:=rfl;have hmax:¬ (9223372036854775807<(sLen:Int)+max (n:Int) 0):=by omega
 simp [Builtin.append_,run_underlying ht,run_underlying hu,asInt,hai,hmax,hw,hn0,hnb,hnz,sizeOf,typeInfo,zeroValue,hi,hz,hn,h63',h48',Question.forced,hfo,newRow,grownCap]
theorem zdC (dT sT ty elem:TypeId) (i:TypeInfo) (g o dLen dCap sLen sCap m:Nat) (a:Addr) (cur:Array Value) (t:TypeId) (cs:List Value)
  (hu:P.underlying dT=some (.slice elem)) (hi:P.info? elem=some i) (hg:w.heap[g]? = some (.cells cur t (0,0))) (hm:Nat.min sLen dLen=m) (hn:cs.length=m * i.size)
  (hsrc:∀ j v,cs[j]? = some v->w.cell? (a.add j)=some v) (hfit:o+cs.length<=cur.size) (h1:∀ v∈cs,v.oneCell'=true):
  (Builtin.copy_ #[dT,sT] ty #[.slice (some ⟨g,o,none⟩) dLen dCap,.slice (some a) sLen sCap]).run P w=.ok (goInt m) (w.setRow g (cur.toList.take o++cs++cur.toList.drop (o+cs.length)).toArray):=by
 have hl:=run_firstCells_some (P:=P) w i.size m a sLen sCap cs hn hsrc;have hst:=run_storeCells_at P g o t cs 0 cur w hg (by simpa using hfit) h1
 simp only [Nat.add_zero] at hst;simp [Builtin.copy_,run_underlying hu,Builtin.lenOf,sizeOf,typeInfo,hi,hm,hl,hst]
end
theorem cell_of_heap {W W':World} {b:Nat} (h:W'.heap[b]? = W.heap[b]?) (j:Nat):W'.cell? ⟨b,j,none⟩=W.cell? ⟨b,j,none⟩:=by simp [World.cell?,h]
theorem zfZ {B g:Nat} {w W:World} (hb:Below B w W) (h:B<=g) (cs:Array Value):Below B w (W.setRow g cs):=
 hb.trans ⟨rfl,rfl,rfl,by simp [World.setRow],fun k hk=>setRow_other _ _ _ _ (by omega)⟩
theorem zhQ {a b c z:List Value} {la lb lc:Nat} (h1:a.length=la) (h2:b.length=lb) (h3:c.length=lc):(a++b++c++z).take (la+lb+lc)=a++b++c:=by
 subst h1 h2 h3;rw [<- List.length_append,<- List.length_append];exact List.take_left
theorem zju (g o n i k B:Nat) (xs ys:List Value) (w:World) (hk:n+1=i+k) (hi:i<n) (hm:n<=1000000) (hlen:xs.length=n * 6) (hcell:∀ j u,xs[j]? = some u->w.cell? ⟨g,o+j,none⟩=some u) (h1c:∀ u∈xs,u.oneCell'=true) (hgw:g<w.heap.size)
  (hyl:ys.length=6) (hys:∀ j u,ys[j]? = some u->w.cell? ⟨B,j,none⟩=some u) (hy1:∀ u∈ys,u.oneCell'=true) (hBw:B<w.heap.size):
  ∃ (c:Nat) (W1 W2 W3:World),n+1<=c/\c<=maxLen /\
   (∀ ty,(Builtin.append_ #[27,3] ty #[.slice (some ⟨g,o,none⟩) i n,.int .i64 k]).run Tryz.prog w=.ok (.slice (some ⟨w.heap.size,0,none⟩) (n+1:Nat) c) W1) /\
   (∀ ty,(Builtin.copy_ #[27,27] ty #[.slice (some ⟨w.heap.size,i * 6,none⟩) (n+1 - i) (c - i),.slice (some ⟨B,0,none⟩) 1 1]).run Tryz.prog W1=.ok (goInt 1) W2) /\
   (∀ ty,(Builtin.copy_ #[27,27] ty #[.slice (some ⟨w.heap.size,(i+1) * 6,none⟩) (n - i) (c - (i+1)),.slice (some ⟨g,o+i * 6,none⟩) (n - i) (n - i)]).run Tryz.prog W2.drew=.ok (goInt ((n - i:Nat):Int)) W3) /\
   W3.ownsRow w.heap.size 70 6 (.slice (some ⟨w.heap.size,0,none⟩) (n+1:Nat) c) (n+1) (xs.take (i * 6)++ys++xs.drop (i * 6))/\Below w.heap.size w W3:=by
 obtain ⟨i0,hi0,hz0,hz1,hz2⟩:=info_parts infoField;have hol:(xs.take (i * 6)).length=i * 6:=by rw [List.length_take,hlen];omega
 have hdl:(xs.drop (i * 6)).length=(n - i) * 6:=by rw [List.length_drop,hlen];omega
 have hfit:=growslice_fits (need:=i+k) (old:=n) (bytes:=96) (by omega) (by omega)
 have hA:=fun ty=>zdd (P:=Tryz.prog) w 27 3 ty 70 i0 _ Tryz.underlying27 Tryz.underlying3 hi0 hz0 ⟨g,o,none⟩ i n (xs.take (i * 6)) (by rw [hz1,hol]) (fun j u hj=>by
   rw [zdv];rw [List.getElem?_take] at hj;split at hj
   ·exact hcell j u hj
   ·cases hj) k (by rw [hz1];omega) (by omega) (by omega) (by rw [hz2];omega) (by rw [hz2];exact hfit)
 have hge:=grownCap_ge w (i+k) n 70;have hle:=grownCap_le_maxLen w (i+k) n 70 (by unfold maxLen;omega)
 generalize grownCap w (i+k) n 70=c at *;rw [<- hk] at hA hge;obtain ⟨z,hzd⟩:∃ z:Value,z=.agg #[.string ⟨#[]⟩,.int .u8 0,.int .i64 0,.string ⟨#[]⟩,.slice none 0 0,.slice none 0 0]:=⟨_,rfl⟩;have hzs:z.cells.size=6:=by rw [hzd];rfl
 rw [<- hzd] at hA;obtain ⟨cur,hcur⟩:∃ cur,cur=(xs.take (i * 6)).toArray++Builtin.zeroCells z.cells k++Builtin.zeroCells z.cells (c - (n+1)):=⟨_,rfl⟩;simp only [<- hcur] at hA;have hcs:cur.size=c * 6:=by
  rw [hcur,Array.size_append,Array.size_append,size_zeroCells,size_zeroCells,hzs,List.size_toArray,hol];omega
 have hct:cur.toList.take (i * 6)=xs.take (i * 6):=by
  rw [hcur,Array.toList_append,Array.toList_append,List.append_assoc];exact (congrArg (fun q=>List.take q _) hol.symm).trans List.take_left
 obtain ⟨W1,hW1⟩:∃ W1,W1=w.drew.alloc (.cells cur 70):=⟨_,rfl⟩;rw [<- hW1] at hA;have hb1:Below w.heap.size w W1:=by rw [hW1];exact (Below.refl _ _).drew.alloc (Nat.le_refl _) _
 have hg1:W1.heap[w.heap.size]? = some (.cells cur 70 (0,0)):=by rw [hW1];exact heap_alloc_new w.drew _
 have hC1:=fun ty=>zdC (P:=Tryz.prog) W1 27 27 ty 70 i0 w.heap.size (i * 6) (n+1 - i) (c - i) 1 1 1 ⟨B,0,none⟩ cur _ ys Tryz.underlying27 hi0 hg1 (by show min 1 (n+1 - i)=1;omega) (by rw [hz1,hyl]) (fun j u hj=>by
   rw [zdv,Nat.zero_add,cell_of_heap (hb1.block B hBw)];exact hys j u hj) (by rw [hcs,hyl];omega) hy1
 obtain ⟨cur2,hcur2⟩:∃ cur2,cur2=(cur.toList.take (i * 6)++ys++cur.toList.drop (i * 6+ys.length)).toArray:=⟨_,rfl⟩;obtain ⟨W2,hW2⟩:∃ W2,W2=W1.setRow w.heap.size cur2:=⟨_,rfl⟩;simp only [<- hcur2,<- hW2] at hC1;have hb2:Below w.heap.size w W2:=by rw [hW2];exact zfZ hb1 (Nat.le_refl _) _
 have hg2:W2.heap[w.heap.size]? = some (.cells cur2 70 (0,0)):=by rw [hW2];exact setRow_heap _ _ _ _ _ _ hg1
 have hcs2:cur2.size=c * 6:=by
  rw [hcur2,List.size_toArray,List.length_append,List.length_append,List.length_take,List.length_drop,Array.length_toList,hcs,hyl];omega
 have hct2:cur2.toList.take ((i+1) * 6)=xs.take (i * 6)++ys:=by
  rw [hcur2,hct];simp only;rw [show (i+1) * 6=(xs.take (i * 6)++ys).length by rw [List.length_append,hol,hyl];omega]
  exact List.take_left
 have hC2:=fun ty=>zdC (P:=Tryz.prog) W2.drew 27 27 ty 70 i0 w.heap.size ((i+1) * 6) (n - i) (c - (i+1)) (n - i) (n - i) (n - i) ⟨g,o+i * 6,none⟩ cur2 _ (xs.drop (i * 6)) Tryz.underlying27 hi0 hg2 (Nat.min_self _) (by rw [hz1,hdl]) (fun j u hj=>by
   rw [zdv,Nat.add_assoc,cell_of_heap (hb2.drew.block g hgw)];rw [List.getElem?_drop] at hj;exact hcell _ u hj) (by rw [hcs2,hdl];omega) (fun u hu=>h1c u (List.mem_of_mem_drop hu))
 refine ⟨c,W1,W2,_,hge,hle,hA,hC1,hC2,⟨?_,.inr ⟨w.heap.size,c,_,rfl,Nat.le_refl _,setRow_heap _ _ _ _ _ _ (show W2.drew.heap[w.heap.size]? = _ from hg2),hge,hle,?_,?_⟩⟩,zfZ hb2.drew (Nat.le_refl _) _⟩
 ·rw [List.length_append,List.length_append,hol,hyl,hdl]
  omega
 ·simp only [List.size_toArray,List.length_append,List.length_take,List.length_drop,Array.length_toList,hcs2,hlen]
  omega
 ·rw [hct2]
  simp only;rw [show (n+1) * 6=i * 6+6+(n - i) * 6 by omega]
  exact zhQ hol hyl hdl
section
variable {P:Program} {w:World}
theorem zbl {ops:Array Oper} {rest:List Oper} {o:Oper} {a:Act} {Q:Exit->Act->World->Prop} (hgd:o.guard=none) (s x:Operand) (t tx:TypeId) (ho:o.op=.call { callee:=.builtin .append,args:=#[s,x],argTypes:=#[t,tx] })
  (v1 v2 v':Value) (w':World) (hs:a.eval s=v1) (hx:a.eval x=v2) (hrun:(Builtin.append_ #[t,tx] o.type #[v1,v2]).run P w=.ok v' w') (h:wpList P ops Q rest (a.put o.dst v') w'):wpList P ops Q (o :: rest) a w:=by
 refine wpList_plain hgd fun K hK=>?_
 unfold Oper.wp execOp;simp only [ho,resolve,invoke,builtin,Sem.run_bind,Sem.run_pure,Result.andThen_ok,List.map_toArray,List.map_cons,List.map_nil,hs,hx,hrun];exact hK _ _ h
theorem zdX {ops:Array Oper} {rest:List Oper} {o:Oper} {a:Act} {Q:Exit->Act->World->Prop} (hgd:o.guard=none) (s x:Operand) (t tx:TypeId) (ho:o.op=.call { callee:=.builtin .copy,args:=#[s,x],argTypes:=#[t,tx] })
  (v1 v2 v':Value) (w':World) (hs:a.eval s=v1) (hx:a.eval x=v2) (hrun:(Builtin.copy_ #[t,tx] o.type #[v1,v2]).run P w=.ok v' w') (h:wpList P ops Q rest (a.put o.dst v') w'):wpList P ops Q (o :: rest) a w:=by
 refine wpList_plain hgd fun K hK=>?_
 unfold Oper.wp execOp;simp only [ho,resolve,invoke,builtin,Sem.run_bind,Sem.run_pure,Result.andThen_ok,List.map_toArray,List.map_cons,List.map_nil,hs,hx,hrun];exact hK _ _ h
end
theorem zcw (g o n i D c:Nat) (hi:i<n) (hn:n<=1000000) (hc:n+1<=c) (hcm:c<=maxLen) (W:World):
  (Instr.slice 27 (.slice (some ⟨g,o,none⟩) n n) (some (.int .i64 i)) none none).run Tryz.prog W=.ok (.slice (some ⟨g,o+i * 6,none⟩) (n - i) (n - i)) W /\
  (Instr.slice 27 (.slice (some ⟨g,o,none⟩) n n) none (some (.int .i64 i)) none).run Tryz.prog W=.ok (.slice (some ⟨g,o,none⟩) i n) W /\
  (Instr.slice 27 (.slice (some ⟨D,0,none⟩) (n+1) c) (some (.int .i64 i)) none none).run Tryz.prog W=.ok (.slice (some ⟨D,i * 6,none⟩) (n+1 - i) (c - i)) W /\
  (Instr.slice 27 (.slice (some ⟨D,0,none⟩) (n+1) c) (some (.int .i64 ((i:Int)+1))) none none).run Tryz.prog W=.ok (.slice (some ⟨D,(i+1) * 6,none⟩) (n - i) (c - (i+1))) W:=by
 unfold maxLen at hcm;have hni:¬ (n=i):=by omega
 have hci:¬ (c=i):=by omega
 refine ⟨?_,?_,?_,?_⟩
 ·rw [run_slice_l (ht:=Tryz.underlying27) (h0:=by omega) (h1:=by omega)]
  have hz:¬ ((n:Int)=i):=by omega
  by_cases e0:i=0
  ·subst e0;simp [go_sem,Addr.add,hni]
   try omega
  ·have e6:¬ (i * 6=0):=by omega
   simp [go_sem,Addr.add,hni,hz,e6]
 ·rw [run_slice_h (ht:=Tryz.underlying27) (h0:=by omega) (h2:=by omega)]
  simp [go_sem,Addr.add]
 ·rw [run_slice_l (ht:=Tryz.underlying27) (h0:=by omega) (h1:=by omega)]
  have hz:¬ ((c:Int)=i):=by omega
  by_cases e0:i=0
  ·subst e0;simp [go_sem,Addr.add,hci]
   try omega
  ·have e6:¬ (i * 6=0):=by omega
   simp [go_sem,Addr.add,hci,hz,e6]
 ·rw [run_slice_l (ht:=Tryz.underlying27) (h0:=by omega) (h1:=by omega)]
  have e1:((i:Int)+1).toNat=i+1:=by omega
  rw [e1];have hz:¬ ((c:Int)=(i:Int)+1):=by omega
  have hz2:¬ (c=i+1):=by omega
  have e6:¬ ((i+1) * 6=0):=by omega
  have hmm:n+1 - (i+1)=n - i:=by omega
  simp [go_sem,Addr.add,hz,hz2,e6,hmm]
theorem zfU {ok:Nat->Prop} {W:World}:∀ {ks:List ByteArray} {l:List GV} {xs:List Value} (i:Nat),RowO ok W ks l xs->RowO ok W (ks.take i) (l.take i) (xs.take (i * 6))/\RowO ok W (ks.drop i) (l.drop i) (xs.drop (i * 6))
 | _,_,_,0,h=>by simpa [RowO] using h
 | [],[],_,i+1,h=>by
  obtain rfl:_=([]:List Value):=h;simp [RowO]
 | k :: ks,g :: l,_,i+1,⟨L,O,ys,e,hL,hO,hr⟩=>by
  obtain ⟨h1,h2⟩:=zfU i hr;subst e;have e6:(i+1) * 6=(.string k :: chunk g L O).length+i * 6:=by simp [chunk];omega
  rw [e6,List.take_length_add_append,List.drop_length_add_append];exact ⟨⟨L,O,_,rfl,hL,hO,h1⟩,h2⟩
 | [],_ :: _,_,_+1,h=>h.elim
 | _ :: _,[],_,_+1,h=>h.elim
theorem zhH (ok:Nat->Prop) (g o n i:Nat) (ks:List ByteArray) (l:List GV) (key:ByteArray) (B:Nat) (w:World) (hO:ObjV ok w (.slice (some ⟨g,o,none⟩) n n) ks l) (hn:n=l.length) (hi:i<n) (hm:n<=1000000) (hB:Whole w B 70 (newF key)):
  Calls Tryz.prog 114 #[.slice (some ⟨g,o,none⟩) n n,.int .i64 i,.slice (some ⟨B,0,none⟩) 1 1] w fun e w'=>∃ D d xs,e=.returned (.slice D (n+1:Nat) d)/\RowO ok w' (insL ks i key) (insL l i noG) xs/\w'.ownsRow w.heap.size 70 6 (.slice D (n+1:Nat) d) (n+1) xs/\Below w.heap.size w w':=by
 obtain ⟨xs,hr,hlen,hcell,h1c,hgw⟩:∃ xs,RowO ok w ks l xs/\xs.length=n * 6/\(∀ j u,xs[j]? = some u->w.cell? ⟨g,o+j,none⟩=some u)/\(∀ u∈xs,u.oneCell'=true)/\g<w.heap.size:=by
  obtain ⟨hl,hO⟩:=hO;rcases hO with ⟨rfl,he⟩ | ⟨b,o',c',he,h1,h2,hK,hks,hE⟩
  ·cases he
  ·simp only [Value.slice.injEq,Option.some.injEq,Addr.mk.injEq] at he
   obtain ⟨⟨rfl,rfl,_⟩,_,_⟩:=he;obtain ⟨xs,hr,hlen,hcell,h1c⟩:=zbB hl hks hE;exact ⟨xs,hr,by rw [hlen,hn],hcell,h1c,hK.lt⟩
 obtain ⟨k,hk⟩:∃ k,n+1=i+k:=⟨n+1 - i,by omega⟩
 obtain ⟨c,W1,W2,W3,hc1,hc2,hA,hC1,hC2,hown,hb⟩:=zju g o n i k B xs (newF key).toList w hk hi hm hlen hcell h1c hgw rfl (fun j u hj=>by rw [hB.cell];simpa using hj) (by simp [newF,Value.oneCell']) hB.lt
 obtain ⟨hp1,hp2⟩:=zfU i hr;have hrow:RowO ok W3 (insL ks i key) (insL l i noG) (xs.take (i * 6)++(newF key).toList++xs.drop (i * 6)):=by
  have h1:RowO ok w [key] [noG] (newF key).toList:=⟨.slice none 0 0,.slice none 0 0,[],rfl,.inl ⟨rfl,rfl⟩,⟨rfl,.inl ⟨rfl,rfl⟩⟩,rfl⟩;have h3:=((hp1.app h1).app hp2).keep (ok':=ok) (From.of_below hb) (fun _ h _=>h)
  unfold insL
  simpa using h3
 have HFIN:=hid (And.intro hrow (And.intro hown hb));have hs1:=fun W=>(zcw g o n i w.heap.size c hi hm hc1 hc2 W).1
 have hs2:=fun W=>(zcw g o n i w.heap.size c hi hm hc1 hc2 W).2.1
 have hs3:=fun W=>(zcw g o n i w.heap.size c hi hm hc1 hc2 W).2.2.1
 have hs4:=fun W=>(zcw g o n i w.heap.size c hi hm hc1 hc2 W).2.2.2
 have HA0:=hid hA;have HC0:=hid hC1;have hC20:=hC2 3;have hin:((i:Int) == (n:Int))=false:=by simp;omega
 have hw1:IntKind.i64.wrap ((n:Int)+1)=(n:Int)+1:=IntWalk.i64_in _ (by omega)
 have hw2:IntKind.i64.wrap ((n:Int)+1 - (i:Int))=(k:Int):=by rw [show (n:Int)+1 - (i:Int)=k by omega];exact IntWalk.i64_in _ (by omega)
 have hw3:IntKind.i64.wrap ((i:Int)+1)=(i:Int)+1:=IntWalk.i64_in _ (by omega)
 have hgt:decide ((n:Int)<(n:Int)+1)=true:=decide_eq_true (by omega)
 clear hA hC1 hC2 hown hb hrow hp1 hp2 hr hlen hcell h1c hgw hO hB hc1 hc2 hk hi hm hn;go_enter Tryz.func114,Tryz.ntmps114
 go_wp2_with (first
  | (at_builtin;with_reducible refine zbl rfl (.tmp 34) (.tmp 39) 27 3 rfl _ _ _ _ rfl rfl (HA0.out _) ?_)
  | (with_reducible refine zdX rfl (.tmp 43) (.tmp 44) 27 27 rfl _ _ _ _ rfl rfl (HC0.out _) ?_))
 simp only [Act.put,List.setIfInBounds_toArray,List.set_cons_succ,List.set_cons_zero];clear hs2 hs3 hin hw1 hw2 hgt HA0 HC0
 go_region
 all_goals
  go_wp2
  go_ret
  exact ⟨_,_,_,rfl,HFIN.out.1,HFIN.out.2.1,HFIN.out.2.2⟩
open Go Go.RowKit
set_option linter.unusedVariables false
set_option linter.unusedSimpArgs false
theorem zeV {α:Type} {l:List α} {i:Nat} {v:α} (h:i<=l.length):(insL l i v).length=l.length+1:=by
 unfold insL;rw [List.length_append,List.length_cons,List.length_take,List.length_drop];omega
theorem zjl {α:Type} {l:List α} {i:Nat} {v:α} (h:i<=l.length):(insL l i v)[i]? = some v:=by
 have e:(l.take i).length=i:=by rw [List.length_take];omega
 unfold insL;rw [List.getElem?_append_right (by omega),e,Nat.sub_self]
 rfl
theorem zkd {α:Type} {l:List α} {i:Nat} {v u:α} (h:i<=l.length):(insL l i v).set i u=insL l i u:=by
 have e:(l.take i).length=i:=by rw [List.length_take];omega
 unfold insL;rw [List.set_append_right _ _ (by omega),e,Nat.sub_self]
 rfl
theorem zkQ (b i:Nat) (h:GV) (HL HO dL) (key:ByteArray) (v:GV) (AL AO:Option Addr) (cL cO:Nat) (w) (hbx:Whole w b 93 #[.int .u8 h.kq,.int .i64 h.num,.string h.str,.slice HL h.il.length dL,.slice HO h.vz.length h.vz.length])
  (hL:LstV (fun k=>k<b) w (.slice HL h.il.length dL) h.il) (hO:ObjV (fun k=>k<b) w (.slice HO h.vz.length h.vz.length) h.keys h.vz) (hvL:LstV (fun k=>k<b) w (.slice AL v.il.length cL) v.il) (hvO:ObjV (fun k=>k<b) w (.slice AO v.vz.length cO) v.keys v.vz)
  (hth:there key h.keys=false) (hpl:place key h.keys=i) (hi:i<h.vz.length) (hm:h.vz.length<=1000000):
  Calls Tryz.prog 87 #[.pointer (some ⟨b,0,none⟩),.string key,.agg #[.int .u8 v.kq,.int .i64 v.num,.string v.str,.slice AL v.il.length cL,.slice AO v.vz.length cO]] w (PlaceIs b b (.mk h.kq h.num h.str h.il (insL h.keys i key) (insL h.vz i v)) w):=by
 obtain ⟨g0,o0,rfl⟩:∃ g0 o0,HO=some ⟨g0,o0,none⟩:=by
  rcases hO.2 with ⟨h0,_⟩ | ⟨b',o',d',he,_⟩
  ·rw [h0] at hi;cases hi
  ·simp only [Value.slice.injEq] at he
   exact ⟨b',o',he.1⟩
 have hl1:=zeV (v:=v) (show i<=h.vz.length by omega)
 have hl2:=zeV (v:=noG) (show i<=h.vz.length by omega)
 have hl3:=zeV (v:=key) (show i<=h.keys.length by have:=hO.1;omega)
 have hg0:=zjl (v:=noG) (show i<=h.vz.length by omega)
 have hs0:=zkd (v:=noG) (u:=v) (show i<=h.vz.length by omega)
 have HLS:=hid (And.intro hl1 (And.intro hl2 (And.intro hl3 (And.intro hg0 (And.intro hs0 hi)))));clear hl1 hl2 hl3 hg0 hs0;have hlt:=hbx.lt;have hB0:=zaa w (.cells #[.int .u8 v.kq,.int .i64 v.num,.string v.str,.slice AL v.il.length cL,.slice AO v.vz.length cO] 29);have HVB:=hid (Whole.new w 29 #[.int .u8 v.kq,.int .i64 v.num,.string v.str,.slice AL v.il.length cL,.slice AO v.vz.length cO]);have HF:=hid (fun W (hb:Below w.heap.size w W)=>(zbx (fun _=>True) _ h key W ⟨_,_,rfl,hL.keep (From.of_below hb) (fun _ _ _=>trivial),hO.keep (From.of_below hb) (fun _ _ _=>trivial)⟩).mono (R':=fun e w'=>e=.returned (.tuple #[.int .i64 i,.bool false])/\Below W.heap.size W w') fun e w' hq=>by
  obtain ⟨he,hb'⟩:=hq;rw [hth,hpl] at he;exact ⟨he,hb'⟩)
 have HI:=hid (fun W (hb:Below w.heap.size w W) (B:Nat) (hB:Whole W B 70 #[.string key,.int .u8 0,.int .i64 0,.string ⟨#[]⟩,.slice none 0 0,.slice none 0 0])=>
  zhH (fun k=>k<b) g0 o0 h.vz.length i h.keys h.vz key B W (hO.keep (fun k hk hl=>hb.block k (by omega)) (fun k hk _=>hk)) rfl hi hm hB)
 have HBX:=hid hbx;have H4:=hid (And.intro hL (And.intro hO (And.intro hvL hvO)));obtain ⟨c0,c1,c2,c3,c4,_⟩:=hbx.five;replace c0:=fun o=>zab o c0
 replace c1:=fun o=>zab o c1
 replace c2:=fun o=>zab o c2
 replace c3:=fun o=>zab o c3
 replace c4:=fun o=>zab o c4
 have HB0:=hid hB0;clear hbx hL hO hvL hvO hB0 hth hpl hi;go_enter Tryz.func87,Tryz.ntmps87
 go_wp2_with (first
  | (go_at_call 113;refine (HF.out _ HB0.out).mono ?_;rintro e w2 ⟨rfl,hb2⟩;have HB2:=hid (HB0.out.trans (hb2.mono HB0.out.size));have HV2:=hid (HVB.out.below hb2 HVB.out.lt);obtain ⟨k0,k1,k2,k3,k4,_⟩:=(HBX.out.below HB2.out HBX.out.lt).five;have k4q:=fun o=>zab o k4;clear hb2 c0 c1 c2 c3 c4 k0 k1 k2 k3)
  | (go_at_call 114;refine (HI.out _ (HB2.out.trans ((zaa _ _).mono HB2.out.size)) _ (Whole.new w2 70 _)).mono ?_;rintro e w4 ⟨D,d,xs,rfl,hrow,hown,hb4⟩;have HB4:=hid ((HB2.out.trans ((zaa w2 (.cells #[.string key,.int .u8 0,.int .i64 0,.string ⟨#[]⟩,.slice none 0 0,.slice none 0 0] 70)).mono HB2.out.size)).trans (hb4.mono (by have:=HB2.out.size;simp;omega)));have HR4:=hid (And.intro hrow (And.intro hown hb4));obtain ⟨k0,k1,k2,k3,k4,y0,y1,y2,y3,y4⟩:=(HBX.out.below HB4.out HBX.out.lt).five;clear hrow hown hb4))
 have hsb:b<w4.heap.size:=by have:=HB4.out.size;omega
 have hg:∃ g cur,D=some ⟨g,0,none⟩/\w.heap.size<g/\Whole w4 g 70 cur/\h.vz.length+1<=d/\d<=maxLen/\KeysAt w4 g 0 (insL h.keys i key)/\GV.els (fun k=>k<b) w4 g 6 (0+1) (insL h.vz i noG):=by
  obtain ⟨hrow,hown,_⟩:=HR4.out;have ho2:=hown;rcases ho2.2 with ⟨hn,_⟩ | ⟨g,cap,cur,he,hb,hg,h1,h2,h3,h4⟩
  ·cases hn
  ·simp only [Value.slice.injEq] at he
   obtain ⟨rfl,_,rfl⟩:=he;have hE:=hrow.els (b:=g) (off:=0) fun j u hj=>by
    have:=hown.cells (g:=g) rfl j u hj;by_cases e:j=0<;>simpa [Addr.add,e] using this
   refine ⟨g,cur,rfl,?_,hg,h1,h2,hE.1,hE.2⟩
   have:=HB2.out.size;simp at hb
   omega
 obtain ⟨g,cur,rfl,hwg,hWg,hd1,hd2,hks,hels⟩:=hg;have hP5:Whole (w4.setCell ⟨b,4,none⟩ (.slice (some ⟨g,0,none⟩) (h.vz.length+1) d)) b 93 #[.int .u8 h.kq,.int .i64 h.num,.string h.str,.slice HL h.il.length dL,.slice (some ⟨g,0,none⟩) (h.vz.length+1) d]:=(HBX.out.below HB4.out HBX.out.lt).put 4 _;have hV5:=((HV2.out.alloc (.cells #[.string key,.int .u8 0,.int .i64 0,.string ⟨#[]⟩,.slice none 0 0,.slice none 0 0] 70)).below HR4.out.2.2 (by have:=HV2.out.lt;simp;omega)).far (p:=⟨b,4,none⟩) (by simp;omega) (.slice (some ⟨g,0,none⟩) (h.vz.length+1) d)
 have hG5:=hWg.far (p:=⟨b,4,none⟩) (by simp;omega) (.slice (some ⟨g,0,none⟩) (h.vz.length+1) d)
 have hB5:Below b w (w4.setCell ⟨b,4,none⟩ (.slice (some ⟨g,0,none⟩) (h.vz.length+1) d)):=(HB4.out.mono (Nat.le_of_lt hlt)).setCell (Nat.le_refl _) _;have hgb:(w4.setCell ⟨b,4,none⟩ (.slice (some ⟨g,0,none⟩) (h.vz.length+1) d)).heap[g]? = w4.heap[g]?:=Below.heap_setCell w4 ⟨b,4,none⟩ _ g (by simp;omega)
 have hks5:=hks.keep hgb;have hE5:=GV.els_keep (ok':=fun k=>k<b) (W':=w4.setCell ⟨b,4,none⟩ (.slice (some ⟨g,0,none⟩) (h.vz.length+1) d)) (fun k hk _=>Below.heap_setCell w4 ⟨b,4,none⟩ _ k (by simp;omega)) (fun k hk _=>hk) _ hgb hels
 clear hks hels hgb hWg HB4 HR4 k0 k1 k2 k3 k4 y0 y1 y2 y3 y4 HBX HVB HV2 HB2 HB0 HI HF k4q hsb;generalize (w4.setCell ⟨b,4,none⟩ (.slice (some ⟨g,0,none⟩) (h.vz.length+1) d))=W5 at *;have HP5:=hid hP5;have HG5:=hid hG5;have HB5:=hid hB5;have HK5:=hid (And.intro hks5 hE5);obtain ⟨p0,p1,p2,p3,p4,_⟩:=hP5.five;obtain ⟨v0,v1,v2,v3,v4,_⟩:=hV5.five;have hat:=GV.els_get hE5 (i:=i) (g:=noG) HLS.out.2.2.2.1;obtain ⟨L0,O0,t0,t1,t2,t3,t4,_,_⟩:=GV.at_iff.1 hat;rw [show 0+1+i * 6=i * 6+1 by omega] at t0 t1 t2 t3 t4
 have z0:=hG5.frozen (i * 6+1);have z1:=hG5.frozen (i * 6+1+1);have z2:=hG5.frozen (i * 6+1+2);have z3:=hG5.frozen (i * 6+1+3);have z4:=hG5.frozen (i * 6+1+4);have hm0:(0:Int)<=(i:Int):=by omega
 have hm1:(i:Int)<((h.vz.length+1:Nat):Int):=by have:=HLS.out.2.2.2.2.2;omega
 clear hP5 hG5 hB5 hks5 hE5 hV5 hat
 go_region
 all_goals
  go_wp2
  go_end0
  have hJ:=zbw (b:=g) (off:=i * 6+1) W5 (.int .u8 v.kq) (.int .i64 v.num) (.string v.str) (.slice AL v.il.length cL) (.slice AO v.vz.length cO);have hF5:∀ k,k<b->k<w.heap.size->W5.heap[k]? = w.heap[k]?:=fun k hk _=>HB5.out.block k hk
  have hva:=zcz (x:=v) (R:=b) t0 t1 t2 t3 t4 (by omega) (H4.out.2.2.1.keep hF5 (fun k hk _=>hk)) (H4.out.2.2.2.keep hF5 (fun k hk _=>hk))
  have hOO:ObjV (fun _=>True) W5 (.slice (some ⟨g,0,none⟩) (h.vz.length+1) d) (insL h.keys i key) (insL h.vz i noG):=
   ⟨by rw [HLS.out.2.1,HLS.out.2.2.1];have:=H4.out.2.1.1;omega,.inr ⟨g,0,d,by rw [HLS.out.2.1],by rw [HLS.out.2.1];omega,hd2,⟨trivial,cur,HG5.out⟩,HK5.out.1,GV.els_keep (From.refl _ _) (fun _ _ _=>trivial) _ rfl HK5.out.2⟩⟩
  have hset:=zgC (lo:=0) (k:=i) (y:=v) hOO (GV.els_keep (ok':=fun k=>0<=k/\k≠g) (From.refl _ _) (fun k hk _=>⟨Nat.zero_le _,by omega⟩) _ rfl HK5.out.2) (by rw [Nat.zero_add];exact hJ) (by rw [Nat.zero_add];exact hva) (fun e=>by have:=HLS.out.2.1;rw [e] at this;cases this)
  have hls:(insL h.vz i noG).set i v=insL h.vz i v:=HLS.out.2.2.2.2.1;rw [hls] at hset;have hbl:Below b w _:=HB5.out.trans (hJ.below (B:=b) (by omega) (by have:=HB5.out.size;omega))
  have hbw:((((((W5.setCell ⟨g,i * 6+1,none⟩ (.int .u8 v.kq)).setCell ⟨g,i * 6+1+1,none⟩ (.int .i64 v.num)).setCell ⟨g,i * 6+1+2,none⟩ (.string v.str)).setCell ⟨g,i * 6+1+3,none⟩ (.slice AL v.il.length cL)).setCell ⟨g,i * 6+1+4,none⟩ (.slice AO v.vz.length cO)).drew).heap[b]? = W5.heap[b]?:=hJ.far b HP5.out.lt (by omega)
  have hwh:=HP5.out.of_eq hbw;refine ⟨rfl,HL,some ⟨g,0,none⟩,dL,d,?_,⟨?_,?_⟩,hbl.drew⟩
  ·show Whole _ b 93 #[.int .u8 h.kq,.int .i64 h.num,.string h.str,.slice HL h.il.length dL,.slice (some ⟨g,0,none⟩) (insL h.vz i v).length d]
   rw [HLS.out.1];exact hwh
  ·exact (H4.out.1.keep (ok':=fun _=>True) (fun k hk _=>hbl.block k hk) (fun _ _ _=>trivial)).keep (From.of_below (Below.refl _ _).drew) (fun _ _ _=>trivial)
  ·show ObjV _ _ (.slice (some ⟨g,0,none⟩) (insL h.vz i v).length d) (insL h.keys i key) (insL h.vz i v)
   rw [HLS.out.1];exact hset.keep (From.of_below (Below.refl _ _).drew) (fun _ _ _=>trivial)
theorem zhe (h:GV) (c:GC) (A AL AO:Option Addr) (cp cL cO:Nat) (w) (hk:c.kq=2) (hcv:Vl w c.v AL AO cL cO) (hth:there c.key h.keys=false) (hi:place c.key h.keys<h.vz.length) (hm:h.vz.length<=1000000):PlaceDoes h c A AL AO cp cL cO w:=by
 intro HL HO dL lo W hB hlo hlW hv hf;obtain ⟨Lh,Oh,eh,hL,hO⟩:=hv;obtain ⟨rfl,rfl⟩:Value.slice HL h.il.length dL=Lh/\Value.slice HO h.vz.length h.vz.length=Oh:=by simpa using eh
 have hd:doH h c=.mk h.kq h.num h.str h.il (insL h.keys (place c.key h.keys) c.key) (insL h.vz (place c.key h.keys) c.v):=by
  unfold doH;rw [if_neg (by omega),if_pos hk,if_neg (by rw [hth];simp)]
 rw [hd];have g1:(c.kq == 1)=false:=by rw [hk];rfl
 have g2:(c.kq == 2)=true:=by rw [hk];rfl
 obtain ⟨hP,hC,hB2⟩:=zbm W #[.int .u8 h.kq,.int .i64 h.num,.string h.str,.slice HL h.il.length dL,.slice HO h.vz.length h.vz.length] #[.int .u8 c.kq,.slice A c.path.length cp,.string c.key,.int .i64 c.i,.int .i64 c.j,.int .i64 c.n,.int .u8 c.v.kq,.int .i64 c.v.num,.string c.v.str,.slice AL c.v.il.length cL,.slice AO c.v.vz.length cO,.string c.s];have hcv2:=hcv.later hB;have hkeep:∀ k,k<W.heap.size->((W.alloc (.cells #[.int .u8 h.kq,.int .i64 h.num,.string h.str,.slice HL h.il.length dL,.slice HO h.vz.length h.vz.length] 93)).alloc (.cells #[.int .u8 c.kq,.slice A c.path.length cp,.string c.key,.int .i64 c.i,.int .i64 c.j,.int .i64 c.n,.int .u8 c.v.kq,.int .i64 c.v.num,.string c.v.str,.slice AL c.v.il.length cL,.slice AO c.v.vz.length cO,.string c.s] 48)).heap[k]? = W.heap[k]?:=fun k hk=>hB2.block k hk
 have HPUT:=hid (zkQ W.heap.size (place c.key h.keys) h HL HO dL c.key c.v AL AO cL cO _ hP (hL.keep (fun k _ hl=>hkeep k hl) (fun k _ hl=>hl)) (hO.keep (fun k _ hl=>hkeep k hl) (fun k _ hl=>hl)) (hcv2.lst.keep (fun k _ hl=>hkeep k hl) (fun k _ hl=>hl)) (hcv2.obj.keep (fun k _ hl=>hkeep k hl) (fun k _ hl=>hl)) hth rfl hi hm)
 have HB3:=hid (show Below lo (W.alloc (.cells #[.int .u8 h.kq,.int .i64 h.num,.string h.str,.slice HL h.il.length dL,.slice HO h.vz.length h.vz.length] 93)) ((W.alloc (.cells #[.int .u8 h.kq,.int .i64 h.num,.string h.str,.slice HL h.il.length dL,.slice HO h.vz.length h.vz.length] 93)).alloc (.cells #[.int .u8 c.kq,.slice A c.path.length cp,.string c.key,.int .i64 c.i,.int .i64 c.j,.int .i64 c.n,.int .u8 c.v.kq,.int .i64 c.v.num,.string c.v.str,.slice AL c.v.il.length cL,.slice AO c.v.vz.length cO,.string c.s] 48)) from (Below.refl _ _).alloc (by simp;omega) _)
 clear hf hd hk hL hO hB hlo hcv hcv2 hth hi hm hP hC hB2 hkeep;go_enter Tryz.func56,Tryz.ntmps56
 go_wp2_with (go_at_call 87;refine HPUT.out.mono ?_;rintro e w2 ⟨rfl,XL,XO,xL,xO,hwh,hvl,hb⟩;have H2:=hid (And.intro hwh (And.intro hvl hb));clear hwh hvl hb)
 go_end0
 exact ⟨rfl,XL,XO,xL,xO,H2.out.1,H2.out.2.1,HB3.out.trans (H2.out.2.2.mono hlW)⟩
theorem zi7 {h:GV} {c:GC} (hk:c.kq=3) (hc:chkH h c=0):there c.key h.keys=true:=by
 have hw:worksOn c.kq=5:=by unfold worksOn;rw [if_neg (by omega),if_pos (by omega)]
 unfold chkH at hc;rw [hw] at hc;by_cases h5:h.kq=5
 ·rw [if_neg (by omega),if_neg (by omega),if_neg (by omega)] at hc
  cases ht:there c.key h.keys with
  | true=>rfl
  | false=>rw [if_pos ⟨hk,ht⟩] at hc;omega
 ·rw [if_pos h5] at hc
  omega
theorem zkm (h:GV) (c:GC) (A AL AO:Option Addr) (cp cL cO:Nat) (w) (hk:1<=c.kq/\c.kq<=7) (hc:chkH h c=0) (hi0:0<=c.i) (hj0:0<=c.j) (hcv:Vl w c.v AL AO cL cO) (hkl:h.keys.length=h.vz.length) (hn:h.il.length<=1000000) (hm:h.vz.length<=1000000)
  (hw:4<=c.kq->GV.weights (doL h.il ⟨c.kq.toNat,c.i.toNat,c.j.toNat,c.v⟩)<=900000000):PlaceDoes h c A AL AO cp cL cO w:=by
 by_cases k1:c.kq=1
 ·exact zlm h c A AL AO cp cL cO w k1
 by_cases k2:c.kq=2
 ·cases ht:there c.key h.keys with
  | true=>exact zfb h c A AL AO cp cL cO w k2 hcv ht
  | false=>
   have hle:=zbV c.key h.keys;rcases Nat.lt_or_ge (place c.key h.keys) h.vz.length with q | q
   ·exact zhe h c A AL AO cp cL cO w k2 hcv ht q hm
   ·exact zhx h c A AL AO cp cL cO w k2 hcv ht (by omega) hm hkl
 by_cases k3:c.kq=3
 ·exact zln h c A AL AO cp cL cO w k3 (zi7 k3 hc) hm
 have h4:4<=c.kq/\c.kq<=7:=by omega
 exact zk8 h c A AL AO cp cL cO w h4 hi0 hj0 (ziM h4 hc).2 hcv hn (hw h4.1)
end Go.Proofs.YthmcfjmignlhfaaGreatDoor
