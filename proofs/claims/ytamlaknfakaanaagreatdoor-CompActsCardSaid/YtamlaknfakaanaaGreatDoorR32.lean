/- do, of a value's place: a number is added; a field is put at the end. -/
import Derived.Test.YtamlaknfakaanaaGreatDoorR31
set_option maxRecDepth 100000
set_option maxHeartbeats 8000000
namespace Go.Proofs.YtamlaknfakaanaaGreatDoor
open Go Go.RowKit
set_option linter.unusedVariables false
set_option linter.unusedSimpArgs false
theorem pc_boxes (W:World) (cp cc:Array Value):Whole ((W.alloc (.cells cp 64)).alloc (.cells cc 35)) W.heap.size 64 cp∧Whole ((W.alloc (.cells cp 64)).alloc (.cells cc 35)) (W.heap.size+1) 35 cc∧Below W.heap.size W ((W.alloc (.cells cp 64)).alloc (.cells cc 35)):=by
 have h2:=Whole.new (W.alloc (.cells cp 64)) 35 cc
 rw [World.size_alloc] at h2
 exact ⟨(Whole.new W _ _).alloc _,h2,(below_alloc W _).alloc (by simp) _⟩
theorem do_add (h:GV) (c:GC) (A AL AO:Option Addr) (cp cL cO:Nat) (w:World) (hk:c.kind=1):PlaceDoes h c A AL AO cp cL cO w:=by
 intro HL HO dL lo W hB hlo hlW hv hf
 obtain ⟨Lh,Oh,eh,hL,hO⟩:=hv
 obtain ⟨rfl,rfl⟩:Value.slice HL h.items.length dL=Lh∧Value.slice HO h.vals.length h.vals.length=Oh:=by simpa using eh
 have hd:doH h c=.mk h.kind (wrap64 (h.num+c.n)) h.str h.items h.keys h.vals:=by unfold doH;rw [if_pos hk,IntWalk.i64_left]
 rw [hd]
 have g1:(c.kind == 1)=true:=by rw [hk];rfl
 obtain ⟨hP,hC,hB2⟩:=pc_boxes W #[.int .u8 h.kind,.int .i64 h.num,.string h.str,.slice HL h.items.length dL,.slice HO h.vals.length h.vals.length] #[.int .u8 c.kind,.slice A c.path.length cp,.string c.key,.int .i64 c.i,.int .i64 c.j,.int .i64 c.n,.int .u8 c.v.kind,.int .i64 c.v.num,.string c.v.str,.slice AL c.v.items.length cL,.slice AO c.v.vals.length cO,.string c.s]
 have HL1:=Lib.hid (And.intro hL (And.intro hO hlW))
 clear hf hd hk hL hO hB hlo
 generalize hb:W.heap.size=b at *
 have HBE:=Lib.hid hb
 go_enter Tryz.func22,Tryz.ntmps22
 go_wp2
 have hkeep:∀ k,k<b→((W.alloc (.cells #[.int .u8 h.kind,.int .i64 h.num,.string h.str,.slice HL h.items.length dL,.slice HO h.vals.length h.vals.length] 64)).alloc (.cells #[.int .u8 c.kind,.slice A c.path.length cp,.string c.key,.int .i64 c.i,.int .i64 c.j,.int .i64 c.n,.int .u8 c.v.kind,.int .i64 c.v.num,.string c.v.str,.slice AL c.v.items.length cL,.slice AO c.v.vals.length cO,.string c.s] 35)).heap[k]? = W.heap[k]?:=fun k hk=>hB2.block k hk
 have hB3:Below lo (W.alloc (.cells #[.int .u8 h.kind,.int .i64 h.num,.string h.str,.slice HL h.items.length dL,.slice HO h.vals.length h.vals.length] 64)) ((W.alloc (.cells #[.int .u8 h.kind,.int .i64 h.num,.string h.str,.slice HL h.items.length dL,.slice HO h.vals.length h.vals.length] 64)).alloc (.cells #[.int .u8 c.kind,.slice A c.path.length cp,.string c.key,.int .i64 c.i,.int .i64 c.j,.int .i64 c.n,.int .u8 c.v.kind,.int .i64 c.v.num,.string c.v.str,.slice AL c.v.items.length cL,.slice AO c.v.vals.length cO,.string c.s] 35)):=(Below.refl _ _).alloc (by simp;omega) _
 generalize ((W.alloc (.cells #[.int .u8 h.kind,.int .i64 h.num,.string h.str,.slice HL h.items.length dL,.slice HO h.vals.length h.vals.length] 64)).alloc (.cells #[.int .u8 c.kind,.slice A c.path.length cp,.string c.key,.int .i64 c.i,.int .i64 c.j,.int .i64 c.n,.int .u8 c.v.kind,.int .i64 c.v.num,.string c.v.str,.slice AL c.v.items.length cL,.slice AO c.v.vals.length cO,.string c.s] 35))=W2 at *
 have HK:=Lib.hid (And.intro hkeep hB3)
 have HP:=Lib.hid hP
 obtain ⟨p0,p1,p2,p3,p4,f0,f1,f2,f3,f4⟩:=hP.five
 have c5:=hC.tw.c5
 clear hkeep hP hC hB2 hB3 hb
 go_region
 all_goals
  go_wp2
  go_end0
  have hwh:=(HP.out.put 1 (.int .i64 (wrap64 (h.num+c.n))))
  have hb0:Below b W2 ((W2.setCell ⟨b,1,none⟩ (.int .i64 (wrap64 (h.num+c.n)))).drew):=(((Below.refl b W2).setCell (p:=⟨b,1,none⟩) (Nat.le_refl _) _).drew)
  have hF:∀ k,k<b→k<W.heap.size→((W2.setCell ⟨b,1,none⟩ (.int .i64 (wrap64 (h.num+c.n)))).drew).heap[k]? = W.heap[k]?:=fun k hk _=>(hb0.block k hk).trans (HK.out.1 k hk)
  refine ⟨rfl,HL,HO,dL,h.vals.length,hwh.of_eq rfl,⟨?_,?_⟩,HK.out.2.trans (hb0.mono hlW)⟩
  ·exact (HL1.out.1.keep (ok':=fun k=>k<b) (From.refl _ W) (fun k _ hl=>by have:=HBE.out;omega)).keep hF (fun _ _ _=>trivial)
  ·exact (HL1.out.2.1.keep (ok':=fun k=>k<b) (From.refl _ W) (fun k _ hl=>by have:=HBE.out;omega)).keep hF (fun _ _ _=>trivial)
theorem do_put_end (h:GV) (c:GC) (A AL AO:Option Addr) (cp cL cO:Nat) (w:World) (hk:c.kind=2) (hcv:Vl w c.v AL AO cL cO) (hth:there c.key h.keys=false) (hpl:place c.key h.keys=h.vals.length) (hm:h.vals.length≤1000000) (hkl:h.keys.length=h.vals.length):PlaceDoes h c A AL AO cp cL cO w:=by
 intro HL HO dL lo W hB hlo hlW hv hf
 obtain ⟨Lh,Oh,eh,hL,hO⟩:=hv
 obtain ⟨rfl,rfl⟩:Value.slice HL h.items.length dL=Lh∧Value.slice HO h.vals.length h.vals.length=Oh:=by simpa using eh
 have hd:doH h c=.mk h.kind h.num h.str h.items (h.keys++[c.key]) (h.vals++[c.v]):=by
  unfold doH
  rw [if_neg (by omega),if_pos hk,if_neg (by rw [hth];simp),hpl]
  have e1:insL h.keys h.vals.length c.key=h.keys++[c.key]:=by rw [← hkl];simp [insL]
  have e2:insL h.vals h.vals.length c.v=h.vals++[c.v]:=by simp [insL]
  rw [e1,e2]
 rw [hd]
 have g1:(c.kind == 1)=false:=by rw [hk];rfl
 have g2:(c.kind == 2)=true:=by rw [hk];rfl
 obtain ⟨hP,hC,hB2⟩:=pc_boxes W #[.int .u8 h.kind,.int .i64 h.num,.string h.str,.slice HL h.items.length dL,.slice HO h.vals.length h.vals.length] #[.int .u8 c.kind,.slice A c.path.length cp,.string c.key,.int .i64 c.i,.int .i64 c.j,.int .i64 c.n,.int .u8 c.v.kind,.int .i64 c.v.num,.string c.v.str,.slice AL c.v.items.length cL,.slice AO c.v.vals.length cO,.string c.s]
 have hcv2:=hcv.later hB
 have hkeep:∀ k,k<W.heap.size→((W.alloc (.cells #[.int .u8 h.kind,.int .i64 h.num,.string h.str,.slice HL h.items.length dL,.slice HO h.vals.length h.vals.length] 64)).alloc (.cells #[.int .u8 c.kind,.slice A c.path.length cp,.string c.key,.int .i64 c.i,.int .i64 c.j,.int .i64 c.n,.int .u8 c.v.kind,.int .i64 c.v.num,.string c.v.str,.slice AL c.v.items.length cL,.slice AO c.v.vals.length cO,.string c.s] 35)).heap[k]? = W.heap[k]?:=fun k hk=>hB2.block k hk
 have HPUT:=Lib.hid (put_end W.heap.size h HL HO dL c.key c.v AL AO cL cO _ hP (hL.keep (fun k _ hl=>hkeep k hl) (fun k _ hl=>hl)) (hO.keep (fun k _ hl=>hkeep k hl) (fun k _ hl=>hl)) (hcv2.lst.keep (fun k _ hl=>hkeep k hl) (fun k _ hl=>hl)) (hcv2.obj.keep (fun k _ hl=>hkeep k hl) (fun k _ hl=>hl)) hth hpl hm)
 have HB3:=Lib.hid (show Below lo (W.alloc (.cells #[.int .u8 h.kind,.int .i64 h.num,.string h.str,.slice HL h.items.length dL,.slice HO h.vals.length h.vals.length] 64)) ((W.alloc (.cells #[.int .u8 h.kind,.int .i64 h.num,.string h.str,.slice HL h.items.length dL,.slice HO h.vals.length h.vals.length] 64)).alloc (.cells #[.int .u8 c.kind,.slice A c.path.length cp,.string c.key,.int .i64 c.i,.int .i64 c.j,.int .i64 c.n,.int .u8 c.v.kind,.int .i64 c.v.num,.string c.v.str,.slice AL c.v.items.length cL,.slice AO c.v.vals.length cO,.string c.s] 35)) from (Below.refl _ _).alloc (by simp;omega) _)
 clear hf hd hk hL hO hB hlo hcv hcv2 hth hpl hm hkl hP hC hB2 hkeep
 go_enter Tryz.func22,Tryz.ntmps22
 go_wp2_with (go_at_call 44;refine HPUT.out.mono ?_;rintro e w2 ⟨rfl,XL,XO,xL,xO,hwh,hvl,hb⟩;have H2:=Lib.hid (And.intro hwh (And.intro hvl hb));clear hwh hvl hb)
 go_end0
 exact ⟨rfl,XL,XO,xL,xO,H2.out.1,H2.out.2.1,HB3.out.trans (H2.out.2.2.mono hlW)⟩
end Go.Proofs.YtamlaknfakaanaaGreatDoor
