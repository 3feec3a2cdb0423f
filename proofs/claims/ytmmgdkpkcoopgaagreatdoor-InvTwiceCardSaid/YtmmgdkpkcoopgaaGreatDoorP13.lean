/- Texts in one: PTools, BaseJ, CompS, CompC, OneA, OpenA, TextX, InvA. -/
import Derived.Test.YtmmgdkpkcoopgaaGreatDoorP9
import Derived.Test.YtmmgdkpkcoopgaaGreatDoorP11
import Derived.Test.YtmmgdkpkcoopgaaGreatDoorP12
import Derived.Test.YtmmgdkpkcoopgaaGreatDoorP10
import Derived.Test.YtmmgdkpkcoopgaaGreatDoorP8
import Derived.Test.YtmmgdkpkcoopgaaGreatDoorP1
import Derived.WalkKit
import Derived.WalkSpells
import Derived.Deep.QuietTactic
import Derived.BigQuiet
import Derived.Deep.RegionWith
import Derived.Deep.DeepCutAuto
import Derived.Lib.Hide
import Derived.Test.YtmmgdkpkcoopgaaGreatDoorP4
import Derived.OwnWalk
import Derived.ArgAppend
import Derived.Maps.AppendAt
import Derived.Deep.RegionHeld3
import Derived.Deep.Upon
import Derived.Laws.StructEq
import Derived.Laws.Concat
import Derived.Test.YtmmgdkpkcoopgaaGreatDoorP6
import Derived.Laws.RangeString
import Derived.Laws.RangeAny
import Derived.Lib.RuneCount
import Derived.LoopTactic
import Derived.WalkSmall
set_option maxRecDepth 100000
set_option maxHeartbeats 8000000
namespace Go.Proofs.YtmmgdkpkcoopgaaGreatDoor
open Go.Lib(hid)
open Go Go.RowKit
structure Wy (W:World) (A:Option Addr) (c:Nat) (ps:List GStep):Prop where
 steps:Steps W.heap.size W A ps
 le:ps.length<=c
 cap:c<=maxLen
theorem Wy.later {W W':World} {A c ps} (h:Wy W A c ps) (hb:Below W.heap.size W W'):Wy W' A c ps:=⟨h.steps.keep hb hb.size,h.le,h.cap⟩
def WalkNw (g:GV) (W:World) (e:Ending) (w':World):Prop:=
 ∃ (A:Option Addr) (c:Nat) (ps:List GStep) (h:GV),e=.returned (.slice A ps.length c)/\Wy w' A c ps/\g.get ps=some h/\(ps.length<=8/\∀ s∈ps,Clean s)/\(∀ p,A=some p->W.heap.size<=p.block)/\Below W.heap.size W w'
theorem zlf {W g AL AO cL cO} (hv:Vl W g AL AO cL cO) (hg:g.Sound) (hgw:g.weight<=1000000000) (hi:Nat) (A:Option Addr) (cap:Nat) (bs:List Int) (hB:Bytes hi W A bs) (hb255:∀ x∈bs,0<=x/\x<=255) (hhi:hi<=W.heap.size) (hcap:bs.length<=cap) (hm:cap<=maxLen):
  Calls Tryz.prog 21 #[.agg #[.int .u8 g.kq,.int .i64 g.num,.string g.str,.slice AL g.il.length cL,.slice AO g.vz.length cO],.slice A bs.length cap] W (WalkNw g W):=
 (zlC _ _ g hi A cap bs W hv.val hg hgw hB hb255 hhi hcap hm).mono fun _ _ ⟨A',c,ps,h,he,h1,h2,h3,h4,h5,h6,hn,hb⟩=>⟨A',c,ps,h,he,⟨h4,h1,h2⟩,h5,⟨h3,h6⟩,hn,hb⟩
theorem Bytes.keep {hi hi':Nat} {W W':World} {A:Option Addr} {bs:List Int} (hb:Below hi W W') (hhi:hi<=hi') (h:Bytes hi W A bs):Bytes hi' W' A bs:=fun hn=>by
 obtain ⟨b,o,rfl,hl,hc⟩:=h hn;exact ⟨b,o,rfl,by omega,fun i x hx=>(hb.cell (p:=⟨b,o+i,none⟩) hl).trans (hc i x hx)⟩
theorem zgw {g h y:GV} {s:GStep} (hi:g.inside s=some h):(g.setIn s y).inside s=some y:=by
 rcases zaE hi with ⟨hs,hk,k',hik,hg⟩ | ⟨hs,hk,ht,hg⟩
 ·have hl:=(List.getElem?_eq_some_iff.1 hg).1
  have e:=(zbQ (g:=g) (y:=y) hs).1;have h2:=zbS (g:=g.setIn s y) (s:=s) (k:=k') hs (by rw [setIn_kind];exact hk) hik (by rw [e,List.length_set];exact hl)
  rw [h2];simp [e,hik]
 ·have hl:=(List.getElem?_eq_some_iff.1 hg).1
  have e:=(zcm (g:=g) (y:=y) hs).2;have h2:=zdw (g:=g.setIn s y) (s:=s) hs (by rw [setIn_kind];exact hk) (by rw [setIn_keys];exact ht) (by rw [e,setIn_keys,List.length_set];exact hl)
  rw [h2];simp [e]
theorem zh6 {x g y:GV} {s:GStep} {r:List GStep} (e:g.put x (s :: r)=some y):∃ h z,g.inside s=some h/\h.put x r=some z/\y=g.setIn s z:=by
 simp only [GV.put] at e;cases hi:g.inside s with
 | none=>rw [hi] at e;cases e
 | some h=>
  rw [hi] at e;simp only [Option.bind_some] at e;cases hp:h.put x r with
  | none=>rw [hp] at e;cases e
  | some z=>
   rw [hp] at e;simp only [Option.map_some,Option.some.injEq] at e;exact ⟨h,z,rfl,hp,e.symm⟩
theorem zm4 {g h:GV} {s:GStep} {r:List GStep} (hi:g.inside s=some h):g.get (s :: r)=h.get r:=by simp [GV.get,hi]
theorem zjE {x:GV}:∀ (p:List GStep) (g y:GV),g.put x p=some y->y.get p=some x
 | [],g,y,e=>by simp [GV.put] at e;subst e;rfl
 | s :: r,g,y,e=>by
  obtain ⟨h,z,hi,hp,rfl⟩:=zh6 e;rw [zm4 (zgw hi)];exact zjE r h z hp
theorem zhf {g h z:GV} {s:GStep} (hg:g.Sound) (hz:z.Sound) (hi:g.inside s=some h):(g.setIn s z).Sound:=by
 have hne:∀ (l:List GV) (k:Nat) (a:GV),l[k]? = some a->l≠[]:=fun l k a e e2=>by rw [e2] at e;simp at e
 cases g with
 | mk k n zs l ks ov=>
  simp only [GV.Sound,zap] at hg;obtain ⟨⟨h1,h2,h3,h4,h5⟩,hl,ho⟩:=hg;have hm:∀ (l:List GV) (k:Nat),(∀ x∈l,x.Sound)->∀ x∈l.set k z,x.Sound:=fun l k h x hx=>(List.mem_or_eq_of_mem_set hx).elim (h x) (fun e=>e ▸ hz)
  rcases zaE hi with ⟨hs,hk,k',hik,hgx⟩ | ⟨hs,hk,ht,hgx⟩
  ·simp only [GV.kq] at hk
   simp only [GV.setIn,hs,if_true,GV.kq,GV.num,GV.str,GV.il,GV.keys,GV.vz,GV.Sound,zap];exact ⟨⟨h1,h2,h3,.inl hk,h5⟩,hm _ _ hl,ho⟩
  ·simp only [GV.kq] at hk
   simp only [GV.setIn,hs,GV.kq,GV.num,GV.str,GV.il,GV.keys,GV.vz,GV.Sound,zap,Bool.false_eq_true,if_false];refine ⟨⟨h1,h2,h3,h4,.inl ⟨hk,?_⟩⟩,hl,hm _ _ ho⟩
   rcases h5 with h | h
   ·exact h.2
   ·exact absurd hk h.1
theorem zeC {x:GV} (hx:x.Sound):∀ (p:List GStep) (g y:GV),g.Sound->g.put x p=some y->y.Sound
 | [],g,y,_,e=>by simp [GV.put] at e;subst e;exact hx
 | s :: r,g,y,hg,e=>by
  obtain ⟨h,z,hi,hp,rfl⟩:=zh6 e;have hh:h.Sound:=by
   rcases zaE hi with ⟨_,_,k',_,hgx⟩ | ⟨_,_,_,hgx⟩
   ·exact (zaN hg).2.1 h (List.mem_of_getElem? hgx)
   ·exact (zaN hg).2.2 h (List.mem_of_getElem? hgx)
  exact zhf hg (zeC hx r h z hh hp) hi
end Go.Proofs.YtmmgdkpkcoopgaaGreatDoor
namespace Go.Proofs.YtmmgdkpkcoopgaaGreatDoor
open Go.Lib(hid)
open Go Go.RowKit
set_option linter.unusedVariables false
set_option linter.unusedSimpArgs false
theorem zhc {k:IntKind} {a b:Int} (h:a=b):Ending.returned (.int k a)=.returned (.int k b):=by rw [h]
structure Tw (W:World) (b:Nat) (a0 a1 a2 a3 a4 a5 a6 a7 a8 a9 a10 a11:Value):Prop where
 c0:W.cell? ⟨b,0,none⟩=some a0
 c1:W.cell? ⟨b,1,none⟩=some a1
 c2:W.cell? ⟨b,2,none⟩=some a2
 c3:W.cell? ⟨b,3,none⟩=some a3
 c4:W.cell? ⟨b,4,none⟩=some a4
 c5:W.cell? ⟨b,5,none⟩=some a5
 c6:W.cell? ⟨b,6,none⟩=some a6
 c7:W.cell? ⟨b,7,none⟩=some a7
 c8:W.cell? ⟨b,8,none⟩=some a8
 c9:W.cell? ⟨b,9,none⟩=some a9
 c10:W.cell? ⟨b,10,none⟩=some a10
 c11:W.cell? ⟨b,11,none⟩=some a11
 f0:W.frozen? ⟨b,0,none⟩=false
 f1:W.frozen? ⟨b,1,none⟩=false
 f2:W.frozen? ⟨b,2,none⟩=false
 f3:W.frozen? ⟨b,3,none⟩=false
 f4:W.frozen? ⟨b,4,none⟩=false
 f5:W.frozen? ⟨b,5,none⟩=false
 f6:W.frozen? ⟨b,6,none⟩=false
 f7:W.frozen? ⟨b,7,none⟩=false
 f8:W.frozen? ⟨b,8,none⟩=false
 f9:W.frozen? ⟨b,9,none⟩=false
 f10:W.frozen? ⟨b,10,none⟩=false
 f11:W.frozen? ⟨b,11,none⟩=false
theorem Whole.tw {W b} {t:TypeId} {a0 a1 a2 a3 a4 a5 a6 a7 a8 a9 a10 a11:Value} (h:Whole W b t #[a0,a1,a2,a3,a4,a5,a6,a7,a8,a9,a10,a11]):Tw W b a0 a1 a2 a3 a4 a5 a6 a7 a8 a9 a10 a11:=
 ⟨h.cell 0,h.cell 1,h.cell 2,h.cell 3,h.cell 4,h.cell 5,h.cell 6,h.cell 7,h.cell 8,h.cell 9,h.cell 10,h.cell 11,h.frozen 0,h.frozen 1,h.frozen 2,h.frozen 3,h.frozen 4,h.frozen 5,h.frozen 6,h.frozen 7,h.frozen 8,h.frozen 9,h.frozen 10,h.frozen 11⟩
section
variable {P:Program} {w:World}
end
theorem zhO {ok:Nat->Prop} {W:World} {A:Option Addr} {n c:Nat} {l:List GV} (h:LstV ok W (.slice A n c) l):(A=none->n=0/\c=0)/\∀ p,A=some p->p.spot=none:=by
 rcases h with ⟨rfl,e⟩ | ⟨b',o',c',e,h1,h2,hK,hE⟩
 ·cases e;exact ⟨fun _=>⟨rfl,rfl⟩,fun p h=>by cases h⟩
 ·simp only [Value.slice.injEq] at e
  obtain ⟨rfl,_,rfl⟩:=e;exact ⟨(fun h=>by cases h),(fun p h=>by cases h;rfl)⟩
open Go Go.RowKit
set_option linter.unusedVariables false
set_option linter.unusedSimpArgs false
theorem RowL.app {ok:Nat->Prop} {W:World}:∀ {l:List GV} {xs:List Value} {l':List GV} {xs':List Value},RowL ok W l xs->RowL ok W l' xs'->RowL ok W (l++l') (xs++xs')
 | [],_,_,_,h,h'=>by rw [show _=([]:List Value) from h];exact h'
 | _ :: _,_,_,_,⟨L,O,ys,e,hL,hO,hr⟩,h'=>⟨L,O,ys++_,by rw [e,List.append_assoc],hL,hO,RowL.app hr h'⟩
structure Lc (ok:Nat->Prop) (W:World) (A:Option Addr) (l:List GV) (xs:List Value):Prop where
 row:RowL ok W l xs
 len:xs.length=l.length * 5
 cells:∀ ad,A=some ad->ad.block<W.heap.size/\∀ j u,xs[j]? = some u->W.cell? (ad.add j)=some u
 one:∀ u∈xs,u.oneCell'=true
theorem zfu (a:Addr) (j:Nat):(a.add j).block=a.block:=by unfold Addr.add;split<;>rfl
theorem Lc.later {ok:Nat->Prop} {W W':World} {A:Option Addr} {l:List GV} {xs:List Value} (h:Lc ok W A l xs) (hb:Below W.heap.size W W'):Lc ok W' A l xs:=
 ⟨h.row.keep (From.of_below hb) (fun _ h _=>h),h.len,fun ad e=>⟨Nat.lt_of_lt_of_le (h.cells ad e).1 hb.size,fun j u hj=>(hb.cell (by rw [zfu];exact (h.cells ad e).1)).trans ((h.cells ad e).2 j u hj)⟩,h.one⟩
def withinB (i n:Int):Bool:=decide (0<=i/\i<n)
theorem zfa (i n:Int) (w:World):Calls Tryz.prog 111 #[.int .i64 i,.int .i64 n] w fun e w'=>e=.returned (.bool (withinB i n))/\w=w':=by
 by_cases h0:0<=i<;>by_cases h1:i<n
 ·rw [show withinB i n=true by simp [withinB,h0,h1]]
  go_enter Tryz.func111,Tryz.ntmps111
  go_wp2
  go_ret
  exact ⟨rfl,rfl⟩
 all_goals
  rw [show withinB i n=false by simp [withinB,h0,h1]]
  go_enter Tryz.func111,Tryz.ntmps111
  go_wp2
  go_ret
  exact ⟨rfl,rfl⟩
def chk (n:Int) (k:Nat) (i j:Int):Int:=
 if k=4 then (if 0<=i/\i<=n then 0 else 32) else if k=5\/k=6 then (if withinB i n=true then 0 else 32) else if k=7 then (if (withinB i n && withinB j n)=true then 0 else 32) else 31
theorem zjz (N:Int) (k:Nat) (i j:Int) (A AL AO:Option Addr) (n c nL cL nO cO:Nat) (s vs t:ByteArray) (m vk vn:Int) (w:World):
  Calls Tryz.prog 89 #[.int .i64 N,.agg #[.int .u8 k,.slice A n c,.string s,.int .i64 i,.int .i64 j,.int .i64 m,.int .u8 vk,.int .i64 vn,.string vs,.slice AL nL cL,.slice AO nO cO,.string t]] w fun e w'=>e=.returned (.int .u16 (chk N k i j))/\Below w.heap.size w w':=by
 have hb:=zaa w (.cells #[.int .u8 k,.slice A n c,.string s,.int .i64 i,.int .i64 j,.int .i64 m,.int .u8 vk,.int .i64 vn,.string vs,.slice AL nL cL,.slice AO nO cO,.string t] 45);have HWI:=hid (fun W=>zfa i N W)
 have HWJ:=hid (fun W=>zfa j N W)
 generalize hr:chk N k i j=r;have HR:=hid hr;have HB:=hid hb;clear hr hb;unfold chk at HR;generalize withinB i N=bi at *;generalize withinB j N=bj at *;rcases (show k=4\/k=5\/k=6\/k=7\/(k≠4/\k≠5/\k≠6/\k≠7) by omega) with hk | hk | hk | hk | ⟨h4,h5,h6,h7⟩
 ·have g4:((k:Int) == 4)=true:=by simp;omega
  rw [if_pos hk] at HR;have h:=HR.out;clear HR hk;by_cases h0:0<=i<;>by_cases h1:i<=N
  ·obtain rfl:0=r:=by simpa [h0,h1] using h
   clear h;go_enter Tryz.func89,Tryz.ntmps89
   go_wp2
   go_ret
   exact ⟨rfl,HB.out⟩
  all_goals
   obtain rfl:32=r:=by simpa [h0,h1] using h
   clear h;go_enter Tryz.func89,Tryz.ntmps89
   go_wp2
   go_ret
   exact ⟨rfl,HB.out⟩
 ·have g4:((k:Int) == 4)=false:=by simp;omega
  have g5:((k:Int) == 5)=true:=by simp;omega
  have HK:=hid (show (if bi=true then (0:Int) else 32)=r by have h:=HR.out;subst hk;simpa using h)
  clear HR hk;cases bi
  all_goals
   go_enter Tryz.func89,Tryz.ntmps89
   go_wp2_with (go_at_call 111;((with_reducible refine (HWI.out _).mono ?_);rintro e w' ⟨rfl,rfl⟩))
   go_ret
   exact ⟨zhc (by have h:=HK.out;simpa using h),HB.out⟩
 ·have g4:((k:Int) == 4)=false:=by simp;omega
  have g5:((k:Int) == 5)=false:=by simp;omega
  have g6:((k:Int) == 6)=true:=by simp;omega
  have HK:=hid (show (if bi=true then (0:Int) else 32)=r by have h:=HR.out;subst hk;simpa using h)
  clear HR hk;cases bi
  all_goals
   go_enter Tryz.func89,Tryz.ntmps89
   go_wp2_with (go_at_call 111;((with_reducible refine (HWI.out _).mono ?_);rintro e w' ⟨rfl,rfl⟩))
   go_ret
   exact ⟨zhc (by have h:=HK.out;simpa using h),HB.out⟩
 ·have g4:((k:Int) == 4)=false:=by simp;omega
  have g5:((k:Int) == 5)=false:=by simp;omega
  have g6:((k:Int) == 6)=false:=by simp;omega
  have g7:((k:Int) == 7)=true:=by simp;omega
  have HK:=hid (show (if (bi && bj)=true then (0:Int) else 32)=r by have h:=HR.out;subst hk;simpa using h)
  clear HR hk;cases bi<;>cases bj
  all_goals
   go_enter Tryz.func89,Tryz.ntmps89
   go_wp2_with (first | (go_at_call 111;((with_reducible refine (HWI.out _).mono ?_);rintro e w' ⟨rfl,rfl⟩)) | (go_at_call 111;((with_reducible refine (HWJ.out _).mono ?_);rintro e w' ⟨rfl,rfl⟩)))
   go_ret
   exact ⟨zhc (by have h:=HK.out;simpa using h),HB.out⟩
 ·have g4:((k:Int) == 4)=false:=by simp;omega
  have g5:((k:Int) == 5)=false:=by simp;omega
  have g6:((k:Int) == 6)=false:=by simp;omega
  have g7:((k:Int) == 7)=false:=by simp;omega
  obtain rfl:31=r:=by have h:=HR.out;simpa [h4,h5,h6,h7] using h
  clear HR h4 h5 h6 h7;go_enter Tryz.func89,Tryz.ntmps89
  go_wp2
  go_ret
  exact ⟨rfl,HB.out⟩
def ListIn (l:List GV) (A:Option Addr) (c:Nat) (w:World):Prop:=LstV (fun _=>True) w (.slice A l.length c) l
theorem ListIn.later {l A c} {w w':World} (h:ListIn l A c w) (hb:Below w.heap.size w w'):ListIn l A c w':=LstV.keep (From.of_below hb) (fun _ h _=>h) h
theorem zcj (N:Nat):∀ (BL BO:Option Addr) (dL dO:Nat) (w:World),(Instr.field 29 (.agg #[.int .u8 0,.int .i64 0,.string ⟨#[]⟩,.slice BL N dL,.slice BO 0 dO]) 3).run Tryz.prog w=.ok (.slice BL N dL) w:=fun _ _ _ _ _=>by kernel_rfl
end Go.Proofs.YtmmgdkpkcoopgaaGreatDoor
namespace Go.Proofs.YtmmgdkpkcoopgaaGreatDoor
open Go.Lib(hid)
open Go Go.RowKit
set_option linter.unusedVariables false
set_option linter.unusedSimpArgs false
structure Cc (W:World) (c:GC) (A AL AO:Option Addr) (cp cL cO:Nat):Prop where
 path:Wy W A cp c.path
 v:Vl W c.v AL AO cL cO
theorem Cc.later {W W':World} {c A AL AO cp cL cO} (h:Cc W c A AL AO cp cL cO) (hb:Below W.heap.size W W'):Cc W' c A AL AO cp cL cO:=⟨h.path.later hb,h.v.later hb⟩
theorem zdD (W:World):Wy W none 0 []:=⟨fun h=>absurd rfl h,Nat.le_refl _,by decide⟩
theorem za0 (W:World):Vl W noG none none 0 0:=⟨.inl ⟨rfl,rfl⟩,⟨rfl,.inl ⟨rfl,rfl⟩⟩⟩
theorem znf (W:World):Cc W noC none none none 0 0 0:=⟨zdD W,za0 W⟩
theorem zg9 (A B:Option Addr) (n m c d:Nat) (hnm:n≠m) (w:World):Calls Tryz.prog 108 #[.slice A n c,.slice B m d] w fun e w'=>e=.returned (.bool false)/\w'=w:=by
 have h:¬ (n:Int)=(m:Int):=by omega
 clear hnm;go_enter Tryz.func108,Tryz.ntmps108
 go_wp2
 go_ret
 exact ⟨rfl,rfl⟩
theorem zgY {w A B c d ps qs} (hP:Wy w A c ps) (hQ:Wy w B d qs):
  Calls Tryz.prog 108 #[.slice A ps.length c,.slice B qs.length d] w fun e w'=>e=.returned (.bool (samePB ps qs))/\Below w.heap.size w w':=by
 by_cases hl:ps.length=qs.length
 ·by_cases hq:qs=[]
  ·subst hq
   have hp:ps=[]:=List.length_eq_zero_iff.1 (by simpa using hl)
   subst hp;exact (ziy A B c d w).mono fun e w' ⟨he,hw⟩=>⟨by rw [he];rfl,by rw [hw];exact Below.refl _ _⟩
  ·have hp:ps≠[]:=by intro e;apply hq;rw [e] at hl;exact List.length_eq_zero_iff.1 (by simpa using hl.symm)
   have h1:=hP.le;have h2:=hP.cap;have h3:=hQ.le;have h4:=hQ.cap;unfold maxLen at h2 h4;obtain ⟨⟨pb,po,sp⟩,rfl,hs,_,hpc⟩:=hP.steps hp;obtain ⟨⟨qb,qo,sp'⟩,rfl,hs',_,hqc⟩:=hQ.steps hq;simp only at hs hs';subst hs hs';have h:=AnyQ.slices_Equal Tryz.equalS 3 Tryz.isAgg85 Tryz.sizeOf85 encG (fun _=>rfl) sameStep zlz pb po ps.length c qb qo qs.length d ps qs w (Nat.le_refl _) (Nat.le_refl _) (by omega) (by omega) (cellsG hpc) (cellsG hqc)
   refine Calls.mono h fun e w' ⟨he,q,hw⟩=>⟨?_,?_⟩
   ·rw [he,List.take_length,List.take_length];simp [samePB,hl]
   ·rw [hw];exact ⟨rfl,rfl,rfl,Nat.le_refl _,fun _ _=>rfl⟩
 ·exact (zg9 A B _ _ c d hl w).mono fun e w' ⟨he,hw⟩=>⟨by rw [he];simp [samePB,hl],by rw [hw];exact Below.refl _ _⟩
structure CTwo (w W:World) (ca cb:Array Value):Prop where
 a:Whole W w.heap.size 45 ca
 b:Whole W (w.heap.size+1) 45 cb
 below:Below w.heap.size w W
theorem CTwo.new (w:World) (ca cb:Array Value):CTwo w ((w.alloc (.cells ca 45)).alloc (.cells cb 45)) ca cb:=
 ⟨(Whole.new w 45 ca).alloc _,by have:=Whole.new (w.alloc (.cells ca 45)) 45 cb;rwa [World.size_alloc] at this,((Below.refl _ _).alloc (Nat.le_refl _) _).alloc (by simp) _⟩
theorem CTwo.step {w W W':World} {ca cb:Array Value} (h:CTwo w W ca cb) (hb:Below W.heap.size W W'):CTwo w W' ca cb:=
 ⟨h.a.below hb h.a.lt,h.b.below hb h.b.lt,h.below.trans (hb.mono h.below.size)⟩
theorem zjJ (a b A AL AO A' AL' AO' cp cL cO cp' cL' cO' w) (ha:Cc w a A AL AO cp cL cO) (hb:Cc w b A' AL' AO' cp' cL' cO') (hwa:a.v.weight<=1000000000) (hwb:b.v.weight<=1000000000):
  Calls Tryz.prog 84 #[.agg #[.int .u8 a.kq,.slice A a.path.length cp,.string a.key,.int .i64 a.i,.int .i64 a.j,.int .i64 a.n,.int .u8 a.v.kq,.int .i64 a.v.num,.string a.v.str,.slice AL a.v.il.length cL,.slice AO a.v.vz.length cO,.string a.s],.agg #[.int .u8 b.kq,.slice A' b.path.length cp',.string b.key,.int .i64 b.i,.int .i64 b.j,.int .i64 b.n,.int .u8 b.v.kq,.int .i64 b.v.num,.string b.v.str,.slice AL' b.v.il.length cL',.slice AO' b.v.vz.length cO',.string b.s]] w (EqPost (a.Same b) w):=by
 have H0:=hid (CTwo.new w #[.int .u8 a.kq,.slice A a.path.length cp,.string a.key,.int .i64 a.i,.int .i64 a.j,.int .i64 a.n,.int .u8 a.v.kq,.int .i64 a.v.num,.string a.v.str,.slice AL a.v.il.length cL,.slice AO a.v.vz.length cO,.string a.s] #[.int .u8 b.kq,.slice A' b.path.length cp',.string b.key,.int .i64 b.i,.int .i64 b.j,.int .i64 b.n,.int .u8 b.v.kq,.int .i64 b.v.num,.string b.v.str,.slice AL' b.v.il.length cL',.slice AO' b.v.vz.length cO',.string b.s]);have HSS:Hid (a.Same b↔a.kq=b.kq/\a.key.toList=b.key.toList/\a.i=b.i/\a.j=b.j/\a.n=b.n/\a.s.toList=b.s.toList/\samePB a.path b.path=true/\a.v.Same b.v):=hid Iff.rfl;have hE:=fun W (h:Below w.heap.size w W)=>zgY (ha.path.later h) (hb.path.later h)
 have hV:=fun W (h:Below w.heap.size w W)=>zkT (fun _=>True) _ _ a.v b.v W (ha.v.later h).val (hb.v.later h).val (Nat.le_trans (zad _) hwa) (Nat.le_trans (zad _) hwb)
 have HE:=hid hE;have HV:=hid hV;clear hE hV ha hb hwa hwb;generalize a.Same b=SS at *;generalize samePB a.path b.path=sp at *;generalize a.v.Same b.v=Q at *;generalize a.kq=ak at *;generalize a.path.length=ap at *;generalize a.key=ay at *;generalize a.i=ai at *;generalize a.j=aj at *;generalize a.n=an at *;generalize a.v.kq=avk at *;generalize a.v.num=avn at *;generalize a.v.str=avs at *;generalize a.v.il.length=avl at *;generalize a.v.vz.length=avo at *;generalize a.s=aS at *;generalize b.kq=bk at *;generalize b.path.length=bp at *;generalize b.key=bY at *;generalize b.i=bi at *;generalize b.j=bj at *;generalize b.n=bn at *;generalize b.v.kq=bvk at *;generalize b.v.num=bvn at *;generalize b.v.str=bvs at *;generalize b.v.il.length=bvl at *;generalize b.v.vz.length=bvo at *;generalize b.s=bS at *;by_cases q0:ak=bk
 ·subst q0
  by_cases q1:ay.toList=bY.toList
  ·have z1:(ay.toList == bY.toList)=true:=by simp [q1]
   have Q1:=hid q1;clear q1;by_cases q2:ai=bi
   ·subst q2
    by_cases q3:aj=bj
    ·subst q3
     by_cases q4:an=bn
     ·subst q4
      by_cases q5:aS.toList=bS.toList
      ·have z5:(aS.toList == bS.toList)=true:=by simp [q5]
       have Q5:=hid q5;clear q5;cases sp with
       | true=>
        go_enter Tryz.func84,Tryz.ntmps84
        go_wp2_with (first
         | (go_at_call 108;refine (HE.out _ H0.out.below).mono ?_;rintro e w1 ⟨rfl,hb1⟩;have H1:=hid (H0.out.step hb1);obtain ⟨a0,a1,a2,a3,a4,a5,a6,a7,a8,a9,a10,a11,_⟩:=H1.out.a.tw;obtain ⟨e0,e1,e2,e3,e4,e5,e6,e7,e8,e9,e10,e11,_⟩:=H1.out.b.tw;clear hb1)
         | (go_at_call 109;refine (HV.out _ H1.out.below).mono ?_;rintro e w2 ⟨bb,rfl,hbb,hb2⟩;have H2:=hid (And.intro hbb (H1.out.step hb2));clear hbb hb2))
        go_ret
        exact ⟨bb,rfl,by rw [H2.out.1,HSS.out];simp [Q1.out,Q5.out],H2.out.2.below⟩
       | false=>
        have HN:=hid (show ¬ SS from fun hs=>by have h:=HSS.out.1 hs;simpa using h.2.2.2.2.2.2.1)
        go_enter Tryz.func84,Tryz.ntmps84
        go_wp2_with (first
         | (go_at_call 108;refine (HE.out _ H0.out.below).mono ?_;rintro e w1 ⟨rfl,hb1⟩;have H1:=hid (H0.out.step hb1);obtain ⟨a0,a1,a2,a3,a4,a5,a6,a7,a8,a9,a10,a11,_⟩:=H1.out.a.tw;obtain ⟨e0,e1,e2,e3,e4,e5,e6,e7,e8,e9,e10,e11,_⟩:=H1.out.b.tw;clear hb1)
         | (go_at_call 109;refine (HV.out _ H1.out.below).mono ?_;rintro e w2 ⟨bb,rfl,hbb,hb2⟩;have H2:=hid (And.intro hbb (H1.out.step hb2));clear hbb hb2))
        go_ret
        exact ⟨false,rfl,⟨(fun h=>by cases h),fun h=>absurd h HN.out⟩,H1.out.below⟩
      ·have z5:(aS.toList == bS.toList)=false:=by simpa using q5
       have HN:=hid (show ¬ SS from fun hs=>q5 (by have h:=HSS.out.1 hs;exact h.2.2.2.2.2.1))
       clear q5;go_enter Tryz.func84,Tryz.ntmps84
       go_wp2_with (first
        | (go_at_call 108;refine (HE.out _ H0.out.below).mono ?_;rintro e w1 ⟨rfl,hb1⟩;have H1:=hid (H0.out.step hb1);obtain ⟨a0,a1,a2,a3,a4,a5,a6,a7,a8,a9,a10,a11,_⟩:=H1.out.a.tw;obtain ⟨e0,e1,e2,e3,e4,e5,e6,e7,e8,e9,e10,e11,_⟩:=H1.out.b.tw;clear hb1)
        | (go_at_call 109;refine (HV.out _ H1.out.below).mono ?_;rintro e w2 ⟨bb,rfl,hbb,hb2⟩;have H2:=hid (And.intro hbb (H1.out.step hb2));clear hbb hb2))
       go_ret
       exact ⟨false,rfl,⟨(fun h=>by cases h),fun h=>absurd h HN.out⟩,H0.out.below⟩
     ·have z4:(an == bn)=false:=by simpa using q4
      have HN:=hid (show ¬ SS from fun hs=>q4 (by have h:=HSS.out.1 hs;exact h.2.2.2.2.1))
      clear q4;go_enter Tryz.func84,Tryz.ntmps84
      go_wp2_with (first
       | (go_at_call 108;refine (HE.out _ H0.out.below).mono ?_;rintro e w1 ⟨rfl,hb1⟩;have H1:=hid (H0.out.step hb1);obtain ⟨a0,a1,a2,a3,a4,a5,a6,a7,a8,a9,a10,a11,_⟩:=H1.out.a.tw;obtain ⟨e0,e1,e2,e3,e4,e5,e6,e7,e8,e9,e10,e11,_⟩:=H1.out.b.tw;clear hb1)
       | (go_at_call 109;refine (HV.out _ H1.out.below).mono ?_;rintro e w2 ⟨bb,rfl,hbb,hb2⟩;have H2:=hid (And.intro hbb (H1.out.step hb2));clear hbb hb2))
      go_ret
      exact ⟨false,rfl,⟨(fun h=>by cases h),fun h=>absurd h HN.out⟩,H0.out.below⟩
    ·have z3:(aj == bj)=false:=by simpa using q3
     have HN:=hid (show ¬ SS from fun hs=>q3 (by have h:=HSS.out.1 hs;exact h.2.2.2.1))
     clear q3;go_enter Tryz.func84,Tryz.ntmps84
     go_wp2_with (first
      | (go_at_call 108;refine (HE.out _ H0.out.below).mono ?_;rintro e w1 ⟨rfl,hb1⟩;have H1:=hid (H0.out.step hb1);obtain ⟨a0,a1,a2,a3,a4,a5,a6,a7,a8,a9,a10,a11,_⟩:=H1.out.a.tw;obtain ⟨e0,e1,e2,e3,e4,e5,e6,e7,e8,e9,e10,e11,_⟩:=H1.out.b.tw;clear hb1)
      | (go_at_call 109;refine (HV.out _ H1.out.below).mono ?_;rintro e w2 ⟨bb,rfl,hbb,hb2⟩;have H2:=hid (And.intro hbb (H1.out.step hb2));clear hbb hb2))
     go_ret
     exact ⟨false,rfl,⟨(fun h=>by cases h),fun h=>absurd h HN.out⟩,H0.out.below⟩
   ·have z2:(ai == bi)=false:=by simpa using q2
    have HN:=hid (show ¬ SS from fun hs=>q2 (by have h:=HSS.out.1 hs;exact h.2.2.1))
    clear q2;go_enter Tryz.func84,Tryz.ntmps84
    go_wp2_with (first
     | (go_at_call 108;refine (HE.out _ H0.out.below).mono ?_;rintro e w1 ⟨rfl,hb1⟩;have H1:=hid (H0.out.step hb1);obtain ⟨a0,a1,a2,a3,a4,a5,a6,a7,a8,a9,a10,a11,_⟩:=H1.out.a.tw;obtain ⟨e0,e1,e2,e3,e4,e5,e6,e7,e8,e9,e10,e11,_⟩:=H1.out.b.tw;clear hb1)
     | (go_at_call 109;refine (HV.out _ H1.out.below).mono ?_;rintro e w2 ⟨bb,rfl,hbb,hb2⟩;have H2:=hid (And.intro hbb (H1.out.step hb2));clear hbb hb2))
    go_ret
    exact ⟨false,rfl,⟨(fun h=>by cases h),fun h=>absurd h HN.out⟩,H0.out.below⟩
  ·have z1:(ay.toList == bY.toList)=false:=by simpa using q1
   have HN:=hid (show ¬ SS from fun hs=>q1 (by have h:=HSS.out.1 hs;exact h.2.1))
   clear q1;go_enter Tryz.func84,Tryz.ntmps84
   go_wp2_with (first
    | (go_at_call 108;refine (HE.out _ H0.out.below).mono ?_;rintro e w1 ⟨rfl,hb1⟩;have H1:=hid (H0.out.step hb1);obtain ⟨a0,a1,a2,a3,a4,a5,a6,a7,a8,a9,a10,a11,_⟩:=H1.out.a.tw;obtain ⟨e0,e1,e2,e3,e4,e5,e6,e7,e8,e9,e10,e11,_⟩:=H1.out.b.tw;clear hb1)
    | (go_at_call 109;refine (HV.out _ H1.out.below).mono ?_;rintro e w2 ⟨bb,rfl,hbb,hb2⟩;have H2:=hid (And.intro hbb (H1.out.step hb2));clear hbb hb2))
   go_ret
   exact ⟨false,rfl,⟨(fun h=>by cases h),fun h=>absurd h HN.out⟩,H0.out.below⟩
 ·have z0:(ak == bk)=false:=by simpa using q0
  have HN:=hid (show ¬ SS from fun hs=>q0 (by have h:=HSS.out.1 hs;exact h.1))
  clear q0;go_enter Tryz.func84,Tryz.ntmps84
  go_wp2_with (first
   | (go_at_call 108;refine (HE.out _ H0.out.below).mono ?_;rintro e w1 ⟨rfl,hb1⟩;have H1:=hid (H0.out.step hb1);obtain ⟨a0,a1,a2,a3,a4,a5,a6,a7,a8,a9,a10,a11,_⟩:=H1.out.a.tw;obtain ⟨e0,e1,e2,e3,e4,e5,e6,e7,e8,e9,e10,e11,_⟩:=H1.out.b.tw;clear hb1)
   | (go_at_call 109;refine (HV.out _ H1.out.below).mono ?_;rintro e w2 ⟨bb,rfl,hbb,hb2⟩;have H2:=hid (And.intro hbb (H1.out.step hb2));clear hbb hb2))
  go_ret
  exact ⟨false,rfl,⟨(fun h=>by cases h),fun h=>absurd h HN.out⟩,H0.out.below⟩
end Go.Proofs.YtmmgdkpkcoopgaaGreatDoor
namespace Go.Proofs.YtmmgdkpkcoopgaaGreatDoor
open Go.Lib(hid)
open Go Go.RowKit
set_option linter.unusedVariables false
set_option linter.unusedSimpArgs false
theorem zcD {W:World} {b:Nat}:∀ {ps:List GStep} {off:Nat},(∀ i s,ps[i]? = some s->W.cell? ⟨b,off+i * 3,none⟩=some (.bool s.list)/\W.cell? ⟨b,off+i * 3+1,none⟩=some (.int .i64 s.i)/\W.cell? ⟨b,off+i * 3+2,none⟩=some (.string s.key))->∀ (j:Nat) (u:Value),(ps.flatMap encG)[j]? = some u->W.cell? ⟨b,off+j,none⟩=some u
 | [],_,_,j,u,h=>by simp at h
 | s :: r,off,hs,j,u,h=>by
  have h0:=hs 0 s rfl;rw [Nat.zero_mul,Nat.add_zero] at h0
  match j,h with
  | 0,h=>simp [encG] at h;subst h;exact h0.1
  | 1,h=>simp [encG] at h;subst h;exact h0.2.1
  | 2,h=>simp [encG] at h;subst h;exact h0.2.2
  | j+3,h=>
   have:=zcD (ps:=r) (off:=off+3) (fun i t hi=>by
    have h3:=hs (i+1) t (by simpa using hi)
    rwa [show off+(i+1) * 3=off+3+i * 3 by omega] at h3) j u (by simpa [encG] using h)
   rwa [show off+3+j=off+(j+3) by omega] at this
theorem zd2 {W:World} {b:Nat}:∀ {ps:List GStep} {off:Nat},(∀ (j:Nat) (u:Value),(ps.flatMap encG)[j]? = some u->W.cell? ⟨b,off+j,none⟩=some u)->∀ i s,ps[i]? = some s->W.cell? ⟨b,off+i * 3,none⟩=some (.bool s.list)/\W.cell? ⟨b,off+i * 3+1,none⟩=some (.int .i64 s.i)/\W.cell? ⟨b,off+i * 3+2,none⟩=some (.string s.key)
 | [],_,_,i,s,h=>by simp at h
 | t :: r,off,hc,0,s,h=>by
  simp at h;subst h
  exact ⟨by simpa using hc 0 _ rfl,by simpa using hc 1 _ rfl,by simpa using hc 2 _ rfl⟩
 | t :: r,off,hc,i+1,s,h=>by
  have:=zd2 (ps:=r) (off:=off+3) (fun j u hj=>by
   have h3:=hc (j+3) u (by simpa [encG] using hj)
   rwa [show off+(j+3)=off+3+j by omega] at h3) i s (by simpa using h)
  rwa [show off+3+i * 3=off+(i+1) * 3 by omega] at this
theorem zdR:∀ (ps:List GStep),(ps.flatMap encG).length=ps.length * 3
 | []=>rfl
 | s :: r=>by simp [zdR r,encG];omega
theorem zfo:∀ (ps:List GStep),∀ u∈ps.flatMap encG,u.oneCell'=true:=fun ps u hu=>by
 obtain ⟨s,_,h⟩:=List.mem_flatMap.1 hu;simp only [encG,List.mem_cons,List.mem_nil_iff,or_false] at h;rcases h with rfl | rfl | rfl<;>rfl
theorem zfm {W:World} {p:Addr} {v:Value} (h:W.cell? p=some v) (q:Addr):(W.setCell p v).cell? q=W.cell? q:=by
 by_cases e:q=p
 ·subst e;rw [World.cell?_setCell_same' _ _ _ (by rw [h];rfl),h]
 ·exact World.cell?_setCell_other _ _ _ _ (Ne.symm e)
def FPRel (w:World) (ps:List GStep) (i:Value) (wr:World):Prop:=∃ k:Nat,i=.int .i64 k/\k<=ps.length/\Below w.heap.size w wr/\(∃ cs,Whole wr w.heap.size 85 cs)/\StepsAt wr ⟨w.heap.size,0,none⟩ ps
theorem ziw (A cp ps w) (hp:Wy w A cp ps) (hn:ps.length<=1000000000) (hk:∀ s∈ps,s.key.size<=281474976710656):
  Calls Tryz.prog 76 #[.slice A ps.length cp] w fun e w'=>∃ B d,e=.returned (.slice B ps.length d)/\(Wy w' B d ps/\∀ p,B=some p->w.heap.size<=p.block)/\Below w.heap.size w w':=by
 cases A with
 | none=>
  have h0:ps=[]:=by
   by_cases h:ps=[]
   ·exact h
   ·obtain ⟨a,e,_⟩:=hp.steps h;cases e
  subst h0;have hnil:=fun (w:World)=>Go.Lib.run_eql_slice_nil (P:=Tryz.prog) w 43 85 none 0 cp 0 0 Tryz.underlying43
  simp only [List.length_nil] at hp ⊢;clear hp hn hk;go_enter Tryz.func76,Tryz.ntmps76
  go_wp2
  go_ret
  exact ⟨none,0,rfl,⟨zdD _,fun p h=>by cases h⟩,Below.refl _ _⟩
 | some a=>
  have hcells:∀ (j:Nat) (u:Value),(ps.flatMap encG)[j]? = some u->a.block<w.heap.size/\w.cell? (a.add j)=some u:=fun j u hj=>by
   have hne:ps≠[]:=by intro e;rw [e] at hj;simp at hj
   obtain ⟨⟨b,o,sp⟩,e,hs,hlt,hc⟩:=hp.steps hne;cases e
   simp only at hs;subst hs;have:=zcD hc j u hj;have e:(⟨b,o,none⟩:Addr).add j =⟨b,o+j,none⟩:=by unfold Addr.add;split<;>simp_all
   rw [e];exact ⟨hlt,this⟩
  have hlen:=zdR ps;have h1:=zfo ps;obtain ⟨i0,hi,hz0,hz1,hz2⟩:=info_parts infoStep;have hnil:=fun (w:World)=>Go.Lib.run_eql_slice_nil (P:=Tryz.prog) w 43 85 (some a) ps.length cp 0 0 Tryz.underlying43
  have hmk:∀ w:World,(Instr.makeSlice 43 (.int .i64 (ps.length:Int)) (.int .i64 (ps.length:Int))).run Tryz.prog w=.ok (.slice (some ⟨w.heap.size,0,none⟩) ps.length ps.length) (w.alloc (.cells (madeCells (Value.cells (.agg #[.bool false,.int .i64 0,.string ⟨#[]⟩])) (ps.length * 3)) 85)):=fun w=>by
   have:=run_make (P:=Tryz.prog) w 43 85 i0 _ Tryz.underlying43 hi hz0 .i64 .i64 ps.length ps.length (by omega) (Int.le_refl _) (by rw [hz2];omega) (by omega)
   simpa [hz1] using this
  have HS:=hid (And.intro hi (And.intro hz1 hlen));have HC:Hid (∀ (ob:Obj) (j:Nat) (u:Value),(ps.flatMap encG)[j]? = some u->(w.alloc ob).cell? (a.add j)=some u):=fun ob j u hj=>by
   obtain ⟨hlt,h⟩:=hcells j u hj;exact ((zaa w ob).cell (by rw [show (a.add j).block=a.block by unfold Addr.add;split<;>rfl];exact hlt)).trans h
  have H1:=hid h1;have HK:=hid hk;clear hi hz0 hz1 hz2 hlen h1 hcells hp hk;go_enter Tryz.func76,Tryz.ntmps76
  go_wp2_with (with_reducible refine zbm _ rfl (.tmp 10) (.tmp 11) 43 43 rfl 85 i0 w.heap.size ps.length ps.length cp a _ 85 (ps.flatMap encG) rfl rfl Tryz.underlying43 HS.out.1 (heap_alloc_new w _) ?c1 (HC.out _) ?c2 H1.out ?_)
  case c1=>rw [HS.out.2.1];exact HS.out.2.2
  case c2=>rw [size_madeCells];exact HS.out.2.2.symm
  go_loopw [4,15] (fun _ i wr=>FPRel w ps i wr) (fun _ i _=>ps.length - (intOf i).toNat)
  case atStart=>
   have hwh:=setRow_heap _ _ _ (ps.flatMap encG).toArray _ _ (heap_alloc_new w (.cells (madeCells #[.bool false,.int .i64 0,.string ⟨#[]⟩] (ps.length * 3)) 85));exact ⟨0,rfl,Nat.zero_le _,((Below.refl w.heap.size w).alloc (Nat.le_refl _) _).trans ⟨rfl,rfl,rfl,by simp [World.setRow],fun k hk=>setRow_other _ _ _ _ (by omega)⟩,⟨_,hwh⟩,zd2 (fun j u hj=>by rw [Nat.zero_add,Whole.cell (t:=85) (cs:=(ps.flatMap encG).toArray) hwh];simpa using hj)⟩
  case round=>
   obtain ⟨k,rfl,hk,hB,⟨cs,hwh⟩,hst⟩:=hrel;by_cases hlt:k<ps.length
   ·have hone:=(hst k ps[k] (List.getElem?_eq_getElem hlt)).2.2
    simp only [Nat.zero_add] at hone;have hkl:=HK.out ps[k] (List.getElem_mem hlt);have HH:=hid (And.intro hB (And.intro hwh hst));have hHN:=hid hone;have hlw:=hwh.lt;clear hB hwh hst;generalize ps[k].key=kk at *
    go_wp2_with (go_at_call 77;refine (zbs kk _ hkl).mono ?_;rintro e w2 ⟨rfl,hb⟩;have HW2:=hid (And.intro hb (HH.out.2.1.below hb HH.out.2.1.lt));have hon2:w2.cell? ⟨w.heap.size,k * 3+2,none⟩=some (.string kk):=(hb.cell (p:=⟨w.heap.size,k * 3+2,none⟩) hlw).trans hHN.out;have hfz:=HW2.out.2.frozen (k * 3+2);clear hb)
    go_roundw
    case rel=>
     refine ⟨k+1,by go_num,by omega,?_,⟨_,HW2.out.2.put (k * 3+2) (.string kk)⟩,fun i s hi=>?_⟩
     ·exact (HH.out.1.trans (HW2.out.1.mono HH.out.1.size)).setCell (p:=⟨w.heap.size,k * 3+2,none⟩) (Nat.le_refl _) _
     ·obtain ⟨h0,h1,h2⟩:=HH.out.2.2 i s hi
      simp only at h0 h1 h2 ⊢;exact ⟨(zfm hon2 _).trans ((HW2.out.1.cell (p:=⟨w.heap.size,0+i * 3,none⟩) HH.out.2.1.lt).trans h0),(zfm hon2 _).trans ((HW2.out.1.cell (p:=⟨w.heap.size,0+i * 3+1,none⟩) HH.out.2.1.lt).trans h1),(zfm hon2 _).trans ((HW2.out.1.cell (p:=⟨w.heap.size,0+i * 3+2,none⟩) HH.out.2.1.lt).trans h2)⟩
    case measure=>simp [intOf];omega
   ·have hk':k=ps.length:=by omega
    have HH:=hid (And.intro hB (And.intro hwh hst));clear hB hwh hst;go_wp2
    go_ret
    exact ⟨some ⟨w.heap.size,0,none⟩,ps.length,rfl,⟨⟨fun _=>⟨_,rfl,rfl,HH.out.2.1.lt,HH.out.2.2⟩,Nat.le_refl _,by unfold maxLen;omega⟩,fun p h=>by cases h;exact Nat.le_refl _⟩,HH.out.1⟩
def Kp (n:Nat) (w1 W:World):Prop:=w1.heap.size<=W.heap.size/\∀ k,n<=k->k<w1.heap.size->W.heap[k]? = w1.heap[k]?
theorem Kp.refl (n:Nat) (w:World):Kp n w w:=⟨Nat.le_refl _,fun _ _ _=>rfl⟩
theorem Kp.set {n w1 W} (h:Kp n w1 W) {p:Addr} (hp:p.block<n) (u:Value):Kp n w1 (W.setCell p u):=⟨by rw [zaW];exact h.1,fun k hk hl=>by rw [Below.heap_setCell W p u k (by omega)];exact h.2 k hk hl⟩
theorem Kp.below {n} {w1 W W':World} (h:Kp n w1 W) (hb:Below W.heap.size W W'):Kp n w1 W':=⟨Nat.le_trans h.1 hb.size,fun k hk hl=>(hb.block k (Nat.lt_of_lt_of_le hl h.1)).trans (h.2 k hk hl)⟩
theorem Kp.trans {n w1 W W'} (h:Kp n w1 W) (k:Kp n W W'):Kp n w1 W':=⟨Nat.le_trans h.1 k.1,fun i hi hl=>(k.2 i hi (Nat.lt_of_lt_of_le hl h.1)).trans (h.2 i hi hl)⟩
theorem Wy.kp {n:Nat} {W W' A cp ps} (h:Wy W A cp ps) (hA:∀ p,A=some p->n<=p.block) (hk:Kp n W W'):Wy W' A cp ps:=⟨fun hne=>by
 obtain ⟨a,e,hs,hl,hc⟩:=h.steps hne;have hb:=hk.2 a.block (hA a e) hl;exact ⟨a,e,hs,Nat.lt_of_lt_of_le hl hk.1,fun i s hi=>by
  obtain ⟨h0,h1,h2⟩:=hc i s hi;exact ⟨(World.cell?_of_block (a:=⟨a.block,_,none⟩) hb).trans h0,(World.cell?_of_block (a:=⟨a.block,_,none⟩) hb).trans h1,(World.cell?_of_block (a:=⟨a.block,_,none⟩) hb).trans h2⟩⟩,h.le,h.cap⟩
theorem CTwo.putA {w W:World} {ca cb:Array Value} (h:CTwo w W ca cb) (i:Nat) (u:Value):CTwo w (W.setCell ⟨w.heap.size,i,none⟩ u) (ca.setIfInBounds i u) cb:=
 ⟨h.a.put i u,h.b.far (by simp) u,h.below.setCell (Nat.le_refl _) u⟩
theorem put12 {W b} {t:TypeId} {z0 z1 z2 z3 z4 z5 z6 z7 z8 z9 z10 z11:Value} (h:Whole W b t #[z0,z1,z2,z3,z4,z5,z6,z7,z8,z9,z10,z11]) (a0 a1 a2 a3 a4 a5 a6 a7 a8 a9 a10 a11:Value):Whole ((((((((((((W.setCell ⟨b,0,none⟩ a0).setCell ⟨b,1,none⟩ a1).setCell ⟨b,2,none⟩ a2).setCell ⟨b,3,none⟩ a3).setCell ⟨b,4,none⟩ a4).setCell ⟨b,5,none⟩ a5).setCell ⟨b,6,none⟩ a6).setCell ⟨b,7,none⟩ a7).setCell ⟨b,8,none⟩ a8).setCell ⟨b,9,none⟩ a9).setCell ⟨b,10,none⟩ a10).setCell ⟨b,11,none⟩ a11) b t #[a0,a1,a2,a3,a4,a5,a6,a7,a8,a9,a10,a11]:=by
 have h1:Whole _ b t #[a0,z1,z2,z3,z4,z5,z6,z7,z8,z9,z10,z11]:=h.put 0 a0;have h2:Whole _ b t #[a0,a1,z2,z3,z4,z5,z6,z7,z8,z9,z10,z11]:=h1.put 1 a1;have h3:Whole _ b t #[a0,a1,a2,z3,z4,z5,z6,z7,z8,z9,z10,z11]:=h2.put 2 a2;have h4:Whole _ b t #[a0,a1,a2,a3,z4,z5,z6,z7,z8,z9,z10,z11]:=h3.put 3 a3;have h5:Whole _ b t #[a0,a1,a2,a3,a4,z5,z6,z7,z8,z9,z10,z11]:=h4.put 4 a4;have h6:Whole _ b t #[a0,a1,a2,a3,a4,a5,z6,z7,z8,z9,z10,z11]:=h5.put 5 a5;have h7:Whole _ b t #[a0,a1,a2,a3,a4,a5,a6,z7,z8,z9,z10,z11]:=h6.put 6 a6;have h8:Whole _ b t #[a0,a1,a2,a3,a4,a5,a6,a7,z8,z9,z10,z11]:=h7.put 7 a7;have h9:Whole _ b t #[a0,a1,a2,a3,a4,a5,a6,a7,a8,z9,z10,z11]:=h8.put 8 a8;have h10:Whole _ b t #[a0,a1,a2,a3,a4,a5,a6,a7,a8,a9,z10,z11]:=h9.put 9 a9;have h11:Whole _ b t #[a0,a1,a2,a3,a4,a5,a6,a7,a8,a9,a10,z11]:=h10.put 10 a10;have h12:Whole _ b t #[a0,a1,a2,a3,a4,a5,a6,a7,a8,a9,a10,a11]:=h11.put 11 a11;exact h12
end Go.Proofs.YtmmgdkpkcoopgaaGreatDoor
namespace Go.Proofs.YtmmgdkpkcoopgaaGreatDoor
open Go.Lib(hid)
open Go Go.RowKit
set_option linter.unusedVariables false
set_option linter.unusedSimpArgs false
structure GAct where
 path:List Int
 kq:Int
 i:Int
 j:Int
 n:Int
 s:ByteArray
 v:List GTok
structure ActOk (w:World) (x:GAct) (AP:Option Addr) (ap:Nat) (AD:Option Addr) (ad:Nat):Prop where
 bytes:Bytes w.heap.size w AP x.path
 rngp:∀ b∈x.path,0<=b/\b<=255
 capp:x.path.length<=ap/\ap<=maxLen
 kq:0<=x.kq/\x.kq<=255
 toks:Toks w.heap.size w AD x.v
 cap:x.v.length<=ad/\ad<=maxLen
 rng:∀ t∈x.v,0<=t.k/\t.k<=255/\0<=t.m/\t.m<=255
 sizes:∀ t∈x.v,t.s.size<=140737488351232
 str:x.s.size<=140737488351232
theorem ActOk.later {w W:World} {x:GAct} {AP ap AD ad} (h:ActOk w x AP ap AD ad) (hb:Below w.heap.size w W):ActOk W x AP ap AD ad:=
 ⟨h.bytes.keep hb hb.size,h.rngp,h.capp,h.kq,h.toks.keep hb hb.size,h.cap,h.rng,h.sizes,h.str⟩
theorem mod_nat' (i:Int) (m:Nat) (hm:0<m):∃ a:Nat,max i 0 % (m:Int)=(a:Int)/\a<m:=
 ⟨(max i 0 % (m:Int)).toNat,by have:=Int.emod_nonneg (max i 0) (show (m:Int)≠0 by omega);omega,by have:=Int.emod_lt_of_pos (max i 0) (show (0:Int)<m by omega);have:=Int.emod_nonneg (max i 0) (show (m:Int)≠0 by omega);omega⟩
theorem below12 {n:Nat} {w W:World} {b:Nat} (h:Below n w W) (hb:n<=b) (a0 a1 a2 a3 a4 a5 a6 a7 a8 a9 a10 a11:Value):Below n w ((((((((((((W.setCell ⟨b,0,none⟩ a0).setCell ⟨b,1,none⟩ a1).setCell ⟨b,2,none⟩ a2).setCell ⟨b,3,none⟩ a3).setCell ⟨b,4,none⟩ a4).setCell ⟨b,5,none⟩ a5).setCell ⟨b,6,none⟩ a6).setCell ⟨b,7,none⟩ a7).setCell ⟨b,8,none⟩ a8).setCell ⟨b,9,none⟩ a9).setCell ⟨b,10,none⟩ a10).setCell ⟨b,11,none⟩ a11):=
 ((((((((((((h.setCell (p:=⟨b,0,none⟩) hb a0).setCell (p:=⟨b,1,none⟩) hb a1).setCell (p:=⟨b,2,none⟩) hb a2).setCell (p:=⟨b,3,none⟩) hb a3).setCell (p:=⟨b,4,none⟩) hb a4).setCell (p:=⟨b,5,none⟩) hb a5).setCell (p:=⟨b,6,none⟩) hb a6).setCell (p:=⟨b,7,none⟩) hb a7).setCell (p:=⟨b,8,none⟩) hb a8).setCell (p:=⟨b,9,none⟩) hb a9).setCell (p:=⟨b,10,none⟩) hb a10).setCell (p:=⟨b,11,none⟩) hb a11)
theorem far12 {W} {r b:Nat} {t:TypeId} {cs:Array Value} (h:Whole W r t cs) (hb:r≠b) (a0 a1 a2 a3 a4 a5 a6 a7 a8 a9 a10 a11:Value):Whole ((((((((((((W.setCell ⟨b,0,none⟩ a0).setCell ⟨b,1,none⟩ a1).setCell ⟨b,2,none⟩ a2).setCell ⟨b,3,none⟩ a3).setCell ⟨b,4,none⟩ a4).setCell ⟨b,5,none⟩ a5).setCell ⟨b,6,none⟩ a6).setCell ⟨b,7,none⟩ a7).setCell ⟨b,8,none⟩ a8).setCell ⟨b,9,none⟩ a9).setCell ⟨b,10,none⟩ a10).setCell ⟨b,11,none⟩ a11) r t cs:=
 ((((((((((((h.far (p:=⟨b,0,none⟩) hb a0).far (p:=⟨b,1,none⟩) hb a1).far (p:=⟨b,2,none⟩) hb a2).far (p:=⟨b,3,none⟩) hb a3).far (p:=⟨b,4,none⟩) hb a4).far (p:=⟨b,5,none⟩) hb a5).far (p:=⟨b,6,none⟩) hb a6).far (p:=⟨b,7,none⟩) hb a7).far (p:=⟨b,8,none⟩) hb a8).far (p:=⟨b,9,none⟩) hb a9).far (p:=⟨b,10,none⟩) hb a10).far (p:=⟨b,11,none⟩) hb a11)
theorem kp12 {n w W} {b:Nat} (h:Kp n w W) (hb:b<n) (a0 a1 a2 a3 a4 a5 a6 a7 a8 a9 a10 a11:Value):Kp n w ((((((((((((W.setCell ⟨b,0,none⟩ a0).setCell ⟨b,1,none⟩ a1).setCell ⟨b,2,none⟩ a2).setCell ⟨b,3,none⟩ a3).setCell ⟨b,4,none⟩ a4).setCell ⟨b,5,none⟩ a5).setCell ⟨b,6,none⟩ a6).setCell ⟨b,7,none⟩ a7).setCell ⟨b,8,none⟩ a8).setCell ⟨b,9,none⟩ a9).setCell ⟨b,10,none⟩ a10).setCell ⟨b,11,none⟩ a11):=
 ((((((((((((h.set (p:=⟨b,0,none⟩) hb a0).set (p:=⟨b,1,none⟩) hb a1).set (p:=⟨b,2,none⟩) hb a2).set (p:=⟨b,3,none⟩) hb a3).set (p:=⟨b,4,none⟩) hb a4).set (p:=⟨b,5,none⟩) hb a5).set (p:=⟨b,6,none⟩) hb a6).set (p:=⟨b,7,none⟩) hb a7).set (p:=⟨b,8,none⟩) hb a8).set (p:=⟨b,9,none⟩) hb a9).set (p:=⟨b,10,none⟩) hb a10).set (p:=⟨b,11,none⟩) hb a11)
def VOk (g:GV):Prop:=g.Sound/\g.deep<=6/\g.weight<=6000/\g.Asc/\g.PosN
def BuildA (W:World) (e:Ending) (w':World):Prop:=
 ∃ (g:GV) (BL BO:Option Addr) (dL dO:Nat),e=.returned (.agg #[.int .u8 g.kq,.int .i64 g.num,.string g.str,.slice BL g.il.length dL,.slice BO g.vz.length dO])/\(LstV (fun k=>W.heap.size<=k) w' (.slice BL g.il.length dL) g.il/\ObjV (fun k=>W.heap.size<=k) w' (.slice BO g.vz.length dO) g.keys g.vz)/\VOk g/\Below W.heap.size W w'
theorem zbF (hi:Nat) (A) (cap:Nat) (ts:List GTok) (w:World) (hcap:ts.length<=cap) (hm:cap<=maxLen) (hhi:hi<=w.heap.size) (hT:Toks hi w A ts)
  (hr:∀ t∈ts,0<=t.k/\t.k<=255/\0<=t.m/\t.m<=255) (hss:∀ t∈ts,t.s.size<=140737488351232):Calls Tryz.prog 7 #[.slice A ts.length cap] w (BuildA w):=
 (zjo hi A cap ts w hcap hm hhi hT hr hss).mono fun e w' ⟨g,v,he,hv,hg,hw,hb⟩=>by
  obtain ⟨L,O,rfl,hL,hO⟩:=hv;obtain ⟨BL,dL,rfl⟩:=zah hL;obtain ⟨BO,dO,rfl⟩:=zag hO;exact ⟨g,BL,BO,dL,dO,he,⟨hL,hO⟩,⟨hg.1,by have:=hg.2.1;omega,hw,hg.2.2.2,hg.2.2.1⟩,hb⟩
theorem zcw (ok:Nat->Prop) (W:World):LstV ok W (.slice none noG.il.length 0) noG.il/\ObjV ok W (.slice none noG.vz.length 0) noG.keys noG.vz:=⟨.inl ⟨rfl,rfl⟩,⟨rfl,.inl ⟨rfl,rfl⟩⟩⟩
theorem zb1:VOk noG:=⟨by simp [noG,GV.Sound,GV.Sounds,SelfP],by simp [noG,GV.deep,GV.deeps],by unfold noG;simp only [GV.weight,GV.weights,List.map_nil,List.sum_nil];decide,by simp [noG,GV.Asc,GV.Ascs,zbR],by simp [noG,GV.PosN,GV.PosNs]⟩
theorem zaK (s:ByteArray) (w:World) (_hs:s.size<=9223372036854775807):
  Calls Tryz.prog 40 #[.string s] w fun e w'=>e=.returned (.string (plainB s))/\Below w.heap.size w w':=by
 obtain ⟨i0,hi0,hz0,hz1,hz2⟩:=info_parts infoByte;have HI0:=hid (And.intro hi0 (And.intro hz0 (And.intro hz1 hz2)));clear hi0 hz0 hz1 hz2;go_enter Tryz.func40,Tryz.ntmps40
 go_wp2
 go_loopw [3,4] (PlainRel w s) (fun _ i _=>s.size - (intOf i).toNat)
 case atStart=>exact ⟨0,rfl,Nat.zero_le _,Nat.zero_le _,World.ownsRow_nil _ _ _ _,Below.refl _ _⟩
 case round=>
  obtain ⟨k,rfl,hk,hk40,hown,hB⟩:=hrel;obtain ⟨A,c,rfl⟩:=zaf hown;by_cases hgo:k<s.size/\k<40
  ·obtain ⟨hlt,hlt40⟩:=hgo
   have hmax:k+1<=maxLen:=by unfold maxLen;omega
   have hby:(k+1) * 1<=140737488355328:=by omega
   have HM:=hid (And.intro hmax hby);have HO:=hid hown;have HB:=hid hB;have hsn:(s.data.toList.take (k+1)).map low7=(s.data.toList.take k).map low7++[low7 s[k]]:=by
    rw [List.take_succ_eq_append_getElem (by simpa using hlt),List.map_append]
    rfl
   have HSN:=hid hsn;have hb0:0<=(s[k].toNat:Int):=by omega
   have hb1:(s[k].toNat:Int)<=255:=by have:=s[k].toNat_lt;omega
   have hlow:low7 s[k]=(s[k].toNat:Int) % 128:=rfl;have HLOW:=hid hlow;clear hmax hby hown hB hsn hlow
   go_wp2_with (at_builtin;refine wpList_append_own_at _ rfl (.tmp 15) (.tmp 20) 40 rfl w.heap.size 5 i0 _ 1 1 Tryz.underlying40 HI0.out.1 HI0.out.2.1 HI0.out.2.2.1 HI0.out.2.2.2 rfl (by decide) (.slice A k c) k _ rfl (HO.out.alloc _) ⟨wr.heap.size,0,none⟩ 1 1 [.int .u8 ((s[k].toNat:Int) % 128)] rfl rfl (row_cells' _ _ rfl _ _) (by simp [Value.oneCell']) HM.out.1 HM.out.2 (by have:=HB.out.size;simp;omega) ?_;intro v3 W3 hown3 hgrow3 _ hat3;obtain ⟨A3,c3,rfl⟩:=zaf hown3;have H3:=hid (And.intro hown3 (And.intro hgrow3 hat3));clear hown3 hgrow3 hat3)
   go_roundw
   case rel=>exact ⟨k+1,by go_num,by omega,by omega,by rw [HSN.out,List.map_append];exact H3.out.1,(HB.out.alloc HB.out.size _).grown H3.out.2.1 (by have:=HB.out.size;simp;omega) (fun j hj=>(HO.out.lt j hj).1)⟩
   case measure=>simp [intOf];omega
  ·have htk:s.data.toList.take 40=s.data.toList.take k:=by
    by_cases h:k<s.size
    ·rw [show k=40 by omega]
    ·rw [List.take_of_length_le (by simp;omega),List.take_of_length_le (by simp;omega)]
   have hlen:((s.data.toList.take k).map low7).length=k:=by simp;omega
   have hconv:(convert 40 9 (.slice A k c)).run Tryz.prog wr=.ok (.string (plainB s)) wr:=by
    unfold plainB;rw [htk];rcases hown.2 with ⟨e,hn⟩ | ⟨g,cap,cur,e,_⟩
    ·cases e
     exact run_convert_bytes_nil wr _ _ Tryz.underlying40 Tryz.underlying5 _ _ _ Tryz.underlying9
    ·cases e
     refine run_convert_bytes_arg wr _ _ Tryz.underlying40 Tryz.underlying5 g 0 k c _ hlen (fun i hi=>?_) _ Tryz.underlying9
     generalize (s.data.toList.take k).map low7=xs at *;have:=hown.cells (g:=g) rfl i (.int .u8 (xs.getD i 0)) (by rw [List.getElem?_map,List.getElem?_eq_getElem (by omega)];simp [List.getElem?_eq_getElem (show i<xs.length by omega)])
     by_cases e:i=0<;>simpa [Addr.add,e] using this
   have HB:=hid hB;clear htk hlen hown hB;by_cases hlt:k<s.size
   ·have hk4:¬ k<40:=by omega
    clear hgo;go_wp2
    go_ret
    exact ⟨rfl,HB.out⟩
   ·clear hgo
    go_wp2
    go_ret
    exact ⟨rfl,HB.out⟩
def strX:ByteArray:=⟨#[120]⟩
def TextIs (x:GAct) (P:Option Addr) (np pc n:Nat) (w:World) (e:Ending) (w':World):Prop:=∃ (k i m:Int) (s:ByteArray),e=.returned (.agg #[.int .u8 k,.slice P np pc,.string ⟨#[]⟩,.int .i64 i,.int .i64 0,.int .i64 m,.int .u8 0,.int .i64 0,.string ⟨#[]⟩,.slice none 0 0,.slice none 0 0,.string s])/\Below w.heap.size w w' /\
 ((k=8/\(∃ a:Nat,i=a/\a<=n)/\m=0/\s=strX++plainB x.s)\/(k=9/\s =⟨#[]⟩/\∃ a b:Nat,i=a/\m=b/\1<=b/\a+b<=n))
structure TB3 (w W:World) (cc ca cr:Array Value):Prop where
 c:Whole W w.heap.size 45 cc
 a:Whole W (w.heap.size+1) 42 ca
 r:Whole W (w.heap.size+1+1) 45 cr
 below:Below w.heap.size w W
theorem TB3.new (w:World) (cc ca cr:Array Value):TB3 w (((w.alloc (.cells cc 45)).alloc (.cells ca 42)).alloc (.cells cr 45)) cc ca cr:=by
 have h1:=(Whole.new (w.alloc (.cells cc 45)) 42 ca).alloc (.cells cr 45);have h2:=Whole.new ((w.alloc (.cells cc 45)).alloc (.cells ca 42)) 45 cr;rw [World.size_alloc] at h1;rw [World.size_alloc,World.size_alloc] at h2;exact ⟨((Whole.new w _ _).alloc _).alloc _,h1,h2,(((Below.refl _ w).alloc (Nat.le_refl _) _).alloc (by simp) _).alloc (by simp;omega) _⟩
theorem TB3.step {w W W':World} {cc ca cr:Array Value} (h:TB3 w W cc ca cr) (hb:Below W.heap.size W W'):TB3 w W' cc ca cr:=
 ⟨h.c.below hb h.c.lt,h.a.below hb h.a.lt,h.r.below hb h.r.lt,h.below.trans (hb.mono h.below.size)⟩
theorem TB3.putC {w W:World} {cc ca cr:Array Value} (h:TB3 w W cc ca cr) (i:Nat) (u:Value):TB3 w (W.setCell ⟨w.heap.size,i,none⟩ u) (cc.setIfInBounds i u) ca cr:=
 ⟨h.c.put i u,h.a.far (by simp) u,h.r.far (by simp;omega) u,h.below.setCell (Nat.le_refl _) u⟩
theorem zal {W b} {t:TypeId} {a0 a1 a2 a3 a4 a5 a6:Value} (h:Whole W b t #[a0,a1,a2,a3,a4,a5,a6]):W.cell? ⟨b,0,none⟩=some a0/\W.cell? ⟨b,1,none⟩=some a1/\W.cell? ⟨b,2,none⟩=some a2/\W.cell? ⟨b,3,none⟩=some a3/\W.cell? ⟨b,4,none⟩=some a4/\W.cell? ⟨b,5,none⟩=some a5/\W.cell? ⟨b,6,none⟩=some a6:=
 ⟨h.cell 0,h.cell 1,h.cell 2,h.cell 3,h.cell 4,h.cell 5,h.cell 6⟩
end Go.Proofs.YtmmgdkpkcoopgaaGreatDoor
namespace Go.Proofs.YtmmgdkpkcoopgaaGreatDoor
open Go.Lib(hid)
open Go Go.ChangeShapes Go.WideShapes Go.ChangeAt Go.RowKit Go.Lib Go.Shelf
set_option linter.unusedVariables false
set_option linter.unusedSimpArgs false
theorem zgQ:Tryz.prog.cellsOf 40=1:=by kernel_rfl
theorem zg0:Tryz.prog.cellsOf 22=1:=by kernel_rfl
theorem zeX:Tryz.prog.cellsOf 3=1:=by kernel_rfl
theorem zkd:Tryz.prog.cellsOf 42=7:=by kernel_rfl
theorem zk4 {H:Type} {enc:TypeId × Value->H} {W:World} {spare:Nat->Bool} {held:Bool} {v:Value} {d:DataW H} {p:List MemPlace} (h:DataW.Trod enc Tryz.prog W 0 spare held 42 v d p)
  (hv:∃ cs,v=.agg cs/\cs.size=7) (hsz:∀ n∈d.weights Tryz.prog 42,n<=reachBytes):
  ∃ (x:GAct) (P:Option Addr) (pc:Nat) (D:Option Addr) (dc:Nat),v=.agg #[.slice P x.path.length pc,.int .u8 x.kq,.int .i64 x.i,.int .i64 x.j,.int .i64 x.n,.string x.s,.slice D x.v.length dc]/\ActOk W x P pc D dc:=by
 obtain ⟨fuel,hf⟩:=h;obtain ⟨cs,rfl,hs7⟩:=hv;obtain ⟨xs,n',_,hxx,hlen,hxl,hg⟩:=DataW.trod_struct Tryz.underlying42 hf;obtain ⟨l⟩:=cs;simp only [Value.cells] at hg hlen hxx
 match l,hs7 with
 | [c0,c1,c2,c3,c4,c5,c6],_=>
  have g0 : DataW.trod enc Tryz.prog W 0 spare held n' 40 [c0] = xs[0]? := by simpa [zgQ] using hg 0 { name := "Path", type := 40, offset := 0, embedded := false, tag := "", pkgPath := "", byteOffset := 0 } rfl
  have g1 : DataW.trod enc Tryz.prog W 0 spare held n' 5 [c1] = xs[1]? := by simpa [zcv] using hg 1 { name := "Kind", type := 5, offset := 1, embedded := false, tag := "", pkgPath := "", byteOffset := 24 } rfl
  have g2 : DataW.trod enc Tryz.prog W 0 spare held n' 3 [c2] = xs[2]? := by simpa [zeX] using hg 2 { name := "I", type := 3, offset := 2, embedded := false, tag := "", pkgPath := "", byteOffset := 32 } rfl
  have g3 : DataW.trod enc Tryz.prog W 0 spare held n' 3 [c3] = xs[3]? := by simpa [zeX] using hg 3 { name := "J", type := 3, offset := 3, embedded := false, tag := "", pkgPath := "", byteOffset := 40 } rfl
  have g4 : DataW.trod enc Tryz.prog W 0 spare held n' 2 [c4] = xs[4]? := by simpa [zd3] using hg 4 { name := "N", type := 2, offset := 4, embedded := false, tag := "", pkgPath := "", byteOffset := 48 } rfl
  have g5 : DataW.trod enc Tryz.prog W 0 spare held n' 9 [c5] = xs[5]? := by simpa [zb8] using hg 5 { name := "S", type := 9, offset := 5, embedded := false, tag := "", pkgPath := "", byteOffset := 56 } rfl
  have g6 : DataW.trod enc Tryz.prog W 0 spare held n' 22 [c6] = xs[6]? := by simpa [zg0] using hg 6 { name := "V", type := 22, offset := 6, embedded := false, tag := "", pkgPath := "", byteOffset := 72 } rfl
  match xs,hxl with
  | [y0,y1,y2,y3,y4,y5,y6],_=>
   obtain ⟨k1,e1,f1,w1⟩:=DataW.trod_int Tryz.underlying5 g1;obtain ⟨z2,e2,f2,w2⟩:=DataW.trod_int Tryz.underlying3 g2;obtain ⟨z3,e3,f3,w3⟩:=DataW.trod_int Tryz.underlying3 g3;obtain ⟨z4,e4,f4,w4⟩:=DataW.trod_int Tryz.underlying2 g4;obtain ⟨s5,e5,f5,w5⟩:=DataW.trod_string Tryz.underlying9 g5;simp only [List.cons.injEq,and_true] at e1 e2 e3 e4 e5;subst e1 e2 e3 e4 e5;simp only [Prod.mk.injEq] at hxx;obtain ⟨hd,_⟩:=hxx;simp only [List.map_cons,List.map_nil] at hd;have slc:∀ {t e:TypeId} {c:Value} {x:DataW H × List MemPlace},Tryz.prog.underlying t=some (.slice e)->DataW.trod enc Tryz.prog W 0 spare held n' t [c]=some x->∃ A n cp,c=.slice A n cp:=fun hu hh=>by
    rcases Go.Deep.open_slice hu hh with ⟨hc,_⟩ | ⟨a,len,cap,_,_,_,_,hcs,_⟩
    ·simp only [List.cons.injEq,and_true] at hc;exact ⟨_,_,_,hc⟩
    ·simp only [List.cons.injEq,and_true] at hcs;exact ⟨_,_,_,hcs⟩
   have hv0:=slc Tryz.underlying40 (x:=y0) g0;have hv6:=slc Tryz.underlying22 (x:=y6) g6;have hw6:∀ n∈y6.1.weights Tryz.prog 22,n<=reachBytes:=fun n hn=>hsz n (by
    rw [hd];simp [DataW.weights,Tryz.underlying42,DataW.weightsEach,hn])
   have hw5:s5.data.toList.length<=reachBytes:=hsz _ (by
    rw [hd,f5];simp [DataW.weights,Tryz.underlying42,DataW.weightsEach])
   obtain ⟨P,pc,bs,rfl,hb1,hb2,hB,hbr⟩:=zgT (d:=y0.1) (p:=y0.2) (v:=c0) ⟨n',by obtain ⟨A,n,c,rfl⟩:=hv0;simpa [Value.cells] using g0⟩ hv0
   obtain ⟨D,dc,ts,rfl,hl1,hl2,hT,hr,hss⟩:=zf5 (d:=y6.1) (p:=y6.2) (v:=c6) ⟨n',by obtain ⟨A,n,c,rfl⟩:=hv6;simpa [Value.cells] using g6⟩ hv6 hw6
   have hk:0<=k1/\k1<=255:=by simpa [Lit.wf,IntKind.min,IntKind.max,IntKind.signed,IntKind.bits] using w1
   exact ⟨⟨bs,k1,z2,z3,z4,s5,ts⟩,P,pc,D,dc,rfl,⟨hB,hbr,⟨hb1,hb2⟩,hk,hT,⟨hl1,hl2⟩,hr,hss,by show s5.size<=140737488351232;have:reachBytes=140737488351232:=rfl;simp at hw5;omega⟩⟩
end Go.Proofs.YtmmgdkpkcoopgaaGreatDoor
namespace Go.Proofs.YtmmgdkpkcoopgaaGreatDoor
open Go.Lib(hid)
open Go Go.RowKit
set_option linter.unusedVariables false
set_option linter.unusedSimpArgs false
theorem zhV {k:IntKind} {a b:Int} (h:a=b):Ending.returned (.int k a)=.returned (.int k b):=by rw [h]
theorem zdr (w:World) (s:ByteArray) (pos:Nat):Below w.heap.size w (w.iter s pos):=by
 show Below w.heap.size w _
 unfold World.iter;exact (Below.refl _ w).alloc (Nat.le_refl _) _
theorem zh1 (s:ByteArray) (w:World) (hs:s.size<=9223372036854775807):
  Calls Tryz.prog 51 #[.string s] w fun e w'=>e=.returned (.int .i64 (nChars s))/\Below w.heap.size w w':=by
 obtain ⟨hch,hle⟩:=zaR s;have HC:=hid hch;clear hch;generalize hc:nChars s=c at *;clear hc;go_enter Tryz.func51,Tryz.ntmps51
 go_wp2
 go_loopw [3] (fun n w'=>∃ k:Nat,w'=w.iter s (cutS s k)/\n=.int .i64 k/\k<=c) (fun _ w'=>s.size - w'.iterPos w.heap.size)
 case atStart=>exact ⟨0,rfl,rfl,Nat.zero_le _⟩
 case round=>
  obtain ⟨k,rfl,rfl,hk⟩:=hrel;by_cases hp:cutS s k<s.size
  ·have hkc:k<c:=(Chars.iff HC.out).1 hp
   have hnx:∀ ty,(Instr.next (.pointer (some ⟨w.heap.size,0,none⟩)) true ty).run Tryz.prog (w.iter s (cutS s k))=_:=fun ty=>run_next_any w s (cutS s k) ty hp
   have hnext:cutS s (k+1)=cutS s k+(Utf8.decode s (cutS s k)).2:=zfh hp;have hwd:=Lib.decode_width_pos s (cutS s k) hp;have HN:=hid hnext;have HP:=hid hp;clear hnext;generalize cutS s k=pos at *;go_wp2
   go_roundw
   case rel=>exact ⟨k+1,by rw [HN.out],by go_num,hkc⟩
   case measure=>
    simp
    omega
  ·have hkc:k=c:=by
    have h1:¬ k<c:=fun h=>hp ((Chars.iff HC.out).2 h)
    omega
   have hnx:∀ ty,(Instr.next (.pointer (some ⟨w.heap.size,0,none⟩)) true ty).run Tryz.prog (w.iter s (cutS s k))=_:=fun ty=>run_next_end w s (cutS s k) ty hp
   have HK:=hid hkc;clear hkc;generalize cutS s k=pos at *;go_wp2
   go_ret
   exact ⟨zhV (by have:=HK.out;omega),zdr w s pos⟩
theorem zio (s:ByteArray) (c:GC) (A AL AO:Option Addr) (cp cL cO:Nat) (w:World) (hs:s.size<=9223372036854775807) (hk:c.kq=8\/c.kq=9):
  Calls Tryz.prog 90 #[.string s,.agg #[.int .u8 c.kq,.slice A c.path.length cp,.string c.key,.int .i64 c.i,.int .i64 c.j,.int .i64 c.n,.int .u8 c.v.kq,.int .i64 c.v.num,.string c.v.str,.slice AL c.v.il.length cL,.slice AO c.v.vz.length cO,.string c.s]] w fun e w'=>e=.returned (.int .u16 (chkT (nChars s) c.kq.toNat c.i c.n))/\Below w.heap.size w w':=by
 have HL:=hid (fun W=>zh1 s W hs)
 have hle:nChars s<=9223372036854775807:=Nat.le_trans (zaR s).2 hs;have H0:=hid (Whole.new w 45 #[.int .u8 c.kq,.slice A c.path.length cp,.string c.key,.int .i64 c.i,.int .i64 c.j,.int .i64 c.n,.int .u8 c.v.kq,.int .i64 c.v.num,.string c.v.str,.slice AL c.v.il.length cL,.slice AO c.v.vz.length cO,.string c.s]);have HB:=hid (zaa w (.cells #[.int .u8 c.kq,.slice A c.path.length cp,.string c.key,.int .i64 c.i,.int .i64 c.j,.int .i64 c.n,.int .u8 c.v.kq,.int .i64 c.v.num,.string c.v.str,.slice AL c.v.il.length cL,.slice AO c.v.vz.length cO,.string c.s] 45));rcases hk with hk | hk
 ·have hk8:(c.kq != 8)=false:=by simp;omega
  have hk9:(c.kq == 9)=false:=by simp;omega
  rw [show chkT (nChars s) c.kq.toNat c.i c.n=if c.i<0 then 32 else if (nChars s:Int)<c.i then 32 else 0 by unfold chkT;rw [show c.kq.toNat=8 by omega];simp;repeat' split;all_goals omega]
  clear hk;generalize nChars s=m at *;by_cases h0:c.i<0<;>by_cases h1:(m:Int)<c.i<;>first | (exfalso;omega) | (have K0:=hid h0;have K1:=hid h1;(go_enter Tryz.func90,Tryz.ntmps90;go_wp2_with (go_at_call 51;refine (HL.out _).mono ?_;rintro e w1 ⟨rfl,hb⟩;have H1:=hid (H0.out.below hb (by simp));have HB1:=hid (HB.out.trans (hb.mono (by simp)));obtain ⟨c0,c1,c2,c3,c4,c5,c6,c7,c8,c9,c10,c11,_⟩:=H1.out.tw;clear hb);go_ret;exact ⟨by simp [K0.out,K1.out],HB1.out⟩))
 ·have hk8:(c.kq != 8)=true:=by simp;omega
  have hk9n:(c.kq != 9)=false:=by simp;omega
  have hk9:(c.kq == 9)=true:=by simp;omega
  rw [show chkT (nChars s) c.kq.toNat c.i c.n=if c.i<0 then 32 else if (nChars s:Int)<c.i then 32 else if c.n<1 then 32 else if (nChars s:Int) - c.i<c.n then 32 else 0 by unfold chkT;rw [show c.kq.toNat=9 by omega];simp;repeat' split;all_goals omega]
  clear hk;generalize nChars s=m at *;by_cases h0:c.i<0<;>by_cases h1:(m:Int)<c.i<;>by_cases h2:c.n<1<;>by_cases h3:(m:Int) - c.i<c.n<;>first | (exfalso;omega) | (have K0:=hid h0;have K1:=hid h1;have K2:=hid h2;have K3:=hid h3;(go_enter Tryz.func90,Tryz.ntmps90;go_wp2_with (go_at_call 51;refine (HL.out _).mono ?_;rintro e w1 ⟨rfl,hb⟩;have H1:=hid (H0.out.below hb (by simp));have HB1:=hid (HB.out.trans (hb.mono (by simp)));obtain ⟨c0,c1,c2,c3,c4,c5,c6,c7,c8,c9,c10,c11,_⟩:=H1.out.tw;clear hb);go_ret;exact ⟨by simp [K0.out,K1.out,K2.out,K3.out],HB1.out⟩))
end Go.Proofs.YtmmgdkpkcoopgaaGreatDoor
namespace Go.Proofs.YtmmgdkpkcoopgaaGreatDoor
open Go.Lib(hid)
open Go Go.RowKit
set_option linter.unusedVariables false
set_option linter.unusedSimpArgs false
def partS (s:ByteArray) (i m:Nat):ByteArray:=s.extract (cutS s i) (cutS s (i+m))
theorem zeK (s:ByteArray) (i m:Nat) (w:World) (hs:s.size<=70368744177664) (h1:1<=m) (him:i+m<=nChars s):
  Calls Tryz.prog 53 #[.string s,.int .i64 i,.int .i64 m] w fun e w'=>e=.returned (.string (partS s i m))/\Below w.heap.size w w':=by
 obtain ⟨hch,hle⟩:=zaR s;have HC:=hid hch;clear hch;generalize hc:nChars s=c at *;clear hc;have hc9:c<=70368744177664:=by omega
 have hl1:=zcH s (i+m);have hl2:cutS s i<=cutS s (i+m):=zh3 (zdZ s) i m;have HCL:=hid (fun W=>zbs (s.extract (cutS s i) (cutS s (i+m))) W (by simp [ByteArray.size_extract];omega))
 unfold partS;obtain ⟨fa,hfa⟩:∃ x,cutS s i=x:=⟨_,rfl⟩;obtain ⟨fb,hfb⟩:∃ x,cutS s (i+m)=x:=⟨_,rfl⟩;rw [hfa,hfb] at hl2 HCL ⊢;rw [hfb] at hl1;have HA:=hid hfa;have HB:=hid hfb;clear hfa hfb;obtain ⟨F,hF⟩:∃ F:Nat->Nat,∀ k,F k=if i<k then fa else 0:=⟨_,fun _=>rfl⟩
 obtain ⟨T,hT⟩:∃ T:Nat->Nat,∀ k,T k=if i+m<k then fb else s.size:=⟨_,fun _=>rfl⟩
 have HFF:=hid hF;have HTT:=hid hT;have hF0:F 0=0:=by rw [hF];simp
 have hT0:T 0=s.size:=by rw [hT];simp
 clear hF hT;go_enter Tryz.func53,Tryz.ntmps53
 go_wp2
 go_loopw [7,8,9,10] (fun f t n _ w'=>∃ k:Nat,w'=w.iter s (cutS s k)/\k<=c/\f=.int .i64 (F k:Nat)/\t=.int .i64 (T k:Nat)/\n=.int .i64 (k:Nat)) (fun _ _ _ _ w'=>s.size - w'.iterPos w.heap.size)
 case atStart=>exact ⟨0,rfl,Nat.zero_le _,by rw [hF0];rfl,by rw [hT0],rfl⟩
 case round=>
  obtain ⟨k,rfl,hk,rfl,rfl,rfl⟩:=hrel;by_cases hp:cutS s k<s.size
  ·have hkc:k<c:=(Chars.iff HC.out).1 hp
   have hnx:∀ ty,(Instr.next (.pointer (some ⟨w.heap.size,0,none⟩)) true ty).run Tryz.prog (w.iter s (cutS s k))=_:=fun ty=>run_next_any w s (cutS s k) ty hp
   have hnext:cutS s (k+1)=cutS s k+(Utf8.decode s (cutS s k)).2:=zfh hp;have hwd:=Lib.decode_width_pos s (cutS s k) hp;have HN:=hid hnext;clear hnext;have HFK:=hid (HFF.out k);have HTK:=hid (HTT.out k);have HF1:=hid (HFF.out (k+1));have HT1:=hid (HTT.out (k+1));generalize hpos:cutS s k=pos at *;have HPOS:=hid hpos;clear hpos;generalize F k=fk at *;generalize T k=tk at *;by_cases hki:k=i
   ·have z1:((k:Int) == (i:Int))=true:=by simp;omega
    have e1:F (k+1)=pos:=by rw [HF1.out,if_pos (by omega),<- HA.out,<- hki,HPOS.out]
    have e2:T (k+1)=tk:=by rw [HT1.out,HTK.out,if_neg (by omega),if_neg (by omega)]
    have HE:=hid (And.intro e1 e2);clear e1 e2 hki him h1;go_wp2
    go_roundw
    case rel=>exact ⟨k+1,by rw [HN.out],hkc,by rw [HE.out.1],by rw [HE.out.2],by go_num⟩
    case measure=>
     simp
     omega
   ·have z1:((k:Int) == (i:Int))=false:=by simp;omega
    by_cases hkm:k=i+m
    ·have z2:((k:Int) == (i:Int)+(m:Int))=true:=by simp;omega
     have e1:F (k+1)=fk:=by rw [HF1.out,HFK.out,if_pos (by omega),if_pos (by omega)]
     have e2:T (k+1)=pos:=by rw [HT1.out,if_pos (by omega),<- HB.out,<- hkm,HPOS.out]
     have HE:=hid (And.intro e1 e2);clear e1 e2;go_wp2
     go_roundw
     case rel=>exact ⟨k+1,by rw [HN.out],hkc,by rw [HE.out.1],by rw [HE.out.2],by go_num⟩
     case measure=>
      simp
      omega
    ·have z2:((k:Int) == (i:Int)+(m:Int))=false:=by simp;omega
     have e1:F (k+1)=fk:=by
      rw [HF1.out,HFK.out];by_cases h:i<k
      ·rw [if_pos (by omega),if_pos h]
      ·rw [if_neg (by omega),if_neg h]
     have e2:T (k+1)=tk:=by
      rw [HT1.out,HTK.out];by_cases h:i+m<k
      ·rw [if_pos (by omega),if_pos h]
      ·rw [if_neg (by omega),if_neg h]
     have HE:=hid (And.intro e1 e2);clear e1 e2;go_wp2
     go_roundw
     case rel=>exact ⟨k+1,by rw [HN.out],hkc,by rw [HE.out.1],by rw [HE.out.2],by go_num⟩
     case measure=>
      simp
      omega
  ·have hkc:k=c:=by
    have h1:¬ k<c:=fun h=>hp ((Chars.iff HC.out).2 h)
    omega
   have e1:F k=fa:=by rw [HFF.out,if_pos (by omega)]
   have e2:T k=fb:=by
    rw [HTT.out];by_cases h:i+m<k
    ·rw [if_pos h]
    ·rw [if_neg h,<- HB.out,show i+m=k by omega]
     have:=zcH s k;omega
   have hnx:∀ ty,(Instr.next (.pointer (some ⟨w.heap.size,0,none⟩)) true ty).run Tryz.prog (w.iter s (cutS s k))=_:=fun ty=>run_next_end w s (cutS s k) ty hp
   rw [e1,e2];clear e1 e2 hkc hp;generalize cutS s k=pos at *;have hf0:(0:Int)<=(fa:Int):=by omega
   have hf1:(fa:Int)<=(fb:Int):=by omega
   have hf2:(fb:Int)<=(s.size:Int):=by omega
   go_wp2_with (go_at_call 77;refine (HCL.out _).mono ?_;rintro e w1 ⟨rfl,hb⟩)
   go_ret
   exact ⟨rfl,(zdr w s pos).trans (hb.mono (zdr w s pos).size)⟩
end Go.Proofs.YtmmgdkpkcoopgaaGreatDoor
