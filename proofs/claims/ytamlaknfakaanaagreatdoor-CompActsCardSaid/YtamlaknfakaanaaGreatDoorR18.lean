/- Texts in one: CompS, CompC, OneA, OpenA, TextX. -/
import Derived.Test.YtamlaknfakaanaaGreatDoorR11
import Derived.Test.YtamlaknfakaanaaGreatDoorR16
import Derived.Test.YtamlaknfakaanaaGreatDoorR17
import Derived.Laws.StructEq
import Derived.Test.YtamlaknfakaanaaGreatDoorR14
import Derived.Laws.Concat
import Derived.Test.YtamlaknfakaanaaGreatDoorR7
import Derived.Laws.RangeString
import Derived.Laws.RangeAny
import Derived.Lib.RuneCount
import Derived.LoopTactic
import Derived.WalkSmall
set_option maxRecDepth 100000
set_option maxHeartbeats 8000000
namespace Go.Proofs.YtamlaknfakaanaaGreatDoor
open Go Go.RowKit
set_option linter.unusedVariables false
set_option linter.unusedSimpArgs false
structure Cc (W:World) (c:GC) (A AL AO:Option Addr) (cp cL cO:Nat):Prop where
 path:Wy W A cp c.path
 v:Vl W c.v AL AO cL cO
theorem Cc.later {W W':World} {c:GC} {A AL AO:Option Addr} {cp cL cO:Nat} (h:Cc W c A AL AO cp cL cO) (hb:Below W.heap.size W W'):Cc W' c A AL AO cp cL cO:=⟨h.path.later hb,h.v.later hb⟩
theorem wy_nil (W:World):Wy W none 0 []:=⟨fun h=>absurd rfl h,Nat.le_refl _,by decide⟩
theorem vl_noG (W:World):Vl W noG none none 0 0:=⟨.inl ⟨rfl,rfl⟩,⟨rfl,.inl ⟨rfl,rfl⟩⟩⟩
theorem cc_no (W:World):Cc W noC none none none 0 0 0:=⟨wy_nil W,vl_noG W⟩
theorem equal_apart (A B:Option Addr) (n m c d:Nat) (hnm:n≠m) (w:World):Calls Tryz.prog 95 #[.slice A n c,.slice B m d] w fun e w'=>e=.returned (.bool false)∧w'=w:=by
 have h:¬ (n:Int)=(m:Int):=by omega
 clear hnm
 go_enter Tryz.func95,Tryz.ntmps95
 go_wp2
 go_ret
 exact ⟨rfl,rfl⟩
theorem equal_steps {w:World} {A B:Option Addr} {c d:Nat} {ps qs:List GStep} (hP:Wy w A c ps) (hQ:Wy w B d qs):
  Calls Tryz.prog 95 #[.slice A ps.length c,.slice B qs.length d] w fun e w'=>e=.returned (.bool (samePB ps qs))∧Below w.heap.size w w':=by
 by_cases hl:ps.length=qs.length
 ·by_cases hq:qs=[]
  ·subst hq
   have hp:ps=[]:=List.length_eq_zero_iff.1 (by simpa using hl)
   subst hp
   exact (equal_none A B c d w).mono fun e w' ⟨he,hw⟩=>⟨by rw [he];rfl,by rw [hw];exact Below.refl _ _⟩
  ·have hp:ps≠[]:=by intro e;apply hq;rw [e] at hl;exact List.length_eq_zero_iff.1 (by simpa using hl.symm)
   have h1:=hP.le
   have h2:=hP.cap
   have h3:=hQ.le
   have h4:=hQ.cap
   unfold maxLen at h2 h4
   obtain ⟨⟨pb,po,sp⟩,rfl,hs,_,hpc⟩:=hP.steps hp
   obtain ⟨⟨qb,qo,sp'⟩,rfl,hs',_,hqc⟩:=hQ.steps hq
   simp only at hs hs'
   subst hs hs'
   have h:=AnyQ.slices_Equal Tryz.equalS 3 Tryz.isAgg61 Tryz.sizeOf61 encG (fun _=>rfl) sameStep neq_step pb po ps.length c qb qo qs.length d ps qs w (Nat.le_refl _) (Nat.le_refl _) (by omega) (by omega) (cellsG hpc) (cellsG hqc)
   refine Calls.mono h fun e w' ⟨he,q,hw⟩=>⟨?_,?_⟩
   ·rw [he,List.take_length,List.take_length];simp [samePB,hl]
   ·rw [hw];exact ⟨rfl,rfl,rfl,Nat.le_refl _,fun _ _=>rfl⟩
 ·exact (equal_apart A B _ _ c d hl w).mono fun e w' ⟨he,hw⟩=>⟨by rw [he];simp [samePB,hl],by rw [hw];exact Below.refl _ _⟩
structure CTwo (w W:World) (ca cb:Array Value):Prop where
 a:Whole W w.heap.size 35 ca
 b:Whole W (w.heap.size+1) 35 cb
 below:Below w.heap.size w W
theorem CTwo.new (w:World) (ca cb:Array Value):CTwo w ((w.alloc (.cells ca 35)).alloc (.cells cb 35)) ca cb:=
 ⟨(Whole.new w 35 ca).alloc _,by have:=Whole.new (w.alloc (.cells ca 35)) 35 cb;rwa [World.size_alloc] at this,((Below.refl _ _).alloc (Nat.le_refl _) _).alloc (by simp) _⟩
theorem CTwo.step {w W W':World} {ca cb:Array Value} (h:CTwo w W ca cb) (hb:Below W.heap.size W W'):CTwo w W' ca cb:=
 ⟨h.a.below hb h.a.lt,h.b.below hb h.b.lt,h.below.trans (hb.mono h.below.size)⟩
theorem comp_Same (a b:GC) (A AL AO A' AL' AO':Option Addr) (cp cL cO cp' cL' cO':Nat) (w:World) (ha:Cc w a A AL AO cp cL cO) (hb:Cc w b A' AL' AO' cp' cL' cO') (hwa:a.v.weight≤1000000000) (hwb:b.v.weight≤1000000000):
  Calls Tryz.prog 68 #[.agg #[.int .u8 a.kind,.slice A a.path.length cp,.string a.key,.int .i64 a.i,.int .i64 a.j,.int .i64 a.n,.int .u8 a.v.kind,.int .i64 a.v.num,.string a.v.str,.slice AL a.v.items.length cL,.slice AO a.v.vals.length cO,.string a.s],.agg #[.int .u8 b.kind,.slice A' b.path.length cp',.string b.key,.int .i64 b.i,.int .i64 b.j,.int .i64 b.n,.int .u8 b.v.kind,.int .i64 b.v.num,.string b.v.str,.slice AL' b.v.items.length cL',.slice AO' b.v.vals.length cO',.string b.s]] w (EqPost (a.Same b) w):=by
 have H0:=Lib.hid (CTwo.new w #[.int .u8 a.kind,.slice A a.path.length cp,.string a.key,.int .i64 a.i,.int .i64 a.j,.int .i64 a.n,.int .u8 a.v.kind,.int .i64 a.v.num,.string a.v.str,.slice AL a.v.items.length cL,.slice AO a.v.vals.length cO,.string a.s] #[.int .u8 b.kind,.slice A' b.path.length cp',.string b.key,.int .i64 b.i,.int .i64 b.j,.int .i64 b.n,.int .u8 b.v.kind,.int .i64 b.v.num,.string b.v.str,.slice AL' b.v.items.length cL',.slice AO' b.v.vals.length cO',.string b.s])
 have HSS:Hid (a.Same b↔a.kind=b.kind∧a.key.toList=b.key.toList∧a.i=b.i∧a.j=b.j∧a.n=b.n∧a.s.toList=b.s.toList∧samePB a.path b.path=true∧a.v.Same b.v):=Lib.hid Iff.rfl
 have hE:=fun W (h:Below w.heap.size w W)=>equal_steps (ha.path.later h) (hb.path.later h)
 have hV:=fun W (h:Below w.heap.size w W)=>val_Same (fun _=>True) _ _ a.v b.v W (ha.v.later h).val (hb.v.later h).val (Nat.le_trans (size_le_weight _) hwa) (Nat.le_trans (size_le_weight _) hwb)
 have HE:=Lib.hid hE
 have HV:=Lib.hid hV
 clear hE hV ha hb hwa hwb
 generalize a.Same b=SS at *
 generalize samePB a.path b.path=sp at *
 generalize a.v.Same b.v=Q at *
 generalize a.kind=ak at *
 generalize a.path.length=ap at *
 generalize a.key=ay at *
 generalize a.i=ai at *
 generalize a.j=aj at *
 generalize a.n=an at *
 generalize a.v.kind=avk at *
 generalize a.v.num=avn at *
 generalize a.v.str=avs at *
 generalize a.v.items.length=avl at *
 generalize a.v.vals.length=avo at *
 generalize a.s=aS at *
 generalize b.kind=bk at *
 generalize b.path.length=bp at *
 generalize b.key=bY at *
 generalize b.i=bi at *
 generalize b.j=bj at *
 generalize b.n=bn at *
 generalize b.v.kind=bvk at *
 generalize b.v.num=bvn at *
 generalize b.v.str=bvs at *
 generalize b.v.items.length=bvl at *
 generalize b.v.vals.length=bvo at *
 generalize b.s=bS at *
 by_cases q0:ak=bk
 ·subst q0
  by_cases q1:ay.toList=bY.toList
  ·have z1:(ay.toList == bY.toList)=true:=by simp [q1]
   have Q1:=Lib.hid q1
   clear q1
   by_cases q2:ai=bi
   ·subst q2
    by_cases q3:aj=bj
    ·subst q3
     by_cases q4:an=bn
     ·subst q4
      by_cases q5:aS.toList=bS.toList
      ·have z5:(aS.toList == bS.toList)=true:=by simp [q5]
       have Q5:=Lib.hid q5
       clear q5
       cases sp with
       | true=>
        go_enter Tryz.func68,Tryz.ntmps68
        go_wp2_with (first
         | (go_at_call 95;refine (HE.out _ H0.out.below).mono ?_;rintro e w1 ⟨rfl,hb1⟩;have H1:=Lib.hid (H0.out.step hb1);obtain ⟨a0,a1,a2,a3,a4,a5,a6,a7,a8,a9,a10,a11,_⟩:=H1.out.a.tw;obtain ⟨e0,e1,e2,e3,e4,e5,e6,e7,e8,e9,e10,e11,_⟩:=H1.out.b.tw;clear hb1)
         | (go_at_call 96;refine (HV.out _ H1.out.below).mono ?_;rintro e w2 ⟨bb,rfl,hbb,hb2⟩;have H2:=Lib.hid (And.intro hbb (H1.out.step hb2));clear hbb hb2))
        go_ret
        exact ⟨bb,rfl,by rw [H2.out.1,HSS.out];simp [Q1.out,Q5.out],H2.out.2.below⟩
       | false=>
        have HN:=Lib.hid (show ¬ SS from fun hs=>by have h:=HSS.out.1 hs;simpa using h.2.2.2.2.2.2.1)
        go_enter Tryz.func68,Tryz.ntmps68
        go_wp2_with (first
         | (go_at_call 95;refine (HE.out _ H0.out.below).mono ?_;rintro e w1 ⟨rfl,hb1⟩;have H1:=Lib.hid (H0.out.step hb1);obtain ⟨a0,a1,a2,a3,a4,a5,a6,a7,a8,a9,a10,a11,_⟩:=H1.out.a.tw;obtain ⟨e0,e1,e2,e3,e4,e5,e6,e7,e8,e9,e10,e11,_⟩:=H1.out.b.tw;clear hb1)
         | (go_at_call 96;refine (HV.out _ H1.out.below).mono ?_;rintro e w2 ⟨bb,rfl,hbb,hb2⟩;have H2:=Lib.hid (And.intro hbb (H1.out.step hb2));clear hbb hb2))
        go_ret
        exact ⟨false,rfl,⟨(fun h=>by cases h),fun h=>absurd h HN.out⟩,H1.out.below⟩
      ·have z5:(aS.toList == bS.toList)=false:=by simpa using q5
       have HN:=Lib.hid (show ¬ SS from fun hs=>q5 (by have h:=HSS.out.1 hs;exact h.2.2.2.2.2.1))
       clear q5
       go_enter Tryz.func68,Tryz.ntmps68
       go_wp2_with (first
        | (go_at_call 95;refine (HE.out _ H0.out.below).mono ?_;rintro e w1 ⟨rfl,hb1⟩;have H1:=Lib.hid (H0.out.step hb1);obtain ⟨a0,a1,a2,a3,a4,a5,a6,a7,a8,a9,a10,a11,_⟩:=H1.out.a.tw;obtain ⟨e0,e1,e2,e3,e4,e5,e6,e7,e8,e9,e10,e11,_⟩:=H1.out.b.tw;clear hb1)
        | (go_at_call 96;refine (HV.out _ H1.out.below).mono ?_;rintro e w2 ⟨bb,rfl,hbb,hb2⟩;have H2:=Lib.hid (And.intro hbb (H1.out.step hb2));clear hbb hb2))
       go_ret
       exact ⟨false,rfl,⟨(fun h=>by cases h),fun h=>absurd h HN.out⟩,H0.out.below⟩
     ·have z4:(an == bn)=false:=by simpa using q4
      have HN:=Lib.hid (show ¬ SS from fun hs=>q4 (by have h:=HSS.out.1 hs;exact h.2.2.2.2.1))
      clear q4
      go_enter Tryz.func68,Tryz.ntmps68
      go_wp2_with (first
       | (go_at_call 95;refine (HE.out _ H0.out.below).mono ?_;rintro e w1 ⟨rfl,hb1⟩;have H1:=Lib.hid (H0.out.step hb1);obtain ⟨a0,a1,a2,a3,a4,a5,a6,a7,a8,a9,a10,a11,_⟩:=H1.out.a.tw;obtain ⟨e0,e1,e2,e3,e4,e5,e6,e7,e8,e9,e10,e11,_⟩:=H1.out.b.tw;clear hb1)
       | (go_at_call 96;refine (HV.out _ H1.out.below).mono ?_;rintro e w2 ⟨bb,rfl,hbb,hb2⟩;have H2:=Lib.hid (And.intro hbb (H1.out.step hb2));clear hbb hb2))
      go_ret
      exact ⟨false,rfl,⟨(fun h=>by cases h),fun h=>absurd h HN.out⟩,H0.out.below⟩
    ·have z3:(aj == bj)=false:=by simpa using q3
     have HN:=Lib.hid (show ¬ SS from fun hs=>q3 (by have h:=HSS.out.1 hs;exact h.2.2.2.1))
     clear q3
     go_enter Tryz.func68,Tryz.ntmps68
     go_wp2_with (first
      | (go_at_call 95;refine (HE.out _ H0.out.below).mono ?_;rintro e w1 ⟨rfl,hb1⟩;have H1:=Lib.hid (H0.out.step hb1);obtain ⟨a0,a1,a2,a3,a4,a5,a6,a7,a8,a9,a10,a11,_⟩:=H1.out.a.tw;obtain ⟨e0,e1,e2,e3,e4,e5,e6,e7,e8,e9,e10,e11,_⟩:=H1.out.b.tw;clear hb1)
      | (go_at_call 96;refine (HV.out _ H1.out.below).mono ?_;rintro e w2 ⟨bb,rfl,hbb,hb2⟩;have H2:=Lib.hid (And.intro hbb (H1.out.step hb2));clear hbb hb2))
     go_ret
     exact ⟨false,rfl,⟨(fun h=>by cases h),fun h=>absurd h HN.out⟩,H0.out.below⟩
   ·have z2:(ai == bi)=false:=by simpa using q2
    have HN:=Lib.hid (show ¬ SS from fun hs=>q2 (by have h:=HSS.out.1 hs;exact h.2.2.1))
    clear q2
    go_enter Tryz.func68,Tryz.ntmps68
    go_wp2_with (first
     | (go_at_call 95;refine (HE.out _ H0.out.below).mono ?_;rintro e w1 ⟨rfl,hb1⟩;have H1:=Lib.hid (H0.out.step hb1);obtain ⟨a0,a1,a2,a3,a4,a5,a6,a7,a8,a9,a10,a11,_⟩:=H1.out.a.tw;obtain ⟨e0,e1,e2,e3,e4,e5,e6,e7,e8,e9,e10,e11,_⟩:=H1.out.b.tw;clear hb1)
     | (go_at_call 96;refine (HV.out _ H1.out.below).mono ?_;rintro e w2 ⟨bb,rfl,hbb,hb2⟩;have H2:=Lib.hid (And.intro hbb (H1.out.step hb2));clear hbb hb2))
    go_ret
    exact ⟨false,rfl,⟨(fun h=>by cases h),fun h=>absurd h HN.out⟩,H0.out.below⟩
  ·have z1:(ay.toList == bY.toList)=false:=by simpa using q1
   have HN:=Lib.hid (show ¬ SS from fun hs=>q1 (by have h:=HSS.out.1 hs;exact h.2.1))
   clear q1
   go_enter Tryz.func68,Tryz.ntmps68
   go_wp2_with (first
    | (go_at_call 95;refine (HE.out _ H0.out.below).mono ?_;rintro e w1 ⟨rfl,hb1⟩;have H1:=Lib.hid (H0.out.step hb1);obtain ⟨a0,a1,a2,a3,a4,a5,a6,a7,a8,a9,a10,a11,_⟩:=H1.out.a.tw;obtain ⟨e0,e1,e2,e3,e4,e5,e6,e7,e8,e9,e10,e11,_⟩:=H1.out.b.tw;clear hb1)
    | (go_at_call 96;refine (HV.out _ H1.out.below).mono ?_;rintro e w2 ⟨bb,rfl,hbb,hb2⟩;have H2:=Lib.hid (And.intro hbb (H1.out.step hb2));clear hbb hb2))
   go_ret
   exact ⟨false,rfl,⟨(fun h=>by cases h),fun h=>absurd h HN.out⟩,H0.out.below⟩
 ·have z0:(ak == bk)=false:=by simpa using q0
  have HN:=Lib.hid (show ¬ SS from fun hs=>q0 (by have h:=HSS.out.1 hs;exact h.1))
  clear q0
  go_enter Tryz.func68,Tryz.ntmps68
  go_wp2_with (first
   | (go_at_call 95;refine (HE.out _ H0.out.below).mono ?_;rintro e w1 ⟨rfl,hb1⟩;have H1:=Lib.hid (H0.out.step hb1);obtain ⟨a0,a1,a2,a3,a4,a5,a6,a7,a8,a9,a10,a11,_⟩:=H1.out.a.tw;obtain ⟨e0,e1,e2,e3,e4,e5,e6,e7,e8,e9,e10,e11,_⟩:=H1.out.b.tw;clear hb1)
   | (go_at_call 96;refine (HV.out _ H1.out.below).mono ?_;rintro e w2 ⟨bb,rfl,hbb,hb2⟩;have H2:=Lib.hid (And.intro hbb (H1.out.step hb2));clear hbb hb2))
  go_ret
  exact ⟨false,rfl,⟨(fun h=>by cases h),fun h=>absurd h HN.out⟩,H0.out.below⟩
end Go.Proofs.YtamlaknfakaanaaGreatDoor
namespace Go.Proofs.YtamlaknfakaanaaGreatDoor
open Go Go.RowKit
set_option linter.unusedVariables false
set_option linter.unusedSimpArgs false
def Kp (n:Nat) (w1 W:World):Prop:=w1.heap.size≤W.heap.size∧∀ k,n≤k→k<w1.heap.size→W.heap[k]? = w1.heap[k]?
theorem Kp.refl (n:Nat) (w:World):Kp n w w:=⟨Nat.le_refl _,fun _ _ _=>rfl⟩
theorem Kp.set {n:Nat} {w1 W:World} (h:Kp n w1 W) {p:Addr} (hp:p.block<n) (u:Value):Kp n w1 (W.setCell p u):=⟨by rw [size_set];exact h.1,fun k hk hl=>by rw [Below.heap_setCell W p u k (by omega)];exact h.2 k hk hl⟩
theorem put12 {W:World} {b:Nat} {t:TypeId} {z0 z1 z2 z3 z4 z5 z6 z7 z8 z9 z10 z11:Value} (h:Whole W b t #[z0,z1,z2,z3,z4,z5,z6,z7,z8,z9,z10,z11]) (a0 a1 a2 a3 a4 a5 a6 a7 a8 a9 a10 a11:Value):Whole ((((((((((((W.setCell ⟨b,0,none⟩ a0).setCell ⟨b,1,none⟩ a1).setCell ⟨b,2,none⟩ a2).setCell ⟨b,3,none⟩ a3).setCell ⟨b,4,none⟩ a4).setCell ⟨b,5,none⟩ a5).setCell ⟨b,6,none⟩ a6).setCell ⟨b,7,none⟩ a7).setCell ⟨b,8,none⟩ a8).setCell ⟨b,9,none⟩ a9).setCell ⟨b,10,none⟩ a10).setCell ⟨b,11,none⟩ a11) b t #[a0,a1,a2,a3,a4,a5,a6,a7,a8,a9,a10,a11]:=by
 have h1:Whole _ b t #[a0,z1,z2,z3,z4,z5,z6,z7,z8,z9,z10,z11]:=h.put 0 a0
 have h2:Whole _ b t #[a0,a1,z2,z3,z4,z5,z6,z7,z8,z9,z10,z11]:=h1.put 1 a1
 have h3:Whole _ b t #[a0,a1,a2,z3,z4,z5,z6,z7,z8,z9,z10,z11]:=h2.put 2 a2
 have h4:Whole _ b t #[a0,a1,a2,a3,z4,z5,z6,z7,z8,z9,z10,z11]:=h3.put 3 a3
 have h5:Whole _ b t #[a0,a1,a2,a3,a4,z5,z6,z7,z8,z9,z10,z11]:=h4.put 4 a4
 have h6:Whole _ b t #[a0,a1,a2,a3,a4,a5,z6,z7,z8,z9,z10,z11]:=h5.put 5 a5
 have h7:Whole _ b t #[a0,a1,a2,a3,a4,a5,a6,z7,z8,z9,z10,z11]:=h6.put 6 a6
 have h8:Whole _ b t #[a0,a1,a2,a3,a4,a5,a6,a7,z8,z9,z10,z11]:=h7.put 7 a7
 have h9:Whole _ b t #[a0,a1,a2,a3,a4,a5,a6,a7,a8,z9,z10,z11]:=h8.put 8 a8
 have h10:Whole _ b t #[a0,a1,a2,a3,a4,a5,a6,a7,a8,a9,z10,z11]:=h9.put 9 a9
 have h11:Whole _ b t #[a0,a1,a2,a3,a4,a5,a6,a7,a8,a9,a10,z11]:=h10.put 10 a10
 have h12:Whole _ b t #[a0,a1,a2,a3,a4,a5,a6,a7,a8,a9,a10,a11]:=h11.put 11 a11
 exact h12
end Go.Proofs.YtamlaknfakaanaaGreatDoor
namespace Go.Proofs.YtamlaknfakaanaaGreatDoor
open Go Go.RowKit
set_option linter.unusedVariables false
set_option linter.unusedSimpArgs false
structure GAct where
 path:List Int
 kind:Int
 i:Int
 j:Int
 n:Int
 s:ByteArray
 v:List GTok
structure ActOk (w:World) (x:GAct) (AP:Option Addr) (ap:Nat) (AD:Option Addr) (ad:Nat):Prop where
 bytes:Bytes w.heap.size w AP x.path
 rngp:∀ b∈x.path,0≤b∧b≤255
 capp:x.path.length≤ap∧ap≤maxLen
 kind:0≤x.kind∧x.kind≤255
 toks:Toks w.heap.size w AD x.v
 cap:x.v.length≤ad∧ad≤maxLen
 rng:∀ t∈x.v,0≤t.k∧t.k≤255∧0≤t.m∧t.m≤255
 sizes:∀ t∈x.v,t.s.size≤140737488351232
 str:x.s.size≤140737488351232
theorem ActOk.later {w W:World} {x:GAct} {AP:Option Addr} {ap:Nat} {AD:Option Addr} {ad:Nat} (h:ActOk w x AP ap AD ad) (hb:Below w.heap.size w W):ActOk W x AP ap AD ad:=
 ⟨h.bytes.keep hb hb.size,h.rngp,h.capp,h.kind,h.toks.keep hb hb.size,h.cap,h.rng,h.sizes,h.str⟩
theorem mod_nat' (i:Int) (m:Nat) (hm:0<m):∃ a:Nat,max i 0 % (m:Int)=(a:Int)∧a<m:=
 ⟨(max i 0 % (m:Int)).toNat,by have:=Int.emod_nonneg (max i 0) (show (m:Int)≠0 by omega);omega,by have:=Int.emod_lt_of_pos (max i 0) (show (0:Int)<m by omega);have:=Int.emod_nonneg (max i 0) (show (m:Int)≠0 by omega);omega⟩
theorem below12 {n:Nat} {w W:World} {b:Nat} (h:Below n w W) (hb:n≤b) (a0 a1 a2 a3 a4 a5 a6 a7 a8 a9 a10 a11:Value):Below n w ((((((((((((W.setCell ⟨b,0,none⟩ a0).setCell ⟨b,1,none⟩ a1).setCell ⟨b,2,none⟩ a2).setCell ⟨b,3,none⟩ a3).setCell ⟨b,4,none⟩ a4).setCell ⟨b,5,none⟩ a5).setCell ⟨b,6,none⟩ a6).setCell ⟨b,7,none⟩ a7).setCell ⟨b,8,none⟩ a8).setCell ⟨b,9,none⟩ a9).setCell ⟨b,10,none⟩ a10).setCell ⟨b,11,none⟩ a11):=
 ((((((((((((h.setCell (p:=⟨b,0,none⟩) hb a0).setCell (p:=⟨b,1,none⟩) hb a1).setCell (p:=⟨b,2,none⟩) hb a2).setCell (p:=⟨b,3,none⟩) hb a3).setCell (p:=⟨b,4,none⟩) hb a4).setCell (p:=⟨b,5,none⟩) hb a5).setCell (p:=⟨b,6,none⟩) hb a6).setCell (p:=⟨b,7,none⟩) hb a7).setCell (p:=⟨b,8,none⟩) hb a8).setCell (p:=⟨b,9,none⟩) hb a9).setCell (p:=⟨b,10,none⟩) hb a10).setCell (p:=⟨b,11,none⟩) hb a11)
theorem far12 {W:World} {r b:Nat} {t:TypeId} {cs:Array Value} (h:Whole W r t cs) (hb:r≠b) (a0 a1 a2 a3 a4 a5 a6 a7 a8 a9 a10 a11:Value):Whole ((((((((((((W.setCell ⟨b,0,none⟩ a0).setCell ⟨b,1,none⟩ a1).setCell ⟨b,2,none⟩ a2).setCell ⟨b,3,none⟩ a3).setCell ⟨b,4,none⟩ a4).setCell ⟨b,5,none⟩ a5).setCell ⟨b,6,none⟩ a6).setCell ⟨b,7,none⟩ a7).setCell ⟨b,8,none⟩ a8).setCell ⟨b,9,none⟩ a9).setCell ⟨b,10,none⟩ a10).setCell ⟨b,11,none⟩ a11) r t cs:=
 ((((((((((((h.far (p:=⟨b,0,none⟩) hb a0).far (p:=⟨b,1,none⟩) hb a1).far (p:=⟨b,2,none⟩) hb a2).far (p:=⟨b,3,none⟩) hb a3).far (p:=⟨b,4,none⟩) hb a4).far (p:=⟨b,5,none⟩) hb a5).far (p:=⟨b,6,none⟩) hb a6).far (p:=⟨b,7,none⟩) hb a7).far (p:=⟨b,8,none⟩) hb a8).far (p:=⟨b,9,none⟩) hb a9).far (p:=⟨b,10,none⟩) hb a10).far (p:=⟨b,11,none⟩) hb a11)
theorem kp12 {n:Nat} {w W:World} {b:Nat} (h:Kp n w W) (hb:b<n) (a0 a1 a2 a3 a4 a5 a6 a7 a8 a9 a10 a11:Value):Kp n w ((((((((((((W.setCell ⟨b,0,none⟩ a0).setCell ⟨b,1,none⟩ a1).setCell ⟨b,2,none⟩ a2).setCell ⟨b,3,none⟩ a3).setCell ⟨b,4,none⟩ a4).setCell ⟨b,5,none⟩ a5).setCell ⟨b,6,none⟩ a6).setCell ⟨b,7,none⟩ a7).setCell ⟨b,8,none⟩ a8).setCell ⟨b,9,none⟩ a9).setCell ⟨b,10,none⟩ a10).setCell ⟨b,11,none⟩ a11):=
 ((((((((((((h.set (p:=⟨b,0,none⟩) hb a0).set (p:=⟨b,1,none⟩) hb a1).set (p:=⟨b,2,none⟩) hb a2).set (p:=⟨b,3,none⟩) hb a3).set (p:=⟨b,4,none⟩) hb a4).set (p:=⟨b,5,none⟩) hb a5).set (p:=⟨b,6,none⟩) hb a6).set (p:=⟨b,7,none⟩) hb a7).set (p:=⟨b,8,none⟩) hb a8).set (p:=⟨b,9,none⟩) hb a9).set (p:=⟨b,10,none⟩) hb a10).set (p:=⟨b,11,none⟩) hb a11)
def VOk (g:GV):Prop:=g.Sound∧g.deep≤6∧g.weight≤6000∧g.Asc
def BuildA (W:World) (e:Ending) (w':World):Prop:=
 ∃ (g:GV) (BL BO:Option Addr) (dL dO:Nat),e=.returned (.agg #[.int .u8 g.kind,.int .i64 g.num,.string g.str,.slice BL g.items.length dL,.slice BO g.vals.length dO])∧(LstV (fun k=>W.heap.size≤k) w' (.slice BL g.items.length dL) g.items∧ObjV (fun k=>W.heap.size≤k) w' (.slice BO g.vals.length dO) g.keys g.vals)∧VOk g∧Below W.heap.size W w'
theorem build_A (hi:Nat) (A:Option Addr) (cap:Nat) (ts:List GTok) (w:World) (hcap:ts.length≤cap) (hm:cap≤maxLen) (hhi:hi≤w.heap.size) (hT:Toks hi w A ts)
  (hr:∀ t∈ts,0≤t.k∧t.k≤255∧0≤t.m∧t.m≤255) (hss:∀ t∈ts,t.s.size≤140737488351232):Calls Tryz.prog 7 #[.slice A ts.length cap] w (BuildA w):=
 (Build_len hi A cap ts w hcap hm hhi hT hr hss).mono fun e w' ⟨g,v,he,hv,hg,hw,hb⟩=>by
  obtain ⟨L,O,rfl,hL,hO⟩:=hv
  obtain ⟨BL,dL,rfl⟩:=lst_form hL
  obtain ⟨BO,dO,rfl⟩:=obj_form hO
  exact ⟨g,BL,BO,dL,dO,he,⟨hL,hO⟩,⟨hg.1,by have:=hg.2.1;omega,hw,hg.2.2.2⟩,hb⟩
theorem lv_noG (ok:Nat→Prop) (W:World):LstV ok W (.slice none noG.items.length 0) noG.items∧ObjV ok W (.slice none noG.vals.length 0) noG.keys noG.vals:=⟨.inl ⟨rfl,rfl⟩,⟨rfl,.inl ⟨rfl,rfl⟩⟩⟩
theorem vok_no:VOk noG:=⟨by simp [noG,GV.Sound,GV.Sounds,SelfP],by simp [noG,GV.deep,GV.deeps],by unfold noG;simp only [GV.weight,GV.weights,List.map_nil,List.sum_nil];decide,by simp [noG,GV.Asc,GV.Ascs,asc_none]⟩
theorem plain6_any (s:ByteArray) (w:World) (_hs:s.size≤9223372036854775807):
  Calls Tryz.prog 64 #[.string s] w fun e w'=>e=.returned (.string (plainB s))∧Below w.heap.size w w':=by
 obtain ⟨i0,hi0,hz0,hz1,hz2⟩:=info_parts infoByte
 have HI0:=Lib.hid (And.intro hi0 (And.intro hz0 (And.intro hz1 hz2)))
 clear hi0 hz0 hz1 hz2
 go_enter Tryz.func64,Tryz.ntmps64
 go_wp2
 go_loopw [3,4] (PlainRel w s) (fun _ i _=>s.size - (intOf i).toNat)
 case atStart=>exact ⟨0,rfl,Nat.zero_le _,Nat.zero_le _,World.ownsRow_nil _ _ _ _,Below.refl _ _⟩
 case round=>
  obtain ⟨k,rfl,hk,hk40,hown,hB⟩:=hrel
  obtain ⟨A,c,rfl⟩:=own_form hown
  by_cases hgo:k<s.size∧k<40
  ·obtain ⟨hlt,hlt40⟩:=hgo
   have hmax:k+1≤maxLen:=by unfold maxLen;omega
   have hby:(k+1) * 1≤140737488355328:=by omega
   have HM:=Lib.hid (And.intro hmax hby)
   have HO:=Lib.hid hown
   have HB:=Lib.hid hB
   have hsn:(s.data.toList.take (k+1)).map low7=(s.data.toList.take k).map low7++[low7 s[k]]:=by
    rw [List.take_succ_eq_append_getElem (by simpa using hlt),List.map_append]
    rfl
   have HSN:=Lib.hid hsn
   have hb0:0≤(s[k].toNat:Int):=by omega
   have hb1:(s[k].toNat:Int)≤255:=by have:=s[k].toNat_lt;omega
   have hlow:low7 s[k]=(s[k].toNat:Int) % 128:=rfl
   have HLOW:=Lib.hid hlow
   clear hmax hby hown hB hsn hlow
   go_wp2_with (at_builtin;refine wpList_append_own_at _ rfl (.tmp 15) (.tmp 20) 46 rfl w.heap.size 5 i0 _ 1 1 Tryz.underlying46 HI0.out.1 HI0.out.2.1 HI0.out.2.2.1 HI0.out.2.2.2 rfl (by decide) (.slice A k c) k _ rfl (HO.out.alloc _) ⟨wr.heap.size,0,none⟩ 1 1 [.int .u8 ((s[k].toNat:Int) % 128)] rfl rfl (row_cells' _ _ rfl _ _) (by simp [Value.oneCell']) HM.out.1 HM.out.2 (by have:=HB.out.size;simp;omega) ?_;intro v3 W3 hown3 hgrow3 _ hat3;obtain ⟨A3,c3,rfl⟩:=own_form hown3;have H3:=Lib.hid (And.intro hown3 (And.intro hgrow3 hat3));clear hown3 hgrow3 hat3)
   go_roundw
   case rel=>exact ⟨k+1,by go_num,by omega,by omega,by rw [HSN.out,List.map_append];exact H3.out.1,(HB.out.alloc HB.out.size _).grown H3.out.2.1 (by have:=HB.out.size;simp;omega) (fun j hj=>(HO.out.lt j hj).1)⟩
   case measure=>simp [intOf];omega
  ·have htk:s.data.toList.take 40=s.data.toList.take k:=by
    by_cases h:k<s.size
    ·rw [show k=40 by omega]
    ·rw [List.take_of_length_le (by simp;omega),List.take_of_length_le (by simp;omega)]
   have hlen:((s.data.toList.take k).map low7).length=k:=by simp;omega
   have hconv:(convert 46 9 (.slice A k c)).run Tryz.prog wr=.ok (.string (plainB s)) wr:=by
    unfold plainB
    rw [htk]
    rcases hown.2 with ⟨e,hn⟩ | ⟨g,cap,cur,e,_⟩
    ·cases e
     exact run_convert_bytes_nil wr _ _ Tryz.underlying46 Tryz.underlying5 _ _ _ Tryz.underlying9
    ·cases e
     refine run_convert_bytes_arg wr _ _ Tryz.underlying46 Tryz.underlying5 g 0 k c _ hlen (fun i hi=>?_) _ Tryz.underlying9
     generalize (s.data.toList.take k).map low7=xs at *
     have:=hown.cells (g:=g) rfl i (.int .u8 (xs.getD i 0)) (by rw [List.getElem?_map,List.getElem?_eq_getElem (by omega)];simp [List.getElem?_eq_getElem (show i<xs.length by omega)])
     by_cases e:i=0<;>simpa [Addr.add,e] using this
   have HB:=Lib.hid hB
   clear htk hlen hown hB
   by_cases hlt:k<s.size
   ·have hk4:¬ k<40:=by omega
    clear hgo
    go_wp2
    go_ret
    exact ⟨rfl,HB.out⟩
   ·clear hgo
    go_wp2
    go_ret
    exact ⟨rfl,HB.out⟩
def strX:ByteArray:=⟨#[120]⟩
def TextIs (x:GAct) (P:Option Addr) (np pc n:Nat) (w:World) (e:Ending) (w':World):Prop:=∃ (k i m:Int) (s:ByteArray),e=.returned (.agg #[.int .u8 k,.slice P np pc,.string ⟨#[]⟩,.int .i64 i,.int .i64 0,.int .i64 m,.int .u8 0,.int .i64 0,.string ⟨#[]⟩,.slice none 0 0,.slice none 0 0,.string s])∧Below w.heap.size w w' ∧
 ((k=8∧(∃ a:Nat,i=a∧a≤n)∧m=0∧s=strX++plainB x.s)∨(k=9∧s =⟨#[]⟩∧∃ a b:Nat,i=a∧m=b∧1≤b∧a+b≤n))
structure TB3 (w W:World) (cc ca cr:Array Value):Prop where
 c:Whole W w.heap.size 35 cc
 a:Whole W (w.heap.size+1) 48 ca
 r:Whole W (w.heap.size+1+1) 35 cr
 below:Below w.heap.size w W
theorem TB3.new (w:World) (cc ca cr:Array Value):TB3 w (((w.alloc (.cells cc 35)).alloc (.cells ca 48)).alloc (.cells cr 35)) cc ca cr:=by
 have h1:=(Whole.new (w.alloc (.cells cc 35)) 48 ca).alloc (.cells cr 35)
 have h2:=Whole.new ((w.alloc (.cells cc 35)).alloc (.cells ca 48)) 35 cr
 rw [World.size_alloc] at h1
 rw [World.size_alloc,World.size_alloc] at h2
 exact ⟨((Whole.new w _ _).alloc _).alloc _,h1,h2,(((Below.refl _ w).alloc (Nat.le_refl _) _).alloc (by simp) _).alloc (by simp;omega) _⟩
theorem TB3.step {w W W':World} {cc ca cr:Array Value} (h:TB3 w W cc ca cr) (hb:Below W.heap.size W W'):TB3 w W' cc ca cr:=
 ⟨h.c.below hb h.c.lt,h.a.below hb h.a.lt,h.r.below hb h.r.lt,h.below.trans (hb.mono h.below.size)⟩
theorem TB3.putC {w W:World} {cc ca cr:Array Value} (h:TB3 w W cc ca cr) (i:Nat) (u:Value):TB3 w (W.setCell ⟨w.heap.size,i,none⟩ u) (cc.setIfInBounds i u) ca cr:=
 ⟨h.c.put i u,h.a.far (by simp) u,h.r.far (by simp;omega) u,h.below.setCell (Nat.le_refl _) u⟩
theorem act_cells {W:World} {b:Nat} {t:TypeId} {a0 a1 a2 a3 a4 a5 a6:Value} (h:Whole W b t #[a0,a1,a2,a3,a4,a5,a6]):W.cell? ⟨b,0,none⟩=some a0∧W.cell? ⟨b,1,none⟩=some a1∧W.cell? ⟨b,2,none⟩=some a2∧W.cell? ⟨b,3,none⟩=some a3∧W.cell? ⟨b,4,none⟩=some a4∧W.cell? ⟨b,5,none⟩=some a5∧W.cell? ⟨b,6,none⟩=some a6:=
 ⟨h.cell 0,h.cell 1,h.cell 2,h.cell 3,h.cell 4,h.cell 5,h.cell 6⟩
end Go.Proofs.YtamlaknfakaanaaGreatDoor
namespace Go.Proofs.YtamlaknfakaanaaGreatDoor
open Go Go.ChangeShapes Go.WideShapes Go.ChangeAt Go.RowKit Go.Lib Go.Shelf
set_option linter.unusedVariables false
set_option linter.unusedSimpArgs false
theorem cells_bytesA:Tryz.prog.cellsOf 46=1:=by kernel_rfl
theorem cells_toksA:Tryz.prog.cellsOf 22=1:=by kernel_rfl
theorem cells_intA:Tryz.prog.cellsOf 3=1:=by kernel_rfl
theorem cells_act:Tryz.prog.cellsOf 48=7:=by kernel_rfl
theorem open_act {H:Type} {enc:TypeId × Value→H} {W:World} {spare:Nat→Bool} {held:Bool} {v:Value} {d:DataW H} {p:List MemPlace} (h:DataW.Trod enc Tryz.prog W 0 spare held 48 v d p)
  (hv:∃ cs,v=.agg cs∧cs.size=7) (hsz:∀ n∈d.weights Tryz.prog 48,n≤reachBytes):
  ∃ (x:GAct) (P:Option Addr) (pc:Nat) (D:Option Addr) (dc:Nat),v=.agg #[.slice P x.path.length pc,.int .u8 x.kind,.int .i64 x.i,.int .i64 x.j,.int .i64 x.n,.string x.s,.slice D x.v.length dc]∧ActOk W x P pc D dc:=by
 obtain ⟨fuel,hf⟩:=h
 obtain ⟨cs,rfl,hs7⟩:=hv
 obtain ⟨xs,n',_,hxx,hlen,hxl,hg⟩:=DataW.trod_struct Tryz.underlying48 hf
 obtain ⟨l⟩:=cs
 simp only [Value.cells] at hg hlen hxx
 match l,hs7 with
 | [c0,c1,c2,c3,c4,c5,c6],_=>
  have g0 : DataW.trod enc Tryz.prog W 0 spare held n' 46 [c0] = xs[0]? := by simpa [cells_bytesA] using hg 0 { name := "Path", type := 46, offset := 0, embedded := false, tag := "", pkgPath := "", byteOffset := 0 } rfl
  have g1 : DataW.trod enc Tryz.prog W 0 spare held n' 5 [c1] = xs[1]? := by simpa [cells_byte] using hg 1 { name := "Kind", type := 5, offset := 1, embedded := false, tag := "", pkgPath := "", byteOffset := 24 } rfl
  have g2 : DataW.trod enc Tryz.prog W 0 spare held n' 3 [c2] = xs[2]? := by simpa [cells_intA] using hg 2 { name := "I", type := 3, offset := 2, embedded := false, tag := "", pkgPath := "", byteOffset := 32 } rfl
  have g3 : DataW.trod enc Tryz.prog W 0 spare held n' 3 [c3] = xs[3]? := by simpa [cells_intA] using hg 3 { name := "J", type := 3, offset := 3, embedded := false, tag := "", pkgPath := "", byteOffset := 40 } rfl
  have g4 : DataW.trod enc Tryz.prog W 0 spare held n' 2 [c4] = xs[4]? := by simpa [cells_int64] using hg 4 { name := "N", type := 2, offset := 4, embedded := false, tag := "", pkgPath := "", byteOffset := 48 } rfl
  have g5 : DataW.trod enc Tryz.prog W 0 spare held n' 9 [c5] = xs[5]? := by simpa [cells_string] using hg 5 { name := "S", type := 9, offset := 5, embedded := false, tag := "", pkgPath := "", byteOffset := 56 } rfl
  have g6 : DataW.trod enc Tryz.prog W 0 spare held n' 22 [c6] = xs[6]? := by simpa [cells_toksA] using hg 6 { name := "V", type := 22, offset := 6, embedded := false, tag := "", pkgPath := "", byteOffset := 72 } rfl
  match xs,hxl with
  | [y0,y1,y2,y3,y4,y5,y6],_=>
   obtain ⟨k1,e1,f1,w1⟩:=DataW.trod_int Tryz.underlying5 g1
   obtain ⟨z2,e2,f2,w2⟩:=DataW.trod_int Tryz.underlying3 g2
   obtain ⟨z3,e3,f3,w3⟩:=DataW.trod_int Tryz.underlying3 g3
   obtain ⟨z4,e4,f4,w4⟩:=DataW.trod_int Tryz.underlying2 g4
   obtain ⟨s5,e5,f5,w5⟩:=DataW.trod_string Tryz.underlying9 g5
   simp only [List.cons.injEq,and_true] at e1 e2 e3 e4 e5
   subst e1 e2 e3 e4 e5
   simp only [Prod.mk.injEq] at hxx
   obtain ⟨hd,_⟩:=hxx
   simp only [List.map_cons,List.map_nil] at hd
   have slc:∀ {t e:TypeId} {c:Value} {x:DataW H × List MemPlace},Tryz.prog.underlying t=some (.slice e)→DataW.trod enc Tryz.prog W 0 spare held n' t [c]=some x→∃ A n cp,c=.slice A n cp:=fun hu hh=>by
    rcases Go.Deep.open_slice hu hh with ⟨hc,_⟩ | ⟨a,len,cap,_,_,_,_,hcs,_⟩
    ·simp only [List.cons.injEq,and_true] at hc;exact ⟨_,_,_,hc⟩
    ·simp only [List.cons.injEq,and_true] at hcs;exact ⟨_,_,_,hcs⟩
   have hv0:=slc Tryz.underlying46 (x:=y0) g0
   have hv6:=slc Tryz.underlying22 (x:=y6) g6
   have hw6:∀ n∈y6.1.weights Tryz.prog 22,n≤reachBytes:=fun n hn=>hsz n (by
    rw [hd]
    simp [DataW.weights,Tryz.underlying48,DataW.weightsEach,hn])
   have hw5:s5.data.toList.length≤reachBytes:=hsz _ (by
    rw [hd,f5]
    simp [DataW.weights,Tryz.underlying48,DataW.weightsEach])
   obtain ⟨P,pc,bs,rfl,hb1,hb2,hB,hbr⟩:=open_choice (d:=y0.1) (p:=y0.2) (v:=c0) ⟨n',by obtain ⟨A,n,c,rfl⟩:=hv0;simpa [Value.cells] using g0⟩ hv0
   obtain ⟨D,dc,ts,rfl,hl1,hl2,hT,hr,hss⟩:=open_toks (d:=y6.1) (p:=y6.2) (v:=c6) ⟨n',by obtain ⟨A,n,c,rfl⟩:=hv6;simpa [Value.cells] using g6⟩ hv6 hw6
   have hk:0≤k1∧k1≤255:=by simpa [Lit.wf,IntKind.min,IntKind.max,IntKind.signed,IntKind.bits] using w1
   exact ⟨⟨bs,k1,z2,z3,z4,s5,ts⟩,P,pc,D,dc,rfl,⟨hB,hbr,⟨hb1,hb2⟩,hk,hT,⟨hl1,hl2⟩,hr,hss,by show s5.size≤140737488351232;have:reachBytes=140737488351232:=rfl;simp at hw5;omega⟩⟩
end Go.Proofs.YtamlaknfakaanaaGreatDoor
namespace Go.Proofs.YtamlaknfakaanaaGreatDoor
open Go Go.RowKit
set_option linter.unusedVariables false
set_option linter.unusedSimpArgs false
theorem ret_intA {k:IntKind} {a b:Int} (h:a=b):Ending.returned (.int k a)=.returned (.int k b):=by rw [h]
theorem iter_below (w:World) (s:ByteArray) (pos:Nat):Below w.heap.size w (w.iter s pos):=by
 show Below w.heap.size w _
 unfold World.iter
 exact (Below.refl _ w).alloc (Nat.le_refl _) _
theorem text_Len (s:ByteArray) (w:World) (hs:s.size≤9223372036854775807):
  Calls Tryz.prog 99 #[.string s] w fun e w'=>e=.returned (.int .i64 (nChars s))∧Below w.heap.size w w':=by
 obtain ⟨hch,hle⟩:=nChars_chars s
 have HC:=Lib.hid hch
 clear hch
 generalize hc:nChars s=c at *
 clear hc
 go_enter Tryz.func99,Tryz.ntmps99
 go_wp2
 go_loopw [3] (fun n w'=>∃ k:Nat,w'=w.iter s (cutS s k)∧n=.int .i64 k∧k≤c) (fun _ w'=>s.size - w'.iterPos w.heap.size)
 case atStart=>exact ⟨0,rfl,rfl,Nat.zero_le _⟩
 case round=>
  obtain ⟨k,rfl,rfl,hk⟩:=hrel
  by_cases hp:cutS s k<s.size
  ·have hkc:k<c:=(Chars.iff HC.out).1 hp
   have hnx:∀ ty,(Instr.next (.pointer (some ⟨w.heap.size,0,none⟩)) true ty).run Tryz.prog (w.iter s (cutS s k))=_:=fun ty=>run_next_any w s (cutS s k) ty hp
   have hnext:cutS s (k+1)=cutS s k+(Utf8.decode s (cutS s k)).2:=cut_next hp
   have hwd:=Lib.decode_width_pos s (cutS s k) hp
   have HN:=Lib.hid hnext
   have HP:=Lib.hid hp
   clear hnext
   generalize cutS s k=pos at *
   go_wp2
   go_roundw
   case rel=>exact ⟨k+1,by rw [HN.out],by go_num,hkc⟩
   case measure=>
    simp
    omega
  ·have hkc:k=c:=by
    have h1:¬ k<c:=fun h=>hp ((Chars.iff HC.out).2 h)
    omega
   have hnx:∀ ty,(Instr.next (.pointer (some ⟨w.heap.size,0,none⟩)) true ty).run Tryz.prog (w.iter s (cutS s k))=_:=fun ty=>run_next_end w s (cutS s k) ty hp
   have HK:=Lib.hid hkc
   clear hkc
   generalize cutS s k=pos at *
   go_wp2
   go_ret
   exact ⟨ret_intA (by have:=HK.out;omega),iter_below w s pos⟩
theorem text_offset (s:ByteArray) (i:Nat) (w:World) (hs:s.size≤9223372036854775807) (hi:i≤9223372036854775807):
  Calls Tryz.prog 81 #[.string s,.int .i64 i] w fun e w'=>e=.returned (.int .i64 (cutS s i))∧Below w.heap.size w w':=by
 go_enter Tryz.func81,Tryz.ntmps81
 go_wp2
 go_loopw [1,5] (fun n _ w'=>∃ k:Nat,w'=w.iter s (cutS s k)∧k≤i∧n=.int .i64 ((i - k:Nat):Int)) (fun _ _ w'=>s.size - w'.iterPos w.heap.size)
 case atStart=>exact ⟨0,rfl,Nat.zero_le _,rfl⟩
 case round=>
  obtain ⟨k,rfl,hk,rfl⟩:=hrel
  by_cases hp:cutS s k<s.size
  ·have hnx:∀ ty,(Instr.next (.pointer (some ⟨w.heap.size,0,none⟩)) true ty).run Tryz.prog (w.iter s (cutS s k))=_:=fun ty=>run_next_any w s (cutS s k) ty hp
   have hnext:cutS s (k+1)=cutS s k+(Utf8.decode s (cutS s k)).2:=cut_next hp
   have hwd:=Lib.decode_width_pos s (cutS s k) hp
   have HN:=Lib.hid hnext
   clear hnext
   generalize hpos:cutS s k=pos at *
   have HPOS:=Lib.hid hpos
   clear hpos
   by_cases hki:k<i
   ·obtain ⟨d,hd⟩:∃ d,i - k=d+1:=⟨i - k - 1,by omega⟩
    rw [hd]
    have HD:=Lib.hid (show i - (k+1)=d by omega)
    have hz:(((d+1:Nat):Int) == 0)=false:=by simp;omega
    have hd9:d≤9223372036854775806:=by omega
    clear hd
    go_wp2
    go_roundw
    case rel=>exact ⟨k+1,by rw [HN.out],hki,by rw [HD.out]<;>go_num⟩
    case measure=>
     simp
     omega
   ·have hik:i - k=0:=by omega
    have HK:=Lib.hid (show k=i by omega)
    rw [hik]
    clear hki hik hk
    go_wp2
    go_ret
    exact ⟨ret_intA (by have h1:=HPOS.out;have h2:=HK.out;subst h2;omega),iter_below w s _⟩
  ·have hend:cutS s i=s.size:=by
    have h1:cutS s k=s.size:=by have:=cutS_le s k;omega
    obtain ⟨j,rfl⟩:=Nat.exists_eq_add_of_le hk
    exact cut_end h1 j
   have hnx:∀ ty,(Instr.next (.pointer (some ⟨w.heap.size,0,none⟩)) true ty).run Tryz.prog (w.iter s (cutS s k))=_:=fun ty=>run_next_end w s (cutS s k) ty hp
   have HE:=Lib.hid hend
   clear hend
   generalize cutS s k=pos at *
   go_wp2
   go_ret
   exact ⟨ret_intA (by have:=HE.out;omega),iter_below w s pos⟩
theorem text_Check (s:ByteArray) (c:GC) (A AL AO:Option Addr) (cp cL cO:Nat) (w:World) (hs:s.size≤9223372036854775807) (hk:c.kind=8∨c.kind=9):
  Calls Tryz.prog 76 #[.string s,.agg #[.int .u8 c.kind,.slice A c.path.length cp,.string c.key,.int .i64 c.i,.int .i64 c.j,.int .i64 c.n,.int .u8 c.v.kind,.int .i64 c.v.num,.string c.v.str,.slice AL c.v.items.length cL,.slice AO c.v.vals.length cO,.string c.s]] w fun e w'=>e=.returned (.int .u16 (chkT (nChars s) c.kind.toNat c.i c.n))∧Below w.heap.size w w':=by
 have HL:=Lib.hid (fun W=>text_Len s W hs)
 have hle:nChars s≤9223372036854775807:=Nat.le_trans (nChars_chars s).2 hs
 have H0:=Lib.hid (Whole.new w 35 #[.int .u8 c.kind,.slice A c.path.length cp,.string c.key,.int .i64 c.i,.int .i64 c.j,.int .i64 c.n,.int .u8 c.v.kind,.int .i64 c.v.num,.string c.v.str,.slice AL c.v.items.length cL,.slice AO c.v.vals.length cO,.string c.s])
 have HB:=Lib.hid (below_alloc w (.cells #[.int .u8 c.kind,.slice A c.path.length cp,.string c.key,.int .i64 c.i,.int .i64 c.j,.int .i64 c.n,.int .u8 c.v.kind,.int .i64 c.v.num,.string c.v.str,.slice AL c.v.items.length cL,.slice AO c.v.vals.length cO,.string c.s] 35))
 rcases hk with hk | hk
 ·have hk8:(c.kind != 8)=false:=by simp;omega
  have hk9:(c.kind == 9)=false:=by simp;omega
  rw [show chkT (nChars s) c.kind.toNat c.i c.n=if c.i<0 then 32 else if (nChars s:Int)<c.i then 32 else 0 by unfold chkT;rw [show c.kind.toNat=8 by omega];simp;repeat' split;all_goals omega]
  clear hk
  generalize nChars s=m at *
  by_cases h0:c.i<0<;>by_cases h1:(m:Int)<c.i<;>first | (exfalso;omega) | (have K0:=Lib.hid h0;have K1:=Lib.hid h1;(go_enter Tryz.func76,Tryz.ntmps76;go_wp2_with (go_at_call 99;refine (HL.out _).mono ?_;rintro e w1 ⟨rfl,hb⟩;have H1:=Lib.hid (H0.out.below hb (by simp));have HB1:=Lib.hid (HB.out.trans (hb.mono (by simp)));obtain ⟨c0,c1,c2,c3,c4,c5,c6,c7,c8,c9,c10,c11,_⟩:=H1.out.tw;clear hb);go_ret;exact ⟨by simp [K0.out,K1.out],HB1.out⟩))
 ·have hk8:(c.kind != 8)=true:=by simp;omega
  have hk9n:(c.kind != 9)=false:=by simp;omega
  have hk9:(c.kind == 9)=true:=by simp;omega
  rw [show chkT (nChars s) c.kind.toNat c.i c.n=if c.i<0 then 32 else if (nChars s:Int)<c.i then 32 else if c.n<1 then 32 else if (nChars s:Int) - c.i<c.n then 32 else 0 by unfold chkT;rw [show c.kind.toNat=9 by omega];simp;repeat' split;all_goals omega]
  clear hk
  generalize nChars s=m at *
  by_cases h0:c.i<0<;>by_cases h1:(m:Int)<c.i<;>by_cases h2:c.n<1<;>by_cases h3:(m:Int) - c.i<c.n<;>first | (exfalso;omega) | (have K0:=Lib.hid h0;have K1:=Lib.hid h1;have K2:=Lib.hid h2;have K3:=Lib.hid h3;(go_enter Tryz.func76,Tryz.ntmps76;go_wp2_with (go_at_call 99;refine (HL.out _).mono ?_;rintro e w1 ⟨rfl,hb⟩;have H1:=Lib.hid (H0.out.below hb (by simp));have HB1:=Lib.hid (HB.out.trans (hb.mono (by simp)));obtain ⟨c0,c1,c2,c3,c4,c5,c6,c7,c8,c9,c10,c11,_⟩:=H1.out.tw;clear hb);go_ret;exact ⟨by simp [K0.out,K1.out,K2.out,K3.out],HB1.out⟩))
end Go.Proofs.YtamlaknfakaanaaGreatDoor
