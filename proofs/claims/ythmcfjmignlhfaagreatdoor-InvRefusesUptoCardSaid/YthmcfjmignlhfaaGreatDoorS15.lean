/- Texts in one: CompS, CompC, OneA. -/
import Derived.Test.YthmcfjmignlhfaaGreatDoorS8
import Derived.Test.YthmcfjmignlhfaaGreatDoorS13
import Derived.Test.YthmcfjmignlhfaaGreatDoorS14
import Derived.Laws.StructEq
import Derived.Test.YthmcfjmignlhfaaGreatDoorS11
import Derived.Laws.Concat
set_option maxRecDepth 100000
set_option maxHeartbeats 8000000
namespace Go.Proofs.YthmcfjmignlhfaaGreatDoor
open Go.Lib(hid)
open Go Go.RowKit
set_option linter.unusedVariables false
set_option linter.unusedSimpArgs false
structure Cc (W:World) (c:GC) (A AL AO:Option Addr) (cp cL cO:Nat):Prop where
 path:Wy W A cp c.path
 v:Vl W c.v AL AO cL cO
theorem Cc.later {W W':World} {c A AL AO cp cL cO} (h:Cc W c A AL AO cp cL cO) (hb:Below W.heap.size W W'):Cc W' c A AL AO cp cL cO:=⟨h.path.later hb,h.v.later hb⟩
theorem zc9 (W:World):Wy W none 0 []:=⟨fun h=>absurd rfl h,Nat.le_refl _,by decide⟩
theorem zaP (W:World):Vl W noG none none 0 0:=⟨.inl ⟨rfl,rfl⟩,⟨rfl,.inl ⟨rfl,rfl⟩⟩⟩
theorem zlf (W:World):Cc W noC none none none 0 0 0:=⟨zc9 W,zaP W⟩
theorem zgE (A B:Option Addr) (n m c d:Nat) (hnm:n≠m) (w:World):Calls Tryz.prog 128 #[.slice A n c,.slice B m d] w fun e w'=>e=.returned (.bool false)/\w'=w:=by
 have h:¬ (n:Int)=(m:Int):=by omega
 clear hnm;go_enter Tryz.func128,Tryz.ntmps128
 go_wp2
 go_ret
 exact ⟨rfl,rfl⟩
theorem zgf {w A B c d ps qs} (hP:Wy w A c ps) (hQ:Wy w B d qs):
  Calls Tryz.prog 128 #[.slice A ps.length c,.slice B qs.length d] w fun e w'=>e=.returned (.bool (samePB ps qs))/\Below w.heap.size w w':=by
 by_cases hl:ps.length=qs.length
 ·by_cases hq:qs=[]
  ·subst hq
   have hp:ps=[]:=List.length_eq_zero_iff.1 (by simpa using hl)
   subst hp;exact (zhp A B c d w).mono fun e w' ⟨he,hw⟩=>⟨by rw [he];rfl,by rw [hw];exact Below.refl _ _⟩
  ·have hp:ps≠[]:=by intro e;apply hq;rw [e] at hl;exact List.length_eq_zero_iff.1 (by simpa using hl.symm)
   have h1:=hP.le;have h2:=hP.cap;have h3:=hQ.le;have h4:=hQ.cap;unfold maxLen at h2 h4;obtain ⟨⟨pb,po,sp⟩,rfl,hs,_,hpc⟩:=hP.steps hp;obtain ⟨⟨qb,qo,sp'⟩,rfl,hs',_,hqc⟩:=hQ.steps hq;simp only at hs hs';subst hs hs';have h:=AnyQ.slices_Equal Tryz.equalS 3 Tryz.isAgg102 Tryz.sizeOf102 encG (fun _=>rfl) sameStep zeL pb po ps.length c qb qo qs.length d ps qs w (Nat.le_refl _) (Nat.le_refl _) (by omega) (by omega) (cellsG hpc) (cellsG hqc)
   refine Calls.mono h fun e w' ⟨he,q,hw⟩=>⟨?_,?_⟩
   ·rw [he,List.take_length,List.take_length];simp [samePB,hl]
   ·rw [hw];exact ⟨rfl,rfl,rfl,Nat.le_refl _,fun _ _=>rfl⟩
 ·exact (zgE A B _ _ c d hl w).mono fun e w' ⟨he,hw⟩=>⟨by rw [he];simp [samePB,hl],by rw [hw];exact Below.refl _ _⟩
structure CTwo (w W:World) (ca cb:Array Value):Prop where
 a:Whole W w.heap.size 48 ca
 b:Whole W (w.heap.size+1) 48 cb
 below:Below w.heap.size w W
theorem CTwo.new (w:World) (ca cb:Array Value):CTwo w ((w.alloc (.cells ca 48)).alloc (.cells cb 48)) ca cb:=
 ⟨(Whole.new w 48 ca).alloc _,by have:=Whole.new (w.alloc (.cells ca 48)) 48 cb;rwa [World.size_alloc] at this,((Below.refl _ _).alloc (Nat.le_refl _) _).alloc (by simp) _⟩
theorem CTwo.step {w W W':World} {ca cb:Array Value} (h:CTwo w W ca cb) (hb:Below W.heap.size W W'):CTwo w W' ca cb:=
 ⟨h.a.below hb h.a.lt,h.b.below hb h.b.lt,h.below.trans (hb.mono h.below.size)⟩
theorem ziF (a b A AL AO A' AL' AO' cp cL cO cp' cL' cO' w) (ha:Cc w a A AL AO cp cL cO) (hb:Cc w b A' AL' AO' cp' cL' cO') (hwa:a.v.weight<=1000000000) (hwb:b.v.weight<=1000000000):
  Calls Tryz.prog 103 #[.agg #[.int .u8 a.kq,.slice A a.path.length cp,.string a.key,.int .i64 a.i,.int .i64 a.j,.int .i64 a.n,.int .u8 a.v.kq,.int .i64 a.v.num,.string a.v.str,.slice AL a.v.il.length cL,.slice AO a.v.vz.length cO,.string a.s],.agg #[.int .u8 b.kq,.slice A' b.path.length cp',.string b.key,.int .i64 b.i,.int .i64 b.j,.int .i64 b.n,.int .u8 b.v.kq,.int .i64 b.v.num,.string b.v.str,.slice AL' b.v.il.length cL',.slice AO' b.v.vz.length cO',.string b.s]] w (EqPost (a.Same b) w):=by
 have H0:=hid (CTwo.new w #[.int .u8 a.kq,.slice A a.path.length cp,.string a.key,.int .i64 a.i,.int .i64 a.j,.int .i64 a.n,.int .u8 a.v.kq,.int .i64 a.v.num,.string a.v.str,.slice AL a.v.il.length cL,.slice AO a.v.vz.length cO,.string a.s] #[.int .u8 b.kq,.slice A' b.path.length cp',.string b.key,.int .i64 b.i,.int .i64 b.j,.int .i64 b.n,.int .u8 b.v.kq,.int .i64 b.v.num,.string b.v.str,.slice AL' b.v.il.length cL',.slice AO' b.v.vz.length cO',.string b.s]);have HSS:Hid (a.Same b↔a.kq=b.kq/\a.key.toList=b.key.toList/\a.i=b.i/\a.j=b.j/\a.n=b.n/\a.s.toList=b.s.toList/\samePB a.path b.path=true/\a.v.Same b.v):=hid Iff.rfl;have hE:=fun W (h:Below w.heap.size w W)=>zgf (ha.path.later h) (hb.path.later h)
 have hV:=fun W (h:Below w.heap.size w W)=>zjW (fun _=>True) _ _ a.v b.v W (ha.v.later h).val (hb.v.later h).val (Nat.le_trans (zac _) hwa) (Nat.le_trans (zac _) hwb)
 have HE:=hid hE;have HV:=hid hV;clear hE hV ha hb hwa hwb;generalize a.Same b=SS at *;generalize samePB a.path b.path=sp at *;generalize a.v.Same b.v=Q at *;generalize a.kq=ak at *;generalize a.path.length=ap at *;generalize a.key=ay at *;generalize a.i=ai at *;generalize a.j=aj at *;generalize a.n=an at *;generalize a.v.kq=avk at *;generalize a.v.num=avn at *;generalize a.v.str=avs at *;generalize a.v.il.length=avl at *;generalize a.v.vz.length=avo at *;generalize a.s=aS at *;generalize b.kq=bk at *;generalize b.path.length=bp at *;generalize b.key=bY at *;generalize b.i=bi at *;generalize b.j=bj at *;generalize b.n=bn at *;generalize b.v.kq=bvk at *;generalize b.v.num=bvn at *;generalize b.v.str=bvs at *;generalize b.v.il.length=bvl at *;generalize b.v.vz.length=bvo at *;generalize b.s=bS at *;by_cases q0:ak=bk
 ·subst q0
  by_cases q1:ay.toList=bY.toList
  ·have z1:(ay.toList == bY.toList)=true:=by simp [q1]
   have Q1:=hid q1;clear q1;by_cases q2:ai=bi
   ·subst q2
    by_cases q3:aj=bj
    ·subst q3
     by_cases q4:an=bn
     ·subst q4
      by_cases q5:aS.toList=bS.toList
      ·have z5:(aS.toList == bS.toList)=true:=by simp [q5]
       have Q5:=hid q5;clear q5;cases sp with
       | true=>
        go_enter Tryz.func103,Tryz.ntmps103
        go_wp2_with (first
         | (go_at_call 128;refine (HE.out _ H0.out.below).mono ?_;rintro e w1 ⟨rfl,hb1⟩;have H1:=hid (H0.out.step hb1);obtain ⟨a0,a1,a2,a3,a4,a5,a6,a7,a8,a9,a10,a11,_⟩:=H1.out.a.tw;obtain ⟨e0,e1,e2,e3,e4,e5,e6,e7,e8,e9,e10,e11,_⟩:=H1.out.b.tw;clear hb1)
         | (go_at_call 129;refine (HV.out _ H1.out.below).mono ?_;rintro e w2 ⟨bb,rfl,hbb,hb2⟩;have H2:=hid (And.intro hbb (H1.out.step hb2));clear hbb hb2))
        go_ret
        exact ⟨bb,rfl,by rw [H2.out.1,HSS.out];simp [Q1.out,Q5.out],H2.out.2.below⟩
       | false=>
        have HN:=hid (show ¬ SS from fun hs=>by have h:=HSS.out.1 hs;simpa using h.2.2.2.2.2.2.1)
        go_enter Tryz.func103,Tryz.ntmps103
        go_wp2_with (first
         | (go_at_call 128;refine (HE.out _ H0.out.below).mono ?_;rintro e w1 ⟨rfl,hb1⟩;have H1:=hid (H0.out.step hb1);obtain ⟨a0,a1,a2,a3,a4,a5,a6,a7,a8,a9,a10,a11,_⟩:=H1.out.a.tw;obtain ⟨e0,e1,e2,e3,e4,e5,e6,e7,e8,e9,e10,e11,_⟩:=H1.out.b.tw;clear hb1)
         | (go_at_call 129;refine (HV.out _ H1.out.below).mono ?_;rintro e w2 ⟨bb,rfl,hbb,hb2⟩;have H2:=hid (And.intro hbb (H1.out.step hb2));clear hbb hb2))
        go_ret
        exact ⟨false,rfl,⟨(fun h=>by cases h),fun h=>absurd h HN.out⟩,H1.out.below⟩
      ·have z5:(aS.toList == bS.toList)=false:=by simpa using q5
       have HN:=hid (show ¬ SS from fun hs=>q5 (by have h:=HSS.out.1 hs;exact h.2.2.2.2.2.1))
       clear q5;go_enter Tryz.func103,Tryz.ntmps103
       go_wp2_with (first
        | (go_at_call 128;refine (HE.out _ H0.out.below).mono ?_;rintro e w1 ⟨rfl,hb1⟩;have H1:=hid (H0.out.step hb1);obtain ⟨a0,a1,a2,a3,a4,a5,a6,a7,a8,a9,a10,a11,_⟩:=H1.out.a.tw;obtain ⟨e0,e1,e2,e3,e4,e5,e6,e7,e8,e9,e10,e11,_⟩:=H1.out.b.tw;clear hb1)
        | (go_at_call 129;refine (HV.out _ H1.out.below).mono ?_;rintro e w2 ⟨bb,rfl,hbb,hb2⟩;have H2:=hid (And.intro hbb (H1.out.step hb2));clear hbb hb2))
       go_ret
       exact ⟨false,rfl,⟨(fun h=>by cases h),fun h=>absurd h HN.out⟩,H0.out.below⟩
     ·have z4:(an == bn)=false:=by simpa using q4
      have HN:=hid (show ¬ SS from fun hs=>q4 (by have h:=HSS.out.1 hs;exact h.2.2.2.2.1))
      clear q4;go_enter Tryz.func103,Tryz.ntmps103
      go_wp2_with (first
       | (go_at_call 128;refine (HE.out _ H0.out.below).mono ?_;rintro e w1 ⟨rfl,hb1⟩;have H1:=hid (H0.out.step hb1);obtain ⟨a0,a1,a2,a3,a4,a5,a6,a7,a8,a9,a10,a11,_⟩:=H1.out.a.tw;obtain ⟨e0,e1,e2,e3,e4,e5,e6,e7,e8,e9,e10,e11,_⟩:=H1.out.b.tw;clear hb1)
       | (go_at_call 129;refine (HV.out _ H1.out.below).mono ?_;rintro e w2 ⟨bb,rfl,hbb,hb2⟩;have H2:=hid (And.intro hbb (H1.out.step hb2));clear hbb hb2))
      go_ret
      exact ⟨false,rfl,⟨(fun h=>by cases h),fun h=>absurd h HN.out⟩,H0.out.below⟩
    ·have z3:(aj == bj)=false:=by simpa using q3
     have HN:=hid (show ¬ SS from fun hs=>q3 (by have h:=HSS.out.1 hs;exact h.2.2.2.1))
     clear q3;go_enter Tryz.func103,Tryz.ntmps103
     go_wp2_with (first
      | (go_at_call 128;refine (HE.out _ H0.out.below).mono ?_;rintro e w1 ⟨rfl,hb1⟩;have H1:=hid (H0.out.step hb1);obtain ⟨a0,a1,a2,a3,a4,a5,a6,a7,a8,a9,a10,a11,_⟩:=H1.out.a.tw;obtain ⟨e0,e1,e2,e3,e4,e5,e6,e7,e8,e9,e10,e11,_⟩:=H1.out.b.tw;clear hb1)
      | (go_at_call 129;refine (HV.out _ H1.out.below).mono ?_;rintro e w2 ⟨bb,rfl,hbb,hb2⟩;have H2:=hid (And.intro hbb (H1.out.step hb2));clear hbb hb2))
     go_ret
     exact ⟨false,rfl,⟨(fun h=>by cases h),fun h=>absurd h HN.out⟩,H0.out.below⟩
   ·have z2:(ai == bi)=false:=by simpa using q2
    have HN:=hid (show ¬ SS from fun hs=>q2 (by have h:=HSS.out.1 hs;exact h.2.2.1))
    clear q2;go_enter Tryz.func103,Tryz.ntmps103
    go_wp2_with (first
     | (go_at_call 128;refine (HE.out _ H0.out.below).mono ?_;rintro e w1 ⟨rfl,hb1⟩;have H1:=hid (H0.out.step hb1);obtain ⟨a0,a1,a2,a3,a4,a5,a6,a7,a8,a9,a10,a11,_⟩:=H1.out.a.tw;obtain ⟨e0,e1,e2,e3,e4,e5,e6,e7,e8,e9,e10,e11,_⟩:=H1.out.b.tw;clear hb1)
     | (go_at_call 129;refine (HV.out _ H1.out.below).mono ?_;rintro e w2 ⟨bb,rfl,hbb,hb2⟩;have H2:=hid (And.intro hbb (H1.out.step hb2));clear hbb hb2))
    go_ret
    exact ⟨false,rfl,⟨(fun h=>by cases h),fun h=>absurd h HN.out⟩,H0.out.below⟩
  ·have z1:(ay.toList == bY.toList)=false:=by simpa using q1
   have HN:=hid (show ¬ SS from fun hs=>q1 (by have h:=HSS.out.1 hs;exact h.2.1))
   clear q1;go_enter Tryz.func103,Tryz.ntmps103
   go_wp2_with (first
    | (go_at_call 128;refine (HE.out _ H0.out.below).mono ?_;rintro e w1 ⟨rfl,hb1⟩;have H1:=hid (H0.out.step hb1);obtain ⟨a0,a1,a2,a3,a4,a5,a6,a7,a8,a9,a10,a11,_⟩:=H1.out.a.tw;obtain ⟨e0,e1,e2,e3,e4,e5,e6,e7,e8,e9,e10,e11,_⟩:=H1.out.b.tw;clear hb1)
    | (go_at_call 129;refine (HV.out _ H1.out.below).mono ?_;rintro e w2 ⟨bb,rfl,hbb,hb2⟩;have H2:=hid (And.intro hbb (H1.out.step hb2));clear hbb hb2))
   go_ret
   exact ⟨false,rfl,⟨(fun h=>by cases h),fun h=>absurd h HN.out⟩,H0.out.below⟩
 ·have z0:(ak == bk)=false:=by simpa using q0
  have HN:=hid (show ¬ SS from fun hs=>q0 (by have h:=HSS.out.1 hs;exact h.1))
  clear q0;go_enter Tryz.func103,Tryz.ntmps103
  go_wp2_with (first
   | (go_at_call 128;refine (HE.out _ H0.out.below).mono ?_;rintro e w1 ⟨rfl,hb1⟩;have H1:=hid (H0.out.step hb1);obtain ⟨a0,a1,a2,a3,a4,a5,a6,a7,a8,a9,a10,a11,_⟩:=H1.out.a.tw;obtain ⟨e0,e1,e2,e3,e4,e5,e6,e7,e8,e9,e10,e11,_⟩:=H1.out.b.tw;clear hb1)
   | (go_at_call 129;refine (HV.out _ H1.out.below).mono ?_;rintro e w2 ⟨bb,rfl,hbb,hb2⟩;have H2:=hid (And.intro hbb (H1.out.step hb2));clear hbb hb2))
  go_ret
  exact ⟨false,rfl,⟨(fun h=>by cases h),fun h=>absurd h HN.out⟩,H0.out.below⟩
end Go.Proofs.YthmcfjmignlhfaaGreatDoor
namespace Go.Proofs.YthmcfjmignlhfaaGreatDoor
open Go.Lib(hid)
open Go Go.RowKit
set_option linter.unusedVariables false
set_option linter.unusedSimpArgs false
theorem zca {W:World} {b:Nat}:∀ {ps:List GStep} {off:Nat},(∀ i s,ps[i]? = some s->W.cell? ⟨b,off+i * 3,none⟩=some (.bool s.list)/\W.cell? ⟨b,off+i * 3+1,none⟩=some (.int .i64 s.i)/\W.cell? ⟨b,off+i * 3+2,none⟩=some (.string s.key))->∀ (j:Nat) (u:Value),(ps.flatMap encG)[j]? = some u->W.cell? ⟨b,off+j,none⟩=some u
 | [],_,_,j,u,h=>by simp at h
 | s :: r,off,hs,j,u,h=>by
  have h0:=hs 0 s rfl;rw [Nat.zero_mul,Nat.add_zero] at h0
  match j,h with
  | 0,h=>simp [encG] at h;subst h;exact h0.1
  | 1,h=>simp [encG] at h;subst h;exact h0.2.1
  | 2,h=>simp [encG] at h;subst h;exact h0.2.2
  | j+3,h=>
   have:=zca (ps:=r) (off:=off+3) (fun i t hi=>by
    have h3:=hs (i+1) t (by simpa using hi)
    rwa [show off+(i+1) * 3=off+3+i * 3 by omega] at h3) j u (by simpa [encG] using h)
   rwa [show off+3+j=off+(j+3) by omega] at this
theorem zdM {W:World} {b:Nat}:∀ {ps:List GStep} {off:Nat},(∀ (j:Nat) (u:Value),(ps.flatMap encG)[j]? = some u->W.cell? ⟨b,off+j,none⟩=some u)->∀ i s,ps[i]? = some s->W.cell? ⟨b,off+i * 3,none⟩=some (.bool s.list)/\W.cell? ⟨b,off+i * 3+1,none⟩=some (.int .i64 s.i)/\W.cell? ⟨b,off+i * 3+2,none⟩=some (.string s.key)
 | [],_,_,i,s,h=>by simp at h
 | t :: r,off,hc,0,s,h=>by
  simp at h;subst h
  exact ⟨by simpa using hc 0 _ rfl,by simpa using hc 1 _ rfl,by simpa using hc 2 _ rfl⟩
 | t :: r,off,hc,i+1,s,h=>by
  have:=zdM (ps:=r) (off:=off+3) (fun j u hj=>by
   have h3:=hc (j+3) u (by simpa [encG] using hj)
   rwa [show off+(j+3)=off+3+j by omega] at h3) i s (by simpa using h)
  rwa [show off+3+i * 3=off+(i+1) * 3 by omega] at this
theorem zde:∀ (ps:List GStep),(ps.flatMap encG).length=ps.length * 3
 | []=>rfl
 | s :: r=>by simp [zde r,encG];omega
theorem zeW:∀ (ps:List GStep),∀ u∈ps.flatMap encG,u.oneCell'=true:=fun ps u hu=>by
 obtain ⟨s,_,h⟩:=List.mem_flatMap.1 hu;simp only [encG,List.mem_cons,List.mem_nil_iff,or_false] at h;rcases h with rfl | rfl | rfl<;>rfl
theorem zeG {W:World} {p:Addr} {v:Value} (h:W.cell? p=some v) (q:Addr):(W.setCell p v).cell? q=W.cell? q:=by
 by_cases e:q=p
 ·subst e;rw [World.cell?_setCell_same' _ _ _ (by rw [h];rfl),h]
 ·exact World.cell?_setCell_other _ _ _ _ (Ne.symm e)
def FPRel (w:World) (ps:List GStep) (i:Value) (wr:World):Prop:=∃ k:Nat,i=.int .i64 k/\k<=ps.length/\Below w.heap.size w wr/\(∃ cs,Whole wr w.heap.size 102 cs)/\StepsAt wr ⟨w.heap.size,0,none⟩ ps
theorem zhr (A cp ps w) (hp:Wy w A cp ps) (hn:ps.length<=1000000000) (hk:∀ s∈ps,s.key.size<=281474976710656):
  Calls Tryz.prog 95 #[.slice A ps.length cp] w fun e w'=>∃ B d,e=.returned (.slice B ps.length d)/\(Wy w' B d ps/\∀ p,B=some p->w.heap.size<=p.block)/\Below w.heap.size w w':=by
 cases A with
 | none=>
  have h0:ps=[]:=by
   by_cases h:ps=[]
   ·exact h
   ·obtain ⟨a,e,_⟩:=hp.steps h;cases e
  subst h0;have hnil:=fun (w:World)=>Go.Lib.run_eql_slice_nil (P:=Tryz.prog) w 41 102 none 0 cp 0 0 Tryz.underlying41
  simp only [List.length_nil] at hp ⊢;clear hp hn hk;go_enter Tryz.func95,Tryz.ntmps95
  go_wp2
  go_ret
  exact ⟨none,0,rfl,⟨zc9 _,fun p h=>by cases h⟩,Below.refl _ _⟩
 | some a=>
  have hcells:∀ (j:Nat) (u:Value),(ps.flatMap encG)[j]? = some u->a.block<w.heap.size/\w.cell? (a.add j)=some u:=fun j u hj=>by
   have hne:ps≠[]:=by intro e;rw [e] at hj;simp at hj
   obtain ⟨⟨b,o,sp⟩,e,hs,hlt,hc⟩:=hp.steps hne;cases e
   simp only at hs;subst hs;have:=zca hc j u hj;have e:(⟨b,o,none⟩:Addr).add j =⟨b,o+j,none⟩:=by unfold Addr.add;split<;>simp_all
   rw [e];exact ⟨hlt,this⟩
  have hlen:=zde ps;have h1:=zeW ps;obtain ⟨i0,hi,hz0,hz1,hz2⟩:=info_parts infoStep;have hnil:=fun (w:World)=>Go.Lib.run_eql_slice_nil (P:=Tryz.prog) w 41 102 (some a) ps.length cp 0 0 Tryz.underlying41
  have hmk:∀ w:World,(Instr.makeSlice 41 (.int .i64 (ps.length:Int)) (.int .i64 (ps.length:Int))).run Tryz.prog w=.ok (.slice (some ⟨w.heap.size,0,none⟩) ps.length ps.length) (w.alloc (.cells (madeCells (Value.cells (.agg #[.bool false,.int .i64 0,.string ⟨#[]⟩])) (ps.length * 3)) 102)):=fun w=>by
   have:=run_make (P:=Tryz.prog) w 41 102 i0 _ Tryz.underlying41 hi hz0 .i64 .i64 ps.length ps.length (by omega) (Int.le_refl _) (by rw [hz2];omega) (by omega)
   simpa [hz1] using this
  have HS:=hid (And.intro hi (And.intro hz1 hlen));have HC:Hid (∀ (ob:Obj) (j:Nat) (u:Value),(ps.flatMap encG)[j]? = some u->(w.alloc ob).cell? (a.add j)=some u):=fun ob j u hj=>by
   obtain ⟨hlt,h⟩:=hcells j u hj;exact ((zaa w ob).cell (by rw [show (a.add j).block=a.block by unfold Addr.add;split<;>rfl];exact hlt)).trans h
  have H1:=hid h1;have HK:=hid hk;clear hi hz0 hz1 hz2 hlen h1 hcells hp hk;go_enter Tryz.func95,Tryz.ntmps95
  go_wp2_with (with_reducible refine za7 _ rfl (.tmp 10) (.tmp 11) 41 41 rfl 102 i0 w.heap.size ps.length ps.length cp a _ 102 (ps.flatMap encG) rfl rfl Tryz.underlying41 HS.out.1 (heap_alloc_new w _) ?c1 (HC.out _) ?c2 H1.out ?_)
  case c1=>rw [HS.out.2.1];exact HS.out.2.2
  case c2=>rw [size_madeCells];exact HS.out.2.2.symm
  go_loopw [4,15] (fun _ i wr=>FPRel w ps i wr) (fun _ i _=>ps.length - (intOf i).toNat)
  case atStart=>
   have hwh:=setRow_heap _ _ _ (ps.flatMap encG).toArray _ _ (heap_alloc_new w (.cells (madeCells #[.bool false,.int .i64 0,.string ⟨#[]⟩] (ps.length * 3)) 102));exact ⟨0,rfl,Nat.zero_le _,((Below.refl w.heap.size w).alloc (Nat.le_refl _) _).trans ⟨rfl,rfl,rfl,by simp [World.setRow],fun k hk=>setRow_other _ _ _ _ (by omega)⟩,⟨_,hwh⟩,zdM (fun j u hj=>by rw [Nat.zero_add,Whole.cell (t:=102) (cs:=(ps.flatMap encG).toArray) hwh];simpa using hj)⟩
  case round=>
   obtain ⟨k,rfl,hk,hB,⟨cs,hwh⟩,hst⟩:=hrel;by_cases hlt:k<ps.length
   ·have hone:=(hst k ps[k] (List.getElem?_eq_getElem hlt)).2.2
    simp only [Nat.zero_add] at hone;have hkl:=HK.out ps[k] (List.getElem_mem hlt);have HH:=hid (And.intro hB (And.intro hwh hst));have hHN:=hid hone;have hlw:=hwh.lt;clear hB hwh hst;generalize ps[k].key=kk at *
    go_wp2_with (go_at_call 96;refine (zbb kk _ hkl).mono ?_;rintro e w2 ⟨rfl,hb⟩;have HW2:=hid (And.intro hb (HH.out.2.1.below hb HH.out.2.1.lt));have hon2:w2.cell? ⟨w.heap.size,k * 3+2,none⟩=some (.string kk):=(hb.cell (p:=⟨w.heap.size,k * 3+2,none⟩) hlw).trans hHN.out;have hfz:=HW2.out.2.frozen (k * 3+2);clear hb)
    go_roundw
    case rel=>
     refine ⟨k+1,by go_num,by omega,?_,⟨_,HW2.out.2.put (k * 3+2) (.string kk)⟩,fun i s hi=>?_⟩
     ·exact (HH.out.1.trans (HW2.out.1.mono HH.out.1.size)).setCell (p:=⟨w.heap.size,k * 3+2,none⟩) (Nat.le_refl _) _
     ·obtain ⟨h0,h1,h2⟩:=HH.out.2.2 i s hi
      simp only at h0 h1 h2 ⊢;exact ⟨(zeG hon2 _).trans ((HW2.out.1.cell (p:=⟨w.heap.size,0+i * 3,none⟩) HH.out.2.1.lt).trans h0),(zeG hon2 _).trans ((HW2.out.1.cell (p:=⟨w.heap.size,0+i * 3+1,none⟩) HH.out.2.1.lt).trans h1),(zeG hon2 _).trans ((HW2.out.1.cell (p:=⟨w.heap.size,0+i * 3+2,none⟩) HH.out.2.1.lt).trans h2)⟩
    case measure=>simp [intOf];omega
   ·have hk':k=ps.length:=by omega
    have HH:=hid (And.intro hB (And.intro hwh hst));clear hB hwh hst;go_wp2
    go_ret
    exact ⟨some ⟨w.heap.size,0,none⟩,ps.length,rfl,⟨⟨fun _=>⟨_,rfl,rfl,HH.out.2.1.lt,HH.out.2.2⟩,Nat.le_refl _,by unfold maxLen;omega⟩,fun p h=>by cases h;exact Nat.le_refl _⟩,HH.out.1⟩
def Kp (n:Nat) (w1 W:World):Prop:=w1.heap.size<=W.heap.size/\∀ k,n<=k->k<w1.heap.size->W.heap[k]? = w1.heap[k]?
theorem Kp.refl (n:Nat) (w:World):Kp n w w:=⟨Nat.le_refl _,fun _ _ _=>rfl⟩
theorem Kp.set {n w1 W} (h:Kp n w1 W) {p:Addr} (hp:p.block<n) (u:Value):Kp n w1 (W.setCell p u):=⟨by rw [zaT];exact h.1,fun k hk hl=>by rw [Below.heap_setCell W p u k (by omega)];exact h.2 k hk hl⟩
theorem Kp.below {n} {w1 W W':World} (h:Kp n w1 W) (hb:Below W.heap.size W W'):Kp n w1 W':=⟨Nat.le_trans h.1 hb.size,fun k hk hl=>(hb.block k (Nat.lt_of_lt_of_le hl h.1)).trans (h.2 k hk hl)⟩
theorem Kp.trans {n w1 W W'} (h:Kp n w1 W) (k:Kp n W W'):Kp n w1 W':=⟨Nat.le_trans h.1 k.1,fun i hi hl=>(k.2 i hi (Nat.lt_of_lt_of_le hl h.1)).trans (h.2 i hi hl)⟩
theorem Wy.kp {n:Nat} {W W' A cp ps} (h:Wy W A cp ps) (hA:∀ p,A=some p->n<=p.block) (hk:Kp n W W'):Wy W' A cp ps:=⟨fun hne=>by
 obtain ⟨a,e,hs,hl,hc⟩:=h.steps hne;have hb:=hk.2 a.block (hA a e) hl;exact ⟨a,e,hs,Nat.lt_of_lt_of_le hl hk.1,fun i s hi=>by
  obtain ⟨h0,h1,h2⟩:=hc i s hi;exact ⟨(World.cell?_of_block (a:=⟨a.block,_,none⟩) hb).trans h0,(World.cell?_of_block (a:=⟨a.block,_,none⟩) hb).trans h1,(World.cell?_of_block (a:=⟨a.block,_,none⟩) hb).trans h2⟩⟩,h.le,h.cap⟩
theorem CTwo.putA {w W:World} {ca cb:Array Value} (h:CTwo w W ca cb) (i:Nat) (u:Value):CTwo w (W.setCell ⟨w.heap.size,i,none⟩ u) (ca.setIfInBounds i u) cb:=
 ⟨h.a.put i u,h.b.far (by simp) u,h.below.setCell (Nat.le_refl _) u⟩
theorem put12 {W b} {t:TypeId} {z0 z1 z2 z3 z4 z5 z6 z7 z8 z9 z10 z11:Value} (h:Whole W b t #[z0,z1,z2,z3,z4,z5,z6,z7,z8,z9,z10,z11]) (a0 a1 a2 a3 a4 a5 a6 a7 a8 a9 a10 a11:Value):Whole ((((((((((((W.setCell ⟨b,0,none⟩ a0).setCell ⟨b,1,none⟩ a1).setCell ⟨b,2,none⟩ a2).setCell ⟨b,3,none⟩ a3).setCell ⟨b,4,none⟩ a4).setCell ⟨b,5,none⟩ a5).setCell ⟨b,6,none⟩ a6).setCell ⟨b,7,none⟩ a7).setCell ⟨b,8,none⟩ a8).setCell ⟨b,9,none⟩ a9).setCell ⟨b,10,none⟩ a10).setCell ⟨b,11,none⟩ a11) b t #[a0,a1,a2,a3,a4,a5,a6,a7,a8,a9,a10,a11]:=by
 have h1:Whole _ b t #[a0,z1,z2,z3,z4,z5,z6,z7,z8,z9,z10,z11]:=h.put 0 a0;have h2:Whole _ b t #[a0,a1,z2,z3,z4,z5,z6,z7,z8,z9,z10,z11]:=h1.put 1 a1;have h3:Whole _ b t #[a0,a1,a2,z3,z4,z5,z6,z7,z8,z9,z10,z11]:=h2.put 2 a2;have h4:Whole _ b t #[a0,a1,a2,a3,z4,z5,z6,z7,z8,z9,z10,z11]:=h3.put 3 a3;have h5:Whole _ b t #[a0,a1,a2,a3,a4,z5,z6,z7,z8,z9,z10,z11]:=h4.put 4 a4;have h6:Whole _ b t #[a0,a1,a2,a3,a4,a5,z6,z7,z8,z9,z10,z11]:=h5.put 5 a5;have h7:Whole _ b t #[a0,a1,a2,a3,a4,a5,a6,z7,z8,z9,z10,z11]:=h6.put 6 a6;have h8:Whole _ b t #[a0,a1,a2,a3,a4,a5,a6,a7,z8,z9,z10,z11]:=h7.put 7 a7;have h9:Whole _ b t #[a0,a1,a2,a3,a4,a5,a6,a7,a8,z9,z10,z11]:=h8.put 8 a8;have h10:Whole _ b t #[a0,a1,a2,a3,a4,a5,a6,a7,a8,a9,z10,z11]:=h9.put 9 a9;have h11:Whole _ b t #[a0,a1,a2,a3,a4,a5,a6,a7,a8,a9,a10,z11]:=h10.put 10 a10;have h12:Whole _ b t #[a0,a1,a2,a3,a4,a5,a6,a7,a8,a9,a10,a11]:=h11.put 11 a11;exact h12
end Go.Proofs.YthmcfjmignlhfaaGreatDoor
namespace Go.Proofs.YthmcfjmignlhfaaGreatDoor
open Go.Lib(hid)
open Go Go.RowKit
set_option linter.unusedVariables false
set_option linter.unusedSimpArgs false
def VOk (g:GV):Prop:=g.Sound/\g.deep<=6/\g.weight<=6000/\g.Asc
def BuildA (W:World) (e:Ending) (w':World):Prop:=
 ∃ (g:GV) (BL BO:Option Addr) (dL dO:Nat),e=.returned (.agg #[.int .u8 g.kq,.int .i64 g.num,.string g.str,.slice BL g.il.length dL,.slice BO g.vz.length dO])/\(LstV (fun k=>W.heap.size<=k) w' (.slice BL g.il.length dL) g.il/\ObjV (fun k=>W.heap.size<=k) w' (.slice BO g.vz.length dO) g.keys g.vz)/\VOk g/\Below W.heap.size W w'
theorem zkw (hi:Nat) (A) (cap:Nat) (ts:List GTok) (w:World) (hcap:ts.length<=cap) (hm:cap<=maxLen) (hhi:hi<=w.heap.size) (hT:Toks hi w A ts)
  (hr:∀ t∈ts,0<=t.k/\t.k<=255/\0<=t.m/\t.m<=255) (hss:∀ t∈ts,t.s.size<=140737488351232):Calls Tryz.prog 11 #[.slice A ts.length cap] w (BuildA w):=
 (zhV hi A cap ts w hcap hm hhi hT hr hss).mono fun e w' ⟨g,v,he,hv,hg,hw,hb⟩=>by
  obtain ⟨L,O,rfl,hL,hO⟩:=hv;obtain ⟨BL,dL,rfl⟩:=zaf hL;obtain ⟨BO,dO,rfl⟩:=zag hO;exact ⟨g,BL,BO,dL,dO,he,⟨hL,hO⟩,⟨hg.1,by have:=hg.2.1;omega,hw,hg.2.2.2⟩,hb⟩
theorem zlr:VOk noG:=⟨by simp [noG,GV.Sound,GV.Sounds,SelfP],by simp [noG,GV.deep,GV.deeps],by unfold noG;simp only [GV.weight,GV.weights,List.map_nil,List.sum_nil];decide,by simp [noG,GV.Asc,GV.Ascs,zb0]⟩
end Go.Proofs.YthmcfjmignlhfaaGreatDoor
