/- Copy of a component, the program's. -/
import Derived.Test.YtlhfnemcpgfcdaaDoorQ17
import Derived.Test.YtlhfnemcpgfcdaaDoorQ13
set_option maxRecDepth 100000
set_option maxHeartbeats 16000000
namespace Go.Proofs.YtlhfnemcpgfcdaaDoor
open Go Go.RowKit
set_option linter.unusedVariables false
set_option linter.unusedSimpArgs false
theorem steps_cells {W:World} {b:Nat}:∀ {ps:List GStep} {off:Nat},(∀ i s,ps[i]? = some s→W.cell? ⟨b,off+i * 3,none⟩=some (.bool s.list)∧W.cell? ⟨b,off+i * 3+1,none⟩=some (.int .i64 s.i)∧W.cell? ⟨b,off+i * 3+2,none⟩=some (.string s.key))→∀ (j:Nat) (u:Value),(ps.flatMap encG)[j]? = some u→W.cell? ⟨b,off+j,none⟩=some u
 | [],_,_,j,u,h=>by simp at h
 | s :: r,off,hs,j,u,h=>by
  have h0:=hs 0 s rfl
  rw [Nat.zero_mul,Nat.add_zero] at h0
  match j,h with
  | 0,h=>simp [encG] at h;subst h;exact h0.1
  | 1,h=>simp [encG] at h;subst h;exact h0.2.1
  | 2,h=>simp [encG] at h;subst h;exact h0.2.2
  | j+3,h=>
   have:=steps_cells (ps:=r) (off:=off+3) (fun i t hi=>by
    have h3:=hs (i+1) t (by simpa using hi)
    rwa [show off+(i+1) * 3=off+3+i * 3 by omega] at h3) j u (by simpa [encG] using h)
   rwa [show off+3+j=off+(j+3) by omega] at this
theorem cells_steps {W:World} {b:Nat}:∀ {ps:List GStep} {off:Nat},(∀ (j:Nat) (u:Value),(ps.flatMap encG)[j]? = some u→W.cell? ⟨b,off+j,none⟩=some u)→∀ i s,ps[i]? = some s→W.cell? ⟨b,off+i * 3,none⟩=some (.bool s.list)∧W.cell? ⟨b,off+i * 3+1,none⟩=some (.int .i64 s.i)∧W.cell? ⟨b,off+i * 3+2,none⟩=some (.string s.key)
 | [],_,_,i,s,h=>by simp at h
 | t :: r,off,hc,0,s,h=>by
  simp at h;subst h
  exact ⟨by simpa using hc 0 _ rfl,by simpa using hc 1 _ rfl,by simpa using hc 2 _ rfl⟩
 | t :: r,off,hc,i+1,s,h=>by
  have:=cells_steps (ps:=r) (off:=off+3) (fun j u hj=>by
   have h3:=hc (j+3) u (by simpa [encG] using hj)
   rwa [show off+(j+3)=off+3+j by omega] at h3) i s (by simpa using h)
  rwa [show off+3+i * 3=off+(i+1) * 3 by omega] at this
theorem flat_len:∀ (ps:List GStep),(ps.flatMap encG).length=ps.length * 3
 | []=>rfl
 | s :: r=>by simp [flat_len r,encG];omega
theorem flat_one:∀ (ps:List GStep),∀ u∈ps.flatMap encG,u.oneCell'=true:=fun ps u hu=>by
 obtain ⟨s,_,h⟩:=List.mem_flatMap.1 hu
 simp only [encG,List.mem_cons,List.mem_nil_iff,or_false] at h
 rcases h with rfl | rfl | rfl<;>rfl
theorem put_same {W:World} {p:Addr} {v:Value} (h:W.cell? p=some v) (q:Addr):(W.setCell p v).cell? q=W.cell? q:=by
 by_cases e:q=p
 ·subst e;rw [World.cell?_setCell_same' _ _ _ (by rw [h];rfl),h]
 ·exact World.cell?_setCell_other _ _ _ _ (Ne.symm e)
def FPRel (w:World) (ps:List GStep) (i:Value) (wr:World):Prop:=∃ k:Nat,i=.int .i64 k∧k≤ps.length∧Below w.heap.size w wr∧(∃ cs,Whole wr w.heap.size 50 cs)∧StepsAt wr ⟨w.heap.size,0,none⟩ ps
theorem fresh_path (A:Option Addr) (cp:Nat) (ps:List GStep) (w:World) (hp:Wy w A cp ps) (hn:ps.length≤1000000000) (hk:∀ s∈ps,s.key.size≤281474976710656):
  Calls Tryd.prog 41 #[.slice A ps.length cp] w fun e w'=>∃ B d,e=.returned (.slice B ps.length d)∧(Wy w' B d ps∧∀ p,B=some p→w.heap.size≤p.block)∧Below w.heap.size w w':=by
 cases A with
 | none=>
  have h0:ps=[]:=by
   by_cases h:ps=[]
   ·exact h
   ·obtain ⟨a,e,_⟩:=hp.steps h;cases e
  subst h0
  have hnil:=fun (w:World)=>Go.Lib.run_eql_slice_nil (P:=Tryd.prog) w 34 50 none 0 cp 0 0 Tryd.underlying34
  simp only [List.length_nil] at hp ⊢
  clear hp hn hk
  go_enter Tryd.func41,Tryd.ntmps41
  go_wp2
  go_ret
  exact ⟨none,0,rfl,⟨wy_nil _,fun p h=>by cases h⟩,Below.refl _ _⟩
 | some a=>
  have hcells:∀ (j:Nat) (u:Value),(ps.flatMap encG)[j]? = some u→a.block<w.heap.size∧w.cell? (a.add j)=some u:=fun j u hj=>by
   have hne:ps≠[]:=by intro e;rw [e] at hj;simp at hj
   obtain ⟨⟨b,o,sp⟩,e,hs,hlt,hc⟩:=hp.steps hne
   cases e
   simp only at hs
   subst hs
   have:=steps_cells hc j u hj
   have e:(⟨b,o,none⟩:Addr).add j =⟨b,o+j,none⟩:=by unfold Addr.add;split<;>simp_all
   rw [e];exact ⟨hlt,this⟩
  have hlen:=flat_len ps
  have h1:=flat_one ps
  obtain ⟨i0,hi,hz0,hz1,hz2⟩:=info_parts infoStep
  have hnil:=fun (w:World)=>Go.Lib.run_eql_slice_nil (P:=Tryd.prog) w 34 50 (some a) ps.length cp 0 0 Tryd.underlying34
  have hmk:∀ w:World,(Instr.makeSlice 34 (.int .i64 (ps.length:Int)) (.int .i64 (ps.length:Int))).run Tryd.prog w=.ok (.slice (some ⟨w.heap.size,0,none⟩) ps.length ps.length) (w.alloc (.cells (madeCells (Value.cells (.agg #[.bool false,.int .i64 0,.string ⟨#[]⟩])) (ps.length * 3)) 50)):=fun w=>by
   have:=run_make (P:=Tryd.prog) w 34 50 i0 _ Tryd.underlying34 hi hz0 .i64 .i64 ps.length ps.length (by omega) (Int.le_refl _) (by rw [hz2];omega) (by omega)
   simpa [hz1] using this
  have HS:=Lib.hid (And.intro hi (And.intro hz1 hlen))
  have HC:Hid (∀ (ob:Obj) (j:Nat) (u:Value),(ps.flatMap encG)[j]? = some u→(w.alloc ob).cell? (a.add j)=some u):=fun ob j u hj=>by
   obtain ⟨hlt,h⟩:=hcells j u hj
   exact ((below_alloc w ob).cell (by rw [show (a.add j).block=a.block by unfold Addr.add;split<;>rfl];exact hlt)).trans h
  have H1:=Lib.hid h1
  have HK:=Lib.hid hk
  clear hi hz0 hz1 hz2 hlen h1 hcells hp hk
  go_enter Tryd.func41,Tryd.ntmps41
  go_wp2_with (with_reducible refine wpList_copy_mine _ rfl (.tmp 10) (.tmp 11) 34 34 rfl 50 i0 w.heap.size ps.length ps.length cp a _ 50 (ps.flatMap encG) rfl rfl Tryd.underlying34 HS.out.1 (heap_alloc_new w _) ?c1 (HC.out _) ?c2 H1.out ?_)
  case c1=>rw [HS.out.2.1];exact HS.out.2.2
  case c2=>rw [size_madeCells];exact HS.out.2.2.symm
  go_loopw [4,15] (fun _ i wr=>FPRel w ps i wr) (fun _ i _=>ps.length - (intOf i).toNat)
  case atStart=>
   have hwh:=setRow_heap _ _ _ (ps.flatMap encG).toArray _ _ (heap_alloc_new w (.cells (madeCells #[.bool false,.int .i64 0,.string ⟨#[]⟩] (ps.length * 3)) 50))
   exact ⟨0,rfl,Nat.zero_le _,((Below.refl w.heap.size w).alloc (Nat.le_refl _) _).trans ⟨rfl,rfl,rfl,by simp [World.setRow],fun k hk=>setRow_other _ _ _ _ (by omega)⟩,⟨_,hwh⟩,cells_steps (fun j u hj=>by rw [Nat.zero_add,Whole.cell (t:=50) (cs:=(ps.flatMap encG).toArray) hwh];simpa using hj)⟩
  case round=>
   obtain ⟨k,rfl,hk,hB,⟨cs,hwh⟩,hst⟩:=hrel
   by_cases hlt:k<ps.length
   ·have hone:=(hst k ps[k] (List.getElem?_eq_getElem hlt)).2.2
    simp only [Nat.zero_add] at hone
    have hkl:=HK.out ps[k] (List.getElem_mem hlt)
    have HH:=Lib.hid (And.intro hB (And.intro hwh hst))
    have hHN:=Lib.hid hone
    have hlw:=hwh.lt
    clear hB hwh hst
    generalize ps[k].key=kk at *
    go_wp2_with (go_at_call 42;refine (call_clone kk _ hkl).mono ?_;rintro e w2 ⟨rfl,hb⟩;have HW2:=Lib.hid (And.intro hb (HH.out.2.1.below hb HH.out.2.1.lt));have hon2:w2.cell? ⟨w.heap.size,k * 3+2,none⟩=some (.string kk):=(hb.cell (p:=⟨w.heap.size,k * 3+2,none⟩) hlw).trans hHN.out;have hfz:=HW2.out.2.frozen (k * 3+2);clear hb)
    go_roundw
    case rel=>
     refine ⟨k+1,by go_num,by omega,?_,⟨_,HW2.out.2.put (k * 3+2) (.string kk)⟩,fun i s hi=>?_⟩
     ·exact (HH.out.1.trans (HW2.out.1.mono HH.out.1.size)).setCell (p:=⟨w.heap.size,k * 3+2,none⟩) (Nat.le_refl _) _
     ·obtain ⟨h0,h1,h2⟩:=HH.out.2.2 i s hi
      simp only at h0 h1 h2 ⊢
      exact ⟨(put_same hon2 _).trans ((HW2.out.1.cell (p:=⟨w.heap.size,0+i * 3,none⟩) HH.out.2.1.lt).trans h0),(put_same hon2 _).trans ((HW2.out.1.cell (p:=⟨w.heap.size,0+i * 3+1,none⟩) HH.out.2.1.lt).trans h1),(put_same hon2 _).trans ((HW2.out.1.cell (p:=⟨w.heap.size,0+i * 3+2,none⟩) HH.out.2.1.lt).trans h2)⟩
    case measure=>simp [intOf];omega
   ·have hk':k=ps.length:=by omega
    have HH:=Lib.hid (And.intro hB (And.intro hwh hst))
    clear hB hwh hst
    go_wp2
    go_ret
    exact ⟨some ⟨w.heap.size,0,none⟩,ps.length,rfl,⟨⟨fun _=>⟨_,rfl,rfl,HH.out.2.1.lt,HH.out.2.2⟩,Nat.le_refl _,by unfold maxLen;omega⟩,fun p h=>by cases h;exact Nat.le_refl _⟩,HH.out.1⟩
def Kp (n:Nat) (w1 W:World):Prop:=w1.heap.size≤W.heap.size∧∀ k,n≤k→k<w1.heap.size→W.heap[k]? = w1.heap[k]?
theorem Kp.refl (n:Nat) (w:World):Kp n w w:=⟨Nat.le_refl _,fun _ _ _=>rfl⟩
theorem Kp.set {n:Nat} {w1 W:World} (h:Kp n w1 W) {p:Addr} (hp:p.block<n) (u:Value):Kp n w1 (W.setCell p u):=⟨by rw [size_set];exact h.1,fun k hk hl=>by rw [Below.heap_setCell W p u k (by omega)];exact h.2 k hk hl⟩
theorem Kp.below {n:Nat} {w1 W W':World} (h:Kp n w1 W) (hb:Below W.heap.size W W'):Kp n w1 W':=⟨Nat.le_trans h.1 hb.size,fun k hk hl=>(hb.block k (Nat.lt_of_lt_of_le hl h.1)).trans (h.2 k hk hl)⟩
theorem Kp.trans {n:Nat} {w1 W W':World} (h:Kp n w1 W) (k:Kp n W W'):Kp n w1 W':=⟨Nat.le_trans h.1 k.1,fun i hi hl=>(k.2 i hi (Nat.lt_of_lt_of_le hl h.1)).trans (h.2 i hi hl)⟩
theorem Wy.kp {n:Nat} {W W':World} {A:Option Addr} {cp:Nat} {ps:List GStep} (h:Wy W A cp ps) (hA:∀ p,A=some p→n≤p.block) (hk:Kp n W W'):Wy W' A cp ps:=⟨fun hne=>by
 obtain ⟨a,e,hs,hl,hc⟩:=h.steps hne
 have hb:=hk.2 a.block (hA a e) hl
 exact ⟨a,e,hs,Nat.lt_of_lt_of_le hl hk.1,fun i s hi=>by
  obtain ⟨h0,h1,h2⟩:=hc i s hi
  exact ⟨(World.cell?_of_block (a:=⟨a.block,_,none⟩) hb).trans h0,(World.cell?_of_block (a:=⟨a.block,_,none⟩) hb).trans h1,(World.cell?_of_block (a:=⟨a.block,_,none⟩) hb).trans h2⟩⟩,h.le,h.cap⟩
theorem CTwo.putA {w W:World} {ca cb:Array Value} (h:CTwo w W ca cb) (i:Nat) (u:Value):CTwo w (W.setCell ⟨w.heap.size,i,none⟩ u) (ca.setIfInBounds i u) cb:=
 ⟨h.a.put i u,h.b.far (by simp) u,h.below.setCell (Nat.le_refl _) u⟩
theorem put12 {W:World} {b:Nat} {t:TypeId} {z0 z1 z2 z3 z4 z5 z6 z7 z8 z9 z10 z11:Value} (h:Whole W b t #[z0,z1,z2,z3,z4,z5,z6,z7,z8,z9,z10,z11]) (a0 a1 a2 a3 a4 a5 a6 a7 a8 a9 a10 a11:Value):Whole ((((((((((((W.setCell ⟨b,0,none⟩ a0).setCell ⟨b,1,none⟩ a1).setCell ⟨b,2,none⟩ a2).setCell ⟨b,3,none⟩ a3).setCell ⟨b,4,none⟩ a4).setCell ⟨b,5,none⟩ a5).setCell ⟨b,6,none⟩ a6).setCell ⟨b,7,none⟩ a7).setCell ⟨b,8,none⟩ a8).setCell ⟨b,9,none⟩ a9).setCell ⟨b,10,none⟩ a10).setCell ⟨b,11,none⟩ a11) b t #[a0,a1,a2,a3,a4,a5,a6,a7,a8,a9,a10,a11]:=by
 have h1:Whole _ b t #[a0,z1,z2,z3,z4,z5,z6,z7,z8,z9,z10,z11]:=h.put 0 a0
 have h2:Whole _ b t #[a0,a1,z2,z3,z4,z5,z6,z7,z8,z9,z10,z11]:=h1.put 1 a1
 have h3:Whole _ b t #[a0,a1,a2,z3,z4,z5,z6,z7,z8,z9,z10,z11]:=h2.put 2 a2
 have h4:Whole _ b t #[a0,a1,a2,a3,z4,z5,z6,z7,z8,z9,z10,z11]:=h3.put 3 a3
 have h5:Whole _ b t #[a0,a1,a2,a3,a4,z5,z6,z7,z8,z9,z10,z11]:=h4.put 4 a4
 have h6:Whole _ b t #[a0,a1,a2,a3,a4,a5,z6,z7,z8,z9,z10,z11]:=h5.put 5 a5
 have h7:Whole _ b t #[a0,a1,a2,a3,a4,a5,a6,z7,z8,z9,z10,z11]:=h6.put 6 a6
 have h8:Whole _ b t #[a0,a1,a2,a3,a4,a5,a6,a7,z8,z9,z10,z11]:=h7.put 7 a7
 have h9:Whole _ b t #[a0,a1,a2,a3,a4,a5,a6,a7,a8,z9,z10,z11]:=h8.put 8 a8
 have h10:Whole _ b t #[a0,a1,a2,a3,a4,a5,a6,a7,a8,a9,z10,z11]:=h9.put 9 a9
 have h11:Whole _ b t #[a0,a1,a2,a3,a4,a5,a6,a7,a8,a9,a10,z11]:=h10.put 10 a10
 have h12:Whole _ b t #[a0,a1,a2,a3,a4,a5,a6,a7,a8,a9,a10,a11]:=h11.put 11 a11
 exact h12
def SameNew (c:GC) (w:World) (e:Ending) (w':World):Prop:=∃ B AL AO cp cL cO,e=.returned (.agg #[.int .u8 c.kind,.slice B c.path.length cp,.string c.key,.int .i64 c.i,.int .i64 c.j,.int .i64 c.n,.int .u8 c.v.kind,.int .i64 c.v.num,.string c.v.str,.slice AL c.v.items.length cL,.slice AO c.v.vals.length cO,.string c.s])∧Cc w' c B AL AO cp cL cO∧Below w.heap.size w w'
theorem comp_Copy (c:GC) (A AL AO:Option Addr) (cp cL cO:Nat) (w:World) (hc:Cc w c A AL AO cp cL cO) (hw:c.v.weight≤1000000000) (hpl:c.path.length≤1000000000) (hky:c.key.size≤281474976710656) (hs:c.s.size≤281474976710656) (hpk:∀ s∈c.path,s.key.size≤281474976710656):
  Calls Tryd.prog 27 #[.agg #[.int .u8 c.kind,.slice A c.path.length cp,.string c.key,.int .i64 c.i,.int .i64 c.j,.int .i64 c.n,.int .u8 c.v.kind,.int .i64 c.v.num,.string c.v.str,.slice AL c.v.items.length cL,.slice AO c.v.vals.length cO,.string c.s]] w (SameNew c w):=by
 have HFP:=Lib.hid (fun W (hb:Below w.heap.size w W)=>fresh_path A cp c.path W (hc.path.later hb) hpl hpk)
 have HCP:=Lib.hid (fun W (hb:Below w.heap.size w W)=>(val_Copy (fun _=>True) _ c.v W (hc.v.later hb).val hw).mono (R':=fun e w'=>∃ (XL XO:Option Addr) (xL xO:Nat),e=.returned (.agg #[.int .u8 c.v.kind,.int .i64 c.v.num,.string c.v.str,.slice XL c.v.items.length xL,.slice XO c.v.vals.length xO])∧(LstV (fun k=>W.heap.size≤k) w' (.slice XL c.v.items.length xL) c.v.items∧ObjV (fun k=>W.heap.size≤k) w' (.slice XO c.v.vals.length xO) c.v.keys c.v.vals)∧Below W.heap.size W w') fun e w' ⟨v',he,⟨L,O,hv,hL,hO⟩,hb'⟩=>by
  subst hv
  obtain ⟨XL,xL,rfl⟩:=lst_form hL
  obtain ⟨XO,xO,rfl⟩:=obj_form hO
  exact ⟨XL,XO,xL,xO,he,⟨hL,hO⟩,hb'⟩)
 clear hc hw hpl hpk
 go_enter Tryd.func27,Tryd.ntmps27
 go_wp2_with (first
  | (go_at_call 41;refine (HFP.out _ (CTwo.new w _ _).below).mono ?_;rintro e w1 ⟨B,d,rfl,hwy,hb⟩;have H1:=Lib.hid (And.intro (show CTwo w w1 #[.int .u8 c.kind,.slice A c.path.length cp,.string c.key,.int .i64 c.i,.int .i64 c.j,.int .i64 c.n,.int .u8 c.v.kind,.int .i64 c.v.num,.string c.v.str,.slice AL c.v.items.length cL,.slice AO c.v.vals.length cO,.string c.s] #[.int .u8 0,.slice none 0 0,.string ⟨#[]⟩,.int .i64 0,.int .i64 0,.int .i64 0,.int .u8 0,.int .i64 0,.string ⟨#[]⟩,.slice none 0 0,.slice none 0 0,.string ⟨#[]⟩] from (CTwo.new w _ _).step hb) (And.intro hwy.1 (show ∀ p,B=some p→w.heap.size+1+1≤p.block from fun p hp=>by have:=hwy.2 p hp;simpa using this)));obtain ⟨a0,a1,a2,a3,a4,a5,a6,a7,a8,a9,a10,a11,f0,f1,f2,f3,f4,f5,f6,f7,f8,f9,f10,f11⟩:=H1.out.1.a.tw;clear hb hwy HFP)
  | (go_at_call 42;((with_reducible refine (call_clone c.key _ hky).mono ?_);rintro e w2 ⟨rfl,hb⟩;have H2:=Lib.hid (And.intro (show CTwo w w2 #[.int .u8 c.kind,.slice B c.path.length d,.string c.key,.int .i64 c.i,.int .i64 c.j,.int .i64 c.n,.int .u8 c.v.kind,.int .i64 c.v.num,.string c.v.str,.slice AL c.v.items.length cL,.slice AO c.v.vals.length cO,.string c.s] #[.int .u8 0,.slice none 0 0,.string ⟨#[]⟩,.int .i64 0,.int .i64 0,.int .i64 0,.int .u8 0,.int .i64 0,.string ⟨#[]⟩,.slice none 0 0,.slice none 0 0,.string ⟨#[]⟩] from (H1.out.1.putA 1 (.slice B c.path.length d)).step hb) (show Kp (w.heap.size+1+1) w1 w2 from ((Kp.refl _ w1).set (p:=⟨w.heap.size,1,none⟩) (by simp;omega) _).below hb));clear hb;clear a0 a1 a2 a3 a4 a5 a6 a7 a8 a9 a10 a11 f0 f1 f2 f3 f4 f5 f6 f7 f8 f9 f10 f11;obtain ⟨a0,a1,a2,a3,a4,a5,a6,a7,a8,a9,a10,a11,f0,f1,f2,f3,f4,f5,f6,f7,f8,f9,f10,f11⟩:=H2.out.1.a.tw;clear hky))
  | (go_at_call 42;((with_reducible refine (call_clone c.s _ hs).mono ?_);rintro e w3 ⟨rfl,hb⟩;have H3:=Lib.hid (And.intro (show CTwo w w3 #[.int .u8 c.kind,.slice B c.path.length d,.string c.key,.int .i64 c.i,.int .i64 c.j,.int .i64 c.n,.int .u8 c.v.kind,.int .i64 c.v.num,.string c.v.str,.slice AL c.v.items.length cL,.slice AO c.v.vals.length cO,.string c.s] #[.int .u8 0,.slice none 0 0,.string ⟨#[]⟩,.int .i64 0,.int .i64 0,.int .i64 0,.int .u8 0,.int .i64 0,.string ⟨#[]⟩,.slice none 0 0,.slice none 0 0,.string ⟨#[]⟩] from (H2.out.1.putA 2 (.string c.key)).step hb) (show Kp (w.heap.size+1+1) w1 w3 from (H2.out.2.set (p:=⟨w.heap.size,2,none⟩) (by simp;omega) _).below hb));clear hb;clear a0 a1 a2 a3 a4 a5 a6 a7 a8 a9 a10 a11 f0 f1 f2 f3 f4 f5 f6 f7 f8 f9 f10 f11;obtain ⟨a0,a1,a2,a3,a4,a5,a6,a7,a8,a9,a10,a11,f0,f1,f2,f3,f4,f5,f6,f7,f8,f9,f10,f11⟩:=H3.out.1.a.tw;clear hs))
  | (go_at_call 43;refine (HCP.out _ (H3.out.1.putA 11 (.string c.s)).below).mono ?_;rintro e w4 ⟨XL,XO,xL,xO,rfl,hv,hb⟩;have H4:=Lib.hid (And.intro (show CTwo w w4 #[.int .u8 c.kind,.slice B c.path.length d,.string c.key,.int .i64 c.i,.int .i64 c.j,.int .i64 c.n,.int .u8 c.v.kind,.int .i64 c.v.num,.string c.v.str,.slice AL c.v.items.length cL,.slice AO c.v.vals.length cO,.string c.s] #[.int .u8 0,.slice none 0 0,.string ⟨#[]⟩,.int .i64 0,.int .i64 0,.int .i64 0,.int .u8 0,.int .i64 0,.string ⟨#[]⟩,.slice none 0 0,.slice none 0 0,.string ⟨#[]⟩] from (H3.out.1.putA 11 (.string c.s)).step hb) (And.intro (show Kp (w.heap.size+1+1) w1 w4 from (H3.out.2.set (p:=⟨w.heap.size,11,none⟩) (by simp;omega) _).below hb) (And.intro hv (show w.heap.size+1<(w3.setCell ⟨w.heap.size,11,none⟩ (.string c.s)).heap.size from by rw [size_set];exact H3.out.1.b.lt))));clear hb hv;clear a0 a1 a2 a3 a4 a5 a6 a7 a8 a9 a10 a11 f0 f1 f2 f3 f4 f5 f6 f7 f8 f9 f10 f11;obtain ⟨a0,a1,a2,a3,a4,a5,a6,a7,a8,a9,a10,a11,f0,f1,f2,f3,f4,f5,f6,f7,f8,f9,f10,f11⟩:=H4.out.1.a.tw;obtain ⟨b0,b1,b2,b3,b4,b5,b6,b7,b8,b9,b10,b11,y0,y1,y2,y3,y4,y5,y6,y7,y8,y9,y10,y11⟩:=H4.out.1.b.tw))
 have hXb:=put12 (((((H4.out.1.b.far (p:=⟨w.heap.size,6,none⟩) (by simp) (.int .u8 c.v.kind)).far (p:=⟨w.heap.size,7,none⟩) (by simp) (.int .i64 c.v.num)).far (p:=⟨w.heap.size,8,none⟩) (by simp) (.string c.v.str)).far (p:=⟨w.heap.size,9,none⟩) (by simp) (.slice XL c.v.items.length xL)).far (p:=⟨w.heap.size,10,none⟩) (by simp) (.slice XO c.v.vals.length xO)) (.int .u8 c.kind) (.slice B c.path.length d) (.string c.key) (.int .i64 c.i) (.int .i64 c.j) (.int .i64 c.n) (.int .u8 c.v.kind) (.int .i64 c.v.num) (.string c.v.str) (.slice XL c.v.items.length xL) (.slice XO c.v.vals.length xO) (.string c.s)
 have hk:=((((((((((((((((((Kp.refl (w.heap.size+1+1) w4).set (p:=⟨w.heap.size,6,none⟩) (by simp;omega) (.int .u8 c.v.kind)).set (p:=⟨w.heap.size,7,none⟩) (by simp;omega) (.int .i64 c.v.num)).set (p:=⟨w.heap.size,8,none⟩) (by simp;omega) (.string c.v.str)).set (p:=⟨w.heap.size,9,none⟩) (by simp;omega) (.slice XL c.v.items.length xL)).set (p:=⟨w.heap.size,10,none⟩) (by simp;omega) (.slice XO c.v.vals.length xO)).set (p:=⟨w.heap.size+1,0,none⟩) (by simp) (.int .u8 c.kind)).set (p:=⟨w.heap.size+1,1,none⟩) (by simp) (.slice B c.path.length d)).set (p:=⟨w.heap.size+1,2,none⟩) (by simp) (.string c.key)).set (p:=⟨w.heap.size+1,3,none⟩) (by simp) (.int .i64 c.i)).set (p:=⟨w.heap.size+1,4,none⟩) (by simp) (.int .i64 c.j)).set (p:=⟨w.heap.size+1,5,none⟩) (by simp) (.int .i64 c.n)).set (p:=⟨w.heap.size+1,6,none⟩) (by simp) (.int .u8 c.v.kind)).set (p:=⟨w.heap.size+1,7,none⟩) (by simp) (.int .i64 c.v.num)).set (p:=⟨w.heap.size+1,8,none⟩) (by simp) (.string c.v.str)).set (p:=⟨w.heap.size+1,9,none⟩) (by simp) (.slice XL c.v.items.length xL)).set (p:=⟨w.heap.size+1,10,none⟩) (by simp) (.slice XO c.v.vals.length xO)).set (p:=⟨w.heap.size+1,11,none⟩) (by simp) (.string c.s))
 have hbel:=(((((((((((((((((H4.out.1.below.setCell (p:=⟨w.heap.size,6,none⟩) (Nat.le_refl _) (.int .u8 c.v.kind)).setCell (p:=⟨w.heap.size,7,none⟩) (Nat.le_refl _) (.int .i64 c.v.num)).setCell (p:=⟨w.heap.size,8,none⟩) (Nat.le_refl _) (.string c.v.str)).setCell (p:=⟨w.heap.size,9,none⟩) (Nat.le_refl _) (.slice XL c.v.items.length xL)).setCell (p:=⟨w.heap.size,10,none⟩) (Nat.le_refl _) (.slice XO c.v.vals.length xO)).setCell (p:=⟨w.heap.size+1,0,none⟩) (Nat.le_succ _) (.int .u8 c.kind)).setCell (p:=⟨w.heap.size+1,1,none⟩) (Nat.le_succ _) (.slice B c.path.length d)).setCell (p:=⟨w.heap.size+1,2,none⟩) (Nat.le_succ _) (.string c.key)).setCell (p:=⟨w.heap.size+1,3,none⟩) (Nat.le_succ _) (.int .i64 c.i)).setCell (p:=⟨w.heap.size+1,4,none⟩) (Nat.le_succ _) (.int .i64 c.j)).setCell (p:=⟨w.heap.size+1,5,none⟩) (Nat.le_succ _) (.int .i64 c.n)).setCell (p:=⟨w.heap.size+1,6,none⟩) (Nat.le_succ _) (.int .u8 c.v.kind)).setCell (p:=⟨w.heap.size+1,7,none⟩) (Nat.le_succ _) (.int .i64 c.v.num)).setCell (p:=⟨w.heap.size+1,8,none⟩) (Nat.le_succ _) (.string c.v.str)).setCell (p:=⟨w.heap.size+1,9,none⟩) (Nat.le_succ _) (.slice XL c.v.items.length xL)).setCell (p:=⟨w.heap.size+1,10,none⟩) (Nat.le_succ _) (.slice XO c.v.vals.length xO)).setCell (p:=⟨w.heap.size+1,11,none⟩) (Nat.le_succ _) (.string c.s))
 generalize (((((((((((((((((w4.setCell ⟨w.heap.size,6,none⟩ (.int .u8 c.v.kind)).setCell ⟨w.heap.size,7,none⟩ (.int .i64 c.v.num)).setCell ⟨w.heap.size,8,none⟩ (.string c.v.str)).setCell ⟨w.heap.size,9,none⟩ (.slice XL c.v.items.length xL)).setCell ⟨w.heap.size,10,none⟩ (.slice XO c.v.vals.length xO)).setCell ⟨w.heap.size+1,0,none⟩ (.int .u8 c.kind)).setCell ⟨w.heap.size+1,1,none⟩ (.slice B c.path.length d)).setCell ⟨w.heap.size+1,2,none⟩ (.string c.key)).setCell ⟨w.heap.size+1,3,none⟩ (.int .i64 c.i)).setCell ⟨w.heap.size+1,4,none⟩ (.int .i64 c.j)).setCell ⟨w.heap.size+1,5,none⟩ (.int .i64 c.n)).setCell ⟨w.heap.size+1,6,none⟩ (.int .u8 c.v.kind)).setCell ⟨w.heap.size+1,7,none⟩ (.int .i64 c.v.num)).setCell ⟨w.heap.size+1,8,none⟩ (.string c.v.str)).setCell ⟨w.heap.size+1,9,none⟩ (.slice XL c.v.items.length xL)).setCell ⟨w.heap.size+1,10,none⟩ (.slice XO c.v.vals.length xO)).setCell ⟨w.heap.size+1,11,none⟩ (.string c.s))=X at *
 obtain ⟨d0,d1,d2,d3,d4,d5,d6,d7,d8,d9,d10,d11,_⟩:=hXb.tw
 have hsz:=H4.out.2.2.2
 have HX:=Lib.hid (And.intro hk hbel)
 clear hXb hk hbel
 refine bodyPost_ret (v:=.agg #[.int .u8 c.kind,.slice B c.path.length d,.string c.key,.int .i64 c.i,.int .i64 c.j,.int .i64 c.n,.int .u8 c.v.kind,.int .i64 c.v.num,.string c.v.str,.slice XL c.v.items.length xL,.slice XO c.v.vals.length xO,.string c.s]) (by simp [results,Tryd.results27,go_sem,d0,d1,d2,d3,d4,d5,d6,d7,d8,d9,d10,d11]) rfl ?_
 exact ⟨B,XL,XO,d,xL,xO,rfl,⟨H1.out.2.1.kp H1.out.2.2 (H4.out.2.1.trans HX.out.1),⟨H4.out.2.2.1.1.keep (fun k hk1 hl=>HX.out.1.2 k (by omega) hl) (fun _ _ _=>trivial),H4.out.2.2.1.2.keep (fun k hk1 hl=>HX.out.1.2 k (by omega) hl) (fun _ _ _=>trivial)⟩⟩,HX.out.2⟩
end Go.Proofs.YtlhfnemcpgfcdaaDoor
