/- put, of a value's place: a field at the end, or another value at a key that is there. -/
import Derived.Test.YtamlaknfakaanaaGreatDoorR28
import Derived.Test.YtamlaknfakaanaaGreatDoorR12
import Derived.Test.YtamlaknfakaanaaGreatDoorR6
set_option maxRecDepth 100000
set_option maxHeartbeats 8000000
namespace Go.Proofs.YtamlaknfakaanaaGreatDoor
open Go Go.RowKit
set_option linter.unusedVariables false
set_option linter.unusedSimpArgs false
theorem run_fromF (A:Option Addr) (n:Nat) (hn:n≤maxLen) (W:World):(Instr.slice 29 (.slice A n n) (some (.int .i64 n)) none none).run Tryz.prog W=.ok (.slice A 0 0) W:=by
 unfold maxLen at hn
 rw [run_slice_l (ht:=Tryz.underlying29) (h0:=by omega) (h1:=by omega)]
 simp [go_sem]
theorem wpList_append_run {P:Program} {w:World} {ops:Array Oper} {rest:List Oper} {o:Oper} {a:Act} {Q:Exit→Act→World→Prop} (hgd:o.guard=none) (s x:Operand) (t:TypeId) (ho:o.op=.call { callee:=.builtin .append,args:=#[s,x],argTypes:=#[t,t] })
  (v1 v2 v':Value) (w':World) (hs:a.eval s=v1) (hx:a.eval x=v2) (hrun:(Builtin.append_ #[t,t] o.type #[v1,v2]).run P w=.ok v' w') (h:wpList P ops Q rest (a.put o.dst v') w'):wpList P ops Q (o :: rest) a w:=by
 refine wpList_plain hgd fun K hK=>?_
 unfold Oper.wp execOp
 simp only [ho,resolve,invoke,builtin,Sem.run_bind,Sem.run_pure,Result.andThen_ok,List.map_toArray,List.map_cons,List.map_nil,hs,hx,hrun]
 exact hK _ _ h
def newF (key:ByteArray):Array Value:=#[.string key,.int .u8 0,.int .i64 0,.string ⟨#[]⟩,.slice none 0 0,.slice none 0 0]
theorem insert_end (ok:Nat→Prop) (A:Option Addr) (n:Nat) (ks:List ByteArray) (l:List GV) (key:ByteArray) (B:Nat) (w:World) (hO:ObjV ok w (.slice A n n) ks l) (hn:n=l.length) (hm:n≤1000000) (hB:Whole w B 59 (newF key)):
  Calls Tryz.prog 79 #[.slice A n n,.int .i64 n,.slice (some ⟨B,0,none⟩) 1 1] w fun e w'=>∃ D d xs,e=.returned (.slice D (n+1:Nat) d)∧RowO ok w' (ks++[key]) (l++[noG]) xs∧w'.ownsRow w.heap.size 59 6 (.slice D (n+1:Nat) d) (n+1) xs∧Below w.heap.size w w':=by
 obtain ⟨xs,hr,hlen,hcell,h1c,hnone⟩:∃ xs,RowO ok w ks l xs∧xs.length=n * 6∧(∀ b,A=some b→∀ j u,xs[j]? = some u→w.cell? (b.add j)=some u)∧(∀ u∈xs,u.oneCell'=true)∧(A=none→n=0∧n=0):=by
  obtain ⟨hl,hO⟩:=hO
  rcases hO with ⟨rfl,he⟩ | ⟨b,o,c',he,h1,h2,hK,hks,hE⟩
  ·cases he
   obtain rfl:ks=[]:=List.length_eq_zero_iff.1 (by simpa using hl)
   exact ⟨[],by simp [RowO],by simp,(fun b h=>by cases h),(fun u h=>by cases h),fun _=>⟨rfl,rfl⟩⟩
  ·simp only [Value.slice.injEq] at he
   obtain ⟨rfl,_,_⟩:=he
   obtain ⟨xs,hr,hlen,hcell,h1c⟩:=els_rowO hl hks hE
   refine ⟨xs,hr,by rw [hlen,hn],fun ad h j u hj=>?_,h1c,(fun h=>by cases h)⟩
   cases h
   have e2:(⟨b,o,none⟩:Addr).add j =⟨b,o+j,none⟩:=by unfold Addr.add;split<;>simp_all
   rw [e2]
   exact hcell j u hj
 obtain ⟨i0,hi,hz0,hz1,hz2⟩:=info_parts infoField
 have hc:∀ j u,(newF key).toList[j]? = some u→w.cell? ((⟨B,0,none⟩:Addr).add j)=some u:=fun j u hj=>by
  have e2:(⟨B,0,none⟩:Addr).add j =⟨B,j,none⟩:=by unfold Addr.add;split<;>simp_all
  rw [e2,hB.cell];simpa using hj
 obtain ⟨v',w',hrun,hown,hgr⟩:=run_append_full (P:=Tryz.prog) (w:=w) 29 29 59 i0 _ 6 96 Tryz.underlying29 hi hz0 hz1 hz2 rfl (by decide) A n n xs hnone hlen hcell ⟨B,0,none⟩ 1 1 (newF key).toList rfl hc (by simp [newF,Value.oneCell']) (by omega) (by unfold maxLen;omega) (by omega)
 obtain ⟨D,d,rfl⟩:=own_form hown
 have hb:Below w.heap.size w w':=(Below.refl _ w).grown hgr (Nat.le_refl _) (fun k e=>by cases e)
 have hrow:RowO ok w' (ks++[key]) (l++[noG]) (xs++(newF key).toList):=RowO.snoc (g:=noG) (L:=.slice none 0 0) (O:=.slice none 0 0) (.inl ⟨rfl,rfl⟩) ⟨rfl,.inl ⟨rfl,rfl⟩⟩ (hr.keep (From.of_below hb) (fun _ h _=>h))
 have HR:=Lib.hid (And.intro hrow (And.intro hown hb))
 have HRUN:=Lib.hid hrun
 clear hrun
 have hsl:=fun W=>run_fromF A n (by unfold maxLen;omega) W
 clear hO hr hlen hcell h1c hnone hi hz0 hz1 hz2 hc hB hown hgr hb hrow hn
 go_enter Tryz.func79,Tryz.ntmps79
 go_wp2_with (at_builtin;refine wpList_append_run rfl (.tmp 23) (.tmp 24) 29 rfl _ _ _ _ rfl rfl HRUN.out ?_)
 go_ret
 exact ⟨D,d,_,rfl,HR.out.1,HR.out.2.1,HR.out.2.2⟩
theorem obj_set {lo:Nat} {W W':World} {b o n d:Nat} {ks:List ByteArray} {l:List GV} {k:Nat} {y:GV} (hO:ObjV (fun _=>True) W (.slice (some ⟨b,o,none⟩) n d) ks l) (hE:GV.els (fun k=>lo≤k∧k≠b) W b 6 (o+1) l)
  (hJ:Just b (o+k * 6+1) 5 W W') (hy:y.at (fun _=>True) W' b (o+k * 6+1)) (hne:l≠[]):ObjV (fun _=>True) W' (.slice (some ⟨b,o,none⟩) n d) ks (l.set k y):=by
 obtain ⟨hl,hO⟩:=hO
 rcases hO with ⟨rfl,_⟩ | ⟨b',o',d',he,h1,h2,hK,hks,_⟩
 ·exact absurd rfl hne
 simp only [Value.slice.injEq,Option.some.injEq,Addr.mk.injEq] at he
 obtain ⟨⟨rfl,rfl,_⟩,rfl,rfl⟩:=he
 have hF:From (fun k=>lo≤k∧k≠b) W W':=hJ.from (by simp)
 obtain ⟨_,cs,hcs⟩:=hK
 obtain ⟨cs',hw'⟩:=hJ.row _ _ hcs
 refine ⟨by rw [List.length_set];exact hl,.inr ⟨b,o,d,by rw [List.length_set],by rw [List.length_set];exact h1,h2,⟨trivial,cs',hw'⟩,KeysAt.of fun i a ha=>?_,GV.els_of fun i a ha=>?_⟩⟩
 ·exact (hJ.near _ (by omega)).trans (hks.get ha)
 ·by_cases e:i=k
  ·subst e
   rw [List.getElem?_set] at ha
   simp only [if_true] at ha
   split at ha
   ·cases ha;rwa [show o+1+i * 6=o+i * 6+1 by omega]
   ·cases ha
  ·rw [List.getElem?_set_ne (Ne.symm e)] at ha
   obtain ⟨L,O,c0,c1,c2,c3,c4,hL,hO⟩:=GV.at_iff.1 (GV.els_get hE ha)
   have hn:∀ d,d<5→W'.cell? ⟨b,o+1+i * 6+d,none⟩=W.cell? ⟨b,o+1+i * 6+d,none⟩:=fun d hd=>hJ.near _ (by omega)
   have n0:=hn 0 (by omega)
   rw [Nat.add_zero] at n0
   exact GV.at_iff.2 ⟨L,O,n0.trans c0,(hn 1 (by omega)).trans c1,(hn 2 (by omega)).trans c2,(hn 3 (by omega)).trans c3,(hn 4 (by omega)).trans c4,hL.keep hF (fun _ _ _=>trivial),hO.keep hF (fun _ _ _=>trivial)⟩
def PlaceIs (lo b:Nat) (g:GV) (w:World) (e:Ending) (w':World):Prop:=e=.returned (.tuple #[])∧∃ HL HO dL dO,Whole w' b 64 #[.int .u8 g.kind,.int .i64 g.num,.string g.str,.slice HL g.items.length dL,.slice HO g.vals.length dO]∧Vl w' g HL HO dL dO∧Below lo w w'
theorem put_end (b:Nat) (h:GV) (HL HO:Option Addr) (dL:Nat) (key:ByteArray) (v:GV) (AL AO:Option Addr) (cL cO:Nat) (w:World) (hbx:Whole w b 64 #[.int .u8 h.kind,.int .i64 h.num,.string h.str,.slice HL h.items.length dL,.slice HO h.vals.length h.vals.length])
  (hL:LstV (fun k=>k<b) w (.slice HL h.items.length dL) h.items) (hO:ObjV (fun k=>k<b) w (.slice HO h.vals.length h.vals.length) h.keys h.vals) (hvL:LstV (fun k=>k<b) w (.slice AL v.items.length cL) v.items) (hvO:ObjV (fun k=>k<b) w (.slice AO v.vals.length cO) v.keys v.vals)
  (hth:there key h.keys=false) (hpl:place key h.keys=h.vals.length) (hm:h.vals.length≤1000000):
  Calls Tryz.prog 44 #[.pointer (some ⟨b,0,none⟩),.string key,.agg #[.int .u8 v.kind,.int .i64 v.num,.string v.str,.slice AL v.items.length cL,.slice AO v.vals.length cO]] w (PlaceIs b b (.mk h.kind h.num h.str h.items (h.keys++[key]) (h.vals++[v])) w):=by
 have hlt:=hbx.lt
 have hB0:=below_alloc w (.cells #[.int .u8 v.kind,.int .i64 v.num,.string v.str,.slice AL v.items.length cL,.slice AO v.vals.length cO] 31)
 have HVB:=Lib.hid (Whole.new w 31 #[.int .u8 v.kind,.int .i64 v.num,.string v.str,.slice AL v.items.length cL,.slice AO v.vals.length cO])
 have HF:=Lib.hid (fun W (hb:Below w.heap.size w W)=>(val_Field (fun _=>True) _ h key W ⟨_,_,rfl,hL.keep (From.of_below hb) (fun _ _ _=>trivial),hO.keep (From.of_below hb) (fun _ _ _=>trivial)⟩).mono (R':=fun e w'=>e=.returned (.tuple #[.int .i64 h.vals.length,.bool false])∧Below W.heap.size W w') fun e w' hq=>by
  obtain ⟨he,hb'⟩:=hq
  rw [hth,hpl] at he
  exact ⟨he,hb'⟩)
 have HI:=Lib.hid (fun W (hb:Below w.heap.size w W) (B:Nat) (hB:Whole W B 59 #[.string key,.int .u8 0,.int .i64 0,.string ⟨#[]⟩,.slice none 0 0,.slice none 0 0])=>
  insert_end (fun k=>k<b) HO h.vals.length h.keys h.vals key B W (hO.keep (fun k hk hl=>hb.block k (by omega)) (fun k hk _=>hk)) rfl hm hB)
 have HBX:=Lib.hid hbx
 have H4:=Lib.hid (And.intro hL (And.intro hO (And.intro hvL hvO)))
 obtain ⟨c0,c1,c2,c3,c4,_⟩:=hbx.five
 replace c0:=fun o=>cell_alloc o c0
 replace c1:=fun o=>cell_alloc o c1
 replace c2:=fun o=>cell_alloc o c2
 replace c3:=fun o=>cell_alloc o c3
 replace c4:=fun o=>cell_alloc o c4
 have HB0:=Lib.hid hB0
 clear hbx hL hO hvL hvO hB0 hth hpl
 go_enter Tryz.func44,Tryz.ntmps44
 go_wp2_with (first
  | (go_at_call 78;refine (HF.out _ HB0.out).mono ?_;rintro e w2 ⟨rfl,hb2⟩;have HB2:=Lib.hid (HB0.out.trans (hb2.mono HB0.out.size));have HV2:=Lib.hid (HVB.out.below hb2 HVB.out.lt);obtain ⟨k0,k1,k2,k3,k4,_⟩:=(HBX.out.below HB2.out HBX.out.lt).five;have k4q:=fun o=>cell_alloc o k4;clear hb2 c0 c1 c2 c3 c4 k0 k1 k2 k3)
  | (go_at_call 79;refine (HI.out _ (HB2.out.trans ((below_alloc _ _).mono HB2.out.size)) _ (Whole.new w2 59 _)).mono ?_;rintro e w4 ⟨D,d,xs,rfl,hrow,hown,hb4⟩;have HB4:=Lib.hid ((HB2.out.trans ((below_alloc w2 (.cells #[.string key,.int .u8 0,.int .i64 0,.string ⟨#[]⟩,.slice none 0 0,.slice none 0 0] 59)).mono HB2.out.size)).trans (hb4.mono (by have:=HB2.out.size;simp;omega)));have HR4:=Lib.hid (And.intro hrow (And.intro hown hb4));obtain ⟨k0,k1,k2,k3,k4,y0,y1,y2,y3,y4⟩:=(HBX.out.below HB4.out HBX.out.lt).five;clear hrow hown hb4))
 have hsb:b<w4.heap.size:=by have:=HB4.out.size;omega
 have hg:∃ g cur,D=some ⟨g,0,none⟩∧w.heap.size<g∧Whole w4 g 59 cur∧h.vals.length+1≤d∧d≤maxLen∧KeysAt w4 g 0 (h.keys++[key])∧GV.els (fun k=>k<b) w4 g 6 (0+1) (h.vals++[noG]):=by
  obtain ⟨hrow,hown,_⟩:=HR4.out
  have ho2:=hown
  rcases ho2.2 with ⟨hn,_⟩ | ⟨g,cap,cur,he,hb,hg,h1,h2,h3,h4⟩
  ·cases hn
  ·simp only [Value.slice.injEq] at he
   obtain ⟨rfl,_,rfl⟩:=he
   have hE:=hrow.els (b:=g) (off:=0) fun j u hj=>by
    have:=hown.cells (g:=g) rfl j u hj
    by_cases e:j=0<;>simpa [Addr.add,e] using this
   refine ⟨g,cur,rfl,?_,hg,h1,h2,hE.1,hE.2⟩
   have:=HB2.out.size
   simp at hb
   omega
 obtain ⟨g,cur,rfl,hwg,hWg,hd1,hd2,hks,hels⟩:=hg
 have hP5:Whole (w4.setCell ⟨b,4,none⟩ (.slice (some ⟨g,0,none⟩) (h.vals.length+1) d)) b 64 #[.int .u8 h.kind,.int .i64 h.num,.string h.str,.slice HL h.items.length dL,.slice (some ⟨g,0,none⟩) (h.vals.length+1) d]:=(HBX.out.below HB4.out HBX.out.lt).put 4 _
 have hV5:=((HV2.out.alloc (.cells #[.string key,.int .u8 0,.int .i64 0,.string ⟨#[]⟩,.slice none 0 0,.slice none 0 0] 59)).below HR4.out.2.2 (by have:=HV2.out.lt;simp;omega)).far (p:=⟨b,4,none⟩) (by simp;omega) (.slice (some ⟨g,0,none⟩) (h.vals.length+1) d)
 have hG5:=hWg.far (p:=⟨b,4,none⟩) (by simp;omega) (.slice (some ⟨g,0,none⟩) (h.vals.length+1) d)
 have hB5:Below b w (w4.setCell ⟨b,4,none⟩ (.slice (some ⟨g,0,none⟩) (h.vals.length+1) d)):=(HB4.out.mono (Nat.le_of_lt hlt)).setCell (Nat.le_refl _) _
 have hgb:(w4.setCell ⟨b,4,none⟩ (.slice (some ⟨g,0,none⟩) (h.vals.length+1) d)).heap[g]? = w4.heap[g]?:=Below.heap_setCell w4 ⟨b,4,none⟩ _ g (by simp;omega)
 have hks5:=hks.keep hgb
 have hE5:=GV.els_keep (ok':=fun k=>k<b) (W':=w4.setCell ⟨b,4,none⟩ (.slice (some ⟨g,0,none⟩) (h.vals.length+1) d)) (fun k hk _=>Below.heap_setCell w4 ⟨b,4,none⟩ _ k (by simp;omega)) (fun k hk _=>hk) _ hgb hels
 clear hks hels hgb hWg HB4 HR4 k0 k1 k2 k3 k4 y0 y1 y2 y3 y4 HBX HVB HV2 HB2 HB0 HI HF k4q hsb
 generalize (w4.setCell ⟨b,4,none⟩ (.slice (some ⟨g,0,none⟩) (h.vals.length+1) d))=W5 at *
 have HP5:=Lib.hid hP5
 have HG5:=Lib.hid hG5
 have HB5:=Lib.hid hB5
 have HK5:=Lib.hid (And.intro hks5 hE5)
 obtain ⟨p0,p1,p2,p3,p4,_⟩:=hP5.five
 obtain ⟨v0,v1,v2,v3,v4,_⟩:=hV5.five
 have hat:=GV.els_get hE5 (i:=h.vals.length) (g:=noG) (by simp)
 obtain ⟨L0,O0,t0,t1,t2,t3,t4,_,_⟩:=GV.at_iff.1 hat
 rw [show 0+1+h.vals.length * 6=h.vals.length * 6+1 by omega] at t0 t1 t2 t3 t4
 have z0:=hG5.frozen (h.vals.length * 6+1)
 have z1:=hG5.frozen (h.vals.length * 6+1+1)
 have z2:=hG5.frozen (h.vals.length * 6+1+2)
 have z3:=hG5.frozen (h.vals.length * 6+1+3)
 have z4:=hG5.frozen (h.vals.length * 6+1+4)
 have hm0:(0:Int)≤(h.vals.length:Int):=by omega
 have hm1:(h.vals.length:Int)<((h.vals.length+1:Nat):Int):=by omega
 clear hP5 hG5 hB5 hks5 hE5 hV5 hat
 go_region
 all_goals
  go_wp2
  go_end0
  have hJ:=just_put5 (b:=g) (off:=h.vals.length * 6+1) W5 (.int .u8 v.kind) (.int .i64 v.num) (.string v.str) (.slice AL v.items.length cL) (.slice AO v.vals.length cO)
  have hF5:∀ k,k<b→k<w.heap.size→W5.heap[k]? = w.heap[k]?:=fun k hk _=>HB5.out.block k hk
  have hva:=put_there (x:=v) (R:=b) t0 t1 t2 t3 t4 (by omega) (H4.out.2.2.1.keep hF5 (fun k hk _=>hk)) (H4.out.2.2.2.keep hF5 (fun k hk _=>hk))
  have hOO:ObjV (fun _=>True) W5 (.slice (some ⟨g,0,none⟩) (h.vals.length+1) d) (h.keys++[key]) (h.vals++[noG]):=
   ⟨by have:=H4.out.2.1.1;simp [this],.inr ⟨g,0,d,by simp,by simp;omega,hd2,⟨trivial,cur,HG5.out⟩,HK5.out.1,GV.els_keep (From.refl _ _) (fun _ _ _=>trivial) _ rfl HK5.out.2⟩⟩
  have hset:=obj_set (lo:=0) (k:=h.vals.length) (y:=v) hOO (GV.els_keep (ok':=fun k=>0≤k∧k≠g) (From.refl _ _) (fun k hk _=>⟨Nat.zero_le _,by omega⟩) _ rfl HK5.out.2) (by rw [Nat.zero_add];exact hJ) (by rw [Nat.zero_add];exact hva) (by simp)
  have hls:(h.vals++[noG]).set h.vals.length v=h.vals++[v]:=by simp
  rw [hls] at hset
  have hbl:Below b w _:=HB5.out.trans (hJ.below (B:=b) (by omega) (by have:=HB5.out.size;omega))
  have hbw:((((((W5.setCell ⟨g,h.vals.length * 6+1,none⟩ (.int .u8 v.kind)).setCell ⟨g,h.vals.length * 6+1+1,none⟩ (.int .i64 v.num)).setCell ⟨g,h.vals.length * 6+1+2,none⟩ (.string v.str)).setCell ⟨g,h.vals.length * 6+1+3,none⟩ (.slice AL v.items.length cL)).setCell ⟨g,h.vals.length * 6+1+4,none⟩ (.slice AO v.vals.length cO)).drew).heap[b]? = W5.heap[b]?:=hJ.far b HP5.out.lt (by omega)
  have hwh:=HP5.out.of_eq hbw
  refine ⟨rfl,HL,some ⟨g,0,none⟩,dL,d,?_,⟨?_,?_⟩,hbl.drew⟩
  ·show Whole _ b 64 #[.int .u8 h.kind,.int .i64 h.num,.string h.str,.slice HL h.items.length dL,.slice (some ⟨g,0,none⟩) (h.vals++[v]).length d]
   rw [show (h.vals++[v]).length=h.vals.length+1 by simp]
   exact hwh
  ·exact (H4.out.1.keep (ok':=fun _=>True) (fun k hk _=>hbl.block k hk) (fun _ _ _=>trivial)).keep (From.of_below (Below.refl _ _).drew) (fun _ _ _=>trivial)
  ·show ObjV _ _ (.slice (some ⟨g,0,none⟩) (h.vals++[v]).length d) (h.keys++[key]) (h.vals++[v])
   rw [show (h.vals++[v]).length=h.vals.length+1 by simp]
   exact hset.keep (From.of_below (Below.refl _ _).drew) (fun _ _ _=>trivial)
end Go.Proofs.YtamlaknfakaanaaGreatDoor
