/- Texts in one: RefCR, RPutL, RqA, CompR. -/
import Derived.Test.YtlhfnemcpgfcdaaDoorQ14
import Derived.Test.YtlhfnemcpgfcdaaDoorQ11
import Derived.Test.YtlhfnemcpgfcdaaDoorQ23
import Derived.Test.YtlhfnemcpgfcdaaDoorQ16
import Derived.Test.YtlhfnemcpgfcdaaDoorQ19
import Derived.Laws.BytesArg
set_option maxRecDepth 100000
set_option maxHeartbeats 8000000
namespace Go.Proofs.YtlhfnemcpgfcdaaDoor
open Go Go.RowKit
structure CopyRows (lo:Nat) (l:List GV) (ks:List ByteArray) (ov:List GV) (W:World) (vL vO:Value) (xs ys:List Value):Prop where
 ownL:W.ownsRow lo 31 5 vL l.length xs
 ownO:W.ownsRow lo 55 6 vO ov.length ys
 rowL:RowL (Away lo vL vO) W l xs
 rowO:RowO (Away lo vL vO) W ks ov ys
theorem Rows.whole {B:Nat} {W0 wr:World} {l:List GV} {ks:List ByteArray} {ov:List GV} {vL vO:Value} {xs ys:List Value} (h:Rows B W0 l ks ov l.length ov.length vL vO xs ys wr) (hkl:ks.length=ov.length) {W:World} (hW:∀ k,B≤k→k<wr.heap.size→W.heap[k]? = wr.heap[k]?) {lo:Nat} (hlo:lo≤B):
  CopyRows lo l ks ov W vL vO xs ys:=by
 have hF:From (Away B vL vO) wr W:=fun k hk hlt=>hW k hk.1 hlt
 have e1:=h.rowL
 have e2:=h.rowO
 rw [List.take_length] at e1
 rw [List.take_length,← hkl,List.take_length] at e2
 have base:∀ {e:TypeId} {size n:Nat} {v:Value} {xs:List Value},W.ownsRow B e size v n xs→W.ownsRow lo e size v n xs:=fun h=>⟨h.1,h.2.imp id fun ⟨g,cap,cur,h1,h2,h3⟩=>⟨g,cap,cur,h1,Nat.le_trans hlo h2,h3⟩⟩
 exact ⟨base (own_same h.ownL fun k hk=>hW k (h.ownL.lt k hk).1 (h.ownL.lt k hk).2),base (own_same h.ownO fun k hk=>hW k (h.ownO.lt k hk).1 (h.ownO.lt k hk).2),
  e1.keep hF (fun k hk _=>⟨Nat.le_trans hlo hk.1,hk.2⟩),e2.keep hF (fun k hk _=>⟨Nat.le_trans hlo hk.1,hk.2⟩)⟩
theorem ref_CopyR (ok:Nat→Prop) (v:Value) (g:GV) (w:World) (hv:g.val ok w v) (hsz:g.size≤1000000000):
  Calls Tryd.prog 35 #[v] w fun e w'=>∃ AL cL AO cO xs ys,e=.returned (.agg #[.int .u8 g.kind,.int .i64 g.num,.string g.str,.slice AL g.items.length cL,.slice AO g.vals.length cO])∧CopyRows w.heap.size g.items g.keys g.vals w' (.slice AL g.items.length cL) (.slice AO g.vals.length cO) xs ys∧Below w.heap.size w w':=by
 have ih:=ref_Copy g.size
 have hF:g.size≤g.size+1:=Nat.le_succ _
 obtain ⟨L,O,rfl,hL,hO⟩:=hv
 have hkl:=hO.1
 obtain ⟨A,c,rfl,hc1,hc2,hf⟩:=hL.form
 obtain ⟨A',c',rfl,hc1',hc2',hf'⟩:=hO.form
 have hge:=size_eq g
 have hln1:=len_sizes g.items
 have hln2:=len_sizes g.vals
 unfold maxLen at hc2 hc2'
 generalize g.items=l at *
 generalize g.vals=ov at *
 generalize g.keys=ks at *
 generalize g.kind=gk at *
 generalize g.num=gn at *
 generalize g.str=gs at *
 have IH:=Lib.hid ih
 have HF:=Lib.hid hf
 have HF':=Lib.hid hf'
 have HSZ:=Lib.hid (And.intro hF (And.intro hsz hge))
 have hll:l.length≤1000000000:=by omega
 have hlo:ov.length≤1000000000:=by omega
 have HKL:=Lib.hid hkl
 clear ih hf hf' hF hsz hge hL hO hln1 hln2 hkl
 obtain ⟨i0,hi0,hz0,hz1,hz2⟩:=info_parts infoVal
 obtain ⟨i1,hi1,hy0,hy1,hy2⟩:=info_parts infoField
 have HI0:=Lib.hid (And.intro hi0 (And.intro hz0 (And.intro hz1 hz2)))
 have HI1:=Lib.hid (And.intro hi1 (And.intro hy0 (And.intro hy1 hy2)))
 clear hi0 hz0 hz1 hz2 hi1 hy0 hy1 hy2
 go_enter Tryd.func35,Tryd.ntmps35
 go_wp2
 have hB:Below w.heap.size w ((w.alloc (.cells #[Value.int IntKind.u8 gk,Value.int IntKind.i64 gn,Value.string gs,Value.slice A l.length c,Value.slice A' ov.length c'] 31)).alloc (.cells #[.int .u8 0,.int .i64 0,.string ⟨#[]⟩,.slice none 0 0,.slice none 0 0] 31)):=((Below.refl _ _).alloc (Nat.le_refl _) _).alloc (by simp) _
 have hW:=(Whole.new w 31 #[Value.int IntKind.u8 gk,Value.int IntKind.i64 gn,Value.string gs,Value.slice A l.length c,Value.slice A' ov.length c']).alloc (.cells #[.int .u8 0,.int .i64 0,.string ⟨#[]⟩,.slice none 0 0,.slice none 0 0] 31)
 have hV:=Whole.new (w.alloc (.cells #[Value.int IntKind.u8 gk,Value.int IntKind.i64 gn,Value.string gs,Value.slice A l.length c,Value.slice A' ov.length c'] 31)) 31 #[.int .u8 0,.int .i64 0,.string ⟨#[]⟩,.slice none 0 0,.slice none 0 0]
 rw [World.size_alloc] at hV
 have hs0:((w.alloc (.cells #[Value.int IntKind.u8 gk,Value.int IntKind.i64 gn,Value.string gs,Value.slice A l.length c,Value.slice A' ov.length c'] 31)).alloc (.cells #[.int .u8 0,.int .i64 0,.string ⟨#[]⟩,.slice none 0 0,.slice none 0 0] 31)).heap.size=w.heap.size+2:=by simp
 generalize ((w.alloc (.cells #[Value.int IntKind.u8 gk,Value.int IntKind.i64 gn,Value.string gs,Value.slice A l.length c,Value.slice A' ov.length c'] 31)).alloc (.cells #[.int .u8 0,.int .i64 0,.string ⟨#[]⟩,.slice none 0 0,.slice none 0 0] 31))=W0 at hB hW hV hs0 ⊢
 have HW:=Lib.hid hW
 have HV:=Lib.hid hV
 have HB:=Lib.hid hB
 have HS0:=Lib.hid hs0
 clear hW hV hB hs0
 go_loopw [3,4] (CopyRel1 W0 l ks ov) (fun _ i _=>l.length - (intOf i).toNat)
 case atStart=>exact ⟨0,[],rfl,Nat.zero_le _,Rows.start _ _ _ _⟩
 case round=>
  obtain ⟨k,xs,rfl,hk,hr⟩:=hrel
  obtain ⟨AL,cL,rfl⟩:=own_form hr.ownL
  have hx3:wr.cell? ⟨w.heap.size,3,none⟩=some (.slice A l.length c):=((HW.out.below hr.below HW.out.lt).cell 3).trans rfl
  have hwr:Below w.heap.size w wr:=HB.out.trans (hr.below.mono HB.out.size)
  by_cases hlt:k<l.length
  ·obtain ⟨b,o,rfl,hK,hE⟩:=HF.out (by intro e;rw [e] at hlt;simp at hlt)
   obtain ⟨A1,c1,A2,c2,hcells,hval⟩:=item_at hE hK hlt
   obtain ⟨q0,q1,q2,q3,q4⟩:=hcells wr hwr
   have hs:=sizes_get l k hlt
   have hcall:=IH.out _ _ l[k] wr (by have:=HSZ.out;omega) (hval wr hwr) (by have:=HSZ.out;omega)
   have HG:=Lib.hid (List.getElem?_eq_getElem hlt)
   have HC:=Lib.hid hcall
   have HR:=Lib.hid hr
   have hmax:k+1≤maxLen:=by unfold maxLen;omega
   have hby:(k+1) * 80≤140737488355328:=by omega
   have HM:=Lib.hid (And.intro hmax hby)
   clear hcells hval hs hcall hE hK hr hwr hmax hby
   generalize l[k]=x at *
   go_wp2_with (first | (go_at_call 35;refine HC.out.mono ?_;rintro e W1 ⟨v',rfl,⟨L1,O1,rfl,hL1,hO1⟩,hb1⟩;obtain ⟨BL,dL,rfl⟩:=lst_form hL1;obtain ⟨BO,dO,rfl⟩:=obj_form hO1;have H1:=Lib.hid (And.intro hL1 (And.intro hO1 hb1));clear hL1 hO1 hb1) | (at_builtin;refine wpList_append_own_at _ rfl (.tmp 14) (.tmp 21) 28 rfl W0.heap.size 31 i0 _ 5 80 Tryd.underlying28 HI0.out.1 HI0.out.2.1 HI0.out.2.2.1 HI0.out.2.2.2 rfl (by decide) (.slice AL k cL) k xs rfl (((HR.out.step H1.out.2.2).step ((Below.refl _ W1).alloc (Nat.le_refl _) _)).ownL) ⟨W1.heap.size,0,none⟩ 1 1 (chunk x (.slice BL x.items.length dL) (.slice BO x.vals.length dO)) rfl rfl (row_cells' _ _ rfl _ _) (by simp [chunk,Value.oneCell']) HM.out.1 HM.out.2 (((HR.out.step H1.out.2.2).step ((Below.refl _ W1).alloc (Nat.le_refl _) _)).size) ?_;intro v3 W3 hown3 hgrow3 _ hat3;obtain ⟨A3,c3,rfl⟩:=own_form hown3;have H3:=Lib.hid (And.intro hown3 (And.intro hgrow3 hat3));clear hown3 hgrow3 hat3))
   go_roundw
   case rel=>exact ⟨k+1,_,by go_num,by omega,HR.out.addL HG.out H1.out.2.2 H1.out.1 H1.out.2.1 H3.out.1 H3.out.2.1 H3.out.2.2⟩
   case measure=>simp [intOf];omega
  ·have hkl:k=l.length:=by omega
   subst hkl
   have HR:=Lib.hid hr
   clear hr hwr
   go_wp2
   clear hx3
   go_loopw [5,6] (CopyRel2 W0 l ks ov (.slice AL l.length cL)) (fun _ i _=>ov.length - (intOf i).toNat)
   case atStart=>exact ⟨0,_,_,rfl,Nat.zero_le _,HR.out⟩
   case round=>
    clear HR
    obtain ⟨k,xs,ys,rfl,hk,hr⟩:=hrel
    obtain ⟨AO,cO,rfl⟩:=own_form hr.ownO
    by_cases hlt:k<ov.length
    ·have hwr:Below w.heap.size w wr:=HB.out.trans (hr.below.mono HB.out.size)
     obtain ⟨b,o,rfl,hK,hks,hE⟩:=HF'.out (by intro e;rw [e] at hlt;simp at hlt)
     have hx4:wr.cell? ⟨w.heap.size,4,none⟩=some (.slice (some ⟨b,o,none⟩) ov.length c'):=((HW.out.below hr.below HW.out.lt).cell 4).trans rfl
     have hlk:k<ks.length:=by have:=HKL.out;omega
     obtain ⟨A1,c1,A2,c2,hcells,hval⟩:=field_at hks hE hK hlt hlk
     have hs:=sizes_get ov k hlt
     have hsz:=HSZ.out
     have HC:=Lib.hid (fun (W:World) (h:Below W0.heap.size W0 W)=>IH.out _ _ ov[k] W (by omega) (hval W (HB.out.trans (h.mono HB.out.size))) (by omega))
     have HS:=Lib.hid (fun (W:World) (h:Below W0.heap.size W0 W)=>And.intro (((HW.out.below h HW.out.lt).cell 4).trans rfl:W.cell? ⟨w.heap.size,4,none⟩=some (.slice (some ⟨b,o,none⟩) ov.length c')) (hcells W (HB.out.trans (h.mono HB.out.size))))
     have HG:=Lib.hid (And.intro (List.getElem?_eq_getElem hlt) (List.getElem?_eq_getElem hlk))
     have HR:=Lib.hid hr
     have hmax:k+1≤maxLen:=by unfold maxLen;omega
     have hby:(k+1) * 96≤140737488355328:=by omega
     have HM:=Lib.hid (And.intro hmax hby)
     have hk0:(0:Int)≤(k:Int):=by omega
     have hk1:(k:Int)<(ov.length:Int):=by omega
     clear hcells hval hs hsz hE hK hks hr hwr hmax hby
     generalize ov[k]=x at *
     generalize ks[k]=kk at *
     go_wp2_with fail
     go_region_held3 (fun W=>W.cell? ⟨w.heap.size,4,none⟩=some (.slice (some ⟨b,o,none⟩) ov.length c')∧W.cell? ⟨b,o+k * 6,none⟩=some (.string kk)∧W.cell? ⟨b,o+k * 6+1,none⟩=some (.int .u8 x.kind)∧W.cell? ⟨b,o+k * 6+1+1,none⟩=some (.int .i64 x.num)∧W.cell? ⟨b,o+k * 6+1+2,none⟩=some (.string x.str)∧W.cell? ⟨b,o+k * 6+1+3,none⟩=some (.slice A1 x.items.length c1)∧W.cell? ⟨b,o+k * 6+1+4,none⟩=some (.slice A2 x.vals.length c2))
      (first | exact HS.out _ H3.out.2.2.2 | exact HS.out _ ((HR.out.step H1.out.2.2).step ((Below.refl _ W1).alloc (Nat.le_refl _) _)).below | exact HS.out _ (HR.out.step H1.out.2.2).below | exact HS.out _ HR.out.below.drew)
      (first | (go_at_call 35;refine (HC.out _ HR.out.below.drew).mono ?_;rintro e W1 ⟨v',rfl,⟨L1,O1,rfl,hL1,hO1⟩,hb1⟩;obtain ⟨BL,dL,rfl⟩:=lst_form hL1;obtain ⟨BO,dO,rfl⟩:=obj_form hO1;have hb2:Below wr.heap.size wr W1:=(Below.refl _ _).drew.trans hb1;have H1:=Lib.hid (And.intro hL1 (And.intro hO1 hb2));clear hL1 hO1 hb1 hb2) | (refine step_append_mine rfl (.tmp 30) (.tmp 45) 29 rfl W0.heap.size 55 i1 _ 6 96 Tryd.underlying29 HI1.out.1 HI1.out.2.1 HI1.out.2.2.1 HI1.out.2.2.2 rfl (by decide) (.slice AO k cO) k ys rfl ((HR.out.step H1.out.2.2).step ((Below.refl _ W1).alloc (Nat.le_refl _) _)).ownO ⟨W1.heap.size,0,none⟩ 1 1 (.string kk :: chunk x (.slice BL x.items.length dL) (.slice BO x.vals.length dO)) rfl rfl (row_cells' _ _ rfl _ _) (by simp [chunk,Value.oneCell']) HM.out.1 HM.out.2 ((HR.out.step H1.out.2.2).step ((Below.refl _ W1).alloc (Nat.le_refl _) _)).size ?_;intro v3 W3 hown3 hgrow3 hat3;obtain ⟨A3,c3,rfl⟩:=own_form hown3;have H3:=Lib.hid (And.intro hown3 (And.intro hgrow3 (And.intro hat3 (HR.out.addO HG.out.1 HG.out.2 H1.out.2.2 H1.out.1 H1.out.2.1 hown3 hgrow3 hat3).below)));clear hown3 hgrow3 hat3))
     go_wp2
     go_roundw
     case rel=>exact ⟨k+1,_,_,by go_num,by omega,HR.out.addO HG.out.1 HG.out.2 H1.out.2.2 H1.out.1 H1.out.2.1 H3.out.1 H3.out.2.1 H3.out.2.2.1⟩
     case measure=>simp [intOf];omega
    ·have hkl:k=ov.length:=by omega
     subst hkl
     have hx4:wr.cell? ⟨w.heap.size,4,none⟩=some (.slice A' ov.length c'):=((HW.out.below hr.below HW.out.lt).cell 4).trans rfl
     have hx:=(HW.out.below hr.below HW.out.lt).five
     have hy:=(HV.out.below hr.below HV.out.lt).five
     obtain ⟨a0,a1,a2,a3,a4,f0,f1,f2,f3,f4⟩:=hx
     obtain ⟨b0,b1,b2,b3,b4,e0,e1,e2,e3,e4⟩:=hy
     have HR:=Lib.hid hr
     clear hr
     go_wp2
     refine bodyPost_ret (v:=.agg #[.int .u8 gk,.int .i64 gn,.string gs,.slice AL l.length cL,.slice AO ov.length cO]) (by simp [results,Tryd.results35,go_sem,b0,b1,b2,b3,b4]) rfl ?_
     exact ⟨_,_,_,_,_,_,rfl,HR.out.whole HKL.out (W:=put5 ((wr.setCell ⟨w.heap.size,3,none⟩ (.slice AL l.length cL)).setCell ⟨w.heap.size,4,none⟩ (.slice AO ov.length cO)) (w.heap.size+1) (.int .u8 gk) (.int .i64 gn) (.string gs) (.slice AL l.length cL) (.slice AO ov.length cO)) (fun j hj hlt=>by
      rw [put5_block _ _ _ _ _ _ _ _ (by have:=HS0.out;omega),Below.heap_setCell _ _ _ _ (by have:=HS0.out;simp only;omega),Below.heap_setCell _ _ _ _ (by have:=HS0.out;simp only;omega)]) (by have:=HS0.out;omega),put5_below (((HB.out.trans (HR.out.below.mono HB.out.size)).setCell (Nat.le_refl _) _).setCell (Nat.le_refl _) _) (by omega) _ _ _ _ _⟩
end Go.Proofs.YtlhfnemcpgfcdaaDoor
namespace Go.Proofs.YtlhfnemcpgfcdaaDoor
open Go Go.RowKit
theorem own_setL2 {ok ok':Nat→Prop} {B0:Nat} {W W':World} {l:List GV} {xs:List Value} {g k c:Nat} {y:GV} (hr:RowL ok W l xs) (ho:W.ownsRow B0 31 5 (.slice (some ⟨g,0,none⟩) l.length c) l.length xs) (hne:¬ ok g) (hok:∀ k,ok k→ok' k) (hg':ok' g)
  (hJ:Just g (k * 5) 5 W W') (hy:y.at ok' W' g (k * 5)):LstV ok' W' (.slice (some ⟨g,0,none⟩) l.length c) (l.set k y):=by
 rcases ho.2 with ⟨hn,_⟩ | ⟨g',cap,cur,he,hb,hg,h1,h2,h3,h4⟩
 ·cases hn
 cases he
 have hF:From ok W W':=hJ.from hne
 obtain ⟨cs',hw'⟩:=hJ.row _ _ (show Whole W g 31 cur from hg)
 have hE:GV.els ok W g 5 0 l:=hr.els fun j u hj=>by
  have:=ho.cells (g:=g) rfl j u hj
  rwa [addr_add0] at this
 refine .inr ⟨g,0,c,by rw [List.length_set],by rw [List.length_set];exact h1,h2,hw'.kind hg',GV.els_of fun i a ha=>?_⟩
 rw [Nat.zero_add]
 by_cases e:i=k
 ·subst e
  rw [List.getElem?_set] at ha
  simp only [if_true] at ha
  split at ha
  ·cases ha;exact hy
  ·cases ha
 ·rw [List.getElem?_set_ne (Ne.symm e)] at ha
  have hat:=GV.els_get hE ha
  rw [Nat.zero_add] at hat
  obtain ⟨L,O,c0,c1,c2,c3,c4,hL,hO⟩:=GV.at_iff.1 hat
  have hn:∀ d,d<5→W'.cell? ⟨g,i * 5+d,none⟩=W.cell? ⟨g,i * 5+d,none⟩:=fun d hd=>hJ.near _ (by omega)
  have n0:=hn 0 (by omega)
  rw [Nat.add_zero] at n0
  exact GV.at_iff.2 ⟨L,O,n0.trans c0,(hn 1 (by omega)).trans c1,(hn 2 (by omega)).trans c2,(hn 3 (by omega)).trans c3,(hn 4 (by omega)).trans c4,hL.keep hF (fun k h _=>hok k h),hO.keep hF (fun k h _=>hok k h)⟩
theorem own_setO2 {ok ok':Nat→Prop} {B0:Nat} {W W':World} {ks:List ByteArray} {l:List GV} {xs:List Value} {g k c:Nat} {y:GV} (hr:RowO ok W ks l xs) (ho:W.ownsRow B0 55 6 (.slice (some ⟨g,0,none⟩) l.length c) l.length xs) (hne:¬ ok g) (hok:∀ k,ok k→ok' k) (hg':ok' g)
  (hJ:Just g (k * 6+1) 5 W W') (hy:y.at ok' W' g (k * 6+1)):ObjV ok' W' (.slice (some ⟨g,0,none⟩) l.length c) ks (l.set k y):=by
 rcases ho.2 with ⟨hn,_⟩ | ⟨g',cap,cur,he,hb,hg,h1,h2,h3,h4⟩
 ·cases hn
 cases he
 have hF:From ok W W':=hJ.from hne
 obtain ⟨cs',hw'⟩:=hJ.row _ _ (show Whole W g 55 cur from hg)
 have hlen:=hr.len
 have hE:=hr.els (b:=g) (off:=0) fun j u hj=>by
  have:=ho.cells (g:=g) rfl j u hj
  rwa [addr_add0] at this
 refine ⟨by rw [List.length_set];exact hlen,.inr ⟨g,0,c,by rw [List.length_set],by rw [List.length_set];exact h1,h2,hw'.kind hg',KeysAt.of fun i a ha=>?_,GV.els_of fun i a ha=>?_⟩⟩
 ·exact (hJ.near _ (by omega)).trans (hE.1.get ha)
 ·by_cases e:i=k
  ·subst e
   rw [List.getElem?_set] at ha
   simp only [if_true] at ha
   split at ha
   ·cases ha;rwa [show 0+1+i * 6=i * 6+1 by omega]
   ·cases ha
  ·rw [List.getElem?_set_ne (Ne.symm e)] at ha
   obtain ⟨L,O,c0,c1,c2,c3,c4,hL,hO⟩:=GV.at_iff.1 (GV.els_get hE.2 ha)
   have hn:∀ d,d<5→W'.cell? ⟨g,0+1+i * 6+d,none⟩=W.cell? ⟨g,0+1+i * 6+d,none⟩:=fun d hd=>hJ.near _ (by omega)
   have n0:=hn 0 (by omega)
   rw [Nat.add_zero] at n0
   exact GV.at_iff.2 ⟨L,O,n0.trans c0,(hn 1 (by omega)).trans c1,(hn 2 (by omega)).trans c2,(hn 3 (by omega)).trans c3,(hn 4 (by omega)).trans c4,hL.keep hF (fun k h _=>hok k h),hO.keep hF (fun k h _=>hok k h)⟩
theorem put_there2 {ok ok':Nat→Prop} {b off:Nat} {x:GV} {CL CO:Option Addr} {eL eO:Nat} {W:World} {z0 z1 z2 z3 z4:Value} (c0:W.cell? ⟨b,off,none⟩=some z0) (c1:W.cell? ⟨b,off+1,none⟩=some z1) (c2:W.cell? ⟨b,off+2,none⟩=some z2) (c3:W.cell? ⟨b,off+3,none⟩=some z3) (c4:W.cell? ⟨b,off+4,none⟩=some z4)
  (hb:¬ ok b) (hok:∀ k,ok k→ok' k) (hL:LstV ok W (.slice CL x.items.length eL) x.items) (hO:ObjV ok W (.slice CO x.vals.length eO) x.keys x.vals):
  x.at ok' (((((W.setCell ⟨b,off,none⟩ (.int .u8 x.kind)).setCell ⟨b,off+1,none⟩ (.int .i64 x.num)).setCell ⟨b,off+2,none⟩ (.string x.str)).setCell ⟨b,off+3,none⟩ (.slice CL x.items.length eL)).setCell ⟨b,off+4,none⟩ (.slice CO x.vals.length eO)) b off:=by
 have hJ:=just_put5 (b:=b) (off:=off) W (.int .u8 x.kind) (.int .i64 x.num) (.string x.str) (.slice CL x.items.length eL) (.slice CO x.vals.length eO)
 have hF:From ok W _:=hJ.from hb
 refine GV.at_iff.2 ⟨.slice CL x.items.length eL,.slice CO x.vals.length eO,?_,?_,?_,?_,?_,hL.keep hF (fun k h _=>hok k h),hO.keep hF (fun k h _=>hok k h)⟩
 ·rw [cell_far _ (by omega),cell_far _ (by omega),cell_far _ (by omega),cell_far _ (by omega)]
  exact World.cell?_setCell_same' _ _ _ (by rw [c0];rfl)
 ·rw [cell_far _ (by omega),cell_far _ (by omega),cell_far _ (by omega)]
  exact World.cell?_setCell_same' _ _ _ (by rw [cell_far _ (by omega),c1];rfl)
 ·rw [cell_far _ (by omega),cell_far _ (by omega)]
  exact World.cell?_setCell_same' _ _ _ (by rw [cell_far _ (by omega),cell_far _ (by omega),c2];rfl)
 ·rw [cell_far _ (by omega)]
  exact World.cell?_setCell_same' _ _ _ (by rw [cell_far _ (by omega),cell_far _ (by omega),cell_far _ (by omega),c3];rfl)
 ·exact World.cell?_setCell_same' _ _ _ (by rw [cell_far _ (by omega),cell_far _ (by omega),cell_far _ (by omega),cell_far _ (by omega),c4];rfl)
theorem rows_atL {lo:Nat} {l:List GV} {ks:List ByteArray} {ov:List GV} {W:World} {AL:Option Addr} {cL:Nat} {vO:Value} {xs ys:List Value} (h:CopyRows lo l ks ov W (.slice AL l.length cL) vO xs ys) {k:Nat} (hk:k<l.length):
  ∃ eb cs,AL=some ⟨eb,0,none⟩∧lo≤eb∧Whole W eb 31 cs∧l.length≤cL∧cL≤maxLen∧∃ u0 u1 u2 u3 u4,W.cell? ⟨eb,k * 5,none⟩=some u0∧W.cell? ⟨eb,k * 5+1,none⟩=some u1∧W.cell? ⟨eb,k * 5+2,none⟩=some u2∧W.cell? ⟨eb,k * 5+3,none⟩=some u3∧W.cell? ⟨eb,k * 5+4,none⟩=some u4:=by
 rcases h.ownL.2 with ⟨_,hn⟩ | ⟨g,cap,cur,he,hb,hg,h1,h2,h3,h4⟩
 ·omega
 ·cases he
  have hE:=h.rowL.els (b:=g) (off:=0) fun j u hj=>by
   have:=h.ownL.cells (g:=g) rfl j u hj
   rwa [addr_add0] at this
  have hat:=GV.els_get hE (List.getElem?_eq_getElem hk)
  rw [Nat.zero_add] at hat
  obtain ⟨L,O,c0,c1,c2,c3,c4,_⟩:=GV.at_iff.1 hat
  exact ⟨g,cur,rfl,hb,hg,h1,h2,_,_,_,_,_,c0,c1,c2,c3,c4⟩
theorem rows_atO {lo:Nat} {l:List GV} {ks:List ByteArray} {ov:List GV} {W:World} {AO:Option Addr} {cO:Nat} {vL:Value} {xs ys:List Value} (h:CopyRows lo l ks ov W vL (.slice AO ov.length cO) xs ys) {k:Nat} (hk:k<ov.length):
  ∃ eb cs,AO=some ⟨eb,0,none⟩∧lo≤eb∧Whole W eb 55 cs∧ov.length≤cO∧cO≤maxLen∧∃ u0 u1 u2 u3 u4,W.cell? ⟨eb,k * 6+1,none⟩=some u0∧W.cell? ⟨eb,k * 6+1+1,none⟩=some u1∧W.cell? ⟨eb,k * 6+1+2,none⟩=some u2∧W.cell? ⟨eb,k * 6+1+3,none⟩=some u3∧W.cell? ⟨eb,k * 6+1+4,none⟩=some u4:=by
 rcases h.ownO.2 with ⟨_,hn⟩ | ⟨g,cap,cur,he,hb,hg,h1,h2,h3,h4⟩
 ·omega
 ·cases he
  have hE:=h.rowO.els (b:=g) (off:=0) fun j u hj=>by
   have:=h.ownO.cells (g:=g) rfl j u hj
   rwa [addr_add0] at this
  have hat:=GV.els_get hE.2 (List.getElem?_eq_getElem hk)
  rw [show 0+1+k * 6=k * 6+1 by omega] at hat
  obtain ⟨L,O,c0,c1,c2,c3,c4,_⟩:=GV.at_iff.1 hat
  exact ⟨g,cur,rfl,hb,hg,h1,h2,_,_,_,_,_,c0,c1,c2,c3,c4⟩
end Go.Proofs.YtlhfnemcpgfcdaaDoor
namespace Go.Proofs.YtlhfnemcpgfcdaaDoor
open Go Go.RowKit
set_option linter.unusedVariables false
set_option linter.unusedSimpArgs false
theorem gknown_any (k:Nat) (i j:Int) (g:GV) (A AL AO:Option Addr) (pl cp cL cO:Nat) (ky cs:ByteArray) (n:Int) (w:World):Calls Tryd.prog 65 #[.agg #[.int .u8 k,.slice A pl cp,.string ky,.int .i64 i,.int .i64 j,.int .i64 n,.int .u8 g.kind,.int .i64 g.num,.string g.str,.slice AL g.items.length cL,.slice AO g.vals.length cO,.string cs]] w fun e w'=>e=.returned (.bool (listK k))∧Below w.heap.size w w':=by
 rcases (show k=4∨k=5∨k=6∨k=7∨(k≠4∧k≠5∧k≠6∧k≠7) by omega) with rfl | rfl | rfl | rfl | ⟨h4,h5,h6,h7⟩
 case inr.inr.inr.inr=>
  rw [show listK k=false by simp [listK,h4,h5,h6,h7]]
  have g4:((k:Int) == 4)=false:=by simp;omega
  have g5:((k:Int) == 5)=false:=by simp;omega
  have g6:((k:Int) == 6)=false:=by simp;omega
  have g7:((k:Int) == 7)=false:=by simp;omega
  clear h4 h5 h6 h7
  go_enter Tryd.func65,Tryd.ntmps65
  go_wp2
  go_ret
  exact ⟨rfl,below_alloc _ _⟩
 all_goals
  go_enter Tryd.func65,Tryd.ntmps65
  go_wp2
  go_ret
  exact ⟨rfl,below_alloc _ _⟩
theorem gcheck_any (M k:Nat) (i j:Int) (g:GV) (A AL AO:Option Addr) (pl cp cL cO:Nat) (ky cs:ByteArray) (n:Int) (w:World):Calls Tryd.prog 38 #[.int .i64 M,.agg #[.int .u8 k,.slice A pl cp,.string ky,.int .i64 i,.int .i64 j,.int .i64 n,.int .u8 g.kind,.int .i64 g.num,.string g.str,.slice AL g.items.length cL,.slice AO g.vals.length cO,.string cs]] w fun e w'=>e=.returned (.int .i64 (chk M k i j))∧Below w.heap.size w w':=by
 have H0:=Lib.hid (Whole.new w 36 #[.int .u8 k,.slice A pl cp,.string ky,.int .i64 i,.int .i64 j,.int .i64 n,.int .u8 g.kind,.int .i64 g.num,.string g.str,.slice AL g.items.length cL,.slice AO g.vals.length cO,.string cs])
 have HB:=Lib.hid (below_alloc w (.cells #[.int .u8 k,.slice A pl cp,.string ky,.int .i64 i,.int .i64 j,.int .i64 n,.int .u8 g.kind,.int .i64 g.num,.string g.str,.slice AL g.items.length cL,.slice AO g.vals.length cO,.string cs] 36))
 have HKN:=Lib.hid (fun W=>gknown_any k i j g A AL AO pl cp cL cO ky cs n W)
 have hr:chk M k i j=if listK k=false then 31 else if (i<0∨(M:Int)<i)∨(i=M∧k≠4) then 32 else if k=7∧(j<0∨(M:Int)≤j) then 32 else 0:=by
  unfold chk withinB listK
  by_cases h4:k=4
  ·subst h4;simp;split<;>split<;>omega
  ·by_cases h5:k=5
   ·subst h5;simp;split<;>split<;>omega
   ·by_cases h6:k=6
    ·subst h6;simp;split<;>split<;>omega
    ·by_cases h7:k=7
     ·subst h7;simp;(repeat' split)<;>omega
     ·simp [h4,h5,h6,h7]
 generalize chk M k i j=r at *
 have HR:=Lib.hid hr
 clear hr
 have g4:((k:Int) != 4) = !decide (k=4):=by by_cases h:k=4<;>simp [h];omega
 have g7:((k:Int) == 7)=decide (k=7):=by by_cases h:k=7<;>simp [h];omega
 have G4:=Lib.hid g4
 have G7:=Lib.hid g7
 clear g4 g7
 cases hl:listK k
 ·have h:=HR.out
  rw [if_pos hl] at h
  subst h
  rw [hl] at HKN
  clear HR hl
  go_enter Tryd.func38,Tryd.ntmps38
  go_wp2_with (go_at_call 65;refine (HKN.out _).mono ?_;rintro e w1 ⟨rfl,hb⟩;have B1:=Lib.hid (HB.out.trans (hb.mono HB.out.size));clear hb)
  go_ret
  exact ⟨rfl,B1.out⟩
 ·have h:=HR.out
  rw [if_neg (by simp [hl])] at h
  rw [hl] at HKN
  clear HR hl
  by_cases c1:(i<0∨(M:Int)<i)∨(i=M∧k≠4)
  ·rw [if_pos c1] at h
   subst h
   rcases c1 with (c1 | c1) | ⟨c1,c2⟩
   ·have e1:decide (i<0)=true:=by simpa using c1
    go_enter Tryd.func38,Tryd.ntmps38
    go_wp2_with (go_at_call 65;refine (HKN.out _).mono ?_;rintro e w1 ⟨rfl,hb⟩;have H1:=Lib.hid (H0.out.below hb H0.out.lt);have B1:=Lib.hid (HB.out.trans (hb.mono HB.out.size));have q0:=H1.out.tw.c0;have q3:=H1.out.tw.c3;have q4:=H1.out.tw.c4;clear hb)
    go_ret
    exact ⟨rfl,B1.out⟩
   ·have e1:decide (i<0)=false:=by simp;omega
    have e2:decide ((M:Int)<i)=true:=by simpa using c1
    go_enter Tryd.func38,Tryd.ntmps38
    go_wp2_with (go_at_call 65;refine (HKN.out _).mono ?_;rintro e w1 ⟨rfl,hb⟩;have H1:=Lib.hid (H0.out.below hb H0.out.lt);have B1:=Lib.hid (HB.out.trans (hb.mono HB.out.size));have q0:=H1.out.tw.c0;have q3:=H1.out.tw.c3;have q4:=H1.out.tw.c4;clear hb)
    go_ret
    exact ⟨rfl,B1.out⟩
   ·have g4:((k:Int) != 4)=true:=by rw [G4.out];simpa using c2
    have e1:decide (i<0)=false:=by simp;omega
    have e2:decide ((M:Int)<i)=false:=by simp;omega
    have e3:(i == (M:Int))=true:=by simpa using c1
    clear c1 c2
    go_enter Tryd.func38,Tryd.ntmps38
    go_wp2_with (go_at_call 65;refine (HKN.out _).mono ?_;rintro e w1 ⟨rfl,hb⟩;have H1:=Lib.hid (H0.out.below hb H0.out.lt);have B1:=Lib.hid (HB.out.trans (hb.mono HB.out.size));have q0:=H1.out.tw.c0;have q3:=H1.out.tw.c3;have q4:=H1.out.tw.c4;clear hb)
    go_ret
    exact ⟨rfl,B1.out⟩
  ·rw [if_neg c1] at h
   have e1:decide (i<0)=false:=by simp;omega
   have e2:decide ((M:Int)<i)=false:=by simp;omega
   by_cases im:i=M
   ·have hk:k=4:=by omega
    have g4:((k:Int) != 4)=false:=by rw [G4.out];simpa using hk
    have g7:((k:Int) == 7)=false:=by rw [G7.out];simp;omega
    have e3:(i == (M:Int))=true:=by simpa using im
    rw [if_neg (by omega)] at h
    subst h
    clear im hk c1
    go_enter Tryd.func38,Tryd.ntmps38
    go_wp2_with (go_at_call 65;refine (HKN.out _).mono ?_;rintro e w1 ⟨rfl,hb⟩;have H1:=Lib.hid (H0.out.below hb H0.out.lt);have B1:=Lib.hid (HB.out.trans (hb.mono HB.out.size));have q0:=H1.out.tw.c0;have q3:=H1.out.tw.c3;have q4:=H1.out.tw.c4;clear hb)
    go_ret
    exact ⟨rfl,B1.out⟩
   ·have e3:(i == (M:Int))=false:=by simpa using im
    clear im c1
    by_cases k7:k=7
    ·have g7:((k:Int) == 7)=true:=by rw [G7.out];simpa using k7
     by_cases j0:j<0
     ·have e4:decide (j<0)=true:=by simpa using j0
      rw [if_pos ⟨k7,.inl j0⟩] at h
      subst h
      clear k7 j0
      go_enter Tryd.func38,Tryd.ntmps38
      go_wp2_with (go_at_call 65;refine (HKN.out _).mono ?_;rintro e w1 ⟨rfl,hb⟩;have H1:=Lib.hid (H0.out.below hb H0.out.lt);have B1:=Lib.hid (HB.out.trans (hb.mono HB.out.size));have q0:=H1.out.tw.c0;have q3:=H1.out.tw.c3;have q4:=H1.out.tw.c4;clear hb)
      go_ret
      exact ⟨rfl,B1.out⟩
     ·have e4:decide (j<0)=false:=by simp;omega
      by_cases j1:(M:Int)≤j
      ·have e5:decide ((M:Int)≤j)=true:=by simpa using j1
       rw [if_pos ⟨k7,.inr j1⟩] at h
       subst h
       clear k7 j0 j1
       go_enter Tryd.func38,Tryd.ntmps38
       go_wp2_with (go_at_call 65;refine (HKN.out _).mono ?_;rintro e w1 ⟨rfl,hb⟩;have H1:=Lib.hid (H0.out.below hb H0.out.lt);have B1:=Lib.hid (HB.out.trans (hb.mono HB.out.size));have q0:=H1.out.tw.c0;have q3:=H1.out.tw.c3;have q4:=H1.out.tw.c4;clear hb)
       go_ret
       exact ⟨rfl,B1.out⟩
      ·have e5:decide ((M:Int)≤j)=false:=by simp;omega
       rw [if_neg (by omega)] at h
       subst h
       clear k7 j0 j1
       go_enter Tryd.func38,Tryd.ntmps38
       go_wp2_with (go_at_call 65;refine (HKN.out _).mono ?_;rintro e w1 ⟨rfl,hb⟩;have H1:=Lib.hid (H0.out.below hb H0.out.lt);have B1:=Lib.hid (HB.out.trans (hb.mono HB.out.size));have q0:=H1.out.tw.c0;have q3:=H1.out.tw.c3;have q4:=H1.out.tw.c4;clear hb)
       go_ret
       exact ⟨rfl,B1.out⟩
    ·have g7:((k:Int) == 7)=false:=by rw [G7.out];simpa using k7
     rw [if_neg (by omega)] at h
     subst h
     clear k7
     go_enter Tryd.func38,Tryd.ntmps38
     go_wp2_with (go_at_call 65;refine (HKN.out _).mono ?_;rintro e w1 ⟨rfl,hb⟩;have H1:=Lib.hid (H0.out.below hb H0.out.lt);have B1:=Lib.hid (HB.out.trans (hb.mono HB.out.size));have q0:=H1.out.tw.c0;have q3:=H1.out.tw.c3;have q4:=H1.out.tw.c4;clear hb)
     go_ret
     exact ⟨rfl,B1.out⟩
theorem rcopy_l {l:List GV} (hw:GV.weights l≤900000000) (W:World) (B:Option Addr) (d:Nat) (h:ListIn l B d W):Calls Tryd.prog 35 #[.agg #[.int .u8 0,.int .i64 0,.string ⟨#[]⟩,.slice B l.length d,.slice none 0 0]] W fun e w'=>
   ∃ BL dL BO dO,e=.returned (.agg #[.int .u8 0,.int .i64 0,.string ⟨#[]⟩,.slice BL l.length dL,.slice BO 0 dO])∧LstV (fun k=>W.heap.size≤k) w' (.slice BL l.length dL) l∧Below W.heap.size W w':=by
 have hv:(GV.mk 0 0 ⟨#[]⟩ l [] []).val (fun _=>True) W (.agg #[.int .u8 0,.int .i64 0,.string ⟨#[]⟩,.slice B l.length d,.slice none 0 0]):=⟨_,_,rfl,h,⟨rfl,.inl ⟨rfl,rfl⟩⟩⟩
 have hs:(GV.mk 0 0 ⟨#[]⟩ l [] []).size≤1000000000:=Nat.le_trans (size_le_weight _) (by have h0:(⟨#[]⟩:ByteArray).size=0:=rfl;simp only [GV.weight,GV.weights,h0];simp;omega)
 exact (ref_Copy _ _ _ _ W (Nat.le_refl _) hv hs).mono fun e w' ⟨v',he,⟨L',O',e2,hL',hO'⟩,hb⟩=>by
  obtain ⟨BL,dL,rfl⟩:=lst_form hL'
  obtain ⟨BO,dO,rfl⟩:=obj_form hO'
  exact ⟨BL,dL,BO,dO,by rw [he,e2];rfl,hL',hb⟩
theorem away_not {lo eb:Nat} {l c:Nat} {vO:Value}:¬ Away lo (.slice (some ⟨eb,0,none⟩) l c) vO eb:=fun h=>h.2.1 rfl
theorem CopyRows.below {lo:Nat} {l:List GV} {ks:List ByteArray} {ov:List GV} {W W':World} {vL vO:Value} {xs ys:List Value} (h:CopyRows lo l ks ov W vL vO xs ys) (hb:Below W.heap.size W W'):CopyRows lo l ks ov W' vL vO xs ys:=
 ⟨own_below h.ownL hb,own_below h.ownO hb,h.rowL.keep (From.of_below hb) (fun _ h _=>h),h.rowO.keep (From.of_below hb) (fun _ h _=>h)⟩
theorem rcopy_rows {l:List GV} (hw:GV.weights l≤900000000) (W:World) (B:Option Addr) (d:Nat) (h:ListIn l B d W):Calls Tryd.prog 35 #[.agg #[.int .u8 0,.int .i64 0,.string ⟨#[]⟩,.slice B l.length d,.slice none 0 0]] W fun e w'=>
   ∃ BL dL BO dO,e=.returned (.agg #[.int .u8 0,.int .i64 0,.string ⟨#[]⟩,.slice BL l.length dL,.slice BO 0 dO])∧(∃ xs ys,CopyRows W.heap.size l [] [] w' (.slice BL l.length dL) (.slice BO 0 dO) xs ys)∧Below W.heap.size W w':=by
 have hv:(GV.mk 0 0 ⟨#[]⟩ l [] []).val (fun _=>True) W (.agg #[.int .u8 0,.int .i64 0,.string ⟨#[]⟩,.slice B l.length d,.slice none 0 0]):=⟨_,_,rfl,h,⟨rfl,.inl ⟨rfl,rfl⟩⟩⟩
 have hs:(GV.mk 0 0 ⟨#[]⟩ l [] []).size≤1000000000:=Nat.le_trans (size_le_weight _) (by have h0:(⟨#[]⟩:ByteArray).size=0:=rfl;simp only [GV.weight,GV.weights,h0];simp;omega)
 exact (ref_CopyR _ _ _ W hv hs).mono fun e w' ⟨BL,dL,BO,dO,xs,ys,he,hc,hb⟩=>⟨BL,dL,BO,dO,he,⟨xs,ys,hc⟩,hb⟩
theorem rcopy_new {g:GV} {W:World} {AL AO:Option Addr} {cL cO:Nat} (hv:Vl W g AL AO cL cO) (hw:g.weight≤1000000000):Calls Tryd.prog 35 #[.agg #[.int .u8 g.kind,.int .i64 g.num,.string g.str,.slice AL g.items.length cL,.slice AO g.vals.length cO]] W fun e w'=>
   ∃ CL CO eL eO,e=.returned (.agg #[.int .u8 g.kind,.int .i64 g.num,.string g.str,.slice CL g.items.length eL,.slice CO g.vals.length eO])∧(LstV (fun k=>W.heap.size≤k) w' (.slice CL g.items.length eL) g.items∧ObjV (fun k=>W.heap.size≤k) w' (.slice CO g.vals.length eO) g.keys g.vals)∧Below W.heap.size W w':=
 (ref_Copy g.size _ _ g W (Nat.le_refl _) hv.val (Nat.le_trans (size_le_weight _) hw)).mono fun e w' ⟨v',he,⟨L,O,e2,hL,hO⟩,hb⟩=>by
  obtain ⟨BL,dL,rfl⟩:=lst_form hL
  obtain ⟨BO,dO,rfl⟩:=obj_form hO
  exact ⟨BL,BO,dL,dO,by rw [he,e2],⟨hL,hO⟩,hb⟩
end Go.Proofs.YtlhfnemcpgfcdaaDoor
namespace Go.Proofs.YtlhfnemcpgfcdaaDoor
open Go Go.RowKit
set_option linter.unusedVariables false
set_option linter.unusedSimpArgs false
def saysB (k:Int):ByteArray:=if k=1 then ⟨#[78]⟩ else if k=2 then ⟨#[75,86]⟩ else if k=3 then ⟨#[75]⟩ else if k=4 then ⟨#[73,86]⟩ else if k=5 then ⟨#[73]⟩ else if k=6 then ⟨#[73,86]⟩ else if k=7 then ⟨#[73,74]⟩ else if k=8 then ⟨#[73,83]⟩ else if k=9 then ⟨#[73,78]⟩ else ⟨#[]⟩
theorem says_any (k:Int) (w:World):Calls Tryd.prog 56 #[.int .u8 k] w fun e w'=>e=.returned (.string (saysB k))∧w'=w:=by
 by_cases hk:1≤k∧k≤9
 ·obtain ⟨h1,h9⟩:=hk
  rcases (show k=1∨k=2∨k=3∨k=4∨k=5∨k=6∨k=7∨k=8∨k=9 by omega) with rfl | rfl | rfl | rfl | rfl | rfl | rfl | rfl | rfl
  all_goals
   go_enter Tryd.func56,Tryd.ntmps56
   go_wp2
   go_ret
   exact ⟨rfl,rfl⟩
 ·have hs:saysB k =⟨#[]⟩:=by unfold saysB;simp only [show ¬ k=1 by omega,show ¬ k=2 by omega,show ¬ k=3 by omega,show ¬ k=4 by omega,show ¬ k=5 by omega,show ¬ k=6 by omega,show ¬ k=7 by omega,show ¬ k=8 by omega,show ¬ k=9 by omega,if_false]
  rw [hs]
  have g1:(k == 1)=false:=by simp;omega
  have g2:(k == 2)=false:=by simp;omega
  have g3:(k == 3)=false:=by simp;omega
  have g4:(k == 4)=false:=by simp;omega
  have g5:(k == 5)=false:=by simp;omega
  have g6:(k == 6)=false:=by simp;omega
  have g7:(k == 7)=false:=by simp;omega
  have g8:(k == 8)=false:=by simp;omega
  have g9:(k == 9)=false:=by simp;omega
  clear hk hs
  go_enter Tryd.func56,Tryd.ntmps56
  go_wp2
  go_ret
  exact ⟨rfl,rfl⟩
def inB (s:ByteArray) (c:Int):Bool:=s.data.toList.any fun b=>decide ((b.toNat:Int)=c)
def InRel (s:ByteArray) (c:Int) (w:World) (i:Value) (wr:World):Prop:=∃ k:Nat,i=.int .i64 k∧k≤s.size∧(∀ b∈s.data.toList.take k,(b.toNat:Int)≠c)∧wr=w
theorem in_any (s:ByteArray) (c:Int) (w:World) (hs:s.size≤1000):Calls Tryd.prog 58 #[.string s,.int .u8 c] w fun e w'=>e=.returned (.bool (inB s c))∧w'=w:=by
 go_enter Tryd.func58,Tryd.ntmps58
 go_wp2
 go_loopw [5] (InRel s c w) (fun i _=>s.size - (intOf i).toNat)
 case atStart=>exact ⟨0,rfl,Nat.zero_le _,by simp,rfl⟩
 case round=>
  obtain ⟨k,rfl,hk,hno,rfl⟩:=hrel
  by_cases hlt:k<s.size
  ·have hl2:k<s.data.toList.length:=by simpa using hlt
   have hb:s.data.toList[k]=s[k]:=by simp;rfl
   have HNO:=Lib.hid hno
   have HT:=Lib.hid (show s.data.toList.take (k+1)=s.data.toList.take k++[s[k]] by rw [List.take_succ_eq_append_getElem hl2,hb])
   have HM:=Lib.hid (show s[k]∈s.data.toList by rw [← hb];exact List.getElem_mem hl2)
   clear hno hb
   by_cases hc:((s[k].toNat:Int))=c
   ·have HC:=Lib.hid hc
    have hz:((s[k].toNat:Int) == c)=true:=by simpa using hc
    clear hc
    go_wp2
    go_ret
    exact ⟨by rw [show inB s c=true from List.any_eq_true.2 ⟨_,HM.out,by simpa using HC.out⟩]<;>rfl,rfl⟩
   ·have HC:=Lib.hid hc
    have hz:((s[k].toNat:Int) == c)=false:=by simpa using hc
    clear hc
    go_wp2
    go_roundw
    case rel=>exact ⟨k+1,by go_num,by omega,by rw [HT.out];intro b hb;rcases List.mem_append.1 hb with hb | hb;exact HNO.out b hb;simp only [List.mem_singleton] at hb;subst hb;exact HC.out,rfl⟩
    case measure=>simp [intOf];omega
  ·have hk':k=s.size:=by omega
   have HF:=Lib.hid (show inB s c=false by
    unfold inB
    rw [List.any_eq_false]
    intro b hb
    have:=hno b (by rw [List.take_of_length_le (by simp;omega)];exact hb)
    simpa using this)
   clear hno
   go_wp2
   go_ret
   exact ⟨by rw [HF.out]<;>rfl,rfl⟩
end Go.Proofs.YtlhfnemcpgfcdaaDoor
