/- The document's own turned, where something stood in a list. -/
import Derived.Test.YthmcfjmignlhfaaGreatDoorQ28
set_option maxRecDepth 100000
set_option maxHeartbeats 16000000
namespace Go.Proofs.YthmcfjmignlhfaaGreatDoor
open Go.Lib(hid)
open Go Go.RowKit Go.Shelf
set_option linter.unusedVariables false
set_option linter.unusedSimpArgs false
theorem zen {w:World} {HL:Option Addr} {dL:Nat} {l:List GV} (hL:LstV (fun _=>True) w (.slice HL l.length dL) l) {i:Nat} {g:GV} (hg:l[i]? = some g):
  ∃ b o GL GO gl go,HL=some ⟨b,o,none⟩/\b<w.heap.size/\w.cell? ⟨b,o+i * 5,none⟩=some (.int .u8 g.kq)/\w.cell? ⟨b,o+i * 5+1,none⟩=some (.int .i64 g.num)/\w.cell? ⟨b,o+i * 5+2,none⟩=some (.string g.str)/\w.cell? ⟨b,o+i * 5+3,none⟩=some (.slice GL g.il.length gl)/\w.cell? ⟨b,o+i * 5+4,none⟩=some (.slice GO g.vz.length go)/\Vl w g GL GO gl go:=by
 obtain ⟨A',c',e,hle,hcap,hx⟩:=hL.form;simp only [Value.slice.injEq] at e;obtain ⟨rfl,_,rfl⟩:=e;obtain ⟨b,o,rfl,hK,hE⟩:=hx (by intro e;rw [e] at hg;simp at hg)
 obtain ⟨L,O,c0,c1,c2,c3,c4,hl,ho⟩:=GV.at_iff.1 (GV.els_get hE hg);obtain ⟨GL,gl,rfl⟩:=zaf hl;obtain ⟨GO,go,rfl⟩:=zae ho;exact ⟨b,o,GL,GO,gl,go,rfl,hK.lt,c0,c1,c2,c3,c4,⟨hl,ho⟩⟩
def undo5 (c:GC) (i:Nat) (g:GV):GC:=⟨4,c.path,⟨#[]⟩,i,0,0,g,⟨#[]⟩⟩
theorem ziM (h HL HO dL dO c A AL AO cp cL cO w) (hh:Vl w h HL HO dL dO) (hc:Cc w c A AL AO cp cL cO) (hpl:c.path.length<=1000000000) (hk:c.kq=5) (i:Nat) (g:GV) (hi:c.i=i) (hg:h.il[i]? = some g) (hgw:g.weight<=1000000000) (hl9:h.il.length<=1000000000):
  Calls Tryz.prog 40 #[.agg #[.int .u8 h.kq,.int .i64 h.num,.string h.str,.slice HL h.il.length dL,.slice HO h.vz.length dO],.agg #[.int .u8 c.kq,.slice A c.path.length cp,.string c.key,.int .i64 c.i,.int .i64 c.j,.int .i64 c.n,.int .u8 c.v.kq,.int .i64 c.v.num,.string c.v.str,.slice AL c.v.il.length cL,.slice AO c.v.vz.length cO,.string c.s]] w (SameNw (undo5 c i g) w):=by
 obtain ⟨b,o,GL,GO,gl,go,rfl,hb0,c0,c1,c2,c3,c4,hv⟩:=zen hh.lst hg;have HCY:=hid (fun W (hb:Below w.heap.size w W)=>za4 (undo5 c i g) A GL GO cp gl go W ⟨hc.path.later hb,hv.later hb⟩ hgw hpl)
 have hlt:i<h.il.length:=by
  rcases Nat.lt_or_ge i h.il.length with h1 | h1
  ·exact h1
  ·rw [List.getElem?_eq_none h1] at hg;cases hg
 have hi0:(0:Int)<=(i:Int):=by omega
 have hi1:(i:Int)<(h.il.length:Int):=by omega
 have x0:∀ o1 o2 o3 o4,((((w.alloc o1).alloc o2).alloc o3).alloc o4).cell? ⟨b,o+i * 5,none⟩=some (.int .u8 g.kq):=fun o1 o2 o3 o4=>((below4 w o1 o2 o3 o4).cell (p:=⟨b,o+i * 5,none⟩) hb0).trans c0
 have x1:∀ o1 o2 o3 o4,((((w.alloc o1).alloc o2).alloc o3).alloc o4).cell? ⟨b,o+i * 5+1,none⟩=some (.int .i64 g.num):=fun o1 o2 o3 o4=>((below4 w o1 o2 o3 o4).cell (p:=⟨b,o+i * 5+1,none⟩) hb0).trans c1
 have x2:∀ o1 o2 o3 o4,((((w.alloc o1).alloc o2).alloc o3).alloc o4).cell? ⟨b,o+i * 5+2,none⟩=some (.string g.str):=fun o1 o2 o3 o4=>((below4 w o1 o2 o3 o4).cell (p:=⟨b,o+i * 5+2,none⟩) hb0).trans c2
 have x3:∀ o1 o2 o3 o4,((((w.alloc o1).alloc o2).alloc o3).alloc o4).cell? ⟨b,o+i * 5+3,none⟩=some (.slice GL g.il.length gl):=fun o1 o2 o3 o4=>((below4 w o1 o2 o3 o4).cell (p:=⟨b,o+i * 5+3,none⟩) hb0).trans c3
 have x4:∀ o1 o2 o3 o4,((((w.alloc o1).alloc o2).alloc o3).alloc o4).cell? ⟨b,o+i * 5+4,none⟩=some (.slice GO g.vz.length go):=fun o1 o2 o3 o4=>((below4 w o1 o2 o3 o4).cell (p:=⟨b,o+i * 5+4,none⟩) hb0).trans c4
 rw [hi];have k1:(c.kq == 1)=false:=by simp;omega
 have k2:(c.kq == 2)=false:=by simp;omega
 have k3:(c.kq == 3)=false:=by simp;omega
 have k4:(c.kq == 4)=false:=by simp;omega
 have k5:(c.kq == 5)=true:=by simp;omega
 clear hh hc hpl hk hi hg hgw hv c0 c1 c2 c3 c4 hlt;go_enter Tryz.func40,Tryz.ntmps40
 go_wp2_with (first
  | (go_at_call 47;refine (HCY.out _ (below4 w _ _ _ _)).mono ?_;rintro e w9 ⟨B,BL,BO,bp,bL,bO,rfl,hn,hb⟩;have H9:=hid (And.intro ((whole4 w _ _ _ _ _).below hb (by simp)) (And.intro hn ((below4 w _ _ _ _).trans (hb.mono (below4 w _ _ _ _).size))));clear hn hb;obtain ⟨b0,b1,b2,b3,b4,b5,b6,b7,b8,b9,b10,b11,y0,y1,y2,y3,y4,y5,y6,y7,y8,y9,y10,y11⟩:=H9.out.1.tw))
 generalize undo5 c i g=D at *;have h9:=zao H9.out.1 (.int .u8 D.kq) (.slice B D.path.length bp) (.string D.key) (.int .i64 D.i) (.int .i64 D.j) (.int .i64 D.n) (.int .u8 D.v.kq) (.int .i64 D.v.num) (.string D.v.str) (.slice BL D.v.il.length bL) (.slice BO D.v.vz.length bO) (.string D.s);have hk9:=zaI w9 (w.heap.size+1+1) (.int .u8 D.kq) (.slice B D.path.length bp) (.string D.key) (.int .i64 D.i) (.int .i64 D.j) (.int .i64 D.n) (.int .u8 D.v.kq) (.int .i64 D.v.num) (.string D.v.str) (.slice BL D.v.il.length bL) (.slice BO D.v.vz.length bO) (.string D.s);have hb9:=zan H9.out.2.2 (show w.heap.size<=w.heap.size+1+1 by omega) (.int .u8 D.kq) (.slice B D.path.length bp) (.string D.key) (.int .i64 D.i) (.int .i64 D.j) (.int .i64 D.n) (.int .u8 D.v.kq) (.int .i64 D.v.num) (.string D.v.str) (.slice BL D.v.il.length bL) (.slice BO D.v.vz.length bO) (.string D.s)
 unfold pt12 at h9 hk9 hb9;generalize ((((((((((((w9.setCell ⟨w.heap.size+1+1,0,none⟩ (.int .u8 D.kq)).setCell ⟨w.heap.size+1+1,1,none⟩ (.slice B D.path.length bp)).setCell ⟨w.heap.size+1+1,2,none⟩ (.string D.key)).setCell ⟨w.heap.size+1+1,3,none⟩ (.int .i64 D.i)).setCell ⟨w.heap.size+1+1,4,none⟩ (.int .i64 D.j)).setCell ⟨w.heap.size+1+1,5,none⟩ (.int .i64 D.n)).setCell ⟨w.heap.size+1+1,6,none⟩ (.int .u8 D.v.kq)).setCell ⟨w.heap.size+1+1,7,none⟩ (.int .i64 D.v.num)).setCell ⟨w.heap.size+1+1,8,none⟩ (.string D.v.str)).setCell ⟨w.heap.size+1+1,9,none⟩ (.slice BL D.v.il.length bL)).setCell ⟨w.heap.size+1+1,10,none⟩ (.slice BO D.v.vz.length bO)).setCell ⟨w.heap.size+1+1,11,none⟩ (.string D.s))=X at *;obtain ⟨d0,d1,d2,d3,d4,d5,d6,d7,d8,d9,d10,d11,_⟩:=h9.tw;have hn9:=H9.out.2.1.kp (m:=w.heap.size) (below4 w _ _ _ _).size (Kp.mono (by simp) hk9)
 have HX:=hid (And.intro hn9 hb9);clear h9 hk9 hb9 hn9;refine bodyPost_ret (v:=.agg #[.int .u8 D.kq,.slice B D.path.length bp,.string D.key,.int .i64 D.i,.int .i64 D.j,.int .i64 D.n,.int .u8 D.v.kq,.int .i64 D.v.num,.string D.v.str,.slice BL D.v.il.length bL,.slice BO D.v.vz.length bO,.string D.s]) (by simp [results,Tryz.results40,go_sem,d0,d1,d2,d3,d4,d5,d6,d7,d8,d9,d10,d11]) rfl ?_
 exact ⟨B,BL,BO,bp,bL,bO,rfl,HX.out.1,HX.out.2⟩
def undo6 (c:GC) (i:Nat) (g:GV):GC:=⟨c.kq,c.path,⟨#[]⟩,i,0,0,g,⟨#[]⟩⟩
theorem zic (h HL HO dL dO c A AL AO cp cL cO w) (hh:Vl w h HL HO dL dO) (hc:Cc w c A AL AO cp cL cO) (hpl:c.path.length<=1000000000) (hk:c.kq=6) (i:Nat) (g:GV) (hi:c.i=i) (hg:h.il[i]? = some g) (hgw:g.weight<=1000000000) (hl9:h.il.length<=1000000000):
  Calls Tryz.prog 40 #[.agg #[.int .u8 h.kq,.int .i64 h.num,.string h.str,.slice HL h.il.length dL,.slice HO h.vz.length dO],.agg #[.int .u8 c.kq,.slice A c.path.length cp,.string c.key,.int .i64 c.i,.int .i64 c.j,.int .i64 c.n,.int .u8 c.v.kq,.int .i64 c.v.num,.string c.v.str,.slice AL c.v.il.length cL,.slice AO c.v.vz.length cO,.string c.s]] w (SameNw (undo6 c i g) w):=by
 obtain ⟨b,o,GL,GO,gl,go,rfl,hb0,c0,c1,c2,c3,c4,hv⟩:=zen hh.lst hg;have HCY:=hid (fun W (hb:Below w.heap.size w W)=>za4 (undo6 c i g) A GL GO cp gl go W ⟨hc.path.later hb,hv.later hb⟩ hgw hpl)
 have hlt:i<h.il.length:=by
  rcases Nat.lt_or_ge i h.il.length with h1 | h1
  ·exact h1
  ·rw [List.getElem?_eq_none h1] at hg;cases hg
 have hi0:(0:Int)<=(i:Int):=by omega
 have hi1:(i:Int)<(h.il.length:Int):=by omega
 have x0:∀ o1 o2 o3 o4,((((w.alloc o1).alloc o2).alloc o3).alloc o4).cell? ⟨b,o+i * 5,none⟩=some (.int .u8 g.kq):=fun o1 o2 o3 o4=>((below4 w o1 o2 o3 o4).cell (p:=⟨b,o+i * 5,none⟩) hb0).trans c0
 have x1:∀ o1 o2 o3 o4,((((w.alloc o1).alloc o2).alloc o3).alloc o4).cell? ⟨b,o+i * 5+1,none⟩=some (.int .i64 g.num):=fun o1 o2 o3 o4=>((below4 w o1 o2 o3 o4).cell (p:=⟨b,o+i * 5+1,none⟩) hb0).trans c1
 have x2:∀ o1 o2 o3 o4,((((w.alloc o1).alloc o2).alloc o3).alloc o4).cell? ⟨b,o+i * 5+2,none⟩=some (.string g.str):=fun o1 o2 o3 o4=>((below4 w o1 o2 o3 o4).cell (p:=⟨b,o+i * 5+2,none⟩) hb0).trans c2
 have x3:∀ o1 o2 o3 o4,((((w.alloc o1).alloc o2).alloc o3).alloc o4).cell? ⟨b,o+i * 5+3,none⟩=some (.slice GL g.il.length gl):=fun o1 o2 o3 o4=>((below4 w o1 o2 o3 o4).cell (p:=⟨b,o+i * 5+3,none⟩) hb0).trans c3
 have x4:∀ o1 o2 o3 o4,((((w.alloc o1).alloc o2).alloc o3).alloc o4).cell? ⟨b,o+i * 5+4,none⟩=some (.slice GO g.vz.length go):=fun o1 o2 o3 o4=>((below4 w o1 o2 o3 o4).cell (p:=⟨b,o+i * 5+4,none⟩) hb0).trans c4
 rw [hi];have k1:(c.kq == 1)=false:=by simp;omega
 have k2:(c.kq == 2)=false:=by simp;omega
 have k3:(c.kq == 3)=false:=by simp;omega
 have k4:(c.kq == 4)=false:=by simp;omega
 have k5:(c.kq == 5)=false:=by simp;omega
 have k6:(c.kq == 6)=true:=by simp;omega
 clear hh hc hpl hk hi hg hgw hv c0 c1 c2 c3 c4 hlt;go_enter Tryz.func40,Tryz.ntmps40
 go_wp2_with (first
  | (go_at_call 47;refine (HCY.out _ (below4 w _ _ _ _)).mono ?_;rintro e w9 ⟨B,BL,BO,bp,bL,bO,rfl,hn,hb⟩;have H9:=hid (And.intro ((whole4 w _ _ _ _ _).below hb (by simp)) (And.intro hn ((below4 w _ _ _ _).trans (hb.mono (below4 w _ _ _ _).size))));clear hn hb;obtain ⟨b0,b1,b2,b3,b4,b5,b6,b7,b8,b9,b10,b11,y0,y1,y2,y3,y4,y5,y6,y7,y8,y9,y10,y11⟩:=H9.out.1.tw))
 generalize undo6 c i g=D at *;have h9:=zao H9.out.1 (.int .u8 D.kq) (.slice B D.path.length bp) (.string D.key) (.int .i64 D.i) (.int .i64 D.j) (.int .i64 D.n) (.int .u8 D.v.kq) (.int .i64 D.v.num) (.string D.v.str) (.slice BL D.v.il.length bL) (.slice BO D.v.vz.length bO) (.string D.s);have hk9:=zaI w9 (w.heap.size+1+1) (.int .u8 D.kq) (.slice B D.path.length bp) (.string D.key) (.int .i64 D.i) (.int .i64 D.j) (.int .i64 D.n) (.int .u8 D.v.kq) (.int .i64 D.v.num) (.string D.v.str) (.slice BL D.v.il.length bL) (.slice BO D.v.vz.length bO) (.string D.s);have hb9:=zan H9.out.2.2 (show w.heap.size<=w.heap.size+1+1 by omega) (.int .u8 D.kq) (.slice B D.path.length bp) (.string D.key) (.int .i64 D.i) (.int .i64 D.j) (.int .i64 D.n) (.int .u8 D.v.kq) (.int .i64 D.v.num) (.string D.v.str) (.slice BL D.v.il.length bL) (.slice BO D.v.vz.length bO) (.string D.s)
 unfold pt12 at h9 hk9 hb9;generalize ((((((((((((w9.setCell ⟨w.heap.size+1+1,0,none⟩ (.int .u8 D.kq)).setCell ⟨w.heap.size+1+1,1,none⟩ (.slice B D.path.length bp)).setCell ⟨w.heap.size+1+1,2,none⟩ (.string D.key)).setCell ⟨w.heap.size+1+1,3,none⟩ (.int .i64 D.i)).setCell ⟨w.heap.size+1+1,4,none⟩ (.int .i64 D.j)).setCell ⟨w.heap.size+1+1,5,none⟩ (.int .i64 D.n)).setCell ⟨w.heap.size+1+1,6,none⟩ (.int .u8 D.v.kq)).setCell ⟨w.heap.size+1+1,7,none⟩ (.int .i64 D.v.num)).setCell ⟨w.heap.size+1+1,8,none⟩ (.string D.v.str)).setCell ⟨w.heap.size+1+1,9,none⟩ (.slice BL D.v.il.length bL)).setCell ⟨w.heap.size+1+1,10,none⟩ (.slice BO D.v.vz.length bO)).setCell ⟨w.heap.size+1+1,11,none⟩ (.string D.s))=X at *;obtain ⟨d0,d1,d2,d3,d4,d5,d6,d7,d8,d9,d10,d11,_⟩:=h9.tw;have hn9:=H9.out.2.1.kp (m:=w.heap.size) (below4 w _ _ _ _).size (Kp.mono (by simp) hk9)
 have HX:=hid (And.intro hn9 hb9);clear h9 hk9 hb9 hn9;refine bodyPost_ret (v:=.agg #[.int .u8 D.kq,.slice B D.path.length bp,.string D.key,.int .i64 D.i,.int .i64 D.j,.int .i64 D.n,.int .u8 D.v.kq,.int .i64 D.v.num,.string D.v.str,.slice BL D.v.il.length bL,.slice BO D.v.vz.length bO,.string D.s]) (by simp [results,Tryz.results40,go_sem,d0,d1,d2,d3,d4,d5,d6,d7,d8,d9,d10,d11]) rfl ?_
 exact ⟨B,BL,BO,bp,bL,bO,rfl,HX.out.1,HX.out.2⟩
end Go.Proofs.YthmcfjmignlhfaaGreatDoor
