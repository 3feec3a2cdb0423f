/- inv.All: what undoes components that were done one behind the other, the last one's first. -/
import Derived.Test.YtmmgdkpkcoopgaaGreatDoorP36
import Derived.Defers
import Derived.Laws.Pointers
set_option maxRecDepth 100000
set_option maxHeartbeats 16000000
namespace Go.Proofs.YtmmgdkpkcoopgaaGreatDoor
open Go.Lib(hid)
open Go Go.RowKit Go.Shelf
open Go.Sort (putRowK)
set_option linter.unusedVariables false
set_option linter.unusedSimpArgs false
def AllOut (g:GV) (es:List EC) (w:World) (e:Ending) (w':World):Prop:=Below w.heap.size w w' /\
 ((200<es.length/\e=.returned (.tuple #[.slice none 0 0,.int .u16 3])) \/
 (es.length<=200/\∃ (k:Nat) (ds:List GC) (y:GV) (E:EC) (d:GC) (n:Int),Came g (es.take k) ds y/\es[k]? = some E/\TurnsTo y E.c d n/\n≠0/\e=.returned (.tuple #[.slice none 0 0,.int .u16 n])) \/
 (es.length<=200/\∃ (fs:List EC) (ds:List GC) (y:GV) (b cap:Nat),Came g es ds y/\fs.map EC.c=ds.reverse/\e=.returned (.tuple #[.slice (some ⟨b,0,none⟩) fs.length cap,.int .u16 0])/\Ops w' (some ⟨b,0,none⟩) cap fs))
theorem whole3a (w:World) (o2 o3:Obj) (t:TypeId) (zs:Array Value):Whole (((w.alloc (.cells zs t)).alloc o2).alloc o3) w.heap.size t zs:=((Whole.new w t zs).alloc o2).alloc o3
structure AllB (w W:World) (y:GV) (BL BO:Option Addr) (dL dO n:Nat) (fs:List EC):Prop where
 v:Whole W w.heap.size 29 #[.int .u8 y.kq,.int .i64 y.num,.string y.str,.slice BL y.il.length dL,.slice BO y.vz.length dO]
 a:Whole W (w.heap.size+1) 31 #[.slice (some ⟨w.heap.size+1+1,0,none⟩) fs.length n]
 g:Gath W (w.heap.size+1+1) n fs
 p:∀ e∈fs,e.New (w.heap.size+1+1+1) W
 y:VlIn (fun k=>k<w.heap.size\/w.heap.size+1+1+1<=k) W y BL BO dL dO
 below:Below w.heap.size w W
theorem AllB.size {w W y BL BO dL dO n} {fs:List EC} (h:AllB w W y BL BO dL dO n fs):w.heap.size+1+1+1<=W.heap.size:=h.g.lt
theorem AllB.step {w W W':World} {y BL BO dL dO n} {fs:List EC} (h:AllB w W y BL BO dL dO n fs) (hb:Below W.heap.size W W'):AllB w W' y BL BO dL dO n fs:=
 ⟨h.v.below hb h.v.lt,h.a.below hb h.a.lt,h.g.below hb h.g.lt,fun e he=>(h.p e he).kp (Nat.le_refl _) ⟨hb.size,fun k _ hk=>hb.block k hk⟩,h.y.later hb,h.below.trans (hb.mono h.below.size)⟩
theorem AllB.alloc {w W y BL BO dL dO n} {fs:List EC} (h:AllB w W y BL BO dL dO n fs) (o:Obj):AllB w (W.alloc o) y BL BO dL dO n fs:=h.step (zaa W o)
theorem AllB.put {w W y z BL BO ZL ZO dL dO zL zO n m} {fs:List EC} (h:AllB w W y BL BO dL dO n fs) (hz:VlNew m W z ZL ZO zL zO) (hm:w.heap.size+1+1+1<=m):
  AllB w (put5 W w.heap.size (.int .u8 z.kq) (.int .i64 z.num) (.string z.str) (.slice ZL z.il.length zL) (.slice ZO z.vz.length zO)) z ZL ZO zL zO n fs:=by
 have hk:Kp (w.heap.size+1+1+1) W (put5 W w.heap.size (.int .u8 z.kq) (.int .i64 z.num) (.string z.str) (.slice ZL z.il.length zL) (.slice ZO z.vz.length zO)):=⟨(zae (Below.refl 0 W) (Nat.zero_le _) _ _ _ _ _).size,fun k hk _=>zac _ _ _ _ _ _ _ _ (by omega)⟩
 obtain ⟨cs,hw,h2⟩:=h.g.row;exact ⟨zai h.v _ _ _ _ _,h.a.of_eq (zac _ _ _ _ _ _ _ _ (by omega)),⟨⟨cs,hw.of_eq (zac _ _ _ _ _ _ _ _ (by omega)),h2⟩,h.g.le⟩,fun e he=>(h.p e he).kp (Nat.le_refl _) hk,
  ⟨hz.1.keep (fun k hk _=>zac _ _ _ _ _ _ _ _ (by omega)) (fun k hk _=>.inr (Nat.le_trans hm hk)),hz.2.keep (fun k hk _=>zac _ _ _ _ _ _ _ _ (by omega)) (fun k hk _=>.inr (Nat.le_trans hm hk))⟩,zae h.below (Nat.le_refl _) _ _ _ _ _⟩
theorem AllB.app {w W y BL BO dL dO n} {fs:List EC} (h:AllB w W y BL BO dL dO n fs) (hn:fs.length<n) (e:EC) (he:e.New (w.heap.size+1+1+1) W):
  AllB w ((W.setCells (w.heap.size+1+1) (fs.length * 12) (encE e)).setCell ⟨w.heap.size+1,0,none⟩ (.slice (some ⟨w.heap.size+1+1,0,none⟩) (fs.length+1) n)) y BL BO dL dO n (fs++[e]):=by
 have hq:∀ k,k≠w.heap.size+1+1->k≠w.heap.size+1->((W.setCells (w.heap.size+1+1) (fs.length * 12) (encE e)).setCell ⟨w.heap.size+1,0,none⟩ (.slice (some ⟨w.heap.size+1+1,0,none⟩) (fs.length+1) n)).heap[k]? = W.heap[k]?:=fun k h1 h2=>by
  rw [Below.heap_setCell _ _ _ _ h2,za5 h1]
 have hsz:W.heap.size<=((W.setCells (w.heap.size+1+1) (fs.length * 12) (encE e)).setCell ⟨w.heap.size+1,0,none⟩ (.slice (some ⟨w.heap.size+1+1,0,none⟩) (fs.length+1) n)).heap.size:=by rw [zaW,zcS];exact Nat.le_refl _
 have hk:Kp (w.heap.size+1+1+1) W ((W.setCells (w.heap.size+1+1) (fs.length * 12) (encE e)).setCell ⟨w.heap.size+1,0,none⟩ (.slice (some ⟨w.heap.size+1+1,0,none⟩) (fs.length+1) n)):=⟨hsz,fun k hk _=>hq k (by omega) (by omega)⟩
 refine ⟨h.v.of_eq (hq _ (by omega) (by omega)),?_,(zlc h.g hn e).far (by simp) _,fun x hx=>?_,⟨h.y.1.keep (fun k hk _=>hq k (by omega) (by omega)) (fun _ hk _=>hk),h.y.2.keep (fun k hk _=>hq k (by omega) (by omega)) (fun _ hk _=>hk)⟩,(zcx (by omega) _ _ _ _ h.below).setCell (by simp only;omega) _⟩
 ·have h1:Whole (W.setCells (w.heap.size+1+1) (fs.length * 12) (encE e)) (w.heap.size+1) 31 #[.slice (some ⟨w.heap.size+1+1,0,none⟩) fs.length n]:=h.a.of_eq (za5 (by omega) _ _ _)
  have h2:=h1.put 0 (.slice (some ⟨w.heap.size+1+1,0,none⟩) (fs.length+1) n)
  simpa using h2
 ·rcases List.mem_append.1 hx with hx | hx
  ·exact (h.p x hx).kp (Nat.le_refl _) hk
  ·simp only [List.mem_cons,List.mem_nil_iff,or_false] at hx
   subst hx;exact he.kp (Nat.le_refl _) hk
theorem AllB.first (g GL GO) (eL eO n:Nat) (w) (z:Array Value) (hg:Vl w g GL GO eL eO):
  AllB w (((w.alloc (oV g GL eL GO eO)).alloc (.cells #[.slice (some ⟨w.heap.size+1+1,0,none⟩) 0 n] 31)).alloc (.cells (madeCells z (n * 12)) 45)) g GL GO eL eO n []:=by
 have hb:=(((Below.refl _ w).alloc (Nat.le_refl _) (oV g GL eL GO eO)).alloc (by simp) (.cells #[.slice (some ⟨w.heap.size+1+1,0,none⟩) 0 n] 31)).alloc (by simp;omega) (.cells (madeCells z (n * 12)) 45)
 have h2:=(Whole.new (w.alloc (oV g GL eL GO eO)) 31 #[.slice (some ⟨w.heap.size+1+1,0,none⟩) 0 n]).alloc (.cells (madeCells z (n * 12)) 45);have h3:=zlb n ((w.alloc (oV g GL eL GO eO)).alloc (.cells #[.slice (some ⟨w.heap.size+1+1,0,none⟩) 0 n] 31)) z;rw [World.size_alloc] at h2 h3;rw [World.size_alloc] at h3;exact ⟨whole3a w _ _ _ _,h2,h3,(fun e he=>by cases he),⟨hg.1.keep (fun k _ hk=>hb.block k hk) (fun k _ hk=>.inl hk),hg.2.keep (fun k _ hk=>hb.block k hk) (fun k _ hk=>.inl hk)⟩,hb⟩
theorem zkL (p:Addr) (w:World) (h:w.cell? p=some (.slice none 0 0)):
  CallsD Tryz.prog 17 #[.pointer (some p)] .returning w fun e u' w'=>u'=.returning/\e=.returned (.tuple #[])/\w'=w:=by
 have HR:=hid (AnyQ.slices_Reverse_empty Tryz.reverseC none 0 w)
 go_enter_d Tryz.func17,Tryz.ntmps17
 go_wp2_with (go_at_call 18;refine HR.out.mono ?_;rintro e w1 ⟨rfl,rfl⟩)
 go_end0
 exact ⟨rfl,rfl⟩
theorem zmh (p:Addr) (b cap:Nat) (fs:List EC) (w:World) (h:w.cell? p=some (.slice (some ⟨b,0,none⟩) fs.length cap)) (hg:Gath w b fs.length fs) (hn:fs.length<=200):
  CallsD Tryz.prog 17 #[.pointer (some p)] .returning w fun e u' w'=>u'=.returning/\e=.returned (.tuple #[])/\∃ m,w'=putRowK encE 12 (Go.Sort.ahead w m) b 0 fs.toArray.reverse:=by
 have HR:=hid (zgs cap hg hn);clear hg;generalize fs.length=n at *
 go_enter_d Tryz.func17,Tryz.ntmps17
 go_wp2_with (go_at_call 18;refine HR.out.mono ?_;rintro e w1 ⟨rfl,hm⟩)
 go_end0
 exact ⟨rfl,hm⟩
def ARel (w:World) (g:GV) (es:List EC) (n:Nat) (i:Value) (wr:World):Prop:=∃ (y:GV) (BL BO:Option Addr) (dL dO:Nat) (fs:List EC),i=.int .i64 fs.length/\fs.length<=n/\Came g (es.take fs.length) (fs.map EC.c) y/\AllB w wr y BL BO dL dO n fs
theorem zhg {g z:GV} {c} (hg:g.Sound) (h:Does1 g c z):z.Sound:=by
 obtain ⟨hn,x,hget,hck,hput⟩:=h;have hS:c.Sound:=by
  rcases hn with ⟨_,e⟩ | ⟨hS,_⟩
  ·exact absurd e (by decide)
  ·exact hS
 exact zeC (zec (zbe _ _ _ hg hget) hS hck) _ _ _ hg hput
theorem ze6:∀ {es:List EC} {ds:List GC} {g y:GV},g.Sound->Came g es ds y->y.Sound
 | [],_,_,_,hg,⟨_,h⟩=>by rw [h];exact hg
 | _ :: _,_,_,_,hg,⟨_,_,_,_,h2,_,h4⟩=>ze6 (zhg hg h2) h4
def AllDo (g:GV) (es:List EC) (w:World):Prop:=∀ (k:Nat) (ds:List GC) (y:GV) (E:EC),Came g (es.take k) ds y->es[k]? = some E->∀ (BL BO:Option Addr) (dL dO:Nat) (W:World),Below w.heap.size w W->Vl W y BL BO dL dO ->
 Calls Tryz.prog 19 #[(vG y BL dL BO dO),.agg #[.int .u8 E.c.kq,.slice E.A E.c.path.length E.cp,.string E.c.key,.int .i64 E.c.i,.int .i64 E.c.j,.int .i64 E.c.n,.int .u8 E.c.v.kq,.int .i64 E.c.v.num,.string E.c.v.str,.slice E.AL E.c.v.il.length E.cL,.slice E.AO E.c.v.vz.length E.cO,.string E.c.s]] W (DoesOut y E.c W)
theorem zmu {w w2:World} {y:GV} {BL' BO':Option Addr} {dL dO n:Nat} {fs:List EC} {d:GC} {B BL BO:Option Addr} {bp bL bO m:Nat} (H2:AllB w (w2.alloc (oC d B bp BL bL BO bO)) y BL' BO' dL dO n fs) (hlt:fs.length<n) (hu:CcNew m w2 d B BL BO bp bL bO) (hm:w.heap.size+1+1+1<=m) (hs:Small d):
  (Builtin.append_ #[31,31] 31 #[.slice (some ⟨w.heap.size+1+1,0,none⟩) fs.length n,.slice (some ⟨w2.heap.size+1,0,none⟩) 1 1]).run Tryz.prog ((w2.alloc (oC d B bp BL bL BO bO)).alloc (oC d B bp BL bL BO bO))=.ok (.slice (some ⟨w.heap.size+1+1,0,none⟩) (fs.length+1) n) (((w2.alloc (oC d B bp BL bL BO bO)).alloc (oC d B bp BL bL BO bO)).setCells (w.heap.size+1+1) (fs.length * 12) (encE ⟨d,B,bp,BL,bL,BO,bO⟩)) /\
  (((w2.alloc (oC d B bp BL bL BO bO)).alloc (oC d B bp BL bL BO bO)).setCells (w.heap.size+1+1) (fs.length * 12) (encE ⟨d,B,bp,BL,bL,BO,bO⟩)).cell? ⟨w.heap.size+1,0,none⟩=some (.slice (some ⟨w.heap.size+1+1,0,none⟩) fs.length n)/\(((w2.alloc (oC d B bp BL bL BO bO)).alloc (oC d B bp BL bL BO bO)).setCells (w.heap.size+1+1) (fs.length * 12) (encE ⟨d,B,bp,BL,bL,BO,bO⟩)).frozen? ⟨w.heap.size+1,0,none⟩=false/\AllB w ((((w2.alloc (oC d B bp BL bL BO bO)).alloc (oC d B bp BL bL BO bO)).setCells (w.heap.size+1+1) (fs.length * 12) (encE ⟨d,B,bp,BL,bL,BO,bO⟩)).setCell ⟨w.heap.size+1,0,none⟩ (.slice (some ⟨w.heap.size+1+1,0,none⟩) (fs.length+1) n)) y BL' BO' dL dO n (fs++[⟨d,B,bp,BL,bL,BO,bO⟩]):=by
 have H3:=H2.alloc (oC d B bp BL bL BO bO);have hS:=Whole.new (w2.alloc (oC d B bp BL bL BO bO)) 45 #[.int .u8 d.kq,.slice B d.path.length bp,.string d.key,.int .i64 d.i,.int .i64 d.j,.int .i64 d.n,.int .u8 d.v.kq,.int .i64 d.v.num,.string d.v.str,.slice BL d.v.il.length bL,.slice BO d.v.vz.length bO,.string d.s];rw [World.size_alloc] at hS;have hk:Kp m w2 ((w2.alloc (oC d B bp BL bL BO bO)).alloc (oC d B bp BL bL BO bO)):=⟨((zaa w2 _).alloc (by simp) _).size,fun k _ hk=>((zaa w2 (oC d B bp BL bL BO bO)).alloc (by simp) (oC d B bp BL bL BO bO)).block k hk⟩
 have ha:Whole (((w2.alloc (oC d B bp BL bL BO bO)).alloc (oC d B bp BL bL BO bO)).setCells (w.heap.size+1+1) (fs.length * 12) (encE ⟨d,B,bp,BL,bL,BO,bO⟩)) (w.heap.size+1) 31 #[.slice (some ⟨w.heap.size+1+1,0,none⟩) fs.length n]:=H3.a.of_eq (za5 (by omega) _ _ _)
 exact ⟨zgZ H3.g hlt ⟨d,B,bp,BL,bL,BO,bO⟩ hS _,(ha.cell 0).trans rfl,ha.frozen 0,H3.app hlt ⟨d,B,bp,BL,bL,BO,bO⟩ ⟨hu.kp hm hk,hs⟩⟩
theorem zmm {w W:World} {b n:Nat} {vs:List Value} {u:Value} {cs:Array Value} {t:TypeId} (h:Whole W b t cs) (hb:w.heap.size+1+1<b):
  Whole ((W.setCells (w.heap.size+1+1) n vs).setCell ⟨w.heap.size+1,0,none⟩ u) b t cs:=(h.of_eq (za5 (by omega) _ _ _)).far (by simp only;omega) _
theorem zkD (g GL GO eL eO) (es:List EC) (A cap w) (hg:Vl w g GL GO eL eO) (ho:Ops w A cap es) (hw:∀ k ds y,Came g (es.take k) ds y->y.weight<=1000000) (hgs:g.Sound) (hP:∀ e∈es,e.c.v.Pos/\∀ s∈e.c.path,s.key.size<=281474976710656) (hT:Tabs w) (hdo:AllDo g es w):
  Calls Tryz.prog 9 #[(vG g GL eL GO eO),.slice A es.length cap] w (AllOut g es w):=by
 have hmf:∀ (fn:Fn) (first cap:Array Value) (w:World),(Instr.makeFunc fn first cap).run Tryz.prog w=.ok (.func fn first cap) w:=fun _ _ _ _=>rfl
 have HO:=hid ho;have HT:=hid hT;have HW:=hid hw;have HS:=hid hgs;have HP:=hid hP;have HG:=hid hg;have HDO:=hid hdo;have h1:=ho.le;have h2:=ho.cap;unfold maxLen at h2;clear ho hg hT hw hgs hP hdo;by_cases hbig:200<es.length
 ·have HB:=hid hbig
  generalize hn:es.length=n at *;have HN:=hid hn;clear hn
  go_enter_defers Tryz.func9,Tryz.ntmps9
  go_wp2
  simp [bodyPostD,Leaves,settle,results,Tryz.results9,go_sem]
  exact ⟨((Below.refl _ _).alloc (Nat.le_refl _) _).alloc (by simp) _,.inl ⟨by have:=HB.out;have:=HN.out;omega,rfl⟩⟩
 have hmk:=zi1 es.length (by omega)
 generalize hn:es.length=n at *;have HN:=hid hn;clear hn;have HF:=hid (fun z=>AllB.first g GL GO eL eO n w z HG.out)
 go_enter_defers Tryz.func9,Tryz.ntmps9
 go_wp2
 have HF1:=hid (HF.out #[.int .u8 0,.slice none 0 0,.string ⟨#[]⟩,.int .i64 0,.int .i64 0,.int .i64 0,.int .u8 0,.int .i64 0,.string ⟨#[]⟩,.slice none 0 0,.slice none 0 0,.string ⟨#[]⟩]);clear HF hmk;generalize hW0:(((w.alloc (oV g GL eL GO eO)).alloc (.cells #[.slice (some ⟨w.heap.size+1+1,0,none⟩) 0 n] 31)).alloc (.cells (madeCells #[.int .u8 0,.slice none 0 0,.string ⟨#[]⟩,.int .i64 0,.int .i64 0,.int .i64 0,.int .u8 0,.int .i64 0,.string ⟨#[]⟩,.slice none 0 0,.slice none 0 0,.string ⟨#[]⟩] (n * 12)) 45))=W0 at *;clear hW0
 go_loopw [19] (fun i wr=>ARel w g es n i wr) (fun i _=>n - (intOf i).toNat)
 case atStart=>exact ⟨g,GL,GO,eL,eO,[],rfl,Nat.zero_le _,⟨rfl,rfl⟩,HF1.out⟩
 case round=>
  obtain ⟨y,BL',BO',dL,dO,fs,rfl,hk,hr,hB⟩:=hrel;have HR:=hid hr;have HB:=hid hB;clear hr hB;by_cases hlt:fs.length<n
  ·have hke:fs.length<es.length:=by have:=HN.out;omega
   obtain ⟨b,o,rfl,hbl,hc⟩:=HO.out.here (by intro e;simp [e] at hke)
   obtain ⟨h12,hok⟩:=hc fs.length es[fs.length] (List.getElem?_eq_getElem hke);have HE:=hid (List.getElem?_eq_getElem hke);have HPE:=hid (HP.out es[fs.length] (List.getElem_mem hke));generalize es[fs.length]=E at *;obtain ⟨c0,c1,c2,c3,c4,c5,c6,c7,c8,c9,c10,c11⟩:=h12.below HB.out.below hbl;have HOK:=hid hok;have HYW:=hid (HW.out _ _ _ HR.out);have HYS:=hid (ze6 HS.out HR.out);clear hc h12 hok hke hbl;obtain ⟨d,n1,ht⟩:=zeY HB.out.y.vl E.c;have HTU:=hid ht;have HSD:=hid (zbU HYS.out HYW.out HOK.out.2 ht).s;clear ht;have HX1:=hid (HB.out.alloc (.cells #[.int .u8 E.c.kq,.slice E.A E.c.path.length E.cp,.string E.c.key,.int .i64 E.c.i,.int .i64 E.c.j,.int .i64 E.c.n,.int .u8 E.c.v.kq,.int .i64 E.c.v.num,.string E.c.v.str,.slice E.AL E.c.v.il.length E.cL,.slice E.AO E.c.v.vz.length E.cO,.string E.c.s] 45));have HX2:=hid (Whole.new wr 45 #[.int .u8 E.c.kq,.slice E.A E.c.path.length E.cp,.string E.c.key,.int .i64 E.c.i,.int .i64 E.c.j,.int .i64 E.c.n,.int .u8 E.c.v.kq,.int .i64 E.c.v.num,.string E.c.v.str,.slice E.AL E.c.v.il.length E.cL,.slice E.AO E.c.v.vz.length E.cO,.string E.c.s]);have v0:=fun o=>(HB.out.v.alloc o).five.c0
   have v1:=fun o=>(HB.out.v.alloc o).five.c1
   have v2:=fun o=>(HB.out.v.alloc o).five.c2
   have v3:=fun o=>(HB.out.v.alloc o).five.c3
   have v4:=fun o=>(HB.out.v.alloc o).five.c4
   have HTC:=hid (zd5 y BL' BO' dL dO E.c d n1 E.A E.AL E.AO E.cp E.cL E.cO (wr.alloc (.cells #[.int .u8 E.c.kq,.slice E.A E.c.path.length E.cp,.string E.c.key,.int .i64 E.c.i,.int .i64 E.c.j,.int .i64 E.c.n,.int .u8 E.c.v.kq,.int .i64 E.c.v.num,.string E.c.v.str,.slice E.AL E.c.v.il.length E.cL,.slice E.AO E.c.v.vz.length E.cO,.string E.c.s] 45)) HX1.out.y.vl ((HOK.out.1.later HX1.out.below)) HYW.out HOK.out.2 (HT.out.below HX1.out.below (Nat.le_refl _)) HPE.out.1 HYS.out HPE.out.2 HTU.out);unfold TurnedAns at HTC;have HLT:=hid hlt;by_cases h0:n1=0
   ·subst h0
    go_wp2_with (first
     | (go_at_call 14;refine HTC.out.mono ?_;rintro e w2 ⟨B,BL,BO,bp,bL,bO,rfl,hu,hb⟩;have H2:=hid ((HX1.out.step hb).alloc (oC d B bp BL bL BO bO));have X2:=hid (((HX2.out.below hb HX2.out.lt).alloc (oC d B bp BL bL BO bO)).alloc (oC d B bp BL bL BO bO));have H5:=hid (zmu H2.out HLT.out hu HX1.out.size HSD.out);clear hb hu v0 v1 v2 v3 v4 c0 c1 c2 c3 c4 c5 c6 c7 c8 c9 c10 c11;have a0:(w2.alloc (oC d B bp BL bL BO bO)).cell? ⟨w.heap.size+1,0,none⟩=some (.slice (some ⟨w.heap.size+1+1,0,none⟩) fs.length n):=(H2.out.a.cell 0).trans rfl;obtain ⟨t0,t1,t2,t3,t4,t5,t6,t7,t8,t9,t10,t11,_⟩:=(Whole.new w2 45 #[.int .u8 d.kq,.slice B d.path.length bp,.string d.key,.int .i64 d.i,.int .i64 d.j,.int .i64 d.n,.int .u8 d.v.kq,.int .i64 d.v.num,.string d.v.str,.slice BL d.v.il.length bL,.slice BO d.v.vz.length bO,.string d.s]).tw)
     | (at_builtin;refine zdy rfl (.tmp 32) (.tmp 34) 31 rfl _ _ _ _ rfl rfl H5.out.1 ?_;clear a0 t0 t1 t2 t3 t4 t5 t6 t7 t8 t9 t10 t11;have a1:=H5.out.2.1;have f1:=H5.out.2.2.1;obtain ⟨v0,v1,v2,v3,v4,_⟩:=H5.out.2.2.2.v.five;obtain ⟨c0,c1,c2,c3,c4,c5,c6,c7,c8,c9,c10,c11,_⟩:=(zmm (w:=w) (n:=fs.length * 12) (vs:=encE ⟨d,B,bp,BL,bL,BO,bO⟩) (u:=(.slice (some ⟨w.heap.size+1+1,0,none⟩) (fs.length+1) n)) X2.out (by have:=HB.out.size;omega)).tw)
     | (go_at_call 19;refine ((HDO.out _ _ _ E HR.out HE.out BL' BO' dL dO ((((w2.alloc (oC d B bp BL bL BO bO)).alloc (oC d B bp BL bL BO bO)).setCells (w.heap.size+1+1) (fs.length * 12) (encE ⟨d,B,bp,BL,bL,BO,bO⟩)).setCell ⟨w.heap.size+1,0,none⟩ (.slice (some ⟨w.heap.size+1+1,0,none⟩) (fs.length+1) n)) H5.out.2.2.2.below H5.out.2.2.2.y.vl).mono fun e w' hd=>zkZ (ze2 HTU.out) hd).mono ?_;rintro e w6 ⟨z,ZL,ZO,zL,zO,rfl,hz,hv,hb⟩;have H6:=hid (H5.out.2.2.2.step hb);have HZ:=hid (And.intro hz (And.intro hv H5.out.2.2.2.size));clear hz hv hb v0 v1 v2 v3 v4 c0 c1 c2 c3 c4 c5 c6 c7 c8 c9 c10 c11 a1 f1;obtain ⟨v0,v1,v2,v3,v4,f0,f1,f2,f3,f4⟩:=H6.out.v.five))
    have h5:=H6.out.put HZ.out.2.1 HZ.out.2.2;unfold put5 at h5;go_roundw
    case rel=>exact ⟨z,ZL,ZO,zL,zO,fs++[⟨d,B,bp,BL,bL,BO,bO⟩],by rw [List.length_append];go_num,by rw [List.length_append];simp;omega,by rw [List.length_append,List.map_append];exact zjP HR.out HE.out HTU.out HZ.out.1,h5⟩
    case measure=>simp [intOf];omega
   ·have hne:(n1 != 0)=true:=by simpa using h0
    have HN0:=hid h0;clear h0
    go_wp2_with (first
     | (go_at_call 14;refine HTC.out.mono ?_;rintro e w2 ⟨B,BL,BO,bp,bL,bO,rfl,hu,hb⟩;have H2:=hid ((HX1.out.step hb).alloc (oC d B bp BL bL BO bO));clear hb hu v0 v1 v2 v3 v4 c0 c1 c2 c3 c4 c5 c6 c7 c8 c9 c10 c11;have a0:(w2.alloc (oC d B bp BL bL BO bO)).cell? ⟨w.heap.size+1,0,none⟩=some (.slice (some ⟨w.heap.size+1+1,0,none⟩) fs.length n):=(H2.out.a.cell 0).trans rfl;have f0:=H2.out.a.frozen 0))
    have hh:=H2.out.a.put 0 (.slice none 0 0);have hc0:=(hh.cell 0).trans rfl;simp only [bodyPostD];refine leaves_cons (f:=17) (args:=#[.pointer (some ⟨w.heap.size+1,0,none⟩)]) (by simp) (by simp [go_sem]) ?_
    refine (zkL ⟨w.heap.size+1,0,none⟩ _ hc0).mono ?_
    rintro e u' w'' ⟨rfl,rfl,rfl⟩
    simp [Leaves,settle,results,Tryz.results9,go_sem,hc0]
    exact ⟨H2.out.below.setCell (by simp) _,.inr (.inl ⟨by have:=HN.out;omega,fs.length,fs.map EC.c,y,E,d,n1,HR.out,HE.out,HTU.out,HN0.out,rfl⟩)⟩
  ·obtain rfl:fs.length=n:=by omega
   have a0:wr.cell? ⟨w.heap.size+1,0,none⟩=some (.slice (some ⟨w.heap.size+1+1,0,none⟩) fs.length fs.length):=(HB.out.a.cell 0).trans rfl;have f0:=HB.out.a.frozen 0;go_wp2
   have hh:Whole (wr.setCell ⟨w.heap.size+1,0,none⟩ (.slice (some ⟨w.heap.size+1+1,0,none⟩) fs.length fs.length)) (w.heap.size+1) 31 #[.slice (some ⟨w.heap.size+1+1,0,none⟩) fs.length fs.length]:=HB.out.a.put 0 _;have hc0:(wr.setCell ⟨w.heap.size+1,0,none⟩ (.slice (some ⟨w.heap.size+1+1,0,none⟩) fs.length fs.length)).cell? ⟨w.heap.size+1,0,none⟩=some (.slice (some ⟨w.heap.size+1+1,0,none⟩) fs.length fs.length):=(hh.cell 0).trans rfl;have hg:=HB.out.g.far (p:=⟨w.heap.size+1,0,none⟩) (by simp) (.slice (some ⟨w.heap.size+1+1,0,none⟩) fs.length fs.length)
   have hp:∀ e∈fs,e.New (w.heap.size+1+1+1) (wr.setCell ⟨w.heap.size+1,0,none⟩ (.slice (some ⟨w.heap.size+1+1,0,none⟩) fs.length fs.length)):=fun e he=>(HB.out.p e he).kp (Nat.le_refl _) ((Kp.refl _ wr).set (by simp only;omega) _)
   have hb:=HB.out.below.setCell (p:=⟨w.heap.size+1,0,none⟩) (by simp) (.slice (some ⟨w.heap.size+1+1,0,none⟩) fs.length fs.length)
   have h200:fs.length<=200:=by omega
   have hes:es.take fs.length=es:=List.take_of_length_le (by have:=HN.out;omega)
   have hcame:=HR.out;rw [hes] at hcame;generalize wr.setCell ⟨w.heap.size+1,0,none⟩ (.slice (some ⟨w.heap.size+1+1,0,none⟩) fs.length fs.length)=W at *;simp only [bodyPostD];refine leaves_cons (f:=17) (args:=#[.pointer (some ⟨w.heap.size+1,0,none⟩)]) (by simp) (by simp [go_sem]) ?_
   refine (zmh ⟨w.heap.size+1,0,none⟩ (w.heap.size+1+1) fs.length fs W hc0 hg h200).mono ?_
   rintro e u' w'' ⟨rfl,rfl,m,rfl⟩
   have hcR:(putRowK encE 12 (Go.Sort.ahead W m) (w.heap.size+1+1) 0 fs.toArray.reverse).cell? ⟨w.heap.size+1,0,none⟩=some (.slice (some ⟨w.heap.size+1+1,0,none⟩) fs.length fs.length):=by
    rw [Go.Sort.cell?_putRowK_other _ _ _ _ _ _ _ (by simp only;omega),Go.Sort.cell?_ahead]
    exact hc0
   have hOps:=zhr (m:=m) hg h200 hp;have hBel:=hb.trans (zfH encE 12 W m (w.heap.size+1+1) 0 fs.toArray.reverse (N:=w.heap.size) (by omega))
   generalize putRowK encE 12 (Go.Sort.ahead W m) (w.heap.size+1+1) 0 fs.toArray.reverse=W9 at *;simp [Leaves,settle,results,Tryz.results9,go_sem,hcR]
   exact ⟨hBel,.inr (.inr ⟨by have:=HN.out;omega,fs.reverse,fs.map EC.c,y,w.heap.size+1+1,fs.length,hcame,by rw [List.map_reverse],by rw [List.length_reverse],hOps⟩)⟩
end Go.Proofs.YtmmgdkpkcoopgaaGreatDoor
