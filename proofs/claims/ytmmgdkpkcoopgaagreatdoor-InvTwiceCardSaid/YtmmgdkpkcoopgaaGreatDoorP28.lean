/- The document's own Put. -/
import Derived.Test.YtmmgdkpkcoopgaaGreatDoorP23
import Derived.Test.YtmmgdkpkcoopgaaGreatDoorP9
import Derived.Test.YtmmgdkpkcoopgaaGreatDoorP14
set_option maxRecDepth 100000
set_option maxHeartbeats 8000000
namespace Go.Proofs.YtmmgdkpkcoopgaaGreatDoor
open Go.Lib(hid)
open Go Go.RowKit
def RPut (g x:GV) (ps:List GStep) (w:World) (e:Ending) (w':World):Prop:=
 Below w.heap.size w w'/\((g.put x ps=none/\e=.returned (.tuple #[zeroV,.int .i64 30]))\/∃ y v',g.put x ps=some y/\e=.returned (.tuple #[v',.int .i64 0])/\y.val (fun k=>w.heap.size<=k) w' v')
structure RP (w:World) (g x:GV) (AL AO CL CO:Option Addr) (cL cO eL eO:Nat) (W:World):Prop where
 below:Below w.heap.size w W
 root:Whole W w.heap.size 29 #[.int .u8 g.kq,.int .i64 g.num,.string g.str,.slice AL g.il.length cL,.slice AO g.vz.length cO]
 xbox:Whole W (w.heap.size+1) 29 #[.int .u8 x.kq,.int .i64 x.num,.string x.str,.slice CL x.il.length eL,.slice CO x.vz.length eO]
 res:Whole W (w.heap.size+1+1) 29 ZC
 gl:LstV (fun k=>k<w.heap.size) W (.slice AL g.il.length cL) g.il
 go:ObjV (fun k=>k<w.heap.size) W (.slice AO g.vz.length cO) g.keys g.vz
 xl:LstV (fun k=>k<w.heap.size) W (.slice CL x.il.length eL) x.il
 xo:ObjV (fun k=>k<w.heap.size) W (.slice CO x.vz.length eO) x.keys x.vz
theorem RP.later {w W W':World} {g x:GV} {AL AO CL CO:Option Addr} {cL cO eL eO:Nat} (q:RP w g x AL AO CL CO cL cO eL eO W) (hb:Below W.heap.size W W'):RP w g x AL AO CL CO cL cO eL eO W':=
 ⟨q.below.trans (hb.mono q.below.size),q.root.below hb q.root.lt,q.xbox.below hb q.xbox.lt,q.res.below hb q.res.lt,q.gl.keep (From.of_below hb) (fun _ h _=>h),q.go.keep (From.of_below hb) (fun _ h _=>h),q.xl.keep (From.of_below hb) (fun _ h _=>h),q.xo.keep (From.of_below hb) (fun _ h _=>h)⟩
theorem zhA {ok:Nat->Prop} {w:World} {g x:GV} {AL AO CL CO:Option Addr} {cL cO eL eO:Nat} (hL:LstV ok w (.slice AL g.il.length cL) g.il) (hO:ObjV ok w (.slice AO g.vz.length cO) g.keys g.vz) (hxL:LstV ok w (.slice CL x.il.length eL) x.il) (hxO:ObjV ok w (.slice CO x.vz.length eO) x.keys x.vz):
  RP w g x AL AO CL CO cL cO eL eO (((w.alloc (oV g AL cL AO cO)).alloc (oV x CL eL CO eO)).alloc (.cells ZC 29)):=by
 have h:=pboxed w g x AL AO CL CO cL cO eL eO;exact ⟨h.below,h.root,h.x,h.res,hL.keep (From.of_below h.below) (fun _ _ h=>h),hO.keep (From.of_below h.below) (fun _ _ h=>h),hxL.keep (From.of_below h.below) (fun _ _ h=>h),hxO.keep (From.of_below h.below) (fun _ _ h=>h)⟩
def StepIs (w:World) (g:GV) (s:GStep) (wr:World) (kd nm:Int) (st:ByteArray) (BL BO:Option Addr) (lL dL lO dO:Nat) (k er:Int):Prop:=
 (er=30/\g.inside s=none)\/(er=0/\∃ (h:GV) (j:Nat),g.inside s=some h/\kd=h.kq/\nm=h.num/\st=h.str/\lL=h.il.length/\lO=h.vz.length/\k=j /\
  LstV (fun k=>k<w.heap.size) wr (.slice BL h.il.length dL) h.il/\ObjV (fun k=>k<w.heap.size) wr (.slice BO h.vz.length dO) h.keys h.vz/\((s.list=true/\s.i=j/\j<g.il.length)\/(s.list=false/\place s.key g.keys=j/\j<g.vz.length)))
def CutPP (w wr:World) (g:GV) (s:GStep) (t8 t9 t10:Value) (W:World):Prop:=
 Below wr.heap.size wr W/\∃ (X:Nat) (kd nm:Int) (st:ByteArray) (BL BO:Option Addr) (lL dL lO dO:Nat) (k er:Int),t8=.pointer (some ⟨X,0,none⟩)/\t9=.int .i64 k/\t10=.int .i64 er/\Whole W X 29 #[.int .u8 kd,.int .i64 nm,.string st,.slice BL lL dL,.slice BO lO dO]/\StepIs w g s wr kd nm st BL BO lL dL lO dO k er
def PutIs (h x:GV) (r:List GStep) (B:Nat) (W:World) (kd nm:Int) (st:ByteArray) (BL BO:Option Addr) (lL dL lO dO:Nat) (er:Int):Prop:=
 (er=30/\h.put x r=none)\/(er=0/\∃ z,h.put x r=some z/\kd=z.kq/\nm=z.num/\st=z.str/\lL=z.il.length/\lO=z.vz.length/\LstV (fun k=>B<=k) W (.slice BL z.il.length dL) z.il/\ObjV (fun k=>B<=k) W (.slice BO z.vz.length dO) z.keys z.vz)
theorem PutIs.later {h x:GV} {r:List GStep} {B:Nat} {W W':World} {kd nm:Int} {st:ByteArray} {BL BO:Option Addr} {lL dL lO dO:Nat} {er:Int} (q:PutIs h x r B W kd nm st BL BO lL dL lO dO er) (hb:Below W.heap.size W W'):PutIs h x r B W' kd nm st BL BO lL dL lO dO er:=by
 rcases q with h | ⟨h1,z,h2,h3,h4,h5,h6,h7,hL,hO⟩
 ·exact .inl h
 ·exact .inr ⟨h1,z,h2,h3,h4,h5,h6,h7,hL.keep (From.of_below hb) (fun _ h _=>h),hO.keep (From.of_below hb) (fun _ h _=>h)⟩
theorem PutIs.put {h x:GV} {r:List GStep} {B:Nat} {W:World} {kd nm:Int} {st:ByteArray} {BL BO:Option Addr} {lL dL lO dO:Nat} {er:Int} (q:PutIs h x r B W kd nm st BL BO lL dL lO dO er) {X:Nat} (hX:X<B) (a0 a1 a2 a3 a4:Value):PutIs h x r B (put5 W X a0 a1 a2 a3 a4) kd nm st BL BO lL dL lO dO er:=by
 have hF:From (fun k=>B<=k) W (put5 W X a0 a1 a2 a3 a4):=fun k hk _=>zac _ _ _ _ _ _ _ _ (by omega)
 rcases q with h | ⟨h1,z,h2,h3,h4,h5,h6,h7,hL,hO⟩
 ·exact .inl h
 ·exact .inr ⟨h1,z,h2,h3,h4,h5,h6,h7,hL.keep hF (fun _ h _=>h),hO.keep hF (fun _ h _=>h)⟩
theorem below_alloc' (W:World) (o:Obj):Below W.heap.size W (W.alloc o):=(Below.refl _ W).alloc (Nat.le_refl _) o
def CutZ (wr:World) (h x:GV) (r:List GStep) (t11 t12:Value) (W:World):Prop:=
 Below wr.heap.size wr W/\∃ (X:Nat) (kd nm:Int) (st:ByteArray) (BL BO:Option Addr) (lL dL lO dO:Nat) (er:Int),wr.heap.size<=X/\t11=.pointer (some ⟨X,0,none⟩)/\t12=.int .i64 er/\Whole W X 29 #[.int .u8 kd,.int .i64 nm,.string st,.slice BL lL dL,.slice BO lO dO] /\
  ∃ B,wr.heap.size<=B/\PutIs h x r B W kd nm st BL BO lL dL lO dO er
theorem Steps.tail {hi:Nat} {W:World} {b o:Nat} {s:GStep} {r:List GStep} (h:Steps hi W (some ⟨b,o,none⟩) (s :: r)):Steps hi W (some ⟨b,o+3,none⟩) r:=fun _=>by
 obtain ⟨a,ha,hs,hl,hc⟩:=h (by simp)
 cases ha
 refine ⟨⟨b,o+3,none⟩,rfl,rfl,hl,fun i t ht=>?_⟩
 have:=hc (i+1) t (by simpa using ht)
 simp only [show o+3+i * 3=o+(i+1) * 3 by omega]
 exact this
def CutW (wr:World) (g:GV) (t13:Value) (W:World):Prop:=
 Below wr.heap.size wr W/\∃ (X:Nat) (AL:Option Addr) (cL:Nat) (AO:Option Addr) (cO:Nat) (xs ys:List Value),wr.heap.size<=X/\t13=.pointer (some ⟨X,0,none⟩)/\Whole W X 29 #[.int .u8 g.kq,.int .i64 g.num,.string g.str,.slice AL g.il.length cL,.slice AO g.vz.length cO] /\
  CopyRows wr.heap.size g.il g.keys g.vz W (.slice AL g.il.length cL) (.slice AO g.vz.length cO) xs ys/\(∀ b o,AL=some ⟨b,o,none⟩->b<X)/\(∀ b o,AO=some ⟨b,o,none⟩->b<X)
theorem CopyRows.same {lo:Nat} {l:List GV} {ks:List ByteArray} {ov:List GV} {W W':World} {vL vO:Value} {xs ys:List Value} (h:CopyRows lo l ks ov W vL vO xs ys) (hW:∀ k,lo<=k->k<W.heap.size->W'.heap[k]? = W.heap[k]?):CopyRows lo l ks ov W' vL vO xs ys:=
 ⟨zbo h.ownL fun k hk=>hW k (h.ownL.lt k hk).1 (h.ownL.lt k hk).2,zbo h.ownO fun k hk=>hW k (h.ownO.lt k hk).1 (h.ownO.lt k hk).2,
  h.rowL.keep (fun k hk hlt=>hW k hk.1 hlt) (fun _ hk _=>hk),h.rowO.keep (fun k hk hlt=>hW k hk.1 hlt) (fun _ hk _=>hk)⟩
theorem zmo {wr w3:World} {g:GV} {AL AO:Option Addr} {cL cO:Nat} {xs ys:List Value} (hcr:CopyRows wr.heap.size g.il g.keys g.vz w3 (.slice AL g.il.length cL) (.slice AO g.vz.length cO) xs ys) (hb:Below wr.heap.size wr w3):
  CutW wr g (.pointer (some ⟨w3.heap.size,0,none⟩)) (w3.alloc (oV g AL cL AO cO)):=
 ⟨hb.alloc hb.size _,_,AL,cL,AO,cO,xs,ys,hb.size,rfl,Whole.new w3 _ _,hcr.same fun k _ hk=>Below.heap_alloc _ _ _ hk,
  fun b o e=>by subst e;exact (hcr.ownL.lt b rfl).2,fun b o e=>by subst e;exact (hcr.ownO.lt b rfl).2⟩
theorem ze0 {lo:Nat} {l:List GV} {ks:List ByteArray} {ov:List GV} {W:World} {eb n c:Nat} {vO:Value} {xs ys:List Value} (_h:CopyRows lo l ks ov W (.slice (some ⟨eb,0,none⟩) n c) vO xs ys):¬ Away lo (.slice (some ⟨eb,0,none⟩) n c) vO eb:=fun h=>h.2.1 rfl
theorem zen {lo:Nat} {l:List GV} {ks:List ByteArray} {ov:List GV} {W:World} {eb n c:Nat} {vL:Value} {xs ys:List Value} (_h:CopyRows lo l ks ov W vL (.slice (some ⟨eb,0,none⟩) n c) xs ys):¬ Away lo vL (.slice (some ⟨eb,0,none⟩) n c) eb:=fun h=>h.2.2 rfl
theorem zka {w wm wc W3:World} {g x z h':GV} {s:GStep} {r:List GStep} {AL AO CL CO BL2 BO2 AO3:Option Addr} {cL cO eL eO B2 kk eb cL3 cO3 dL2 dO2:Nat} {xs ys:List Value} {u0 u1 u2 u3 u4:Value} (hR:RP w g x AL AO CL CO cL cO eL eO wc) (hb:Below wm.heap.size wm wc) (hB2:w.heap.size+1+1<B2) (hwm:w.heap.size+1+1<wm.heap.size)
  (hzL:LstV (fun k=>B2<=k) wm (.slice BL2 z.il.length dL2) z.il) (hzO:ObjV (fun k=>B2<=k) wm (.slice BO2 z.vz.length dO2) z.keys z.vz) (hcr:CopyRows wm.heap.size g.il g.keys g.vz wc (.slice (some ⟨eb,0,none⟩) g.il.length cL3) (.slice AO3 g.vz.length cO3) xs ys) (heb:wm.heap.size<=eb)
  (hu0:wc.cell? ⟨eb,kk * 5,none⟩=some u0) (hu1:wc.cell? ⟨eb,kk * 5+1,none⟩=some u1) (hu2:wc.cell? ⟨eb,kk * 5+2,none⟩=some u2) (hu3:wc.cell? ⟨eb,kk * 5+3,none⟩=some u3) (hu4:wc.cell? ⟨eb,kk * 5+4,none⟩=some u4)
  (hin:g.inside s=some h') (hz:h'.put x r=some z) (hs:s.list=true) (hki:s.i=kk)
  (hW3:W3=((((wc.setCell ⟨eb,kk * 5,none⟩ (.int .u8 z.kq)).setCell ⟨eb,kk * 5+1,none⟩ (.int .i64 z.num)).setCell ⟨eb,kk * 5+2,none⟩ (.string z.str)).setCell ⟨eb,kk * 5+3,none⟩ (.slice BL2 z.il.length dL2)).setCell ⟨eb,kk * 5+4,none⟩ (.slice BO2 z.vz.length dO2)):
  Whole W3 (w.heap.size+1+1) 29 ZC/\∀ a0 a1 a2 a3 a4,RPut g x (s :: r) w (.returned (.tuple #[.agg #[.int .u8 g.kq,.int .i64 g.num,.string g.str,.slice (some ⟨eb,0,none⟩) g.il.length cL3,.slice AO3 g.vz.length cO3],.int .i64 0])) (put5 W3 (w.heap.size+1+1) a0 a1 a2 a3 a4):=by
 have hsz:=hb.size;have hJ:=zbl (b:=eb) (off:=kk * 5) wc (.int .u8 z.kq) (.int .i64 z.num) (.string z.str) (.slice BL2 z.il.length dL2) (.slice BO2 z.vz.length dO2);have hzL2:=hzL.keep (ok':=fun k=>B2<=k/\k<wm.heap.size) (From.of_below hb) (fun k h hlt=>⟨h,hlt⟩)
 have hzO2:=hzO.keep (ok':=fun k=>B2<=k/\k<wm.heap.size) (From.of_below hb) (fun k h hlt=>⟨h,hlt⟩)
 have hat:=zdu (ok':=fun k=>w.heap.size+1+1<k) hu0 hu1 hu2 hu3 hu4 (fun h=>by have:=h.2;omega) (fun k h=>by have:=h.1;omega) hzL2 hzO2
 rw [<- hW3] at hJ hat;have hL:=zgl (ok':=fun k=>w.heap.size+1+1<k) hcr.rowL hcr.ownL (ze0 hcr) (fun k h=>by have:=h.1;omega) (by omega) hJ hat
 have hO:=ObjV.of_own (ok:=fun k=>w.heap.size+1+1<k) hcr.ownO (hcr.rowO.keep (From.refl _ _) (fun k h _=>by have:=h.1;omega)) (fun k h=>by have:=(hcr.ownO.lt k h).1;omega)
 have hO3:ObjV (fun k=>w.heap.size+1+1<k) W3 (.slice AO3 g.vz.length cO3) g.keys g.vz:=by
  have hO':=ObjV.of_own (ok:=fun k=>w.heap.size+1+1<k/\k≠eb) hcr.ownO (hcr.rowO.keep (From.refl _ _) (fun k h _=>⟨by have:=h.1;omega,fun e=>ze0 hcr (e ▸ h)⟩)) (fun k h=>⟨by have:=(hcr.ownO.lt k h).1;omega,fun e=>by
   rcases zb5 hcr.ownL hcr.ownO (by decide) with h2 | h2
   ·cases h2
   ·exact h2 (by rw [h,e];rfl)⟩)
  exact hO'.keep (hJ.from (fun h=>h.2 rfl)) (fun k h _=>h.1)
 clear hO;have hres:Whole W3 (w.heap.size+1+1) 29 ZC:=hR.res.of_eq (hJ.far _ hR.res.lt (by omega))
 refine ⟨hres,fun a0 a1 a2 a3 a4=>?_⟩
 have hF:From (fun k=>w.heap.size+1+1<k) W3 (put5 W3 (w.heap.size+1+1) a0 a1 a2 a3 a4):=fun k hk _=>zac _ _ _ _ _ _ _ _ (by omega)
 refine ⟨zae (hR.below.trans (hJ.below (by omega) (by have:=hR.res.lt;omega))) (by omega) _ _ _ _ _,.inr ⟨g.setIn s z,_,by simp [GV.put,hin,hz],rfl,.slice (some ⟨eb,0,none⟩) g.il.length cL3,.slice AO3 g.vz.length cO3,by simp,?_,?_⟩⟩
 ·rw [(zbQ hs).1,hki,Int.toNat_natCast]
  exact hL.keep hF (fun k h _=>by omega)
 ·rw [(zbQ hs).2,setIn_keys]
  exact hO3.keep hF (fun k h _=>by omega)
theorem zjt {w wm wc W3:World} {g x z h':GV} {s:GStep} {r:List GStep} {AL AO CL CO BL2 BO2 AL3:Option Addr} {cL cO eL eO B2 kk eb cL3 cO3 dL2 dO2:Nat} {xs ys:List Value} {u0 u1 u2 u3 u4:Value} (hR:RP w g x AL AO CL CO cL cO eL eO wc) (hb:Below wm.heap.size wm wc) (hB2:w.heap.size+1+1<B2) (hwm:w.heap.size+1+1<wm.heap.size)
  (hzL:LstV (fun k=>B2<=k) wm (.slice BL2 z.il.length dL2) z.il) (hzO:ObjV (fun k=>B2<=k) wm (.slice BO2 z.vz.length dO2) z.keys z.vz) (hcr:CopyRows wm.heap.size g.il g.keys g.vz wc (.slice AL3 g.il.length cL3) (.slice (some ⟨eb,0,none⟩) g.vz.length cO3) xs ys) (heb:wm.heap.size<=eb)
  (hu0:wc.cell? ⟨eb,kk * 6+1,none⟩=some u0) (hu1:wc.cell? ⟨eb,kk * 6+1+1,none⟩=some u1) (hu2:wc.cell? ⟨eb,kk * 6+1+2,none⟩=some u2) (hu3:wc.cell? ⟨eb,kk * 6+1+3,none⟩=some u3) (hu4:wc.cell? ⟨eb,kk * 6+1+4,none⟩=some u4)
  (hin:g.inside s=some h') (hz:h'.put x r=some z) (hs:s.list=false) (hki:place s.key g.keys=kk)
  (hW3:W3=((((wc.setCell ⟨eb,kk * 6+1,none⟩ (.int .u8 z.kq)).setCell ⟨eb,kk * 6+1+1,none⟩ (.int .i64 z.num)).setCell ⟨eb,kk * 6+1+2,none⟩ (.string z.str)).setCell ⟨eb,kk * 6+1+3,none⟩ (.slice BL2 z.il.length dL2)).setCell ⟨eb,kk * 6+1+4,none⟩ (.slice BO2 z.vz.length dO2)):
  Whole W3 (w.heap.size+1+1) 29 ZC/\∀ a0 a1 a2 a3 a4,RPut g x (s :: r) w (.returned (.tuple #[.agg #[.int .u8 g.kq,.int .i64 g.num,.string g.str,.slice AL3 g.il.length cL3,.slice (some ⟨eb,0,none⟩) g.vz.length cO3],.int .i64 0])) (put5 W3 (w.heap.size+1+1) a0 a1 a2 a3 a4):=by
 have hsz:=hb.size;have hJ:=zbl (b:=eb) (off:=kk * 6+1) wc (.int .u8 z.kq) (.int .i64 z.num) (.string z.str) (.slice BL2 z.il.length dL2) (.slice BO2 z.vz.length dO2);have hzL2:=hzL.keep (ok':=fun k=>B2<=k/\k<wm.heap.size) (From.of_below hb) (fun k h hlt=>⟨h,hlt⟩)
 have hzO2:=hzO.keep (ok':=fun k=>B2<=k/\k<wm.heap.size) (From.of_below hb) (fun k h hlt=>⟨h,hlt⟩)
 have hat:=zdu (ok':=fun k=>w.heap.size+1+1<k) hu0 hu1 hu2 hu3 hu4 (fun h=>by have:=h.2;omega) (fun k h=>by have:=h.1;omega) hzL2 hzO2
 rw [<- hW3] at hJ hat;have hO:=zki (ok':=fun k=>w.heap.size+1+1<k) hcr.rowO hcr.ownO (zen hcr) (fun k h=>by have:=h.1;omega) (by omega) hJ hat
 have hL3:LstV (fun k=>w.heap.size+1+1<k) W3 (.slice AL3 g.il.length cL3) g.il:=by
  have hL':=LstV.of_own (ok:=fun k=>w.heap.size+1+1<k/\k≠eb) hcr.ownL (hcr.rowL.keep (From.refl _ _) (fun k h _=>⟨by have:=h.1;omega,fun e=>zen hcr (e ▸ h)⟩)) (fun k h=>⟨by have:=(hcr.ownL.lt k h).1;omega,fun e=>by
   rcases zb5 hcr.ownO hcr.ownL (by decide) with h2 | h2
   ·cases h2
   ·exact h2 (by rw [h,e];rfl)⟩)
  exact hL'.keep (hJ.from (fun h=>h.2 rfl)) (fun k h _=>h.1)
 have hres:Whole W3 (w.heap.size+1+1) 29 ZC:=hR.res.of_eq (hJ.far _ hR.res.lt (by omega))
 refine ⟨hres,fun a0 a1 a2 a3 a4=>?_⟩
 have hF:From (fun k=>w.heap.size+1+1<k) W3 (put5 W3 (w.heap.size+1+1) a0 a1 a2 a3 a4):=fun k hk _=>zac _ _ _ _ _ _ _ _ (by omega)
 refine ⟨zae (hR.below.trans (hJ.below (by omega) (by have:=hR.res.lt;omega))) (by omega) _ _ _ _ _,.inr ⟨g.setIn s z,_,by simp [GV.put,hin,hz],rfl,.slice AL3 g.il.length cL3,.slice (some ⟨eb,0,none⟩) g.vz.length cO3,by simp,?_,?_⟩⟩
 ·rw [(zcm hs).1]
  exact hL3.keep hF (fun k h _=>by omega)
 ·rw [(zcm hs).2,setIn_keys,hki]
  exact hO.keep hF (fun k h _=>by omega)
theorem zkz (b o n c:Nat) (hc:n+1<=c):∃ D:Option Addr,(n≠0->D=some ⟨b,o+3,none⟩)/\∀ W,(Instr.slice 43 (.slice (some ⟨b,o,none⟩) (n+1) c) (some (.int .i64 1)) none none).run Tryz.prog W=.ok (.slice D n (c - 1)) W:=by
 by_cases h1:c=1
 ·subst h1
  refine ⟨some ⟨b,o,none⟩,fun h=>by omega,fun W=>?_⟩
  rw [run_slice_l (ht:=Tryz.underlying43) (h0:=by omega) (h1:=by omega)]
  simp [go_sem]
 ·refine ⟨some ⟨b,o+3,none⟩,fun _=>rfl,fun W=>?_⟩
  rw [run_slice_l (ht:=Tryz.underlying43) (h0:=by omega) (h1:=by omega)]
  simp [go_sem,h1]
theorem zi4:∀ (ps:List GStep) (ok:Nat->Prop) (v vx:Value) (g x:GV) (hi:Nat) (A:Option Addr) (cap:Nat) (w:World),g.val ok w v->x.val ok w vx->Steps hi w A ps->hi<=w.heap.size->ps.length<=cap->cap<=maxLen->g.size<=1000000000->x.size<=1000000000 ->
  Calls Tryz.prog 30 #[v,.slice A ps.length cap,vx] w (RPut g x ps w)
 | [],ok,v,vx,g,x,hi,A,cap,w,hv,hvx,hp,hhi,hcap,hm,hg,hx=>by
  obtain ⟨L,O,rfl,hL,hO⟩:=hv;obtain ⟨AL,cL,rfl⟩:=zah hL;obtain ⟨AO,cO,rfl⟩:=zag hO;obtain ⟨L,O,rfl,hxL,hxO⟩:=hvx;obtain ⟨CL,eL,rfl⟩:=zah hxL;obtain ⟨CO,eO,rfl⟩:=zag hxO;have HR:=hid (zhA hL hO hxL hxO);clear hL hO hxL hxO hp;have hcopy:=fun (W:World) (hq:RP w g x AL AO CL CO cL cO eL eO W)=>(zcX x.size _ ((vG x CL eL CO eO)) x W (Nat.le_refl _) ⟨_,_,rfl,hq.xl,hq.xo⟩ hx).mono
   (R':=fun e w'=>∃ BL dL BO dO,e=.returned ((vG x BL dL BO dO))/\LstV (fun k=>W.heap.size<=k) w' (.slice BL x.il.length dL) x.il/\ObjV (fun k=>W.heap.size<=k) w' (.slice BO x.vz.length dO) x.keys x.vz/\Below W.heap.size W w') fun e w' ⟨v',he,⟨L,O,hv,hL,hO⟩,hb'⟩=>by
    subst hv;obtain ⟨BL,dL,rfl⟩:=zah hL;obtain ⟨BO,dO,rfl⟩:=zag hO;exact ⟨BL,dL,BO,dO,he,hL,hO,hb'⟩
  have HC:=hid hcopy;clear hcopy;unfold ZC at HR;go_enter Tryz.func30,Tryz.ntmps30
  go_wp2_with (go_at_call 20;refine (HC.out _ HR.out).mono ?_;rintro e w1 ⟨EL,fL,EO,fO,rfl,hL,hO,hb⟩;have hres:=HR.out.later hb;obtain ⟨r0,r1,r2,r3,r4,f0,f1,f2,f3,f4⟩:=hres.res.five;have HV:=hid (And.intro hb (And.intro hres (And.intro hL hO)));clear hb hres hL hO)
  have hlt:w.heap.size+1+1<w1.heap.size:=HV.out.2.1.res.lt;obtain ⟨d0,d1,d2,d3,d4,_⟩:=(zai HV.out.2.1.res (.int .u8 x.kq) (.int .i64 x.num) (.string x.str) (.slice EL x.il.length fL) (.slice EO x.vz.length fO)).five;unfold put5 at d0 d1 d2 d3 d4;refine bodyPost_ret (v:=.tuple #[(vG x EL fL EO fO),.int .i64 0]) (by simp [results,Tryz.results30,go_sem,d0,d1,d2,d3,d4]) rfl ?_
  have hsz0:=HR.out.res.lt;refine ⟨zae HV.out.2.1.below (by omega) _ _ _ _ _,.inr ⟨x,_,rfl,rfl,_,_,rfl,?_,?_⟩⟩
  ·exact HV.out.2.2.1.keep (fun k hk _=>zac _ _ _ _ _ _ _ _ (by omega)) (fun k hk _=>by omega)
  ·exact HV.out.2.2.2.keep (fun k hk _=>zac _ _ _ _ _ _ _ _ (by omega)) (fun k hk _=>by omega)
 | s :: r,ok,v,vx,g,x,hi,A,cap,w,hv,hvx,hp,hhi,hcap,hm,hg,hx=>by
  have ih:=zi4 r;obtain ⟨L,O,rfl,hL,hO⟩:=hv;obtain ⟨AL,cL,rfl⟩:=zah hL;obtain ⟨AO,cO,rfl⟩:=zag hO;obtain ⟨L,O,rfl,hxL,hxO⟩:=hvx;obtain ⟨CL,eL,rfl⟩:=zah hxL;obtain ⟨CO,eO,rfl⟩:=zag hxO;obtain ⟨⟨pb,po,sp⟩,rfl,hsp,hpb,hpc⟩:=id hp (by simp)
  simp only at hsp hpb;subst hsp;have hp0:=hpc 0 s rfl;simp only [Nat.zero_mul,Nat.add_zero] at hp0;have HP:=hid (And.intro hp hp0);have HR:=hid (zhA hL hO hxL hxO);have hstep:∀ W,RP w g x AL AO CL CO cL cO eL eO W->Calls Tryz.prog 39 #[(vG g AL cL AO cO),.agg #[.bool s.list,.int .i64 s.i,.string s.key]] W (StepPost (fun k=>k<w.heap.size) g s W):=fun W hq=>
   zhQ _ _ g s W ⟨_,_,rfl,hq.gl,hq.go⟩
  have hrest:Steps hi w (some ⟨pb,po+3,none⟩) r:=hp.tail;have hih:∀ (h:GV) (BL BO:Option Addr) (dL dO:Nat) (W:World),RP w g x AL AO CL CO cL cO eL eO W->g.inside s=some h->LstV (fun k=>k<w.heap.size) W (.slice BL h.il.length dL) h.il->ObjV (fun k=>k<w.heap.size) W (.slice BO h.vz.length dO) h.keys h.vz->∀ (A:Option Addr),(r≠[]->A=some ⟨pb,po+3,none⟩) ->
    Calls Tryz.prog 30 #[(vG h BL dL BO dO),.slice A r.length (cap - 1),(vG x CL eL CO eO)] W (RPut h x r W):=fun h BL BO dL dO W hq hin hL hO A hA=>
   ih (fun k=>k<w.heap.size) _ _ h x hi A (cap - 1) W ⟨_,_,rfl,hL,hO⟩ ⟨_,_,rfl,hq.xl,hq.xo⟩ (fun hne=>by rw [hA hne];exact (hrest.keep (hq.below.mono hhi) (Nat.le_refl _)) hne) (Nat.le_trans hhi hq.below.size) (by simp at hcap;omega) (by unfold maxLen at hm ⊢;omega) (Nat.le_trans (zel hin) hg) hx
  have HS:=hid hstep;have HIH:=hid hih;have HG:=hid (And.intro hg hx);clear hstep hih ih hL hO hxL hxO hp hp0 hpc hrest hg hx;simp only [List.length_cons] at hcap ⊢;unfold maxLen at hm;unfold ZC at HR;go_enter Tryz.func30,Tryz.ntmps30
  go_wp2_with fail
  obtain ⟨wr,hwr⟩:∃ W,W=(((w.alloc (oV g AL cL AO cO)).alloc (oV x CL eL CO eO)).alloc (.cells #[.int .u8 0,.int .i64 0,.string ⟨#[]⟩,.slice none 0 0,.slice none 0 0] 29)):=⟨_,rfl⟩;rw [<- hwr] at HR ⊢;clear hwr;have hlo:w.heap.size+1+1<wr.heap.size:=HR.out.res.lt;have p0:=(HR.out.below.cell (p:=⟨pb,po,none⟩) (by simp only;omega)).trans HP.out.2.1
  have p1:=(HR.out.below.cell (p:=⟨pb,po+1,none⟩) (by simp only;omega)).trans HP.out.2.2.1
  have p2:=(HR.out.below.cell (p:=⟨pb,po+2,none⟩) (by simp only;omega)).trans HP.out.2.2.2
  obtain ⟨v0,v1,v2,v3,v4,_⟩:=HR.out.root.five;have q0:=fun o=>zab o p0
  have q1:=fun o=>zab o p1
  have q2:=fun o=>zab o p2
  have g0:=fun o=>zab o v0
  have g1:=fun o=>zab o v1
  have g2:=fun o=>zab o v2
  have g3:=fun o=>zab o v3
  have g4:=fun o=>zab o v4
  have hs2:=fun W (hb:Below wr.heap.size wr W)=>(HS.out W (HR.out.later hb)).mono (R':=fun e w'=>∃ kd nm st BL BO lL dL lO dO k er,e=.returned (.tuple #[.agg #[.int .u8 kd,.int .i64 nm,.string st,.slice BL lL dL,.slice BO lO dO],.int .i64 k,.int .i64 er])/\StepIs w g s wr kd nm st BL BO lL dL lO dO k er/\Below W.heap.size W w') fun e w' hq=>by
   rcases hq.2 with ⟨hn,he⟩ | ⟨h2,BL',BO',dL',dO',kk,hx,he,hL,hO,hkk⟩
   ·exact ⟨_,_,_,_,_,_,_,_,_,_,_,he,.inl ⟨rfl,hn⟩,hq.1⟩
   ·exact ⟨_,_,_,_,_,_,_,_,_,_,_,he,.inr ⟨rfl,h2,kk,hx,rfl,rfl,rfl,rfl,rfl,rfl,hL.keep (fun k hk _=>(hb.block k (by omega)).symm) (fun _ h _=>h),hO.keep (fun k hk _=>(hb.block k (by omega)).symm) (fun _ h _=>h),hkk⟩,hq.1⟩
  have HC:=hid hs2;clear hs2 HS
  go_cut [8,9,10] (CutPP w wr g s)
  case first=>
   go_region_with (first | (go_at_call 39;refine (HC.out wr.drew (Below.refl _ wr).drew).mono ?_;rintro e w1 ⟨kd,nm,st,BL',BO',lL',dL',lO',dO',kk,er,rfl,hlo1,hb1⟩;have HLO:=hid hlo1;clear hlo1;have HB1:Hid (Below wr.heap.size wr w1):=hid ((Below.refl _ wr).drew.trans hb1);clear hb1) | (go_at_call 39;refine (HC.out _ ((Below.refl _ wr).alloc (Nat.le_refl _) _).drew).mono ?_;rintro e w1 ⟨kd,nm,st,BL',BO',lL',dL',lO',dO',kk,er,rfl,hlo1,hb1⟩;have HLO:=hid hlo1;clear hlo1;have HX:=zbW hb1;obtain ⟨x0,x1,x2,x3,x4,y0,y1,y2,y3,y4⟩:=HX.out.1.five;have HB1:Hid (Below wr.heap.size wr w1):=hid HX.out.2;clear hb1))
   all_goals go_wp2_with fail
   all_goals go_meet
   all_goals first
    | (have hx:=HX.out.1;exact ⟨zae HB1.out (Nat.le_refl _) _ _ _ _ _,_,kd,nm,st,BL',BO',lL',dL',lO',dO',kk,er,rfl,rfl,rfl,zai hx _ _ _ _ _,HLO.out⟩)
    | exact ⟨HB1.out.alloc HB1.out.size _,_,kd,nm,st,BL',BO',lL',dL',lO',dO',kk,er,rfl,rfl,rfl,Whole.new w1 _ _,HLO.out⟩
  case rest=>
   obtain ⟨hbw,X,kd,nm,st,BL',BO',lL',dL',lO',dO',kx,er,rfl,rfl,rfl,hX,hst⟩:=hcut;have HR2:=hid (HR.out.later hbw);have p0:=(hbw.cell (p:=⟨pb,po,none⟩) (by simp only;omega)).trans p0
   have hlo2:wr.heap.size<=wc.heap.size:=hbw.size;rcases hst with ⟨rfl,hio⟩ | ⟨rfl,h',kk,hio,rfl,rfl,rfl,rfl,rfl,rfl,hL',hO',hkk⟩
   ·obtain ⟨x0,x1,x2,x3,x4,y0,y1,y2,y3,y4⟩:=HR2.out.res.five
    obtain ⟨d0,d1,d2,d3,d4,_⟩:=(zai HR2.out.res (.int .u8 0) (.int .i64 0) (.string ⟨#[]⟩) (.slice none 0 0) (.slice none 0 0)).five;unfold put5 at d0 d1 d2 d3 d4;have HIO:=hid hio;clear hbw hX hio q0 q1 q2 g0 g1 g2 g3 g4;go_wp2
    refine bodyPost_ret (v:=.tuple #[zeroV,.int .i64 30]) (by simp [results,Tryz.results30,go_sem,zeroV,d0,d1,d2,d3,d4]) rfl ?_
    exact ⟨zae HR2.out.below (by omega) _ _ _ _ _,.inl ⟨by simp [GV.put,HIO.out],rfl⟩⟩
   ·have hL2:=hL'.keep (ok':=fun k=>k<w.heap.size) (From.of_below hbw) (fun _ h _=>h)
    have hO2:=hO'.keep (ok':=fun k=>k<w.heap.size) (From.of_below hbw) (fun _ h _=>h)
    have hH:=hid (And.intro hio (And.intro hL2 (And.intro hO2 hkk)));have hXX:=hid hX;obtain ⟨x0,x1,x2,x3,x4,_⟩:=hX.five;have q0:=fun o=>zab o x0
    have q1:=fun o=>zab o x1
    have q2:=fun o=>zab o x2
    have q3:=fun o=>zab o x3
    have q4:=fun o=>zab o x4
    obtain ⟨v0,v1,v2,v3,v4,_⟩:=HR2.out.xbox.five;have g0:=fun o=>zab o v0
    have g1:=fun o=>zab o v1
    have g2:=fun o=>zab o v2
    have g3:=fun o=>zab o v3
    have g4:=fun o=>zab o v4
    clear hbw hX hL' hO' hL2 hO2 hkk hio HC;have hz:=fun (W:World) (hb:Below wc.heap.size wc W) (A:Option Addr) (hA:r≠[]->A=some ⟨pb,po+3,none⟩)=>(HIH.out h' BL' BO' dL' dO' W (HR2.out.later hb) hH.out.1 (hH.out.2.1.keep (From.of_below hb) (fun _ h _=>h)) (hH.out.2.2.1.keep (From.of_below hb) (fun _ h _=>h)) A hA).mono
     (R':=fun e w'=>∃ kd nm st BL BO lL dL lO dO er,e=.returned (.tuple #[.agg #[.int .u8 kd,.int .i64 nm,.string st,.slice BL lL dL,.slice BO lO dO],.int .i64 er])/\PutIs h' x r W.heap.size w' kd nm st BL BO lL dL lO dO er/\Below W.heap.size W w') fun e w' hq=>by
      rcases hq.2 with ⟨hn,he⟩ | ⟨z,v',hz,he,L,O,rfl,hL,hO⟩
      ·exact ⟨_,_,_,_,_,_,_,_,_,_,he,.inl ⟨rfl,hn⟩,hq.1⟩
      ·obtain ⟨BL,dL,rfl⟩:=zah hL
       obtain ⟨BO,dO,rfl⟩:=zag hO;exact ⟨_,_,_,_,_,_,_,_,_,_,he,.inr ⟨rfl,z,hz,rfl,rfl,rfl,rfl,rfl,hL,hO⟩,hq.1⟩
    have HC:=hid hz;clear hz HIH
    go_wp2_with fail
    go_cut [11,12] (CutZ wc h' x r)
    case first=>
     have hss:∀ W,Below wc.heap.size wc W->W.cell? ⟨X,0,none⟩=some (.int .u8 h'.kq)/\W.cell? ⟨X,1,none⟩=some (.int .i64 h'.num)/\W.cell? ⟨X,2,none⟩=some (.string h'.str)/\W.cell? ⟨X,3,none⟩=some (.slice BL' h'.il.length dL')/\W.cell? ⟨X,4,none⟩=some (.slice BO' h'.vz.length dO')/\W.cell? ⟨w.heap.size+1,0,none⟩=some (.int .u8 x.kq)/\W.cell? ⟨w.heap.size+1,1,none⟩=some (.int .i64 x.num)/\W.cell? ⟨w.heap.size+1,2,none⟩=some (.string x.str)/\W.cell? ⟨w.heap.size+1,3,none⟩=some (.slice CL x.il.length eL)/\W.cell? ⟨w.heap.size+1,4,none⟩=some (.slice CO x.vz.length eO):=fun W hb=>
      have hX:=hXX.out.below hb hXX.out.lt;have hx:=(HR2.out.later hb).xbox
      ⟨hX.five.c0,hX.five.c1,hX.five.c2,hX.five.c3,hX.five.c4,hx.five.c0,hx.five.c1,hx.five.c2,hx.five.c3,hx.five.c4⟩
     have HSS:=hid hss;clear hss;obtain ⟨D,hD,hsl⟩:=zkz pb po r.length cap hcap;have HD:Hid (r≠[]->D=some ⟨pb,po+3,none⟩):=hid (fun hne=>hD (fun e=>hne (List.length_eq_zero_iff.1 e)))
     clear hD
     go_region_held3 (fun W=>W.cell? ⟨X,0,none⟩=some (.int .u8 h'.kq)/\W.cell? ⟨X,1,none⟩=some (.int .i64 h'.num)/\W.cell? ⟨X,2,none⟩=some (.string h'.str)/\W.cell? ⟨X,3,none⟩=some (.slice BL' h'.il.length dL')/\W.cell? ⟨X,4,none⟩=some (.slice BO' h'.vz.length dO')/\W.cell? ⟨w.heap.size+1,0,none⟩=some (.int .u8 x.kq)/\W.cell? ⟨w.heap.size+1,1,none⟩=some (.int .i64 x.num)/\W.cell? ⟨w.heap.size+1,2,none⟩=some (.string x.str)/\W.cell? ⟨w.heap.size+1,3,none⟩=some (.slice CL x.il.length eL)/\W.cell? ⟨w.heap.size+1,4,none⟩=some (.slice CO x.vz.length eO))
      (first | exact HSS.out _ (zae HB1.out (Nat.le_refl _) _ _ _ _ _) | exact HSS.out _ (HB1.out.alloc HB1.out.size _) | exact HSS.out _ HB1.out | exact HSS.out _ ((Below.refl _ wc).alloc (Nat.le_refl _) _).drew | exact HSS.out _ (Below.refl _ wc).drew)
      (first | (go_at_call 30;refine (HC.out wc.drew (Below.refl _ wc).drew _ HD.out).mono ?_;rintro e w1 ⟨kd,nm,st,BL2,BO2,lL2,dL2,lO2,dO2,er,rfl,hpi,hb1⟩;have HPI:=hid hpi;clear hpi;have HB1:Hid (Below wc.heap.size wc w1):=hid ((Below.refl _ wc).drew.trans hb1);clear hb1) | (go_at_call 30;refine (HC.out _ ((Below.refl _ wc).alloc (Nat.le_refl _) _).drew _ HD.out).mono ?_;rintro e w1 ⟨kd,nm,st,BL2,BO2,lL2,dL2,lO2,dO2,er,rfl,hpi,hb1⟩;have HPI:=hid hpi;clear hpi;have HX:=zbW hb1;obtain ⟨x0,x1,x2,x3,x4,y0,y1,y2,y3,y4⟩:=HX.out.1.five;have HB1:Hid (Below wc.heap.size wc w1):=hid HX.out.2;clear hb1))
     all_goals go_wp2_with fail
     all_goals go_meet
     all_goals first
      | (have hx:=HX.out.1;exact ⟨zae HB1.out (Nat.le_refl _) _ _ _ _ _,_,kd,nm,st,BL2,BO2,lL2,dL2,lO2,dO2,er,Nat.le_refl _,rfl,rfl,zai hx _ _ _ _ _,_,by simp,HPI.out.put (by simp) _ _ _ _ _⟩)
      | exact ⟨HB1.out.alloc HB1.out.size _,_,kd,nm,st,BL2,BO2,lL2,dL2,lO2,dO2,er,HB1.out.size,rfl,rfl,Whole.new w1 _ _,_,by first | exact Nat.le_refl _ | simp,HPI.out.later (below_alloc' w1 _)⟩
    case rest=>
     obtain ⟨hbz,X2,kd,nm,st,BL2,BO2,lL2,dL2,lO2,dO2,er,hX2,rfl,rfl,hXw,B2,hB2,hpi⟩:=hcut;have HR3:=hid (HR2.out.later hbz);have hsz3:=hbz.size;clear q0 q1 q2 q3 q4 g0 g1 g2 g3 g4 x0 x1 x2 x3 x4 v0 v1 v2 v3 v4 p0 p1 p2 hbz HC;rcases hpi with ⟨rfl,hn⟩ | ⟨rfl,z,hz,rfl,rfl,rfl,rfl,rfl,hzL,hzO⟩
     ·obtain ⟨x0,x1,x2,x3,x4,y0,y1,y2,y3,y4⟩:=HR3.out.res.five
      obtain ⟨d0,d1,d2,d3,d4,_⟩:=(zai HR3.out.res (.int .u8 0) (.int .i64 0) (.string ⟨#[]⟩) (.slice none 0 0) (.slice none 0 0)).five;unfold put5 at d0 d1 d2 d3 d4;have HN:=hid hn;clear hXw hn;go_wp2
      refine bodyPost_ret (v:=.tuple #[zeroV,.int .i64 30]) (by simp [results,Tryz.results30,go_sem,zeroV,d0,d1,d2,d3,d4]) rfl ?_
      exact ⟨zae HR3.out.below (by omega) _ _ _ _ _,.inl ⟨by simp [GV.put,hH.out.1,HN.out],rfl⟩⟩
     ·have HCP:=hid (zgE (fun k=>k<w.heap.size) ((vG g AL cL AO cO)) g wc ⟨_,_,rfl,HR3.out.gl,HR3.out.go⟩ HG.out.1)
      have HZ:=hid (And.intro hz (And.intro hzL hzO));obtain ⟨v0,v1,v2,v3,v4,_⟩:=HR3.out.root.five;have HXW:=hid hXw;clear hz hzL hzO hXw
      go_upto_region 9 with fail
      go_cut [13] (CutW wc g)
      case first=>
       go_wp2_with (go_at_call 20;refine HCP.out.mono ?_;rintro e w3 ⟨AL3,cL3,AO3,cO3,xs3,ys3,rfl,hcr,hb3⟩;have H3:=hid (And.intro hcr hb3);clear hcr hb3)
       go_meet
       exact zmo H3.out.1 H3.out.2
      case rest=>
       clear HCP v0 v1 v2 v3 v4;obtain ⟨hb3,X3,AL3,cL3,AO3,cO3,xs3,ys3,hX3,rfl,hX3w,hcr,heL,heO⟩:=hcut;have HR4:=hid (HR3.out.later hb3);have hsz4:=hb3.size;obtain ⟨t0,t1,t2,t3,t4,_⟩:=(HXW.out.below hb3 HXW.out.lt).five;obtain ⟨r0,r1,r2,r3,r4,f0,f1,f2,f3,f4⟩:=HR4.out.res.five;obtain ⟨c0,c1,c2,c3,c4,_⟩:=hX3w.five;have s0:=(HR4.out.below.cell (p:=⟨pb,po,none⟩) (show pb<w.heap.size by omega)).trans HP.out.2.1
       have HB3:=hid hb3;have HCR:=hid hcr;have HX3:=hid hX3w;have HEL:=hid heL;have HEO:=hid heO;clear hb3 hX3w hcr heL heO;rcases hH.out.2.2.2 with ⟨hs,hki,hkl⟩ | ⟨hs,hpl,hkl⟩
       ·rw [hs] at s0
        have HS:=hid (And.intro hs hki);clear hs hki;obtain ⟨eb,ecs,rfl,heb1,hew,hl1,hl2,u0,u1,u2,u3,u4,hu0,hu1,hu2,hu3,hu4⟩:=zdU HCR.out hkl;have hebX:=HEL.out eb 0 rfl;have HEW:=hid hew;have e0:=hew.frozen (kk * 5);have e1:=hew.frozen (kk * 5+1);have e2:=hew.frozen (kk * 5+2);have e3:=hew.frozen (kk * 5+3);have e4:=hew.frozen (kk * 5+4);clear hew
        go_wp2_with fail
        obtain ⟨hres,hend⟩:=zka HR4.out HB3.out (by omega) (by omega) HZ.out.2.1 HZ.out.2.2 HCR.out heb1 hu0 hu1 hu2 hu3 hu4 hH.out.1 HZ.out.1 HS.out.1 HS.out.2 rfl
        obtain ⟨d0,d1,d2,d3,d4,_⟩:=(zai hres (.int .u8 g.kq) (.int .i64 g.num) (.string g.str) (.slice (some ⟨eb,0,none⟩) g.il.length cL3) (.slice AO3 g.vz.length cO3)).five;unfold put5 at d0 d1 d2 d3 d4;refine bodyPost_ret (v:=.tuple #[.agg #[.int .u8 g.kq,.int .i64 g.num,.string g.str,.slice (some ⟨eb,0,none⟩) g.il.length cL3,.slice AO3 g.vz.length cO3],.int .i64 0]) (by simp [results,Tryz.results30,go_sem,d0,d1,d2,d3,d4]) rfl ?_
        exact hend _ _ _ _ _
       ·rw [hs] at s0
        have HS:=hid (And.intro hs hpl);clear hs hpl;obtain ⟨eb,ecs,rfl,heb1,hew,hl1,hl2,u0,u1,u2,u3,u4,hu0,hu1,hu2,hu3,hu4⟩:=zlB HCR.out hkl;have hebX:=HEO.out eb 0 rfl;have HEW:=hid hew;have e0:=hew.frozen (kk * 6+1);have e1:=hew.frozen (kk * 6+1+1);have e2:=hew.frozen (kk * 6+1+2);have e3:=hew.frozen (kk * 6+1+3);have e4:=hew.frozen (kk * 6+1+4);clear hew
        go_wp2_with fail
        obtain ⟨hres,hend⟩:=zjt HR4.out HB3.out (by omega) (by omega) HZ.out.2.1 HZ.out.2.2 HCR.out heb1 hu0 hu1 hu2 hu3 hu4 hH.out.1 HZ.out.1 HS.out.1 HS.out.2 rfl
        obtain ⟨d0,d1,d2,d3,d4,_⟩:=(zai hres (.int .u8 g.kq) (.int .i64 g.num) (.string g.str) (.slice AL3 g.il.length cL3) (.slice (some ⟨eb,0,none⟩) g.vz.length cO3)).five;unfold put5 at d0 d1 d2 d3 d4;refine bodyPost_ret (v:=.tuple #[.agg #[.int .u8 g.kq,.int .i64 g.num,.string g.str,.slice AL3 g.il.length cL3,.slice (some ⟨eb,0,none⟩) g.vz.length cO3],.int .i64 0]) (by simp [results,Tryz.results30,go_sem,d0,d1,d2,d3,d4]) rfl ?_
        exact hend _ _ _ _ _
end Go.Proofs.YtmmgdkpkcoopgaaGreatDoor
