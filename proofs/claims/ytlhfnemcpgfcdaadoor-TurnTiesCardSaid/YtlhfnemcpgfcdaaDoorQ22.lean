/- Turn of components: its ways, whatever is answered there. -/
import Derived.Test.YtlhfnemcpgfcdaaDoorQ21
import Derived.Test.YtlhfnemcpgfcdaaDoorQ16
set_option maxRecDepth 100000
set_option maxHeartbeats 4000000
namespace Go.Proofs.YtlhfnemcpgfcdaaDoor
open Go Go.RowKit
set_option linter.unusedVariables false
set_option linter.unusedSimpArgs false
def Ret (R:Value→World→Prop) (e:Ending) (w':World):Prop:=∃ v,e=.returned v∧R v w'
theorem turn_longer (a b:GC) (A AL AO B BL BO:Option Addr) (ap aL aO bp bL bO:Nat) (w:World) (ha:Cc w a A AL AO ap aL aO) (hb:Cc w b B BL BO bp bL bO) (left:Bool) (R:Value→World→Prop) (hbg:begins a.path b.path=true) (hlen:b.path.length<a.path.length) (hR:∀ W,Below w.heap.size w W→Calls Tryd.prog 17 #[.agg #[.int .u8 a.kind,.slice A a.path.length ap,.string a.key,.int .i64 a.i,.int .i64 a.j,.int .i64 a.n,.int .u8 a.v.kind,.int .i64 a.v.num,.string a.v.str,.slice AL a.v.items.length aL,.slice AO a.v.vals.length aO,.string a.s],.agg #[.int .u8 b.kind,.slice B b.path.length bp,.string b.key,.int .i64 b.i,.int .i64 b.j,.int .i64 b.n,.int .u8 b.v.kind,.int .i64 b.v.num,.string b.v.str,.slice BL b.v.items.length bL,.slice BO b.v.vals.length bO,.string b.s]] W (Ret R)):Calls Tryd.prog 9 #[.agg #[.int .u8 a.kind,.slice A a.path.length ap,.string a.key,.int .i64 a.i,.int .i64 a.j,.int .i64 a.n,.int .u8 a.v.kind,.int .i64 a.v.num,.string a.v.str,.slice AL a.v.items.length aL,.slice AO a.v.vals.length aO,.string a.s],.agg #[.int .u8 b.kind,.slice B b.path.length bp,.string b.key,.int .i64 b.i,.int .i64 b.j,.int .i64 b.n,.int .u8 b.v.kind,.int .i64 b.v.num,.string b.v.str,.slice BL b.v.items.length bL,.slice BO b.v.vals.length bO,.string b.s],.bool left] w (Ret R):=by
 have HB:=Lib.hid (fun W (h:Below w.heap.size w W)=>(path_Begins W.heap.size A B ap bp a.path b.path W (ha.later h).path.steps (hb.later h).path.steps ha.path.le ha.path.cap (Nat.le_trans hb.path.le hb.path.cap)))
 rw [hbg] at HB
 have HR:=Lib.hid hR
 unfold Ret at HR
 have H0:=Lib.hid (CTwo.new w #[.int .u8 a.kind,.slice A a.path.length ap,.string a.key,.int .i64 a.i,.int .i64 a.j,.int .i64 a.n,.int .u8 a.v.kind,.int .i64 a.v.num,.string a.v.str,.slice AL a.v.items.length aL,.slice AO a.v.vals.length aO,.string a.s] #[.int .u8 b.kind,.slice B b.path.length bp,.string b.key,.int .i64 b.i,.int .i64 b.j,.int .i64 b.n,.int .u8 b.v.kind,.int .i64 b.v.num,.string b.v.str,.slice BL b.v.items.length bL,.slice BO b.v.vals.length bO,.string b.s])
 clear ha hb hbg hR
 generalize a.path.length=n at *
 generalize b.path.length=m at *
 go_enter Tryd.func9,Tryd.ntmps9
 go_wp2_with (first
  | (go_at_call 15;refine (HB.out _ H0.out.below).mono ?_;rintro e w1 ⟨rfl,hb⟩;have H1:=Lib.hid (H0.out.step hb);obtain ⟨c0,c1,c2,c3,c4,c5,c6,c7,c8,c9,c10,c11,_⟩:=H1.out.a.tw;obtain ⟨e0,e1,e2,e3,e4,e5,e6,e7,e8,e9,e10,e11,_⟩:=H1.out.b.tw;clear hb)
  | (go_at_call 17;refine (HR.out _ H1.out.below).mono ?_;rintro e w2 ⟨v,rfl,hv⟩;have H2:=Lib.hid hv;clear hv))
 go_ret
 exact ⟨v,rfl,H2.out⟩
theorem turn_same (a b:GC) (A AL AO B BL BO:Option Addr) (ap aL aO bp bL bO:Nat) (w:World) (ha:Cc w a A AL AO ap aL aO) (hb:Cc w b B BL BO bp bL bO) (left:Bool) (R:Value→World→Prop) (hbg:begins a.path b.path=true) (hlen:¬ b.path.length<a.path.length) (hR:∀ W,Below w.heap.size w W→Calls Tryd.prog 18 #[.agg #[.int .u8 a.kind,.slice A a.path.length ap,.string a.key,.int .i64 a.i,.int .i64 a.j,.int .i64 a.n,.int .u8 a.v.kind,.int .i64 a.v.num,.string a.v.str,.slice AL a.v.items.length aL,.slice AO a.v.vals.length aO,.string a.s],.agg #[.int .u8 b.kind,.slice B b.path.length bp,.string b.key,.int .i64 b.i,.int .i64 b.j,.int .i64 b.n,.int .u8 b.v.kind,.int .i64 b.v.num,.string b.v.str,.slice BL b.v.items.length bL,.slice BO b.v.vals.length bO,.string b.s],.bool left] W (Ret R)):Calls Tryd.prog 9 #[.agg #[.int .u8 a.kind,.slice A a.path.length ap,.string a.key,.int .i64 a.i,.int .i64 a.j,.int .i64 a.n,.int .u8 a.v.kind,.int .i64 a.v.num,.string a.v.str,.slice AL a.v.items.length aL,.slice AO a.v.vals.length aO,.string a.s],.agg #[.int .u8 b.kind,.slice B b.path.length bp,.string b.key,.int .i64 b.i,.int .i64 b.j,.int .i64 b.n,.int .u8 b.v.kind,.int .i64 b.v.num,.string b.v.str,.slice BL b.v.items.length bL,.slice BO b.v.vals.length bO,.string b.s],.bool left] w (Ret R):=by
 have HB:=Lib.hid (fun W (h:Below w.heap.size w W)=>(path_Begins W.heap.size A B ap bp a.path b.path W (ha.later h).path.steps (hb.later h).path.steps ha.path.le ha.path.cap (Nat.le_trans hb.path.le hb.path.cap)))
 rw [hbg] at HB
 have HR:=Lib.hid hR
 unfold Ret at HR
 have H0:=Lib.hid (CTwo.new w #[.int .u8 a.kind,.slice A a.path.length ap,.string a.key,.int .i64 a.i,.int .i64 a.j,.int .i64 a.n,.int .u8 a.v.kind,.int .i64 a.v.num,.string a.v.str,.slice AL a.v.items.length aL,.slice AO a.v.vals.length aO,.string a.s] #[.int .u8 b.kind,.slice B b.path.length bp,.string b.key,.int .i64 b.i,.int .i64 b.j,.int .i64 b.n,.int .u8 b.v.kind,.int .i64 b.v.num,.string b.v.str,.slice BL b.v.items.length bL,.slice BO b.v.vals.length bO,.string b.s])
 clear ha hb hbg hR
 generalize a.path.length=n at *
 generalize b.path.length=m at *
 go_enter Tryd.func9,Tryd.ntmps9
 go_wp2_with (first
  | (go_at_call 15;refine (HB.out _ H0.out.below).mono ?_;rintro e w1 ⟨rfl,hb⟩;have H1:=Lib.hid (H0.out.step hb);obtain ⟨c0,c1,c2,c3,c4,c5,c6,c7,c8,c9,c10,c11,_⟩:=H1.out.a.tw;obtain ⟨e0,e1,e2,e3,e4,e5,e6,e7,e8,e9,e10,e11,_⟩:=H1.out.b.tw;clear hb)
  | (go_at_call 18;refine (HR.out _ H1.out.below).mono ?_;rintro e w2 ⟨v,rfl,hv⟩;have H2:=Lib.hid hv;clear hv))
 go_ret
 exact ⟨v,rfl,H2.out⟩
theorem in_list4 (a:GC) (A AL AO B BL BO:Option Addr) (ap aL aO bp bL bO kd bi bj:Nat) (bpath:List GStep) (bkey bs:ByteArray) (bn:Int) (bv:GV) (s:GStep) (w:World) (ha:Cc w a A AL AO ap aL aO) (hs:a.path[bpath.length]? = some s) (hl:s.list=true) (hk:kd=4) (R:Value→World→Prop)
  (hR:∀ W,Below w.heap.size w W→Calls Tryd.prog 28 #[.agg #[.int .u8 a.kind,.slice A a.path.length ap,.string a.key,.int .i64 a.i,.int .i64 a.j,.int .i64 a.n,.int .u8 a.v.kind,.int .i64 a.v.num,.string a.v.str,.slice AL a.v.items.length aL,.slice AO a.v.vals.length aO,.string a.s],.int .i64 bpath.length,.agg #[.int .u8 kd,.slice B bpath.length bp,.string bkey,.int .i64 bi,.int .i64 bj,.int .i64 bn,.int .u8 bv.kind,.int .i64 bv.num,.string bv.str,.slice BL bv.items.length bL,.slice BO bv.vals.length bO,.string bs]] W (Ret R)):Calls Tryd.prog 17 #[.agg #[.int .u8 a.kind,.slice A a.path.length ap,.string a.key,.int .i64 a.i,.int .i64 a.j,.int .i64 a.n,.int .u8 a.v.kind,.int .i64 a.v.num,.string a.v.str,.slice AL a.v.items.length aL,.slice AO a.v.vals.length aO,.string a.s],.agg #[.int .u8 kd,.slice B bpath.length bp,.string bkey,.int .i64 bi,.int .i64 bj,.int .i64 bn,.int .u8 bv.kind,.int .i64 bv.num,.string bv.str,.slice BL bv.items.length bL,.slice BO bv.vals.length bO,.string bs]] w (Ret R):=by
 have hat:=(List.getElem?_eq_some_iff.1 hs).1
 have hne:a.path≠[]:=by intro e;rw [e] at hs;cases hs
 obtain ⟨⟨pb,po,sp⟩,rfl,hsp,hplt,hcells⟩:=ha.path.steps hne
 simp only at hsp
 subst hsp
 obtain ⟨x0,x1,x2⟩:=hcells bpath.length s hs
 rw [hl] at x0
 simp only at x0 x1 x2
 have hle:=ha.path.le
 have hcap:=ha.path.cap
 unfold maxLen at hcap
 have HR:=Lib.hid hR
 unfold Ret at HR
 have H0:=Lib.hid (CTwo.new w #[.int .u8 a.kind,.slice (some ⟨pb,po,none⟩) a.path.length ap,.string a.key,.int .i64 a.i,.int .i64 a.j,.int .i64 a.n,.int .u8 a.v.kind,.int .i64 a.v.num,.string a.v.str,.slice AL a.v.items.length aL,.slice AO a.v.vals.length aO,.string a.s] #[.int .u8 kd,.slice B bpath.length bp,.string bkey,.int .i64 bi,.int .i64 bj,.int .i64 bn,.int .u8 bv.kind,.int .i64 bv.num,.string bv.str,.slice BL bv.items.length bL,.slice BO bv.vals.length bO,.string bs])
 have hB:=H0.out.below
 have y0:=(hB.cell (p:=⟨pb,po+bpath.length * 3,none⟩) hplt).trans x0
 have y1:=(hB.cell (p:=⟨pb,po+bpath.length * 3+1,none⟩) hplt).trans x1
 have y2:=(hB.cell (p:=⟨pb,po+bpath.length * 3+2,none⟩) hplt).trans x2
 have g2:((kd:Int) == 2)=false:=by simp;omega
 have g3:((kd:Int) == 3)=false:=by simp;omega
 have g4:((kd:Int) == 4)=true:=by simp;omega
 have g5:((kd:Int) == 5)=false:=by simp;omega
 have g6:((kd:Int) == 6)=false:=by simp;omega
 have g7:((kd:Int) == 7)=false:=by simp;omega
 have HB0:=Lib.hid (H0.out.below.alloc H0.out.below.size (.cells #[.bool true,.int .i64 s.i,.string s.key] 50))
 clear ha hR hk hs hl x0 x1 x2 hne hcells hB
 generalize a.path.length=n at *
 generalize bpath.length=m at *
 go_enter Tryd.func17,Tryd.ntmps17
 go_wp2_with (go_at_call 28;refine (HR.out _ HB0.out).mono ?_;rintro e w2 ⟨v,rfl,hv⟩;have H2:=Lib.hid hv;clear hv)
 go_ret
 exact ⟨v,rfl,H2.out⟩
theorem stays_put_put_left (A AL AO B BL BO:Option Addr) (ap aL aO bp bL bO:Nat) (a b:GC) (w:World):Calls Tryd.prog 29 #[.agg #[.int .u8 2,.slice A a.path.length ap,.string a.key,.int .i64 a.i,.int .i64 a.j,.int .i64 a.n,.int .u8 a.v.kind,.int .i64 a.v.num,.string a.v.str,.slice AL a.v.items.length aL,.slice AO a.v.vals.length aO,.string a.s],.agg #[.int .u8 2,.slice B b.path.length bp,.string b.key,.int .i64 b.i,.int .i64 b.j,.int .i64 b.n,.int .u8 b.v.kind,.int .i64 b.v.num,.string b.v.str,.slice BL b.v.items.length bL,.slice BO b.v.vals.length bO,.string b.s],.bool true] w fun e w'=>e=.returned (.bool true)∧Below w.heap.size w w':=by
 have H0:=Lib.hid (CTwo.new w #[.int .u8 2,.slice A a.path.length ap,.string a.key,.int .i64 a.i,.int .i64 a.j,.int .i64 a.n,.int .u8 a.v.kind,.int .i64 a.v.num,.string a.v.str,.slice AL a.v.items.length aL,.slice AO a.v.vals.length aO,.string a.s] #[.int .u8 2,.slice B b.path.length bp,.string b.key,.int .i64 b.i,.int .i64 b.j,.int .i64 b.n,.int .u8 b.v.kind,.int .i64 b.v.num,.string b.v.str,.slice BL b.v.items.length bL,.slice BO b.v.vals.length bO,.string b.s])
 all_goals
  go_enter Tryd.func29,Tryd.ntmps29
  go_wp2
  go_ret
  exact ⟨rfl,H0.out.below⟩
theorem same_put_put_left (a b:GC) (A AL AO B BL BO:Option Addr) (ap aL aO bp bL bO:Nat) (w:World) (ha:Cc w a A AL AO ap aL aO) (hba:CBd a) (hka:a.kind=2) (hkb:b.kind=2) (hkey:(a.key.toList == b.key.toList)=true):Calls Tryd.prog 18 #[.agg #[.int .u8 a.kind,.slice A a.path.length ap,.string a.key,.int .i64 a.i,.int .i64 a.j,.int .i64 a.n,.int .u8 a.v.kind,.int .i64 a.v.num,.string a.v.str,.slice AL a.v.items.length aL,.slice AO a.v.vals.length aO,.string a.s],.agg #[.int .u8 b.kind,.slice B b.path.length bp,.string b.key,.int .i64 b.i,.int .i64 b.j,.int .i64 b.n,.int .u8 b.v.kind,.int .i64 b.v.num,.string b.v.str,.slice BL b.v.items.length bL,.slice BO b.v.vals.length bO,.string b.s],.bool true] w ((AloneIs a w)):=by
 have HAL:=Lib.hid (fun W (h:Below w.heap.size w W)=>turn_alone a A AL AO ap aL aO W (ha.later h) hba)
 have HST:=Lib.hid (fun W (h:Below w.heap.size w W)=>stays_put_put_left A AL AO B BL BO ap aL aO bp bL bO a b W)
 unfold AloneIs at HAL
 unfold AloneIs
 rw [hka] at HAL ⊢
 rw [hkb]
 have HKA:=Lib.hid hka
 have H0:=Lib.hid (CTwo.new w #[.int .u8 2,.slice A a.path.length ap,.string a.key,.int .i64 a.i,.int .i64 a.j,.int .i64 a.n,.int .u8 a.v.kind,.int .i64 a.v.num,.string a.v.str,.slice AL a.v.items.length aL,.slice AO a.v.vals.length aO,.string a.s] #[.int .u8 2,.slice B b.path.length bp,.string b.key,.int .i64 b.i,.int .i64 b.j,.int .i64 b.n,.int .u8 b.v.kind,.int .i64 b.v.num,.string b.v.str,.slice BL b.v.items.length bL,.slice BO b.v.vals.length bO,.string b.s])
 clear ha hba hka hkb
 go_enter Tryd.func18,Tryd.ntmps18
 go_wp2_with (first
  | (go_at_call 29;refine (HST.out _ H0.out.below).mono ?_;rintro e w1 ⟨rfl,hb⟩;have H1:=Lib.hid (H0.out.step hb);obtain ⟨c0,c1,c2,c3,c4,c5,c6,c7,c8,c9,c10,c11,_⟩:=H1.out.a.tw;clear hb)
  | (go_at_call 16;refine (HAL.out _ H1.out.below).mono ?_;rintro e w2 ⟨b',A',AL',AO',cp',cL',cO',rfl,h1,h2,h3,h4⟩;have H2:=Lib.hid (And.intro h1 (And.intro h2 (And.intro h3 h4)));clear h1 h2 h3 h4))
 go_ret
 exact ⟨b',A',AL',AO',cp',cL',cO',rfl,Nat.le_trans H1.out.below.size H2.out.1,H2.out.2.1,H2.out.2.2.1,H1.out.below.trans (H2.out.2.2.2.mono H1.out.below.size)⟩
theorem stays_put_put_right (A AL AO B BL BO:Option Addr) (ap aL aO bp bL bO:Nat) (a b:GC) (w:World):Calls Tryd.prog 29 #[.agg #[.int .u8 2,.slice A a.path.length ap,.string a.key,.int .i64 a.i,.int .i64 a.j,.int .i64 a.n,.int .u8 a.v.kind,.int .i64 a.v.num,.string a.v.str,.slice AL a.v.items.length aL,.slice AO a.v.vals.length aO,.string a.s],.agg #[.int .u8 2,.slice B b.path.length bp,.string b.key,.int .i64 b.i,.int .i64 b.j,.int .i64 b.n,.int .u8 b.v.kind,.int .i64 b.v.num,.string b.v.str,.slice BL b.v.items.length bL,.slice BO b.v.vals.length bO,.string b.s],.bool false] w fun e w'=>e=.returned (.bool false)∧Below w.heap.size w w':=by
 have H0:=Lib.hid (CTwo.new w #[.int .u8 2,.slice A a.path.length ap,.string a.key,.int .i64 a.i,.int .i64 a.j,.int .i64 a.n,.int .u8 a.v.kind,.int .i64 a.v.num,.string a.v.str,.slice AL a.v.items.length aL,.slice AO a.v.vals.length aO,.string a.s] #[.int .u8 2,.slice B b.path.length bp,.string b.key,.int .i64 b.i,.int .i64 b.j,.int .i64 b.n,.int .u8 b.v.kind,.int .i64 b.v.num,.string b.v.str,.slice BL b.v.items.length bL,.slice BO b.v.vals.length bO,.string b.s])
 all_goals
  go_enter Tryd.func29,Tryd.ntmps29
  go_wp2
  go_ret
  exact ⟨rfl,H0.out.below⟩
theorem same_put_put_right (a b:GC) (A AL AO B BL BO:Option Addr) (ap aL aO bp bL bO:Nat) (w:World) (ha:Cc w a A AL AO ap aL aO) (hba:CBd a) (hka:a.kind=2) (hkb:b.kind=2) (hkey:(a.key.toList == b.key.toList)=true):Calls Tryd.prog 18 #[.agg #[.int .u8 a.kind,.slice A a.path.length ap,.string a.key,.int .i64 a.i,.int .i64 a.j,.int .i64 a.n,.int .u8 a.v.kind,.int .i64 a.v.num,.string a.v.str,.slice AL a.v.items.length aL,.slice AO a.v.vals.length aO,.string a.s],.agg #[.int .u8 b.kind,.slice B b.path.length bp,.string b.key,.int .i64 b.i,.int .i64 b.j,.int .i64 b.n,.int .u8 b.v.kind,.int .i64 b.v.num,.string b.v.str,.slice BL b.v.items.length bL,.slice BO b.v.vals.length bO,.string b.s],.bool false] w (fun e w'=>e=.returned (.slice none 0 0)∧Below w.heap.size w w'):=by
 have HAL:=Lib.hid (fun W (h:Below w.heap.size w W)=>turn_alone a A AL AO ap aL aO W (ha.later h) hba)
 have HST:=Lib.hid (fun W (h:Below w.heap.size w W)=>stays_put_put_right A AL AO B BL BO ap aL aO bp bL bO a b W)
 unfold AloneIs at HAL
 rw [hka] at HAL ⊢
 rw [hkb]
 have HKA:=Lib.hid hka
 have H0:=Lib.hid (CTwo.new w #[.int .u8 2,.slice A a.path.length ap,.string a.key,.int .i64 a.i,.int .i64 a.j,.int .i64 a.n,.int .u8 a.v.kind,.int .i64 a.v.num,.string a.v.str,.slice AL a.v.items.length aL,.slice AO a.v.vals.length aO,.string a.s] #[.int .u8 2,.slice B b.path.length bp,.string b.key,.int .i64 b.i,.int .i64 b.j,.int .i64 b.n,.int .u8 b.v.kind,.int .i64 b.v.num,.string b.v.str,.slice BL b.v.items.length bL,.slice BO b.v.vals.length bO,.string b.s])
 clear ha hba hka hkb
 go_enter Tryd.func18,Tryd.ntmps18
 go_wp2_with (first
  | (go_at_call 29;refine (HST.out _ H0.out.below).mono ?_;rintro e w1 ⟨rfl,hb⟩;have H1:=Lib.hid (H0.out.step hb);obtain ⟨c0,c1,c2,c3,c4,c5,c6,c7,c8,c9,c10,c11,_⟩:=H1.out.a.tw;clear hb)
  | (go_at_call 16;refine (HAL.out _ H1.out.below).mono ?_;rintro e w2 ⟨b',A',AL',AO',cp',cL',cO',rfl,h1,h2,h3,h4⟩;have H2:=Lib.hid (And.intro h1 (And.intro h2 (And.intro h3 h4)));clear h1 h2 h3 h4))
 go_ret
 exact ⟨rfl,H1.out.below⟩
theorem stays_put_del (A AL AO B BL BO:Option Addr) (ap aL aO bp bL bO:Nat) (a b:GC) (left:Bool) (w:World):Calls Tryd.prog 29 #[.agg #[.int .u8 2,.slice A a.path.length ap,.string a.key,.int .i64 a.i,.int .i64 a.j,.int .i64 a.n,.int .u8 a.v.kind,.int .i64 a.v.num,.string a.v.str,.slice AL a.v.items.length aL,.slice AO a.v.vals.length aO,.string a.s],.agg #[.int .u8 3,.slice B b.path.length bp,.string b.key,.int .i64 b.i,.int .i64 b.j,.int .i64 b.n,.int .u8 b.v.kind,.int .i64 b.v.num,.string b.v.str,.slice BL b.v.items.length bL,.slice BO b.v.vals.length bO,.string b.s],.bool left] w fun e w'=>e=.returned (.bool true)∧Below w.heap.size w w':=by
 have H0:=Lib.hid (CTwo.new w #[.int .u8 2,.slice A a.path.length ap,.string a.key,.int .i64 a.i,.int .i64 a.j,.int .i64 a.n,.int .u8 a.v.kind,.int .i64 a.v.num,.string a.v.str,.slice AL a.v.items.length aL,.slice AO a.v.vals.length aO,.string a.s] #[.int .u8 3,.slice B b.path.length bp,.string b.key,.int .i64 b.i,.int .i64 b.j,.int .i64 b.n,.int .u8 b.v.kind,.int .i64 b.v.num,.string b.v.str,.slice BL b.v.items.length bL,.slice BO b.v.vals.length bO,.string b.s])
 cases left
 all_goals
  go_enter Tryd.func29,Tryd.ntmps29
  go_wp2
  go_ret
  exact ⟨rfl,H0.out.below⟩
theorem same_put_del (a b:GC) (A AL AO B BL BO:Option Addr) (ap aL aO bp bL bO:Nat) (left:Bool) (w:World) (ha:Cc w a A AL AO ap aL aO) (hba:CBd a) (hka:a.kind=2) (hkb:b.kind=3) (hkey:(a.key.toList == b.key.toList)=true):Calls Tryd.prog 18 #[.agg #[.int .u8 a.kind,.slice A a.path.length ap,.string a.key,.int .i64 a.i,.int .i64 a.j,.int .i64 a.n,.int .u8 a.v.kind,.int .i64 a.v.num,.string a.v.str,.slice AL a.v.items.length aL,.slice AO a.v.vals.length aO,.string a.s],.agg #[.int .u8 b.kind,.slice B b.path.length bp,.string b.key,.int .i64 b.i,.int .i64 b.j,.int .i64 b.n,.int .u8 b.v.kind,.int .i64 b.v.num,.string b.v.str,.slice BL b.v.items.length bL,.slice BO b.v.vals.length bO,.string b.s],.bool left] w ((AloneIs a w)):=by
 have HAL:=Lib.hid (fun W (h:Below w.heap.size w W)=>turn_alone a A AL AO ap aL aO W (ha.later h) hba)
 have HST:=Lib.hid (fun W (h:Below w.heap.size w W)=>stays_put_del A AL AO B BL BO ap aL aO bp bL bO a b left W)
 unfold AloneIs at HAL
 unfold AloneIs
 rw [hka] at HAL ⊢
 rw [hkb]
 have HKA:=Lib.hid hka
 have H0:=Lib.hid (CTwo.new w #[.int .u8 2,.slice A a.path.length ap,.string a.key,.int .i64 a.i,.int .i64 a.j,.int .i64 a.n,.int .u8 a.v.kind,.int .i64 a.v.num,.string a.v.str,.slice AL a.v.items.length aL,.slice AO a.v.vals.length aO,.string a.s] #[.int .u8 3,.slice B b.path.length bp,.string b.key,.int .i64 b.i,.int .i64 b.j,.int .i64 b.n,.int .u8 b.v.kind,.int .i64 b.v.num,.string b.v.str,.slice BL b.v.items.length bL,.slice BO b.v.vals.length bO,.string b.s])
 clear ha hba hka hkb
 go_enter Tryd.func18,Tryd.ntmps18
 go_wp2_with (first
  | (go_at_call 29;refine (HST.out _ H0.out.below).mono ?_;rintro e w1 ⟨rfl,hb⟩;have H1:=Lib.hid (H0.out.step hb);obtain ⟨c0,c1,c2,c3,c4,c5,c6,c7,c8,c9,c10,c11,_⟩:=H1.out.a.tw;clear hb)
  | (go_at_call 16;refine (HAL.out _ H1.out.below).mono ?_;rintro e w2 ⟨b',A',AL',AO',cp',cL',cO',rfl,h1,h2,h3,h4⟩;have H2:=Lib.hid (And.intro h1 (And.intro h2 (And.intro h3 h4)));clear h1 h2 h3 h4))
 go_ret
 exact ⟨b',A',AL',AO',cp',cL',cO',rfl,Nat.le_trans H1.out.below.size H2.out.1,H2.out.2.1,H2.out.2.2.1,H1.out.below.trans (H2.out.2.2.2.mono H1.out.below.size)⟩
theorem stays_del_put (A AL AO B BL BO:Option Addr) (ap aL aO bp bL bO:Nat) (a b:GC) (left:Bool) (w:World):Calls Tryd.prog 29 #[.agg #[.int .u8 3,.slice A a.path.length ap,.string a.key,.int .i64 a.i,.int .i64 a.j,.int .i64 a.n,.int .u8 a.v.kind,.int .i64 a.v.num,.string a.v.str,.slice AL a.v.items.length aL,.slice AO a.v.vals.length aO,.string a.s],.agg #[.int .u8 2,.slice B b.path.length bp,.string b.key,.int .i64 b.i,.int .i64 b.j,.int .i64 b.n,.int .u8 b.v.kind,.int .i64 b.v.num,.string b.v.str,.slice BL b.v.items.length bL,.slice BO b.v.vals.length bO,.string b.s],.bool left] w fun e w'=>e=.returned (.bool false)∧Below w.heap.size w w':=by
 have H0:=Lib.hid (CTwo.new w #[.int .u8 3,.slice A a.path.length ap,.string a.key,.int .i64 a.i,.int .i64 a.j,.int .i64 a.n,.int .u8 a.v.kind,.int .i64 a.v.num,.string a.v.str,.slice AL a.v.items.length aL,.slice AO a.v.vals.length aO,.string a.s] #[.int .u8 2,.slice B b.path.length bp,.string b.key,.int .i64 b.i,.int .i64 b.j,.int .i64 b.n,.int .u8 b.v.kind,.int .i64 b.v.num,.string b.v.str,.slice BL b.v.items.length bL,.slice BO b.v.vals.length bO,.string b.s])
 cases left
 all_goals
  go_enter Tryd.func29,Tryd.ntmps29
  go_wp2
  go_ret
  exact ⟨rfl,H0.out.below⟩
theorem same_del_put (a b:GC) (A AL AO B BL BO:Option Addr) (ap aL aO bp bL bO:Nat) (left:Bool) (w:World) (ha:Cc w a A AL AO ap aL aO) (hba:CBd a) (hka:a.kind=3) (hkb:b.kind=2) (hkey:(a.key.toList == b.key.toList)=true):Calls Tryd.prog 18 #[.agg #[.int .u8 a.kind,.slice A a.path.length ap,.string a.key,.int .i64 a.i,.int .i64 a.j,.int .i64 a.n,.int .u8 a.v.kind,.int .i64 a.v.num,.string a.v.str,.slice AL a.v.items.length aL,.slice AO a.v.vals.length aO,.string a.s],.agg #[.int .u8 b.kind,.slice B b.path.length bp,.string b.key,.int .i64 b.i,.int .i64 b.j,.int .i64 b.n,.int .u8 b.v.kind,.int .i64 b.v.num,.string b.v.str,.slice BL b.v.items.length bL,.slice BO b.v.vals.length bO,.string b.s],.bool left] w (fun e w'=>e=.returned (.slice none 0 0)∧Below w.heap.size w w'):=by
 have HAL:=Lib.hid (fun W (h:Below w.heap.size w W)=>turn_alone a A AL AO ap aL aO W (ha.later h) hba)
 have HST:=Lib.hid (fun W (h:Below w.heap.size w W)=>stays_del_put A AL AO B BL BO ap aL aO bp bL bO a b left W)
 unfold AloneIs at HAL
 rw [hka] at HAL ⊢
 rw [hkb]
 have HKA:=Lib.hid hka
 have H0:=Lib.hid (CTwo.new w #[.int .u8 3,.slice A a.path.length ap,.string a.key,.int .i64 a.i,.int .i64 a.j,.int .i64 a.n,.int .u8 a.v.kind,.int .i64 a.v.num,.string a.v.str,.slice AL a.v.items.length aL,.slice AO a.v.vals.length aO,.string a.s] #[.int .u8 2,.slice B b.path.length bp,.string b.key,.int .i64 b.i,.int .i64 b.j,.int .i64 b.n,.int .u8 b.v.kind,.int .i64 b.v.num,.string b.v.str,.slice BL b.v.items.length bL,.slice BO b.v.vals.length bO,.string b.s])
 clear ha hba hka hkb
 go_enter Tryd.func18,Tryd.ntmps18
 go_wp2_with (first
  | (go_at_call 29;refine (HST.out _ H0.out.below).mono ?_;rintro e w1 ⟨rfl,hb⟩;have H1:=Lib.hid (H0.out.step hb);obtain ⟨c0,c1,c2,c3,c4,c5,c6,c7,c8,c9,c10,c11,_⟩:=H1.out.a.tw;clear hb)
  | (go_at_call 16;refine (HAL.out _ H1.out.below).mono ?_;rintro e w2 ⟨b',A',AL',AO',cp',cL',cO',rfl,h1,h2,h3,h4⟩;have H2:=Lib.hid (And.intro h1 (And.intro h2 (And.intro h3 h4)));clear h1 h2 h3 h4))
 go_ret
 exact ⟨rfl,H1.out.below⟩
end Go.Proofs.YtlhfnemcpgfcdaaDoor
