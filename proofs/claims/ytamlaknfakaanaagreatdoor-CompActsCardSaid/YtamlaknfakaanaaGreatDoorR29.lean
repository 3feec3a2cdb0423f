/- find, Check: what Check answers. -/
import Derived.Test.YtamlaknfakaanaaGreatDoorR28
import Derived.Test.YtamlaknfakaanaaGreatDoorR6
set_option maxRecDepth 100000
set_option maxHeartbeats 8000000
namespace Go.Proofs.YtamlaknfakaanaaGreatDoor
open Go Go.RowKit
set_option linter.unusedVariables false
set_option linter.unusedSimpArgs false
def ChkIs (g:GV) (c:GC) (e:Int):Prop:=(¬ c.Sound∧e=60)∨(c.Sound∧((g.get c.path=none∧e=30)∨∃ h,g.get c.path=some h∧e=chkH h c))
theorem chk_one {g:GV} {c:GC} {e e':Int} (h:ChkIs g c e) (h':ChkIs g c e'):e=e':=by
 rcases h with ⟨h1,rfl⟩ | ⟨h1,⟨h2,rfl⟩ | ⟨x,h2,rfl⟩⟩<;>rcases h' with ⟨k1,rfl⟩ | ⟨k1,⟨k2,rfl⟩ | ⟨y,k2,rfl⟩⟩<;>first | rfl | exact absurd k1 h1 | exact absurd h1 k1 | (rw [h2] at k2;cases k2) | skip
 rfl
def TextChecks (w:World) (c:GC) (A AL AO:Option Addr) (cp cL cO:Nat):Prop:=∀ (h:GV),h.kind=3→h.weight≤400000000→worksOn c.kind=3→∀ W,Below w.heap.size w W→Calls Tryz.prog 76 #[.string h.str,.agg #[.int .u8 c.kind,.slice A c.path.length cp,.string c.key,.int .i64 c.i,.int .i64 c.j,.int .i64 c.n,.int .u8 c.v.kind,.int .i64 c.v.num,.string c.v.str,.slice AL c.v.items.length cL,.slice AO c.v.vals.length cO,.string c.s]] W fun e w'=>e=.returned (.int .u16 (chkT (nChars h.str) c.kind.toNat c.i c.n))∧Below W.heap.size W w'
structure FB (w W:World) (cg cc cr:Array Value):Prop where
 g:Whole W w.heap.size 31 cg
 c:Whole W (w.heap.size+1) 35 cc
 r:Whole W (w.heap.size+1+1) 64 cr
 below:Below w.heap.size w W
theorem FB.new (w:World) (cg cc cr:Array Value):FB w (((w.alloc (.cells cg 31)).alloc (.cells cc 35)).alloc (.cells cr 64)) cg cc cr:=by
 have h1:=(Whole.new (w.alloc (.cells cg 31)) 35 cc).alloc (.cells cr 64)
 have h2:=Whole.new ((w.alloc (.cells cg 31)).alloc (.cells cc 35)) 64 cr
 rw [World.size_alloc] at h1
 rw [World.size_alloc,World.size_alloc] at h2
 exact ⟨((Whole.new w _ _).alloc _).alloc _,h1,h2,(((Below.refl _ w).alloc (Nat.le_refl _) _).alloc (by simp) _).alloc (by simp;omega) _⟩
theorem FB.step {w W W':World} {cg cc cr:Array Value} (h:FB w W cg cc cr) (hb:Below W.heap.size W W'):FB w W' cg cc cr:=
 ⟨h.g.below hb h.g.lt,h.c.below hb h.c.lt,h.r.below hb h.r.lt,h.below.trans (hb.mono h.below.size)⟩
def FindOut (g:GV) (c:GC) (w:World) (e:Ending) (w':World):Prop:=Below w.heap.size w w' ∧
 ((¬ c.Sound∧e=.returned (.tuple #[.agg #[.int .u8 0,.int .i64 0,.string ⟨#[]⟩,.slice none 0 0,.slice none 0 0],.int .u16 60]))∨(c.Sound∧g.get c.path=none∧e=.returned (.tuple #[.agg #[.int .u8 0,.int .i64 0,.string ⟨#[]⟩,.slice none 0 0,.slice none 0 0],.int .u16 30])) ∨
  (c.Sound∧∃ h HL HO dL,g.get c.path=some h∧e=.returned (.tuple #[.agg #[.int .u8 h.kind,.int .i64 h.num,.string h.str,.slice HL h.items.length dL,.slice HO h.vals.length h.vals.length],.int .u16 (chkH h c)])∧h.val (fun k=>w.heap.size≤k) w' (.agg #[.int .u8 h.kind,.int .i64 h.num,.string h.str,.slice HL h.items.length dL,.slice HO h.vals.length h.vals.length])∧FullO w.heap.size w' h (.agg #[.int .u8 h.kind,.int .i64 h.num,.string h.str,.slice HL h.items.length dL,.slice HO h.vals.length h.vals.length])))
theorem comp_find (g:GV) (GL GO:Option Addr) (eL eO:Nat) (c:GC) (A AL AO:Option Addr) (cp cL cO:Nat) (w:World) (hg:Vl w g GL GO eL eO) (hc:Cc w c A AL AO cp cL cO) (hgw:g.weight≤400000000) (hcw:c.v.weight≤1000000000) (hkey:c.key.size≤9223372036854775807) (hs:c.s.size≤9223372036854775807) (hpk:∀ s∈c.path,s.key.size≤9223372036854775807) (hT:Tabs w) (htx:TextChecks w c A AL AO cp cL cO):
  Calls Tryz.prog 21 #[.agg #[.int .u8 g.kind,.int .i64 g.num,.string g.str,.slice GL g.items.length eL,.slice GO g.vals.length eO],.agg #[.int .u8 c.kind,.slice A c.path.length cp,.string c.key,.int .i64 c.i,.int .i64 c.j,.int .i64 c.n,.int .u8 c.v.kind,.int .i64 c.v.num,.string c.v.str,.slice AL c.v.items.length cL,.slice AO c.v.vals.length cO,.string c.s]] w (FindOut g c w):=by
 have H0:=Lib.hid (FB.new w #[.int .u8 g.kind,.int .i64 g.num,.string g.str,.slice GL g.items.length eL,.slice GO g.vals.length eO] #[.int .u8 c.kind,.slice A c.path.length cp,.string c.key,.int .i64 c.i,.int .i64 c.j,.int .i64 c.n,.int .u8 c.v.kind,.int .i64 c.v.num,.string c.v.str,.slice AL c.v.items.length cL,.slice AO c.v.vals.length cO,.string c.s] #[.int .u8 0,.int .i64 0,.string ⟨#[]⟩,.slice none 0 0,.slice none 0 0])
 obtain ⟨bs,hbs⟩:=bool_some c.Sound
 have HSO:=Lib.hid (fun W (hb:Below w.heap.size w W)=>bool_det (comp_Sound c A AL AO cp cL cO W (hc.later hb) hcw hkey hs hpk (hT.below hb (Nat.le_refl _))) bs hbs)
 have HGE:=Lib.hid (fun W (hb:Below w.heap.size w W)=>path_GetF (fun _=>True) _ g W.heap.size A cp c.path W (hg.later hb).val ((hc.path.later hb).steps) (Nat.le_refl _) hc.path.le hc.path.cap (by omega))
 cases bs with
 | false=>
  have HN:=Lib.hid (show ¬ c.Sound from fun h=>by have:=hbs.2 h;cases this)
  clear hbs hg hc hgw hcw hkey hs hpk hT htx HGE
  go_enter Tryz.func21,Tryz.ntmps21
  go_wp2_with (go_at_call 18;refine (HSO.out _ (FB.new w _ _ _).below).mono ?_;rintro e w1 ⟨rfl,hb1⟩;have H1:=Lib.hid (H0.out.step hb1);obtain ⟨r0,r1,r2,r3,r4,f0,f1,f2,f3,f4⟩:=H1.out.r.five;clear hb1)
  have h5:=whole_put5 H1.out.r (.int .u8 0) (.int .i64 0) (.string ⟨#[]⟩) (.slice none 0 0) (.slice none 0 0)
  obtain ⟨d0,d1,d2,d3,d4,_⟩:=h5.five
  unfold put5 at d0 d1 d2 d3 d4
  refine bodyPost_ret (v:=.tuple #[.agg #[.int .u8 0,.int .i64 0,.string ⟨#[]⟩,.slice none 0 0,.slice none 0 0],.int .u16 60]) (by simp [results,Tryz.results21,go_sem,d0,d1,d2,d3,d4]) rfl ?_
  exact ⟨put5_below H1.out.below (by omega) _ _ _ _ _,.inl ⟨HN.out,rfl⟩⟩
 | true=>
  have hcs:=hbs.1 rfl
  have HS1:=Lib.hid hcs
  cases hgt:g.get c.path with
  | none=>
   have HGN:=Lib.hid (fun W hb=>(HGE.out W hb).mono (R':=fun e w'=>e=.returned (.tuple #[.agg #[.int .u8 0,.int .i64 0,.string ⟨#[]⟩,.slice none 0 0,.slice none 0 0],.int .u16 30])∧Below W.heap.size W w') fun e w' ⟨hb',hq⟩=>hq.elim (fun h=>⟨h.2,hb'⟩) (fun ⟨_,_,h,_⟩=>by rw [hgt] at h;cases h))
   have HG0:=Lib.hid hgt
   clear hbs hg hc hgw hcw hkey hs hpk hT htx HGE hcs hgt
   go_enter Tryz.func21,Tryz.ntmps21
   go_wp2_with (first
    | (go_at_call 18;refine (HSO.out _ (FB.new w _ _ _).below).mono ?_;rintro e w1 ⟨rfl,hb1⟩;have H1:=Lib.hid (H0.out.step hb1);obtain ⟨g0,g1,g2,g3,g4,_⟩:=H1.out.g.five;obtain ⟨c0,c1,c2,c3,c4,c5,c6,c7,c8,c9,c10,c11,_⟩:=H1.out.c.tw;clear hb1)
    | (go_at_call 42;refine (HGN.out _ H1.out.below).mono ?_;rintro e w2 ⟨rfl,hb2⟩;have H2:=Lib.hid (H1.out.step hb2);have r0:=fun o=>(H2.out.r.alloc o).five.c0;have r1:=fun o=>(H2.out.r.alloc o).five.c1;have r2:=fun o=>(H2.out.r.alloc o).five.c2;have r3:=fun o=>(H2.out.r.alloc o).five.c3;have r4:=fun o=>(H2.out.r.alloc o).five.c4;have f0:=fun o=>(H2.out.r.alloc o).five.f0;have f1:=fun o=>(H2.out.r.alloc o).five.f1;have f2:=fun o=>(H2.out.r.alloc o).five.f2;have f3:=fun o=>(H2.out.r.alloc o).five.f3;have f4:=fun o=>(H2.out.r.alloc o).five.f4;clear hb2))
   have h3:=H2.out.step (below_alloc w2 (.cells #[.int .u8 0,.int .i64 0,.string ⟨#[]⟩,.slice none 0 0,.slice none 0 0] 31))
   have h5:=whole_put5 h3.r (.int .u8 0) (.int .i64 0) (.string ⟨#[]⟩) (.slice none 0 0) (.slice none 0 0)
   obtain ⟨d0,d1,d2,d3,d4,_⟩:=h5.five
   unfold put5 at d0 d1 d2 d3 d4
   refine bodyPost_ret (v:=.tuple #[.agg #[.int .u8 0,.int .i64 0,.string ⟨#[]⟩,.slice none 0 0,.slice none 0 0],.int .u16 30]) (by simp [results,Tryz.results21,go_sem,d0,d1,d2,d3,d4]) rfl ?_
   exact ⟨put5_below h3.below (by omega) _ _ _ _ _,.inr (.inl ⟨HS1.out,HG0.out,rfl⟩)⟩
  | some h=>
   have HGS:=Lib.hid (fun W hb=>(HGE.out W hb).mono (R':=fun e w'=>∃ HL HO dL,e=.returned (.tuple #[.agg #[.int .u8 h.kind,.int .i64 h.num,.string h.str,.slice HL h.items.length dL,.slice HO h.vals.length h.vals.length],.int .u16 0])∧(h.val (fun k=>W.heap.size≤k) w' (.agg #[.int .u8 h.kind,.int .i64 h.num,.string h.str,.slice HL h.items.length dL,.slice HO h.vals.length h.vals.length])∧FullO W.heap.size w' h (.agg #[.int .u8 h.kind,.int .i64 h.num,.string h.str,.slice HL h.items.length dL,.slice HO h.vals.length h.vals.length]))∧Below W.heap.size W w') fun e w' ⟨hb',hq⟩=>hq.elim (fun h=>by rw [hgt] at h;cases h.1) (fun ⟨h',v',h1,he,hv,hf⟩=>by
    rw [hgt] at h1
    cases h1
    obtain ⟨HL,HO,dL,dO,rfl,_⟩:=vl_of hv
    have hf2:=hf
    obtain ⟨L1,A1,e1,_⟩:=hf2
    obtain ⟨rfl,rfl,rfl⟩:Value.slice HL h.items.length dL=L1∧HO=A1∧dO=h.vals.length:=by simpa using e1
    exact ⟨HL,HO,dL,he,⟨hv,hf⟩,hb'⟩))
   have hk19:1≤c.kind∧c.kind≤9:=hcs.2.2.2.2.1.1
   have HG0:=Lib.hid hgt
   have HCK:=Lib.hid (fun (b:Nat) (HL HO:Option Addr) (dL:Nat) (W:World) (hb:Below w.heap.size w W) (hbx:Whole W b 64 #[.int .u8 h.kind,.int .i64 h.num,.string h.str,.slice HL h.items.length dL,.slice HO h.vals.length h.vals.length]) (hv:Vl W h HL HO dL h.vals.length)=>place_check c A AL AO cp cL cO b h HL HO dL h.vals.length W (hc.later hb) hbx hv hk19 (fun h3 w3 W' hb'=>htx h h3 (Nat.le_trans (get_weight _ _ _ hgt) hgw) w3 W' (hb.trans (hb'.mono hb.size))))
   clear hbs hg hc hgw hcw hkey hs hpk hT htx HGE hcs hgt hk19
   go_enter Tryz.func21,Tryz.ntmps21
   go_wp2_with (first
    | (go_at_call 18;refine (HSO.out _ (FB.new w _ _ _).below).mono ?_;rintro e w1 ⟨rfl,hb1⟩;have H1:=Lib.hid (H0.out.step hb1);obtain ⟨g0,g1,g2,g3,g4,_⟩:=H1.out.g.five;obtain ⟨c0,c1,c2,c3,c4,c5,c6,c7,c8,c9,c10,c11,_⟩:=H1.out.c.tw;clear hb1)
    | (go_at_call 42;refine (HGS.out _ H1.out.below).mono ?_;rintro e w2 ⟨HL,HO,dL,rfl,hv,hb2⟩;have H2:=Lib.hid (And.intro (H1.out.step hb2) (And.intro hv hb2));clear hb2 hv))
   have hba:Below w2.heap.size w2 ((w2.alloc (.cells #[.int .u8 h.kind,.int .i64 h.num,.string h.str,.slice HL h.items.length dL,.slice HO h.vals.length h.vals.length] 31)).alloc (.cells #[.int .u8 h.kind,.int .i64 h.num,.string h.str,.slice HL h.items.length dL,.slice HO h.vals.length h.vals.length] 64)):=(below_alloc w2 _).alloc (by simp) _
   have hP:=Whole.new (w2.alloc (.cells #[.int .u8 h.kind,.int .i64 h.num,.string h.str,.slice HL h.items.length dL,.slice HO h.vals.length h.vals.length] 31)) 64 #[.int .u8 h.kind,.int .i64 h.num,.string h.str,.slice HL h.items.length dL,.slice HO h.vals.length h.vals.length]
   rw [World.size_alloc] at hP
   have hF:=H2.out.1.step hba
   obtain ⟨hv,hfu⟩:=H2.out.2.1
   have hsz:=H2.out.2.2.size
   obtain ⟨Lh,Oh,eh,hL,hO⟩:=hv
   obtain ⟨rfl,rfl⟩:Value.slice HL h.items.length dL=Lh∧Value.slice HO h.vals.length h.vals.length=Oh:=by simpa using eh
   have hkp:∀ k,w1.heap.size≤k→k<w2.heap.size→((w2.alloc (.cells #[.int .u8 h.kind,.int .i64 h.num,.string h.str,.slice HL h.items.length dL,.slice HO h.vals.length h.vals.length] 31)).alloc (.cells #[.int .u8 h.kind,.int .i64 h.num,.string h.str,.slice HL h.items.length dL,.slice HO h.vals.length h.vals.length] 64)).heap[k]? = w2.heap[k]?:=fun k _ hk=>hba.block k hk
   have hL':=hL.keep (ok':=fun k=>w1.heap.size≤k) hkp (fun k hk _=>hk)
   have hO':=hO.keep (ok':=fun k=>w1.heap.size≤k) hkp (fun k hk _=>hk)
   have hfu':=hfu.keep hO hkp (Nat.le_refl _)
   have h1s:w.heap.size+1+1<w1.heap.size:=H1.out.r.lt
   have hPl:w1.heap.size≤w2.heap.size+1:=by omega
   clear hL hO hfu hkp hba H2 eh hsz
   generalize ((w2.alloc (.cells #[.int .u8 h.kind,.int .i64 h.num,.string h.str,.slice HL h.items.length dL,.slice HO h.vals.length h.vals.length] 31)).alloc (.cells #[.int .u8 h.kind,.int .i64 h.num,.string h.str,.slice HL h.items.length dL,.slice HO h.vals.length h.vals.length] 64))=Wp at *
   generalize hbp:w2.heap.size+1=bp at *
   clear hbp
   have HF:=Lib.hid hF
   have HP:=Lib.hid hP
   have HVL:=Lib.hid (And.intro hL' (And.intro hO' hfu'))
   have HCK2:=Lib.hid (fun W (hb:Below Wp.heap.size Wp W)=>HCK.out bp HL HO dL W (HF.out.below.trans (hb.mono HF.out.below.size)) (HP.out.below hb HP.out.lt) ⟨hL'.keep (From.of_below hb) (fun _ _ _=>trivial),hO'.keep (From.of_below hb) (fun _ _ _=>trivial)⟩)
   have HSZ:=Lib.hid (And.intro h1s hPl)
   clear hF hP hL' hO' hfu' HCK h1s hPl g0 g1 g2 g3 g4 c0 c1 c2 c3 c4 c5 c6 c7 c8 c9 c10 c11 H1
   obtain ⟨c0,c1,c2,c3,c4,c5,c6,c7,c8,c9,c10,c11,_⟩:=HF.out.c.tw
   obtain ⟨p0,p1,p2,p3,p4,_⟩:=HP.out.five
   obtain ⟨r0,r1,r2,r3,r4,f0,f1,f2,f3,f4⟩:=HF.out.r.five
   go_region_with (go_at_call 43;refine (HCK2.out Wp.drew (Below.refl _ Wp).drew).mono ?_;rintro e w3 ⟨rfl,hb3⟩;have H3:=Lib.hid (show Below Wp.heap.size Wp w3 from (Below.refl _ Wp).drew.trans hb3);obtain ⟨p0,p1,p2,p3,p4,_⟩:=(HP.out.below H3.out HP.out.lt).five;obtain ⟨r0,r1,r2,r3,r4,f0,f1,f2,f3,f4⟩:=(HF.out.r.below H3.out HF.out.r.lt).five;clear hb3)
   all_goals
    go_wp2
    have h5:=whole_put5 (HF.out.r.below H3.out HF.out.r.lt) (.int .u8 h.kind) (.int .i64 h.num) (.string h.str) (.slice HL h.items.length dL) (.slice HO h.vals.length h.vals.length)
    obtain ⟨d0,d1,d2,d3,d4,_⟩:=h5.five
    unfold put5 at d0 d1 d2 d3 d4
    refine bodyPost_ret (v:=.tuple #[.agg #[.int .u8 h.kind,.int .i64 h.num,.string h.str,.slice HL h.items.length dL,.slice HO h.vals.length h.vals.length],.int .u16 (chkH h c)]) (by simp [results,Tryz.results21,go_sem,d0,d1,d2,d3,d4]) rfl ?_
    have hkk:∀ k,w1.heap.size≤k→k<Wp.heap.size→(put5 w3 (w.heap.size+1+1) (.int .u8 h.kind) (.int .i64 h.num) (.string h.str) (.slice HL h.items.length dL) (.slice HO h.vals.length h.vals.length)).heap[k]? = Wp.heap[k]?:=fun k hk hl=>by
     rw [put5_block _ _ _ _ _ _ _ _ (by have:=HSZ.out.1;omega)]
     exact H3.out.block k hl
    have hsm:w.heap.size≤w1.heap.size:=by have:=HSZ.out.1;omega
    exact ⟨put5_below (HF.out.below.trans (H3.out.mono HF.out.below.size)) (by omega) _ _ _ _ _,.inr (.inr ⟨HS1.out,h,HL,HO,dL,HG0.out,rfl,⟨_,_,rfl,HVL.out.1.keep hkk (fun k hk _=>Nat.le_trans hsm hk),HVL.out.2.1.keep hkk (fun k hk _=>Nat.le_trans hsm hk)⟩,HVL.out.2.2.keep HVL.out.2.1 hkk hsm⟩)⟩
end Go.Proofs.YtamlaknfakaanaaGreatDoor
