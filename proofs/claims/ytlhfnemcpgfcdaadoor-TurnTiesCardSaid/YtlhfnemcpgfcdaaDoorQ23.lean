/- Texts in one: TieO, RtA, RtB, RtC, RqW. -/
import Derived.Test.YtlhfnemcpgfcdaaDoorQ21
import Derived.Test.YtlhfnemcpgfcdaaDoorQ16
import Derived.Test.YtlhfnemcpgfcdaaDoorQ22
import Derived.Test.YtlhfnemcpgfcdaaDoorQ19
import Derived.Test.YtlhfnemcpgfcdaaDoorLays
import Derived.OwnWalk
import Derived.Test.YtlhfnemcpgfcdaaDoorQ17
import Derived.BigQuiet
import Derived.RegionTactic
import Derived.Deep.QuietTactic
import Derived.IntWalk
import Derived.Test.YtlhfnemcpgfcdaaDoorQ12
set_option maxRecDepth 100000
set_option maxHeartbeats 8000000
namespace Go.Proofs.YtlhfnemcpgfcdaaDoor
open Go Go.RowKit
set_option linter.unusedVariables false
set_option linter.unusedSimpArgs false
theorem tie_info:(Tryd.prog.info? 36).map (fun i=>(i.zero,i.size,i.bytes))=some (some (.agg #[.int .u8 0,.slice none 0 0,.string ⟨#[]⟩,.int .i64 0,.int .i64 0,.int .i64 0,.int .u8 0,.int .i64 0,.string ⟨#[]⟩,.slice none 0 0,.slice none 0 0,.string ⟨#[]⟩]),12,168):=by kernel_rfl
def cells12 (e:EC):List Value:=[.int .u8 e.c.kind,.slice e.A e.c.path.length e.cp,.string e.c.key,.int .i64 e.c.i,.int .i64 e.c.j,.int .i64 e.c.n,.int .u8 e.c.v.kind,.int .i64 e.c.v.num,.string e.c.v.str,.slice e.AL e.c.v.items.length e.cL,.slice e.AO e.c.v.vals.length e.cO,.string e.c.s]
theorem cells12_len (e:EC):(cells12 e).length=12:=rfl
theorem cells12_one (e:EC):∀ u∈cells12 e,u.oneCell'=true:=by
 intro u hu
 simp only [cells12,List.mem_cons,List.not_mem_nil,or_false] at hu
 rcases hu with rfl | rfl | rfl | rfl | rfl | rfl | rfl | rfl | rfl | rfl | rfl | rfl<;>rfl
theorem tie_c12 {W:World} {b o:Nat} {e:EC} (h:∀ j u,(cells12 e)[j]? = some u→W.cell? ⟨b,o+j,none⟩=some u):C12 W b o e:=
 ⟨h 0 _ rfl,h 1 _ rfl,h 2 _ rfl,h 3 _ rfl,h 4 _ rfl,h 5 _ rfl,h 6 _ rfl,h 7 _ rfl,h 8 _ rfl,h 9 _ rfl,h 10 _ rfl,h 11 _ rfl⟩
theorem ops_one {W:World} {g cap:Nat} {e:EC} (hcap:1≤cap) (hm:cap≤maxLen) (hl:g<W.heap.size) (h:∀ j u,(cells12 e)[j]? = some u→W.cell? ⟨g,0+j,none⟩=some u) (hok:e.Ok W):Ops W (some ⟨g,0,none⟩) cap [e]:=
 ⟨fun _=>⟨g,0,rfl,hl,fun i x hx=>by
  match i,hx with
  | 0,hx=>cases hx;exact ⟨tie_c12 (o:=0) h,hok⟩
  | i+1,hx=>simp at hx⟩,hcap,hm⟩
theorem ops_two {W:World} {g cap:Nat} {e f:EC} (hcap:2≤cap) (hm:cap≤maxLen) (hl:g<W.heap.size) (h:∀ j u,(cells12 e++cells12 f)[j]? = some u→W.cell? ⟨g,0+j,none⟩=some u) (hok:e.Ok W) (hok':f.Ok W):Ops W (some ⟨g,0,none⟩) cap [e,f]:=
 ⟨fun _=>⟨g,0,rfl,hl,fun i x hx=>by
  match i,hx with
  | 0,hx=>
   cases hx
   exact ⟨tie_c12 (o:=0) fun j u hj=>h j u (by rw [List.getElem?_append_left (List.getElem?_eq_some_iff.1 hj).1];exact hj),hok⟩
  | 1,hx=>
   cases hx
   exact ⟨tie_c12 (o:=12) fun j u hj=>by
    have:=h (12+j) u (by rw [List.getElem?_append_right (by rw [cells12_len];omega),cells12_len,Nat.add_sub_cancel_left];exact hj)
    rwa [Nat.zero_add] at this,hok'⟩
  | i+2,hx=>simp at hx⟩,hcap,hm⟩
theorem tie_add (b j:Nat):(⟨b,0,none⟩:Addr).add j =⟨b,j,none⟩:=by unfold Addr.add;split<;>simp_all
theorem tie_row {W:World} {b:Nat} {t:TypeId} {cs:Array Value} {l:List Value} (h:Whole W b t cs) (e:cs.toList=l):∀ ad,some (⟨b,0,none⟩:Addr)=some ad→∀ j u,l[j]? = some u→W.cell? (ad.add j)=some u:=fun ad he j u hj=>by
 cases he
 rw [tie_add,h.cell j,← Array.getElem?_toList,e]
 exact hj
theorem tie_add_cell {W:World} {b:Nat} {t:TypeId} {cs:Array Value} {l:List Value} (h:Whole W b t cs) (e:cs.toList=l) {j:Nat} {u:Value} (hj:l[j]? = some u):W.cell? ⟨b,j,none⟩=some u:=by
 rw [h.cell j,← Array.getElem?_toList,e]
 exact hj
theorem tie_grown {W W':World} (hg:W.grownBy W' none):Below W.heap.size W W':=⟨hg.os,hg.tape,hg.output,hg.size,fun k hk=>hg.block k hk (by simp)⟩
theorem tie_own {W:World} {base n:Nat} {v:Value} {xs:List Value} (h:W.ownsRow base 36 12 v (n+1) xs):∃ g cap,v=.slice (some ⟨g,0,none⟩) (n+1) cap∧base≤g∧g<W.heap.size∧n+1≤cap∧cap≤maxLen∧∀ j u,xs[j]? = some u→W.cell? ⟨g,0+j,none⟩=some u:=by
 have hlt:=h.lt
 rcases h.2 with ⟨_,h0⟩ | ⟨g,cap,cur,rfl,hbg,hg,hnc,hcm,hcs,ht⟩
 ·omega
 ·refine ⟨g,cap,rfl,hbg,(hlt g rfl).2,hnc,hcm,fun j u hj=>?_⟩
  have:=h.cells (g:=g) rfl j u hj
  rw [tie_add] at this
  rwa [Nat.zero_add]
theorem tie_wn1 (W:World) (t:TypeId) (cs:Array Value):Whole (W.alloc (.cells cs t)) W.heap.size t cs:=Whole.new W t cs
theorem tie_wn2 (W:World) (o:Obj) (t:TypeId) (cs:Array Value):Whole ((W.alloc o).alloc (.cells cs t)) (W.heap.size+1) t cs:=by
 have:=Whole.new (W.alloc o) t cs
 rwa [World.size_alloc] at this
theorem tie_s5b {n b:Nat} {w W:World} (h:Below n w W) (hb:n≤b) (a0 a1 a2 a3 a4:Value):Below n w (((((W.setCell ⟨b,0,none⟩ a0).setCell ⟨b,1,none⟩ a1).setCell ⟨b,2,none⟩ a2).setCell ⟨b,3,none⟩ a3).setCell ⟨b,4,none⟩ a4):=put5_below h hb a0 a1 a2 a3 a4
theorem tie_s5w {W:World} {b:Nat} {t:TypeId} {z0 z1 z2 z3 z4:Value} (h:Whole W b t #[z0,z1,z2,z3,z4]) (a0 a1 a2 a3 a4:Value):Whole (((((W.setCell ⟨b,0,none⟩ a0).setCell ⟨b,1,none⟩ a1).setCell ⟨b,2,none⟩ a2).setCell ⟨b,3,none⟩ a3).setCell ⟨b,4,none⟩ a4) b t #[a0,a1,a2,a3,a4]:=whole_put5 h a0 a1 a2 a3 a4
theorem tie_s5v {W:World} {n m b:Nat} {y:GV} {YL YO:Option Addr} {yl yo:Nat} (h:VlIn (fun k=>k<n∨m≤k) W y YL YO yl yo) (h1:n≤b) (h2:b<m) (a0 a1 a2 a3 a4:Value):Vl (((((W.setCell ⟨b,0,none⟩ a0).setCell ⟨b,1,none⟩ a1).setCell ⟨b,2,none⟩ a2).setCell ⟨b,3,none⟩ a3).setCell ⟨b,4,none⟩ a4) y YL YO yl yo:=
 ⟨h.1.keep (fun k hk _=>put5_block _ _ _ _ _ _ _ _ (by omega)) (fun _ _ _=>trivial),h.2.keep (fun k hk _=>put5_block _ _ _ _ _ _ _ _ (by omega)) (fun _ _ _=>trivial)⟩
theorem tie_begins:begins ([]:List GStep) []=true:=by simp [begins,Lib.allEq]
theorem tie_same {w:World} {a b:GC} {A AL AO B BL BO:Option Addr} {ap aL aO bp bL bO:Nat} (left:Bool) (ha:Cc w a A AL AO ap aL aO) (hb:Cc w b B BL BO bp bL bO) (pa:a.path=[]) (pb:b.path=[]) (R:Ending→World→Prop)
  (h:∀ W,Below w.heap.size w W→Calls Tryd.prog 18 #[.agg #[.int .u8 a.kind,.slice A a.path.length ap,.string a.key,.int .i64 a.i,.int .i64 a.j,.int .i64 a.n,.int .u8 a.v.kind,.int .i64 a.v.num,.string a.v.str,.slice AL a.v.items.length aL,.slice AO a.v.vals.length aO,.string a.s],.agg #[.int .u8 b.kind,.slice B b.path.length bp,.string b.key,.int .i64 b.i,.int .i64 b.j,.int .i64 b.n,.int .u8 b.v.kind,.int .i64 b.v.num,.string b.v.str,.slice BL b.v.items.length bL,.slice BO b.v.vals.length bO,.string b.s],.bool left] W (fun e w'=>∃ v,e=.returned v∧R e w')):
  Calls Tryd.prog 9 #[.agg #[.int .u8 a.kind,.slice A a.path.length ap,.string a.key,.int .i64 a.i,.int .i64 a.j,.int .i64 a.n,.int .u8 a.v.kind,.int .i64 a.v.num,.string a.v.str,.slice AL a.v.items.length aL,.slice AO a.v.vals.length aO,.string a.s],.agg #[.int .u8 b.kind,.slice B b.path.length bp,.string b.key,.int .i64 b.i,.int .i64 b.j,.int .i64 b.n,.int .u8 b.v.kind,.int .i64 b.v.num,.string b.v.str,.slice BL b.v.items.length bL,.slice BO b.v.vals.length bO,.string b.s],.bool left] w R:=
 (turn_same a b A AL AO B BL BO ap aL aO bp bL bO w ha hb left (fun v w'=>R (.returned v) w') (by rw [pa,pb];exact tie_begins) (by rw [pa,pb];decide) fun W hW=>(h W hW).mono fun e w' ⟨v,he,hr⟩=>⟨v,he,by show R (.returned v) w';rw [← he];exact hr⟩).mono fun e w' ⟨v,he,hr⟩=>by rw [he];exact hr
theorem alone_back {c:GC} {w W:World} (hb:Below w.heap.size w W) {e:Ending} {w':World} (h:AloneIs c W e w'):∃ v,e=.returned v∧AloneIs c w e w':=by
 obtain ⟨b,A,AL,AO,cp,cL,cO,rfl,h1,h2,h3,h4⟩:=h
 exact ⟨_,rfl,b,A,AL,AO,cp,cL,cO,rfl,Nat.le_trans hb.size h1,h2,h3,hb.trans (h4.mono hb.size)⟩
def TieOne (k:ByteArray) (x:GV) (w:World) (e:Ending) (w':World):Prop:=∃ (b:Nat) (A XL XO:Option Addr) (cp xl xo:Nat),e=.returned (.slice (some ⟨b,0,none⟩) 1 1)∧(∀ W,Below w'.heap.size w' W→∀ j u,(cells12 ⟨tieP k x,A,cp,XL,xl,XO,xo⟩)[j]? = some u→W.cell? ((⟨b,0,none⟩:Addr).add j)=some u)∧Cc w' (tieP k x) A XL XO cp xl xo∧Below w.heap.size w w'
theorem tie_one {k:ByteArray} {x:GV} {w w':World} {e:Ending} (h:AloneIs (tieP k x) w e w'):TieOne k x w e w':=by
 obtain ⟨b,A,AL,AO,cp,cL,cO,rfl,h1,h2,h3,h4⟩:=h
 exact ⟨b,A,AL,AO,cp,cL,cO,rfl,fun W hW j u hj=>tie_row (h2.below hW h2.lt) (l:=cells12 ⟨tieP k x,A,cp,AL,cL,AO,cO⟩) rfl _ rfl j u hj,h3,h4⟩
theorem tieP_bd {k:ByteArray} {x:GV} (hk:k.size≤1000000) (hx:x.weight≤1000000):CBd (tieP k x):=⟨by show x.weight≤_;omega,Nat.zero_le _,by show k.size≤_;omega,Nat.zero_le _,fun s hs=>by simp [tieP] at hs⟩
theorem tieD_bd {k:ByteArray} (hk:k.size≤1000000):CBd (tieD k):=⟨by show noG.weight≤_;decide +kernel,Nat.zero_le _,by show k.size≤_;omega,Nat.zero_le _,fun s hs=>by simp [tieD] at hs⟩
theorem tieP_cc {k:ByteArray} {x:GV} {W:World} {XL XO:Option Addr} {xl xo:Nat} (h:Vl W x XL XO xl xo):Cc W (tieP k x) none XL XO 0 xl xo:=⟨wy_nil W,h⟩
theorem tieD_cc {k:ByteArray} {W:World}:Cc W (tieD k) none none none 0 0 0:=⟨wy_nil W,vl_noG W⟩
theorem tie_turn_pp (k:ByteArray) (x:GV) (XL XO:Option Addr) (xl xo:Nat) (y:GV) (YL YO:Option Addr) (yl yo:Nat) (w:World) (hk:k.size≤1000000) (hx:Vl w x XL XO xl xo) (hy:Vl w y YL YO yl yo) (hw:x.weight≤1000000):
  Calls Tryd.prog 9 #[.agg #[.int .u8 2,.slice none 0 0,.string k,.int .i64 0,.int .i64 0,.int .i64 0,.int .u8 x.kind,.int .i64 x.num,.string x.str,.slice XL x.items.length xl,.slice XO x.vals.length xo,.string ⟨#[]⟩],.agg #[.int .u8 2,.slice none 0 0,.string k,.int .i64 0,.int .i64 0,.int .i64 0,.int .u8 y.kind,.int .i64 y.num,.string y.str,.slice YL y.items.length yl,.slice YO y.vals.length yo,.string ⟨#[]⟩],.bool true] w (TieOne k x w):=
 (tie_same true (tieP_cc (k:=k) hx) (tieP_cc (k:=k) hy) rfl rfl (AloneIs (tieP k x) w) fun W hW=>(same_put_put_left (tieP k x) (tieP k y) none XL XO none YL YO 0 xl xo 0 yl yo W ((tieP_cc hx).later hW) (tieP_bd hk hw) rfl rfl (by show (k.toList == k.toList)=true;simp)).mono fun e w' h=>alone_back hW h).mono fun e w' h=>tie_one h
theorem tie_turn_pd (k:ByteArray) (x:GV) (XL XO:Option Addr) (xl xo:Nat) (w:World) (hk:k.size≤1000000) (hx:Vl w x XL XO xl xo) (hw:x.weight≤1000000):
  Calls Tryd.prog 9 #[.agg #[.int .u8 2,.slice none 0 0,.string k,.int .i64 0,.int .i64 0,.int .i64 0,.int .u8 x.kind,.int .i64 x.num,.string x.str,.slice XL x.items.length xl,.slice XO x.vals.length xo,.string ⟨#[]⟩],.agg #[.int .u8 3,.slice none 0 0,.string k,.int .i64 0,.int .i64 0,.int .i64 0,.int .u8 0,.int .i64 0,.string ⟨#[]⟩,.slice none 0 0,.slice none 0 0,.string ⟨#[]⟩],.bool false] w (TieOne k x w):=
 (tie_same false (tieP_cc (k:=k) hx) (tieD_cc (k:=k)) rfl rfl (AloneIs (tieP k x) w) fun W hW=>(same_put_del (tieP k x) (tieD k) none XL XO none none none 0 xl xo 0 0 0 false W ((tieP_cc hx).later hW) (tieP_bd hk hw) rfl rfl (by show (k.toList == k.toList)=true;simp)).mono fun e w' h=>alone_back hW h).mono fun e w' h=>tie_one h
theorem tie_turn_dp (k:ByteArray) (x:GV) (XL XO:Option Addr) (xl xo:Nat) (w:World) (hk:k.size≤1000000) (hx:Vl w x XL XO xl xo):
  Calls Tryd.prog 9 #[.agg #[.int .u8 3,.slice none 0 0,.string k,.int .i64 0,.int .i64 0,.int .i64 0,.int .u8 0,.int .i64 0,.string ⟨#[]⟩,.slice none 0 0,.slice none 0 0,.string ⟨#[]⟩],.agg #[.int .u8 2,.slice none 0 0,.string k,.int .i64 0,.int .i64 0,.int .i64 0,.int .u8 x.kind,.int .i64 x.num,.string x.str,.slice XL x.items.length xl,.slice XO x.vals.length xo,.string ⟨#[]⟩],.bool true] w (fun e w'=>e=.returned (.slice none 0 0)∧Below w.heap.size w w'):=
 tie_same true (tieD_cc (k:=k)) (tieP_cc (k:=k) hx) rfl rfl (fun e w'=>e=.returned (.slice none 0 0)∧Below w.heap.size w w') fun W hW=>(same_del_put (tieD k) (tieP k x) none none none none XL XO 0 0 0 0 xl xo true W (tieD_cc.later hW) (tieD_bd hk) rfl rfl (by show (k.toList == k.toList)=true;simp)).mono fun e w' ⟨he,hb⟩=>⟨_,he,he,hW.trans (hb.mono hW.size)⟩
end Go.Proofs.YtlhfnemcpgfcdaaDoor
namespace Go.Proofs.YtlhfnemcpgfcdaaDoor
open Go Go.RowKit Go.Shelf
set_option linter.unusedVariables false
set_option linter.unusedSimpArgs false
theorem infoInt:(Tryd.prog.info? 3).map (fun i=>(i.zero,i.size,i.bytes))=some (some (.int .i64 0),1,8):=by kernel_rfl
theorem call_decode (s:ByteArray) (p:Nat) (w:World) (hp:p<s.size) (hT:Tabs w):Calls Tryd.prog 64 #[.string (s.extract p s.size)] w fun e w'=>∃ r:Int,e=.returned (.tuple #[.int .i32 r,.int .i64 (wdS s p)])∧Below w.heap.size w w':=
 (Tryd.utf8_DecodeRuneInString (s.extract p s.size) w hT).mono fun e w' ⟨he,hb⟩=>by
  have hz:(s.extract p s.size).size≠0:=by rw [tail_size s p (by omega)];omega
  have hd:(Lib.decodeGo (s.extract p s.size)).2=wdS s p:=by
   have:=congrFun (wd_tail s p) 0
   unfold wdS at this ⊢
   simp only [Lib.decodeGo,hz,if_false]
   simpa using this
  rw [hd] at he
  exact ⟨_,he,hb⟩
def intV (n:Nat):Value:=.int .i64 n
def CutsOut (s:ByteArray) (m:Nat) (w:World) (e:Ending) (w':World):Prop:=
 ∃ b c,e=.returned (.slice (some ⟨b,0,none⟩) (m+1) c)∧w.heap.size≤b∧b<w'.heap.size∧(∀ k,k≤m→w'.cell? ⟨b,k,none⟩=some (.int .i64 (cutS s k)))∧Below w.heap.size w w'
def CutsRel (w:World) (s:ByteArray) (m:Nat) (v i:Value) (wr:World):Prop:=∃ k:Nat,i=.int .i64 (cutS s k)∧k≤m∧wr.ownsRow w.heap.size 3 1 v k ((cutsL (wdS s) s.size k).map intV)∧Below w.heap.size w wr
theorem cuts_out {s:ByteArray} {m:Nat} {w w':World} {v:Value} (hown:w'.ownsRow w.heap.size 3 1 v (m+1) ((cutsL (wdS s) s.size m).map intV++[.int .i64 s.size])) (he:cutS s m=s.size) (hb:Below w.heap.size w w'):CutsOut s m w (.returned v) w':=by
 rcases hown.2 with ⟨e,hn⟩ | ⟨g,cap,cur,e,hg,_⟩
 ·simp at hn
 ·subst e
  have hlt:=(hown.lt g rfl)
  refine ⟨g,cap,rfl,hlt.1,hlt.2,fun k hk=>?_,hb⟩
  have:=hown.cells (g:=g) rfl k (.int .i64 (cutS s k)) (by
   rw [show (cutsL (wdS s) s.size m).map intV++[.int .i64 s.size]=(cutsL (wdS s) s.size (m+1)).map intV by rw [cuts_succ,List.map_append,show cutAt (wdS s) s.size m=s.size from he];rfl,List.getElem?_map,cuts_get _ _ _ (by omega)]
   rfl)
  by_cases e:k=0<;>simpa [Addr.add,e] using this
theorem ref_cuts (s:ByteArray) (w:World) (hs:s.size≤1000000000) (hT:Tabs w):
  Calls Tryd.prog 37 #[.string s] w (CutsOut s (nChars s) w):=by
 obtain ⟨hch,hle⟩:=nChars_chars s
 have HC:=Lib.hid hch
 have HT:=Lib.hid (fun W (hb:Below w.heap.size w W)=>hT.below hb (Nat.le_refl _))
 obtain ⟨i0,hi0,hz0,hz1,hz2⟩:=info_parts infoInt
 have HI0:=Lib.hid (And.intro hi0 (And.intro hz0 (And.intro hz1 hz2)))
 clear hi0 hz0 hz1 hz2 hch hT
 generalize hm:nChars s=m at *
 clear hm
 go_enter Tryd.func37,Tryd.ntmps37
 go_wp2
 go_loopw [3,4] (CutsRel w s m) (fun _ i _=>s.size - (intOf i).toNat)
 case atStart=>exact ⟨0,rfl,Nat.zero_le _,World.ownsRow_nil _ _ _ _,Below.refl _ _⟩
 case round=>
  obtain ⟨k,rfl,hk,hown,hB⟩:=hrel
  obtain ⟨A,cp,rfl⟩:=own_form hown
  have HO:=Lib.hid hown
  have HB:=Lib.hid hB
  have hmax:k+1≤maxLen:=by unfold maxLen;omega
  have hby:(k+1) * 8≤140737488355328:=by omega
  have HM:=Lib.hid (And.intro hmax hby)
  clear hmax hby hown hB
  by_cases hp:cutS s k<s.size
  ·have hkc:k<m:=(Chars.iff HC.out).1 hp
   have hnext:cutS s (k+1)=cutS s k+wdS s (cutS s k):=cut_next hp
   have hwd:=wide_str s (cutS s k) hp
   have HCS:=Lib.hid (show (cutsL (wdS s) s.size (k+1)).map intV=(cutsL (wdS s) s.size k).map intV++[.int .i64 (cutS s k)] by rw [cuts_succ,List.map_append];rfl)
   have HN:=Lib.hid hnext
   have HD:=Lib.hid (fun W (hb:Below w.heap.size w W)=>call_decode s (cutS s k) W hp (HT.out W hb))
   generalize cutS s k=p at *
   generalize wdS s p=d at *
   clear hnext
   go_wp2_with (first
    | (at_builtin;refine wpList_append_own_at _ rfl (.tmp 11) (.tmp 13) 76 rfl w.heap.size 3 i0 _ 1 8 Tryd.underlying76 HI0.out.1 HI0.out.2.1 HI0.out.2.2.1 HI0.out.2.2.2 rfl (by decide) (.slice A k cp) k _ rfl (HO.out.alloc _) ⟨wr.heap.size,0,none⟩ 1 1 [.int .i64 p] rfl rfl (row_cells' _ _ rfl _ _) (by simp [Value.oneCell']) HM.out.1 HM.out.2 (by have:=HB.out.size;simp;omega) ?_;intro v3 W3 hown3 hgrow3 _ hat3;obtain ⟨A3,c3,rfl⟩:=own_form hown3;have H3:=Lib.hid (And.intro hown3 ((HB.out.alloc HB.out.size _).grown hgrow3 (by have:=HB.out.size;simp;omega) (fun j hj=>(HO.out.lt j hj).1)));clear hown3 hgrow3 hat3)
    | (go_at_call 64;refine (HD.out _ H3.out.2).mono ?_;rintro e w4 ⟨r,rfl,hb⟩;have H4:=Lib.hid (And.intro (own_below H3.out.1 hb) (H3.out.2.trans (hb.mono H3.out.2.size)));clear hb))
   go_roundw
   case rel=>exact ⟨k+1,by rw [HN.out];go_num,hkc,by rw [HCS.out];exact H4.out.1,H4.out.2⟩
   case measure=>simp [intOf];omega
  ·have hkc:k=m:=by
    have h1:¬ k<m:=fun h=>hp ((Chars.iff HC.out).2 h)
    omega
   have hend:cutS s k=s.size:=by have:=cutS_le s k;omega
   subst hkc
   have HE:=Lib.hid hend
   rw [hend]
   clear hp hend
   go_wp2_with (at_builtin;refine wpList_append_own_at _ rfl (.tmp 25) (.tmp 28) 76 rfl w.heap.size 3 i0 _ 1 8 Tryd.underlying76 HI0.out.1 HI0.out.2.1 HI0.out.2.2.1 HI0.out.2.2.2 rfl (by decide) (.slice A k cp) k _ rfl (HO.out.alloc _) ⟨wr.heap.size,0,none⟩ 1 1 [.int .i64 s.size] rfl rfl (row_cells' _ _ rfl _ _) (by simp [Value.oneCell']) HM.out.1 HM.out.2 (by have:=HB.out.size;simp;omega) ?_;intro v3 W3 hown3 hgrow3 _ hat3;have H3:=Lib.hid (cuts_out hown3 HE.out ((HB.out.alloc HB.out.size _).grown hgrow3 (by have:=HB.out.size;simp;omega) (fun j hj=>(HO.out.lt j hj).1)));obtain ⟨A3,c3,rfl⟩:=own_form hown3;clear hown3 hgrow3 hat3)
   go_ret
   exact H3.out
theorem ref_Len (s:ByteArray) (w:World) (hs:s.size≤1000000000) (hT:Tabs w):
  Calls Tryd.prog 63 #[.string s] w fun e w'=>e=.returned (.int .i64 (nChars s))∧Below w.heap.size w w':=by
 have HL:=Lib.hid (ref_cuts s w hs hT)
 have hle:=(nChars_chars s).2
 generalize nChars s=m at *
 go_enter Tryd.func63,Tryd.ntmps63
 go_wp2_with (go_at_call 37;refine HL.out.mono ?_;rintro e w1 ⟨b,c,rfl,_,_,_,hb⟩;have H1:=Lib.hid hb;clear hb)
 go_ret
 exact ⟨ret_intA (by omega),H1.out⟩
end Go.Proofs.YtlhfnemcpgfcdaaDoor
namespace Go.Proofs.YtlhfnemcpgfcdaaDoor
open Go Go.RowKit Go.Shelf
set_option linter.unusedVariables false
set_option linter.unusedSimpArgs false
theorem ref_CheckT (s:ByteArray) (c:GC) (A AL AO:Option Addr) (cp cL cO:Nat) (w:World) (hs:s.size≤1000000000) (hT:Tabs w) (hk:c.kind=8∨c.kind=9):
  Calls Tryd.prog 36 #[.string s,.agg #[.int .u8 c.kind,.slice A c.path.length cp,.string c.key,.int .i64 c.i,.int .i64 c.j,.int .i64 c.n,.int .u8 c.v.kind,.int .i64 c.v.num,.string c.v.str,.slice AL c.v.items.length cL,.slice AO c.v.vals.length cO,.string c.s]] w fun e w'=>e=.returned (.int .i64 (chkT (nChars s) c.kind.toNat c.i c.n))∧Below w.heap.size w w':=by
 have HL:=Lib.hid (fun W (hb:Below w.heap.size w W)=>ref_Len s W hs (hT.below hb (Nat.le_refl _)))
 have hle:nChars s≤1000000000:=Nat.le_trans (nChars_chars s).2 hs
 have H0:=Lib.hid (Whole.new w 36 #[.int .u8 c.kind,.slice A c.path.length cp,.string c.key,.int .i64 c.i,.int .i64 c.j,.int .i64 c.n,.int .u8 c.v.kind,.int .i64 c.v.num,.string c.v.str,.slice AL c.v.items.length cL,.slice AO c.v.vals.length cO,.string c.s])
 have HB:=Lib.hid (below_alloc w (.cells #[.int .u8 c.kind,.slice A c.path.length cp,.string c.key,.int .i64 c.i,.int .i64 c.j,.int .i64 c.n,.int .u8 c.v.kind,.int .i64 c.v.num,.string c.v.str,.slice AL c.v.items.length cL,.slice AO c.v.vals.length cO,.string c.s] 36))
 clear hT
 obtain ⟨c0,c1,c2,c3,c4,c5,c6,c7,c8,c9,c10,c11,_⟩:=H0.out.tw
 rcases hk with hk | hk
 ·have hk8:(c.kind != 8)=false:=by simp;omega
  have hk9:(c.kind == 9)=false:=by simp;omega
  rw [show chkT (nChars s) c.kind.toNat c.i c.n=if c.i<0 then 32 else if (nChars s:Int)<c.i then 32 else 0 by unfold chkT;rw [show c.kind.toNat=8 by omega];simp;repeat' split;all_goals omega]
  clear hk
  generalize nChars s=m at *
  by_cases h0:c.i<0<;>by_cases h1:(m:Int)<c.i<;>first | (exfalso;omega) | (have K0:=Lib.hid h0;have K1:=Lib.hid h1;(go_enter Tryd.func36,Tryd.ntmps36;go_wp2_with (go_at_call 63;refine (HL.out _ HB.out).mono ?_;rintro e w1 ⟨rfl,hb⟩;have H1:=Lib.hid (H0.out.below hb (by simp));have HB1:=Lib.hid (HB.out.trans (hb.mono (by simp)));clear c0 c1 c2 c3 c4 c5 c6 c7 c8 c9 c10 c11;obtain ⟨c0,c1,c2,c3,c4,c5,c6,c7,c8,c9,c10,c11,_⟩:=H1.out.tw;clear hb);go_ret;exact ⟨by simp [K0.out,K1.out],HB1.out⟩))
 ·have hk8:(c.kind != 8)=true:=by simp;omega
  have hk9n:(c.kind != 9)=false:=by simp;omega
  have hk9:(c.kind == 9)=true:=by simp;omega
  rw [show chkT (nChars s) c.kind.toNat c.i c.n=if c.i<0 then 32 else if (nChars s:Int)<c.i then 32 else if c.n<1 then 32 else if (nChars s:Int) - c.i<c.n then 32 else 0 by unfold chkT;rw [show c.kind.toNat=9 by omega];simp;repeat' split;all_goals omega]
  clear hk
  generalize nChars s=m at *
  by_cases h0:c.i<0<;>by_cases h1:(m:Int)<c.i<;>by_cases h2:c.n<1<;>by_cases h3:(m:Int) - c.i<c.n<;>first | (exfalso;omega) | (have K0:=Lib.hid h0;have K1:=Lib.hid h1;have K2:=Lib.hid h2;have K3:=Lib.hid h3;(go_enter Tryd.func36,Tryd.ntmps36;go_wp2_with (go_at_call 63;refine (HL.out _ HB.out).mono ?_;rintro e w1 ⟨rfl,hb⟩;have H1:=Lib.hid (H0.out.below hb (by simp));have HB1:=Lib.hid (HB.out.trans (hb.mono (by simp)));clear c0 c1 c2 c3 c4 c5 c6 c7 c8 c9 c10 c11;obtain ⟨c0,c1,c2,c3,c4,c5,c6,c7,c8,c9,c10,c11,_⟩:=H1.out.tw;clear hb);go_ret;exact ⟨by simp [K0.out,K1.out,K2.out,K3.out],HB1.out⟩))
end Go.Proofs.YtlhfnemcpgfcdaaDoor
namespace Go.Proofs.YtlhfnemcpgfcdaaDoor
open Go Go.RowKit Go.Shelf
set_option linter.unusedVariables false
set_option linter.unusedSimpArgs false
theorem ref_Do_ins (s:ByteArray) (c:GC) (i:Nat) (A AL AO:Option Addr) (cp cL cO:Nat) (w:World) (hs:s.size≤1000000000) (hs2:c.s.size≤1000000000) (hT:Tabs w) (hk:c.kind=8) (hi:c.i=i) (hin:i≤nChars s):
  Calls Tryd.prog 22 #[.string s,.agg #[.int .u8 c.kind,.slice A c.path.length cp,.string c.key,.int .i64 c.i,.int .i64 c.j,.int .i64 c.n,.int .u8 c.v.kind,.int .i64 c.v.num,.string c.v.str,.slice AL c.v.items.length cL,.slice AO c.v.vals.length cO,.string c.s]] w fun e w'=>e=.returned (.tuple #[.string (insS s i c.s),.int .i64 0])∧Below w.heap.size w w':=by
 have h0:chkT (nChars s) c.kind.toNat c.i c.n=0:=by
  unfold chkT
  rw [show c.kind.toNat=8 by omega,hi]
  simp
  omega
 have HCK:=Lib.hid (fun W (hb:Below w.heap.size w W)=>ref_CheckT s c A AL AO cp cL cO W hs (hT.below hb (Nat.le_refl _)) (.inl hk))
 rw [h0] at HCK
 have HCU:=Lib.hid (fun W (hb:Below w.heap.size w W)=>ref_cuts s W hs (hT.below hb (Nat.le_refl _)))
 have hcl:=cutS_le s i
 have hnl:=(nChars_chars s).2
 have hk8:(c.kind == 8)=true:=by simp;omega
 have H0:=Lib.hid (Whole.new w 36 #[.int .u8 c.kind,.slice A c.path.length cp,.string c.key,.int .i64 c.i,.int .i64 c.j,.int .i64 c.n,.int .u8 c.v.kind,.int .i64 c.v.num,.string c.v.str,.slice AL c.v.items.length cL,.slice AO c.v.vals.length cO,.string c.s])
 have HB:=Lib.hid (below_alloc w (.cells #[.int .u8 c.kind,.slice A c.path.length cp,.string c.key,.int .i64 c.i,.int .i64 c.j,.int .i64 c.n,.int .u8 c.v.kind,.int .i64 c.v.num,.string c.v.str,.slice AL c.v.items.length cL,.slice AO c.v.vals.length cO,.string c.s] 36))
 rw [hi] at HCK H0 HB ⊢
 show Calls _ _ _ w fun e w'=>e=.returned (.tuple #[.string (s.extract 0 (cutS s i)++c.s++s.extract (cutS s i) s.size),.int .i64 0])∧Below w.heap.size w w'
 have hsz1:(s.extract 0 (cutS s i)).size=cutS s i:=by simp [ByteArray.size_extract];omega
 have hsz2:(s.extract 0 (cutS s i)++c.s).size=cutS s i+c.s.size:=by rw [ByteArray.size_append,hsz1]
 have hsz3:(s.extract (cutS s i) s.size).size=s.size - cutS s i:=tail_size s _ hcl
 have hp1:¬ 9223372036854775807<(s.extract 0 (cutS s i)).size+c.s.size:=by omega
 have hp2:¬ 9223372036854775807<(s.extract 0 (cutS s i)++c.s).size+(s.extract (cutS s i) s.size).size:=by omega
 have HI:=Lib.hid hin
 clear hk hi h0 hT
 generalize nChars s=m at *
 generalize hf:cutS s i=f at *
 have HF:=Lib.hid hf
 have hf0:(0:Int)≤(f:Int):=by omega
 have hf1:(f:Int)≤(s.size:Int):=by omega
 have hi0:(0:Int)≤(i:Int):=by omega
 have hi1:(i:Int)<((m+1:Nat):Int):=by omega
 clear hf hsz1 hsz2 hsz3 hin
 go_enter Tryd.func22,Tryd.ntmps22
 go_wp2_with (first
  | (go_at_call 36;refine (HCK.out _ HB.out).mono ?_;rintro e w1 ⟨rfl,hb⟩;have H1:=Lib.hid (And.intro (H0.out.below hb (by simp)) (HB.out.trans (hb.mono (by simp))));clear hb;obtain ⟨c0,c1,c2,c3,c4,c5,c6,c7,c8,c9,c10,c11,_⟩:=H1.out.1.tw)
  | (go_at_call 37;refine (HCU.out _ H1.out.2).mono ?_;rintro e w2 ⟨b,cap,rfl,_,_,hcut,hb⟩;have H2:=Lib.hid (And.intro (H1.out.1.below hb H1.out.1.lt) (H1.out.2.trans (hb.mono H1.out.2.size)));have q0:=(hcut i HI.out);rw [HF.out] at q0;clear hcut hb c0 c1 c2 c3 c4 c5 c6 c7 c8 c9 c10 c11;obtain ⟨c0,c1,c2,c3,c4,c5,c6,c7,c8,c9,c10,c11,_⟩:=H2.out.1.tw))
 go_region
 go_wp2
 go_ret2
 exact ⟨rfl,H2.out.2.drew⟩
theorem ref_Do_del (s:ByteArray) (c:GC) (i n:Nat) (A AL AO:Option Addr) (cp cL cO:Nat) (w:World) (hs:s.size≤1000000000) (hT:Tabs w) (hk:c.kind=9) (hi:c.i=i) (hn:c.n=n) (h1:1≤n) (hin:i+n≤nChars s):
  Calls Tryd.prog 22 #[.string s,.agg #[.int .u8 c.kind,.slice A c.path.length cp,.string c.key,.int .i64 c.i,.int .i64 c.j,.int .i64 c.n,.int .u8 c.v.kind,.int .i64 c.v.num,.string c.v.str,.slice AL c.v.items.length cL,.slice AO c.v.vals.length cO,.string c.s]] w fun e w'=>e=.returned (.tuple #[.string (delS s i n),.int .i64 0])∧Below w.heap.size w w':=by
 have h0:chkT (nChars s) c.kind.toNat c.i c.n=0:=by
  unfold chkT
  rw [show c.kind.toNat=9 by omega,hi,hn]
  simp
  omega
 have HCK:=Lib.hid (fun W (hb:Below w.heap.size w W)=>ref_CheckT s c A AL AO cp cL cO W hs (hT.below hb (Nat.le_refl _)) (.inr hk))
 rw [h0] at HCK
 have HCU:=Lib.hid (fun W (hb:Below w.heap.size w W)=>ref_cuts s W hs (hT.below hb (Nat.le_refl _)))
 have hcl:=cutS_le s i
 have hcl2:=cutS_le s (i+n)
 have hnl:=(nChars_chars s).2
 have hk8:(c.kind == 8)=false:=by simp;omega
 have H0:=Lib.hid (Whole.new w 36 #[.int .u8 c.kind,.slice A c.path.length cp,.string c.key,.int .i64 c.i,.int .i64 c.j,.int .i64 c.n,.int .u8 c.v.kind,.int .i64 c.v.num,.string c.v.str,.slice AL c.v.items.length cL,.slice AO c.v.vals.length cO,.string c.s])
 have HB:=Lib.hid (below_alloc w (.cells #[.int .u8 c.kind,.slice A c.path.length cp,.string c.key,.int .i64 c.i,.int .i64 c.j,.int .i64 c.n,.int .u8 c.v.kind,.int .i64 c.v.num,.string c.v.str,.slice AL c.v.items.length cL,.slice AO c.v.vals.length cO,.string c.s] 36))
 rw [hi,hn] at HCK H0 HB ⊢
 show Calls _ _ _ w fun e w'=>e=.returned (.tuple #[.string (s.extract 0 (cutS s i)++s.extract (cutS s (i+n)) s.size),.int .i64 0])∧Below w.heap.size w w'
 have hsz1:(s.extract 0 (cutS s i)).size=cutS s i:=by simp [ByteArray.size_extract];omega
 have hsz3:(s.extract (cutS s (i+n)) s.size).size=s.size - cutS s (i+n):=tail_size s _ hcl2
 have hp1:¬ 9223372036854775807<(s.extract 0 (cutS s i)).size+(s.extract (cutS s (i+n)) s.size).size:=by omega
 have HI:=Lib.hid hin
 clear hk hi hn h0 hT
 generalize nChars s=m at *
 generalize hf:cutS s i=f at *
 generalize hf':cutS s (i+n)=f' at *
 have HF:=Lib.hid (And.intro hf hf')
 have hf0:(0:Int)≤(f:Int):=by omega
 have hf1:(f:Int)≤(s.size:Int):=by omega
 have hf2:(0:Int)≤(f':Int):=by omega
 have hf3:(f':Int)≤(s.size:Int):=by omega
 have hi0:(0:Int)≤(i:Int):=by omega
 have hi1:(i:Int)<((m+1:Nat):Int):=by omega
 have hi2:(0:Int)≤(i:Int)+(n:Int):=by omega
 have hi3:(i:Int)+(n:Int)<((m+1:Nat):Int):=by omega
 have hwr:IntKind.i64.wrap ((i:Int)+(n:Int))=(i:Int)+(n:Int):=IntWalk.i64_in _ (by omega)
 have htn:((i:Int)+(n:Int)).toNat=i+n:=by omega
 clear hf hf' hsz1 hsz3 hin
 go_enter Tryd.func22,Tryd.ntmps22
 go_wp2_with (first
  | (go_at_call 36;refine (HCK.out _ HB.out).mono ?_;rintro e w1 ⟨rfl,hb⟩;have H1:=Lib.hid (And.intro (H0.out.below hb (by simp)) (HB.out.trans (hb.mono (by simp))));clear hb;obtain ⟨c0,c1,c2,c3,c4,c5,c6,c7,c8,c9,c10,c11,_⟩:=H1.out.1.tw)
  | (go_at_call 37;refine (HCU.out _ H1.out.2).mono ?_;rintro e w2 ⟨b,cap,rfl,_,_,hcut,hb⟩;have H2:=Lib.hid (And.intro (H1.out.1.below hb H1.out.1.lt) (H1.out.2.trans (hb.mono H1.out.2.size)));have q0:=(hcut i (by have:=HI.out;omega));have q1:=(hcut (i+n) HI.out);rw [HF.out.1] at q0;rw [HF.out.2] at q1;clear hcut hb c0 c1 c2 c3 c4 c5 c6 c7 c8 c9 c10 c11;obtain ⟨c0,c1,c2,c3,c4,c5,c6,c7,c8,c9,c10,c11,_⟩:=H2.out.1.tw))
 go_region
 go_wp2
 go_ret2
 exact ⟨rfl,H2.out.2.drew⟩
end Go.Proofs.YtlhfnemcpgfcdaaDoor
namespace Go.Proofs.YtlhfnemcpgfcdaaDoor
open Go Go.RowKit
set_option linter.unusedVariables false
set_option linter.unusedSimpArgs false
def fromAt (A:Option Addr) (c i:Nat):Option Addr:=if c=i then A else A.map fun p=>⟨p.block,p.off+i * 5,none⟩
theorem run_from (A:Option Addr) (n c i:Nat) (hA:∀ p,A=some p→p.spot=none) (hi:i≤n) (hn:n≤c) (hc:c≤maxLen) (W:World):(Instr.slice 28 (.slice A n c) (some (.int .i64 i)) none none).run Tryd.prog W=.ok (.slice (fromAt A c i) (n - i) (c - i)) W:=by
 unfold maxLen at hc
 rw [run_slice_l (ht:=Tryd.underlying28) (h0:=by omega) (h1:=by omega)]
 by_cases e:c=i
 ·subst e;simp [go_sem,fromAt]
 ·cases A with
  | none=>simp [go_sem,fromAt]
  | some p=>
   obtain ⟨pb,po,ps⟩:=p
   have:=hA _ rfl
   simp only at this
   subst this
   have hz:(c:Int)≠i:=by omega
   simp [go_sem,fromAt,e,Addr.add]
   try omega
theorem run_upto (A:Option Addr) (n c i:Nat) (hi:i≤n) (hn:n≤c) (hc:c≤maxLen) (W:World):(Instr.slice 28 (.slice A n c) none (some (.int .i64 i)) none).run Tryd.prog W=.ok (.slice A i c) W:=by
 unfold maxLen at hc
 rw [run_slice_h (ht:=Tryd.underlying28) (h0:=by omega) (h2:=by omega)]
 cases A<;>simp [go_sem,Addr.add]
theorem lc_from {ok:Nat→Prop} {W:World} {A:Option Addr} {c:Nat} {l:List GV} (h:LstV ok W (.slice A l.length c) l) (i:Nat) (hi:i≤l.length):∃ xs,Lc ok W (fromAt A c i) (l.drop i) xs:=by
 rcases h with ⟨rfl,e⟩ | ⟨b',o',c',e,h1,h2,hK,hE⟩
 ·cases e
  simp at hi
  subst hi
  exact ⟨[],by simp [RowL],rfl,(fun ad h=>by simp [fromAt] at h),(fun u h=>by cases h)⟩
 ·simp only [Value.slice.injEq] at e
  obtain ⟨rfl,_,rfl⟩:=e
  by_cases hba:c=i
  ·have hd:l.drop i=[]:=List.drop_eq_nil_of_le (by omega)
   rw [hd]
   exact ⟨[],rfl,rfl,(fun ad h=>by simp [fromAt,hba] at h;subst h;exact ⟨hK.lt,fun j u hj=>by simp at hj⟩),(fun u h=>by cases h)⟩
  ·have hE':GV.els ok W b' 5 (o'+i * 5) (l.drop i):=GV.els_of fun j g hj=>by
    rw [List.getElem?_drop] at hj
    have:=GV.els_get hE hj
    rwa [show o'+i * 5+j * 5=o'+(i+j) * 5 by omega]
   obtain ⟨xs,hr,hl,hc,h1⟩:=els_row hE'
   refine ⟨xs,hr,hl,fun ad h=>?_,h1⟩
   simp [fromAt,hba] at h
   subst h
   refine ⟨hK.lt,fun j u hj=>?_⟩
   have e2:(⟨b',o'+i * 5,none⟩:Addr).add j =⟨b',o'+i * 5+j,none⟩:=by unfold Addr.add;split<;>simp_all
   rw [e2]
   exact hc j u hj
theorem lc_upto {ok:Nat→Prop} {W:World} {A:Option Addr} {c:Nat} {l:List GV} (h:LstV ok W (.slice A l.length c) l) (i:Nat) (hi:i≤l.length):∃ xs,Lc ok W A (l.take i) xs:=by
 rcases h with ⟨rfl,e⟩ | ⟨b',o',c',e,h1,h2,hK,hE⟩
 ·cases e
  exact ⟨[],by simp [RowL],by simp,(fun ad h=>by cases h),(fun u h=>by cases h)⟩
 ·simp only [Value.slice.injEq] at e
  obtain ⟨rfl,_,rfl⟩:=e
  have hE':GV.els ok W b' 5 o' (l.take i):=GV.els_of fun j g hj=>by
   rw [List.getElem?_take] at hj
   split at hj
   ·exact GV.els_get hE hj
   ·cases hj
  obtain ⟨xs,hr,hl,hc,h1⟩:=els_row hE'
  refine ⟨xs,hr,hl,fun ad h=>?_,h1⟩
  cases h
  refine ⟨hK.lt,fun j u hj=>?_⟩
  have e2:(⟨b',o',none⟩:Addr).add j =⟨b',o'+j,none⟩:=by unfold Addr.add;split<;>simp_all
  rw [e2]
  exact hc j u hj
theorem from_none {A:Option Addr} {c i:Nat} (h:fromAt A c i=none):A=none:=by unfold fromAt at h;split at h<;>simpa using h
end Go.Proofs.YtlhfnemcpgfcdaaDoor
