/- The document's own with, without: where the parts of what comes out lie. -/
import Derived.Test.YtlhfnemcpgfcdaaDoorQ23
set_option maxRecDepth 100000
set_option maxHeartbeats 8000000
namespace Go.Proofs.YtlhfnemcpgfcdaaDoor
open Go Go.RowKit
set_option linter.unusedVariables false
set_option linter.unusedSimpArgs false
structure Sq (Q:Nat→Prop) (w W:World) (v:Value) (n:Nat) (l:List GV) (xs:List Value):Prop where
 below:Below w.heap.size w W
 own:W.ownsRow w.heap.size 31 5 v n xs
 row:RowL (fun k=>k<w.heap.size∧Q k) W l xs
theorem Sq.step {Q:Nat→Prop} {w W W':World} {v:Value} {n:Nat} {l:List GV} {xs:List Value} (h:Sq Q w W v n l xs) (hb:Below W.heap.size W W'):Sq Q w W' v n l xs:=
 ⟨h.below.trans (hb.mono h.below.size),own_below h.own hb,h.row.keep (.of_below hb) (fun _ h _=>h)⟩
theorem Sq.app {Q:Nat→Prop} {w W W':World} {v v':Value} {n m:Nat} {l l':List GV} {xs news:List Value} (h:Sq Q w W v n l xs) (hr:RowL (fun k=>k<w.heap.size∧Q k) W l' news)
  (hown:W'.ownsRow w.heap.size 31 5 v' (n+m) (xs++news)) (hg:W.grownBy W' v.ownBlock):Sq Q w W' v' (n+m) (l++l') (xs++news):=by
 have hF:From (fun k=>k<w.heap.size∧Q k) W W':=fun k hk hlt=>hg.block k hlt (fun e=>by have:=(h.own.lt k e.symm).1;omega)
 exact ⟨h.below.grown hg h.below.size (fun k hk=>(h.own.lt k hk).1),hown,(h.row.app hr).keep hF (fun _ h _=>h)⟩
theorem Sq.done {Q:Nat→Prop} {w W:World} {v:Value} {l:List GV} {xs:List Value} (hQ:∀ k,w.heap.size≤k→Q k) (h:Sq Q w W v l.length l xs):LstV Q W v l:=
 LstV.of_own h.own (h.row.keep (From.refl _ _) fun _ h _=>h.2) fun k hk=>hQ k (h.own.lt k hk).1
theorem ownq_nil (Q:Nat→Prop) (w:World):Sq Q w w (.slice none 0 0) 0 [] []:=⟨Below.refl _ _,World.ownsRow_nil _ _ _ _,by simp [RowL]⟩
theorem Sq.first0 {Q:Nat→Prop} {w W':World} {v':Value} {m:Nat} {l':List GV} {news:List Value} (hr:RowL (fun k=>k<w.heap.size∧Q k) w l' news) (hown:W'.ownsRow w.heap.size 31 5 v' (0+m) ([]++news)) (hg:w.grownBy W' (Value.ownBlock (.slice none 0 0))):Sq Q w W' v' m l' news:=by
 have:=(ownq_nil Q w).app hr hown hg
 simpa using this
def ListOutQ (Q:Nat→Prop) (l:List GV) (w:World) (e:Ending) (w':World):Prop:=∃ A c,e=.returned (.slice A l.length c)∧LstV Q w' (.slice A l.length c) l∧Below w.heap.size w w'
theorem listOutQ_of {Q:Nat→Prop} {l:List GV} {w wb w':World} {v:Value} {n:Nat} {xs:List Value} (hw:Below w.heap.size w wb) (hQ:∀ k,w.heap.size≤k→Q k) (h:Sq Q wb w' v n l xs) (hn:n=l.length):ListOutQ Q l w (.returned v) w':=by
 subst hn
 have hd:=h.done (fun k hk=>hQ k (Nat.le_trans hw.size hk))
 obtain ⟨A,c,rfl⟩:=lst_form hd
 exact ⟨A,c,rfl,hd,hw.trans (h.below.mono hw.size)⟩
theorem lst_lowQ {Q:Nat→Prop} {W:World} {L:Value} {l:List GV} (h:LstV Q W L l):LstV (fun k=>k<W.heap.size∧Q k) W L l:=h.keep (From.refl _ _) (fun _ h hl=>⟨hl,h⟩)
theorem ref_withoutQ (A:Option Addr) (c i:Nat) (l:List GV) (w:World) (Q:Nat→Prop) (hQ:∀ k,w.heap.size≤k→Q k) (hL:LstV Q w (.slice A l.length c) l) (hi:i<l.length) (hn:l.length≤1000000):
  Calls Tryd.prog 40 #[.slice A l.length c,.int .i64 i] w (ListOutQ Q (remL l i) w):=by
 obtain ⟨hA0,hA1⟩:=lst_addr hL
 obtain ⟨_,_,he,hc1,hc2,_⟩:=hL.form
 simp only [Value.slice.injEq] at he
 obtain ⟨rfl,_,rfl⟩:=he
 obtain ⟨xs1,h1⟩:=lc_upto (lst_lowQ hL) i (by omega)
 obtain ⟨xs3,h3⟩:=lc_from (lst_lowQ hL) (i+1) (by omega)
 have hr1:=run_upto A l.length c i (by omega) hc1 hc2
 have hr3:∀ W,(Instr.slice 28 (.slice A l.length c) (some (.int .i64 ((i:Int)+1))) none none).run Tryd.prog W=.ok (.slice (fromAt A c (i+1)) (l.length - (i+1)) (c - (i+1))) W:=run_from A l.length c (i+1) hA1 (by omega) hc1 hc2
 have hz1:A=none→i=0:=fun e=>by have:=(hA0 e).1;omega
 have hz3:fromAt A c (i+1)=none→l.length - (i+1)=0:=fun e=>by have:=(hA0 (from_none e)).1;omega
 have hl1:xs1.length=i * 5:=by rw [h1.len];simp;omega
 have hl3:xs3.length=(l.length - (i+1)) * 5:=by rw [h3.len];simp
 have hfin:∀ W v,Sq Q w W v (i+(l.length - (i+1))) (l.take i++l.drop (i+1)) (xs1++xs3)→ListOutQ Q (remL l i) w (.returned v) W:=fun W v h=>by
  exact listOutQ_of (Below.refl _ _) hQ h (by rw [rem_len l i hi];omega)
 obtain ⟨i1,hi1,hy0,hy1,hy2⟩:=info_parts infoVal
 have HI1:=Lib.hid (And.intro hi1 (And.intro hy0 (And.intro hy1 hy2)))
 have H1:=Lib.hid h1
 have H3:=Lib.hid h3
 have HZ:=Lib.hid (And.intro hz1 (And.intro hz3 (And.intro hl1 hl3)))
 have HFIN:=Lib.hid hfin
 have B1:=Lib.hid (show (0+i≤maxLen∧(0+i) * 80≤140737488355328)∧(i+(l.length - (i+1))≤maxLen∧(i+(l.length - (i+1))) * 80≤140737488355328) by unfold maxLen;omega)
 unfold maxLen at hc2
 clear hi1 hy0 hy1 hy2 h1 h3 hz1 hz3 hl1 hl3 hfin hA0 hA1 hL hQ
 generalize fromAt A c (i+1)=D3 at *
 generalize remL l i=lz at *
 generalize l.take i=l1 at *
 generalize l.drop (i+1)=l3 at *
 generalize l.length=n at *
 go_enter Tryd.func40,Tryd.ntmps40
 go_wp2_with (first
  | (at_builtin;refine wpList_append_from _ rfl (.tmp 6) (.tmp 9) 28 rfl w.heap.size 31 i1 _ 5 80 Tryd.underlying28 HI1.out.1 HI1.out.2.1 HI1.out.2.2.1 HI1.out.2.2.2 rfl (by decide) (.slice none 0 0) 0 [] rfl (ownq_nil Q w).own A i c xs1 rfl HZ.out.1 HZ.out.2.2.1 (fun ad e=>(H1.out.cells ad e).2) H1.out.one B1.out.1.1 B1.out.1.2 (Nat.le_refl _) ?_;intro v3 W3 hown3 hgrow3 hat3;have H4:=Lib.hid (Sq.first0 H1.out.row hown3 hgrow3);obtain ⟨A3,c3,rfl⟩:=own_form H4.out.own;clear hown3 hgrow3 hat3)
  | (at_builtin;refine wpList_append_from _ rfl (.tmp 11) (.tmp 15) 28 rfl w.heap.size 31 i1 _ 5 80 Tryd.underlying28 HI1.out.1 HI1.out.2.1 HI1.out.2.2.1 HI1.out.2.2.2 rfl (by decide) (.slice A3 i c3) i _ rfl H4.out.own D3 (n - (i+1)) (c - (i+1)) xs3 rfl HZ.out.2.1 HZ.out.2.2.2 (fun ad e=>((H3.out.later H4.out.below).cells ad e).2) H3.out.one B1.out.2.1 B1.out.2.2 H4.out.below.size ?_;intro v5 W5 hown5 hgrow5 hat5;have H5:=Lib.hid (HFIN.out _ _ (H4.out.app (H3.out.later H4.out.below).row hown5 hgrow5));obtain ⟨A5,c5,rfl⟩:=own_form hown5;clear hown5 hgrow5 hat5))
 go_ret
 exact H5.out
theorem ref_withQ (A:Option Addr) (c i:Nat) (l:List GV) (g:GV) (AL AO:Option Addr) (cL cO:Nat) (w:World) (Q:Nat→Prop) (hQ:∀ k,w.heap.size≤k→Q k) (hL:LstV Q w (.slice A l.length c) l) (hv:LstV Q w (.slice AL g.items.length cL) g.items∧ObjV Q w (.slice AO g.vals.length cO) g.keys g.vals) (hi:i≤l.length) (hn:l.length≤1000000):
  Calls Tryd.prog 39 #[.slice A l.length c,.int .i64 i,.agg #[.int .u8 g.kind,.int .i64 g.num,.string g.str,.slice AL g.items.length cL,.slice AO g.vals.length cO]] w (ListOutQ Q (insL l i g) w):=by
 obtain ⟨hA0,hA1⟩:=lst_addr hL
 obtain ⟨_,_,he,hc1,hc2,_⟩:=hL.form
 simp only [Value.slice.injEq] at he
 obtain ⟨rfl,_,rfl⟩:=he
 have hwb:=below_alloc w (.cells #[.int .u8 g.kind,.int .i64 g.num,.string g.str,.slice AL g.items.length cL,.slice AO g.vals.length cO] 31)
 have hLb:=LstV.keep (From.of_below hwb) (fun _ h _=>h) hL
 obtain ⟨xs1,h1⟩:=lc_upto (lst_lowQ hLb) i (by omega)
 obtain ⟨xs3,h3⟩:=lc_from (lst_lowQ hLb) i (by omega)
 have hr1:=run_upto A l.length c i (by omega) hc1 hc2
 have hr3:=run_from A l.length c i hA1 (by omega) hc1 hc2
 have hz1:A=none→i=0:=fun e=>by have:=(hA0 e).1;omega
 have hz3:fromAt A c i=none→l.length - i=0:=fun e=>by have:=(hA0 (from_none e)).1;omega
 have hl1:xs1.length=i * 5:=by rw [h1.len];simp;omega
 have hl3:xs3.length=(l.length - i) * 5:=by rw [h3.len];simp
 have hfin:∀ W v,Sq Q (w.alloc (.cells #[.int .u8 g.kind,.int .i64 g.num,.string g.str,.slice AL g.items.length cL,.slice AO g.vals.length cO] 31)) W v (i+1+(l.length - i)) ((l.take i++[g])++l.drop i) ((xs1++(chunk g (.slice AL g.items.length cL) (.slice AO g.vals.length cO)))++xs3)→ListOutQ Q (insL l i g) w (.returned v) W:=fun W v h=>by
  rw [show (l.take i++[g])++l.drop i=insL l i g by simp [insL]] at h
  exact listOutQ_of hwb hQ h (by rw [ins_len l i g hi];omega)
 have hvb:LstV (fun k=>k<(w.alloc (.cells #[.int .u8 g.kind,.int .i64 g.num,.string g.str,.slice AL g.items.length cL,.slice AO g.vals.length cO] 31)).heap.size∧Q k) (w.alloc (.cells #[.int .u8 g.kind,.int .i64 g.num,.string g.str,.slice AL g.items.length cL,.slice AO g.vals.length cO] 31)) (.slice AL g.items.length cL) g.items∧ObjV (fun k=>k<(w.alloc (.cells #[.int .u8 g.kind,.int .i64 g.num,.string g.str,.slice AL g.items.length cL,.slice AO g.vals.length cO] 31)).heap.size∧Q k) (w.alloc (.cells #[.int .u8 g.kind,.int .i64 g.num,.string g.str,.slice AL g.items.length cL,.slice AO g.vals.length cO] 31)) (.slice AO g.vals.length cO) g.keys g.vals:=⟨hv.1.keep (From.of_below hwb) (fun k h hlt=>⟨Nat.lt_of_lt_of_le hlt hwb.size,h⟩),hv.2.keep (From.of_below hwb) (fun k h hlt=>⟨Nat.lt_of_lt_of_le hlt hwb.size,h⟩)⟩
 have BX:=Lib.hid (fun (W:World) (hb:Below (w.alloc (.cells #[.int .u8 g.kind,.int .i64 g.num,.string g.str,.slice AL g.items.length cL,.slice AO g.vals.length cO] 31)).heap.size (w.alloc (.cells #[.int .u8 g.kind,.int .i64 g.num,.string g.str,.slice AL g.items.length cL,.slice AO g.vals.length cO] 31)) W)=>(fun q:Five W w.heap.size _ _ _ _ _=>And.intro q.c0 (And.intro q.c1 (And.intro q.c2 (And.intro q.c3 q.c4)))) ((Whole.new w 31 #[.int .u8 g.kind,.int .i64 g.num,.string g.str,.slice AL g.items.length cL,.slice AO g.vals.length cO]).below hb (Whole.new w _ _).lt).five)
 obtain ⟨i1,hi1,hy0,hy1,hy2⟩:=info_parts infoVal
 have HI1:=Lib.hid (And.intro hi1 (And.intro hy0 (And.intro hy1 hy2)))
 have H1:=Lib.hid h1
 have H3:=Lib.hid h3
 have HV:=Lib.hid hvb
 have HZ:=Lib.hid (And.intro hz1 (And.intro hz3 (And.intro hl1 hl3)))
 have HFIN:=Lib.hid hfin
 have B1:=Lib.hid (show (0+i≤maxLen∧(0+i) * 80≤140737488355328)∧(i+1≤maxLen∧(i+1) * 80≤140737488355328)∧(i+1+(l.length - i)≤maxLen∧(i+1+(l.length - i)) * 80≤140737488355328) by unfold maxLen;omega)
 unfold maxLen at hc2
 clear hi1 hy0 hy1 hy2 h1 h3 hz1 hz3 hl1 hl3 hfin hA0 hA1 hL hLb hv hvb hwb hQ
 generalize fromAt A c i=D3 at *
 generalize insL l i g=lz at *
 generalize l.take i=l1 at *
 generalize l.drop i=l3 at *
 generalize l.length=n at *
 go_enter Tryd.func39,Tryd.ntmps39
 go_wp2_with (first
  | (at_builtin;refine wpList_append_from _ rfl (.tmp 8) (.tmp 11) 28 rfl (w.alloc (.cells #[.int .u8 g.kind,.int .i64 g.num,.string g.str,.slice AL g.items.length cL,.slice AO g.vals.length cO] 31)).heap.size 31 i1 _ 5 80 Tryd.underlying28 HI1.out.1 HI1.out.2.1 HI1.out.2.2.1 HI1.out.2.2.2 rfl (by decide) (.slice none 0 0) 0 [] rfl (ownq_nil Q (w.alloc (.cells #[.int .u8 g.kind,.int .i64 g.num,.string g.str,.slice AL g.items.length cL,.slice AO g.vals.length cO] 31))).own A i c xs1 rfl HZ.out.1 HZ.out.2.2.1 (fun ad e=>(H1.out.cells ad e).2) H1.out.one B1.out.1.1 B1.out.1.2 (Nat.le_refl _) ?_;intro v3 W3 hown3 hgrow3 hat3;have H4:=Lib.hid (Sq.first0 H1.out.row hown3 hgrow3);obtain ⟨A3,c3,rfl⟩:=own_form H4.out.own;obtain ⟨x0,x1,x2,x3,x4⟩:=BX.out _ H4.out.below;clear hown3 hgrow3 hat3)
  | (at_builtin;refine wpList_append_own_at _ rfl (.tmp 13) (.tmp 15) 28 rfl (w.alloc (.cells #[.int .u8 g.kind,.int .i64 g.num,.string g.str,.slice AL g.items.length cL,.slice AO g.vals.length cO] 31)).heap.size 31 i1 _ 5 80 Tryd.underlying28 HI1.out.1 HI1.out.2.1 HI1.out.2.2.1 HI1.out.2.2.2 rfl (by decide) (.slice A3 i c3) i xs1 rfl ((H4.out.step (below_alloc _ _)).own) ⟨W3.heap.size,0,none⟩ 1 1 (chunk g (.slice AL g.items.length cL) (.slice AO g.vals.length cO)) rfl rfl (row_cells' _ _ rfl _ _) (by simp [chunk,Value.oneCell']) B1.out.2.1.1 B1.out.2.1.2 ((H4.out.step (below_alloc _ _)).below.size) ?_;intro v4 W4 hown4 hgrow4 _ hat4;have H6:=Lib.hid ((H4.out.step (below_alloc _ _)).app (l':=[g]) ⟨_,_,[],by simp,HV.out.1.keep (From.of_below (H4.out.step (below_alloc _ _)).below) (fun _ h _=>h),HV.out.2.keep (From.of_below (H4.out.step (below_alloc _ _)).below) (fun _ h _=>h),rfl⟩ hown4 hgrow4);obtain ⟨A4,c4,rfl⟩:=own_form H6.out.own;clear hown4 hgrow4 hat4)
  | (at_builtin;refine wpList_append_from _ rfl (.tmp 17) (.tmp 20) 28 rfl (w.alloc (.cells #[.int .u8 g.kind,.int .i64 g.num,.string g.str,.slice AL g.items.length cL,.slice AO g.vals.length cO] 31)).heap.size 31 i1 _ 5 80 Tryd.underlying28 HI1.out.1 HI1.out.2.1 HI1.out.2.2.1 HI1.out.2.2.2 rfl (by decide) (.slice A4 (i+1) c4) (i+1) _ rfl H6.out.own D3 (n - i) (c - i) xs3 rfl HZ.out.2.1 HZ.out.2.2.2 (fun ad e=>((H3.out.later H6.out.below).cells ad e).2) H3.out.one B1.out.2.2.1 B1.out.2.2.2 H6.out.below.size ?_;intro v5 W5 hown5 hgrow5 hat5;have H5:=Lib.hid (HFIN.out _ _ (H6.out.app (H3.out.later H6.out.below).row hown5 hgrow5));obtain ⟨A5,c5,rfl⟩:=own_form hown5;clear hown5 hgrow5 hat5))
 go_ret
 exact H5.out
end Go.Proofs.YtlhfnemcpgfcdaaDoor
