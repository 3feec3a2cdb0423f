/- Texts in one: SeqT, SeqA, SeqL, SeqW, SeqE. -/
import Derived.WalkSmall
import Derived.Test.YtlhfnemcpgfcdaaDoorQ8
import Derived.Test.YtlhfnemcpgfcdaaDoorQ1
import Derived.WalkKit
import Derived.WalkSpells
import Derived.Deep.QuietTactic
import Derived.BigQuiet
import Derived.Deep.RegionWith
import Derived.Deep.DeepCutAuto
import Derived.Lib.Hide
import Derived.Test.YtlhfnemcpgfcdaaDoorQ14
import Derived.Test.YtlhfnemcpgfcdaaDoorQ5
import Derived.OwnWalk
import Derived.ArgAppend
import Derived.Maps.AppendAt
import Derived.Deep.RegionHeld3
import Derived.Deep.Upon
set_option maxRecDepth 100000
set_option maxHeartbeats 4000000
namespace Go.Proofs.YtlhfnemcpgfcdaaDoor
open Go Go.RowKit
set_option linter.unusedVariables false
set_option linter.unusedSimpArgs false
theorem ret_int {k:IntKind} {a b:Int} (h:a=b):Ending.returned (.int k a)=.returned (.int k b):=by rw [h]
theorem less_any (k i:Nat) (w:World) (hk:k≤1099511627776) (hi:i≤1099511627776):
  Calls Tryd.prog 72 #[.int .i64 k,.int .i64 i] w fun e w'=>e=.returned (.int .i64 (lessN k i))∧w=w':=by
 generalize hr:lessN k i=r
 have HR:=Lib.hid hr
 clear hr
 go_enter Tryd.func72,Tryd.ntmps72
 go_wp2
 all_goals
  go_ret
  exact ⟨ret_int (by have:=HR.out;unfold lessN at this;split at this<;>omega),rfl⟩
theorem more_any (k i:Nat) (left:Bool) (w:World) (hk:k≤1099511627776) (hi:i≤1099511627776):
  Calls Tryd.prog 71 #[.int .i64 k,.int .i64 i,.bool left] w fun e w'=>e=.returned (.int .i64 (moreN k i left))∧w=w':=by
 generalize hr:moreN k i left=r
 have HR:=Lib.hid hr
 clear hr
 by_cases h2:i=k
 ·subst h2
  cases left
  all_goals
   go_enter Tryd.func71,Tryd.ntmps71
   go_wp2
   go_ret
   exact ⟨ret_int (by have:=HR.out;simp [moreN] at this;omega),rfl⟩
 ·have h3:((i:Int) == (k:Int))=false:=by simp;omega
  have H2:=Lib.hid h2
  clear h2
  go_enter Tryd.func71,Tryd.ntmps71
  go_wp2
  all_goals
   go_ret
   exact ⟨ret_int (by have h4:=HR.out;have h5:=H2.out;unfold moreN at h4;simp only [h5,false_and,or_false] at h4;split at h4<;>omega),rfl⟩
theorem less_any' (k i:Nat) (w:World) (hk:k≤1099511627776) (hi:i≤1099511627776):Calls Tryd.prog 72 #[.int .i64 k,.int .i64 i] w fun e w'=>e=.returned (.int .i64 (lessN k i))∧w'=w:=(less_any k i w hk hi).mono fun _ _ h=>⟨h.1,h.2.symm⟩
theorem more_any' (k i:Nat) (left:Bool) (w:World) (hk:k≤1099511627776) (hi:i≤1099511627776):Calls Tryd.prog 71 #[.int .i64 k,.int .i64 i,.bool left] w fun e w'=>e=.returned (.int .i64 (moreN k i left))∧w'=w:=(more_any k i left w hk hi).mono fun _ _ h=>⟨h.1,h.2.symm⟩
theorem gap_any (k i j kd:Nat) (left:Bool) (A AL AO:Option Addr) (n c nL cL nO cO:Nat) (s vs t:ByteArray) (m vk vn:Int) (w:World) (hk:k≤549755813888) (hi:i≤549755813888) (hj:j≤549755813888):
  Calls Tryd.prog 48 #[.int .i64 k,.agg #[.int .u8 kd,.slice A n c,.string s,.int .i64 i,.int .i64 j,.int .i64 m,.int .u8 vk,.int .i64 vn,.string vs,.slice AL nL cL,.slice AO nO cO,.string t],.bool left] w fun e w'=>e=.returned (.int .i64 (gapN k kd i j left))∧Below w.heap.size w w':=by
 have hl:lessN k i≤1099511627776:=by unfold lessN;split<;>omega
 rcases (show kd=4∨kd=5∨kd=7∨(kd≠4∧kd≠5∧kd≠7) by omega) with rfl | rfl | rfl | ⟨h4,h5,h7⟩
 ·rw [show gapN k 4 i j left=moreN k i left by simp [gapN]]
  go_enter Tryd.func48,Tryd.ntmps48
  go_wp2_with (go_at_call 71;refine (more_any _ _ _ _ (by omega) (by omega)).mono ?_;rintro e w' ⟨rfl,rfl⟩)
  go_ret
  exact ⟨rfl,(Below.refl _ _).alloc (Nat.le_refl _) _⟩
 ·rw [show gapN k 5 i j left=lessN k i by simp [gapN]]
  go_enter Tryd.func48,Tryd.ntmps48
  go_wp2_with (go_at_call 72;refine (less_any _ _ _ (by omega) (by omega)).mono ?_;rintro e w' ⟨rfl,rfl⟩)
  go_ret
  exact ⟨rfl,(Below.refl _ _).alloc (Nat.le_refl _) _⟩
 ·rw [show gapN k 7 i j left=moreN (lessN k i) j left by simp [gapN]]
  go_enter Tryd.func48,Tryd.ntmps48
  go_wp2
  go_quiet ((first | exact Calls.quiet_of_same (less_any' _ _ _ (by omega) (by omega)) | exact Calls.quiet_of_same (more_any' _ _ _ _ (by omega) (by omega))))
  go_wp2
  go_ret
  exact ⟨rfl,((Below.refl _ _).alloc (Nat.le_refl _) _).trans ⟨rfl,rfl,rfl,Nat.le_refl _,fun _ _ => rfl⟩⟩
 ·rw [show gapN k kd i j left=k by simp [gapN,h4,h5,h7]]
  have g4:((kd:Int) == 4)=false:=by simp;omega
  have g5:((kd:Int) == 5)=false:=by simp;omega
  have g7:((kd:Int) == 7)=false:=by simp;omega
  clear h4 h5 h7
  go_enter Tryd.func48,Tryd.ntmps48
  go_wp2
  go_ret
  exact ⟨rfl,(Below.refl _ _).alloc (Nat.le_refl _) _⟩
def atV (i kd ci cj:Nat):Nat:=if ci=i∧(kd=5∨kd=6) then 0 else if ci=i∧kd=7 then cj else gapN i kd ci cj false
def atB (i kd ci:Nat):Bool:=!decide (ci=i∧(kd=5∨kd=6))
theorem at_any (x i j kd:Nat) (A AL AO:Option Addr) (n c nL cL nO cO:Nat) (s vs t:ByteArray) (m vk vn:Int) (w:World) (hk:x≤549755813888) (hi:i≤549755813888) (hj:j≤549755813888):
  Calls Tryd.prog 44 #[.int .i64 x,.agg #[.int .u8 kd,.slice A n c,.string s,.int .i64 i,.int .i64 j,.int .i64 m,.int .u8 vk,.int .i64 vn,.string vs,.slice AL nL cL,.slice AO nO cO,.string t]] w fun e w'=>e=.returned (.tuple #[.int .i64 (atV x kd i j),.bool (atB x kd i)])∧Below w.heap.size w w':=by
 have hg:∀ W,Calls Tryd.prog 48 #[.int .i64 x,.agg #[.int .u8 kd,.slice A n c,.string s,.int .i64 i,.int .i64 j,.int .i64 m,.int .u8 vk,.int .i64 vn,.string vs,.slice AL nL cL,.slice AO nO cO,.string t],.bool false] W fun e w'=>e=.returned (.int .i64 (gapN x kd i j false))∧Below W.heap.size W w':=fun W=>gap_any x i j kd false A AL AO n c nL cL nO cO s vs t m vk vn W hk hi hj
 have HG:=Lib.hid hg
 clear hg
 by_cases e:i=x
 ·subst e
  rcases (show kd=5∨kd=6∨kd=7∨(kd≠5∧kd≠6∧kd≠7) by omega) with rfl | rfl | rfl | ⟨h5,h6,h7⟩
  ·rw [show atV i 5 i j=0 by simp [atV],show atB i 5 i=false by simp [atB]]
   go_enter Tryd.func44,Tryd.ntmps44
   go_wp2
   go_ret2
   exact ⟨rfl,(Below.refl _ _).alloc (Nat.le_refl _) _⟩
  ·rw [show atV i 6 i j=0 by simp [atV],show atB i 6 i=false by simp [atB]]
   go_enter Tryd.func44,Tryd.ntmps44
   go_wp2
   go_ret2
   exact ⟨rfl,(Below.refl _ _).alloc (Nat.le_refl _) _⟩
  ·rw [show atV i 7 i j=j by simp [atV],show atB i 7 i=true by simp [atB]]
   go_enter Tryd.func44,Tryd.ntmps44
   go_wp2
   go_ret2
   exact ⟨rfl,(Below.refl _ _).alloc (Nat.le_refl _) _⟩
  ·rw [show atV i kd i j=gapN i kd i j false by simp [atV,h5,h6,h7],show atB i kd i=true by simp [atB,h5,h6]]
   have g5:((kd:Int) == 5)=false:=by simp;omega
   have g6:((kd:Int) == 6)=false:=by simp;omega
   have g7:((kd:Int) == 7)=false:=by simp;omega
   clear h5 h6 h7
   go_enter Tryd.func44,Tryd.ntmps44
   go_wp2_with (go_at_call 48;refine (HG.out _).mono ?_;rintro e w1 ⟨rfl,hb⟩;have B1:=Lib.hid (((Below.refl _ _).alloc (Nat.le_refl _) _).trans (hb.mono (by simp)));clear hb)
   go_ret2
   exact ⟨rfl,B1.out⟩
 ·rw [show atV x kd i j=gapN x kd i j false by simp [atV,e],show atB x kd i=true by simp [atB,e]]
  have e1:((i:Int) == (x:Int))=false:=by simp;omega
  have e2:(i == x)=false:=by simp;omega
  clear e
  go_enter Tryd.func44,Tryd.ntmps44
  go_wp2_with (go_at_call 48;refine (HG.out _).mono ?_;rintro e w1 ⟨rfl,hb⟩;have B1:=Lib.hid (((Below.refl _ _).alloc (Nat.le_refl _) _).trans (hb.mono (by simp)));clear hb)
  go_ret2
  exact ⟨rfl,B1.out⟩
structure Tw (W:World) (b:Nat) (a0 a1 a2 a3 a4 a5 a6 a7 a8 a9 a10 a11:Value):Prop where
 c0:W.cell? ⟨b,0,none⟩=some a0
 c1:W.cell? ⟨b,1,none⟩=some a1
 c2:W.cell? ⟨b,2,none⟩=some a2
 c3:W.cell? ⟨b,3,none⟩=some a3
 c4:W.cell? ⟨b,4,none⟩=some a4
 c5:W.cell? ⟨b,5,none⟩=some a5
 c6:W.cell? ⟨b,6,none⟩=some a6
 c7:W.cell? ⟨b,7,none⟩=some a7
 c8:W.cell? ⟨b,8,none⟩=some a8
 c9:W.cell? ⟨b,9,none⟩=some a9
 c10:W.cell? ⟨b,10,none⟩=some a10
 c11:W.cell? ⟨b,11,none⟩=some a11
 f0:W.frozen? ⟨b,0,none⟩=false
 f1:W.frozen? ⟨b,1,none⟩=false
 f2:W.frozen? ⟨b,2,none⟩=false
 f3:W.frozen? ⟨b,3,none⟩=false
 f4:W.frozen? ⟨b,4,none⟩=false
 f5:W.frozen? ⟨b,5,none⟩=false
 f6:W.frozen? ⟨b,6,none⟩=false
 f7:W.frozen? ⟨b,7,none⟩=false
 f8:W.frozen? ⟨b,8,none⟩=false
 f9:W.frozen? ⟨b,9,none⟩=false
 f10:W.frozen? ⟨b,10,none⟩=false
 f11:W.frozen? ⟨b,11,none⟩=false
theorem Whole.tw {W:World} {b:Nat} {t:TypeId} {a0 a1 a2 a3 a4 a5 a6 a7 a8 a9 a10 a11:Value} (h:Whole W b t #[a0,a1,a2,a3,a4,a5,a6,a7,a8,a9,a10,a11]):Tw W b a0 a1 a2 a3 a4 a5 a6 a7 a8 a9 a10 a11:=
 ⟨h.cell 0,h.cell 1,h.cell 2,h.cell 3,h.cell 4,h.cell 5,h.cell 6,h.cell 7,h.cell 8,h.cell 9,h.cell 10,h.cell 11,h.frozen 0,h.frozen 1,h.frozen 2,h.frozen 3,h.frozen 4,h.frozen 5,h.frozen 6,h.frozen 7,h.frozen 8,h.frozen 9,h.frozen 10,h.frozen 11⟩
section
variable {P:Program} {w:World}
theorem run_append_full (t ty e:TypeId) (i:TypeInfo) (z:Value) (size bytes:Nat) (ht:P.underlying t=some (.slice e)) (hi:P.info? e=some i) (hz:i.zero=some z)
  (hsize:i.size=size) (hby:i.bytes=bytes) (hzs:z.cells.size=size) (hsz:0<size)
  (ao:Option Addr) (n cap:Nat) (olds:List Value) (hnone:ao=none→n=0∧cap=0) (hlo:olds.length=n * size) (holds:∀ b,ao=some b→∀ j u,olds[j]? = some u→w.cell? (b.add j)=some u)
  (ad:Addr) (m c:Nat) (news:List Value) (hn:news.length=m * size) (hc:∀ j u,news[j]? = some u→w.cell? (ad.add j)=some u) (h1c:∀ u∈news,u.oneCell'=true)
  (hfull:cap<n+m) (b1:n+m≤maxLen) (b2:(n+m) * bytes≤140737488355328):
  ∃ v' w',(Builtin.append_ #[t,t] ty #[.slice ao n cap,.slice (some ad) m c]).run P w=.ok v' w'∧w'.ownsRow w.heap.size e size v' (n+m) (olds++news)∧w.grownBy w' none:=by
 cases ao with
 | some b=>
  obtain ⟨v',w',hrun,r1,r2⟩:=run_append_arg_grows (P:=P) w t ty e i z size bytes ht hi hz hsize hby hzs hsz b n cap olds hlo (holds b rfl) ad m c news hn hc hfull b1 b2
  exact ⟨v',w',hrun,r1,r2⟩
 | none=>
  obtain ⟨rfl,rfl⟩:=hnone rfl
  obtain rfl:olds=[]:=List.eq_nil_of_length_eq_zero (by simpa using hlo)
  obtain ⟨v',w',hrun,r1,r2,_⟩:=run_append_own (P:=P) w w.heap.size t ty e i z size bytes ht hi hz hsize hby hzs hsz (.slice none 0 0) 0 [] (World.ownsRow_nil w _ e size) ad m c news hn hc h1c b1 b2 (Nat.le_refl _)
  exact ⟨v',w',hrun,r1,r2⟩
theorem step_append_full {ops:Array Oper} {o:Oper} {a:Act} {K:Act→World→Prop} {Q:Exit→Act→World→Prop} {E:Prop} (hgd:o.guard=none) (s x:Operand) (t:TypeId)
  (ho:o.op=.call { callee:=.builtin .append,args:=#[s,x],argTypes:=#[t,t] })
  (e:TypeId) (i:TypeInfo) (z:Value) (size bytes:Nat) (ht:P.underlying t=some (.slice e)) (hi:P.info? e=some i) (hz:i.zero=some z)
  (hsize:i.size=size) (hby:i.bytes=bytes) (hzs:z.cells.size=size) (hsz:0<size)
  (ao:Option Addr) (n cap:Nat) (olds:List Value) (hs:a.eval s=.slice ao n cap) (hnone:ao=none→n=0∧cap=0) (hlo:olds.length=n * size) (holds:∀ b,ao=some b→∀ j u,olds[j]? = some u→w.cell? (b.add j)=some u)
  (ad:Addr) (m c:Nat) (news:List Value) (hx:a.eval x=.slice (some ad) m c) (hn:news.length=m * size) (hc:∀ j u,news[j]? = some u→w.cell? (ad.add j)=some u) (h1c:∀ u∈news,u.oneCell'=true)
  (hfull:cap<n+m) (b1:n+m≤maxLen) (b2:(n+m) * bytes≤140737488355328)
  (h:∀ v' w',w'.ownsRow w.heap.size e size v' (n+m) (olds++news)→w.grownBy w' none→K (a.put o.dst v') w'):
  if Region.wanted o (yielded ops a.tmps)=true then Oper.wp P o a w K Q else E:=by
 have hw:Region.wanted o (yielded ops a.tmps)=true:=by simp [Region.wanted,hgd]
 rw [if_pos hw]
 obtain ⟨v',w',hr,h2,h3⟩:=run_append_full (P:=P) (w:=w) t o.type e i z size bytes ht hi hz hsize hby hzs hsz ao n cap olds hnone hlo holds ad m c news hn hc h1c hfull b1 b2
 unfold Oper.wp execOp
 simp only [ho,resolve,invoke,builtin,Sem.run_bind,Sem.run_pure,Result.andThen_ok,List.map_toArray,List.map_cons,List.map_nil,hs,hx,hr]
 exact h v' w' h2 h3
end
theorem lst_addr {ok:Nat→Prop} {W:World} {A:Option Addr} {n c:Nat} {l:List GV} (h:LstV ok W (.slice A n c) l):(A=none→n=0∧c=0)∧∀ p,A=some p→p.spot=none:=by
 rcases h with ⟨rfl,e⟩ | ⟨b',o',c',e,h1,h2,hK,hE⟩
 ·cases e;exact ⟨fun _=>⟨rfl,rfl⟩,fun p h=>by cases h⟩
 ·simp only [Value.slice.injEq] at e
  obtain ⟨rfl,_,rfl⟩:=e
  exact ⟨(fun h=>by cases h),(fun p h=>by cases h;rfl)⟩
open Go Go.RowKit
set_option linter.unusedVariables false
set_option linter.unusedSimpArgs false
theorem RowL.app {ok:Nat→Prop} {W:World}:∀ {l:List GV} {xs:List Value} {l':List GV} {xs':List Value},RowL ok W l xs→RowL ok W l' xs'→RowL ok W (l++l') (xs++xs')
 | [],_,_,_,h,h'=>by rw [show _=([]:List Value) from h];exact h'
 | _ :: _,_,_,_,⟨L,O,ys,e,hL,hO,hr⟩,h'=>⟨L,O,ys++_,by rw [e,List.append_assoc],hL,hO,RowL.app hr h'⟩
structure Lc (ok:Nat→Prop) (W:World) (A:Option Addr) (l:List GV) (xs:List Value):Prop where
 row:RowL ok W l xs
 len:xs.length=l.length * 5
 cells:∀ ad,A=some ad→ad.block<W.heap.size∧∀ j u,xs[j]? = some u→W.cell? (ad.add j)=some u
 one:∀ u∈xs,u.oneCell'=true
theorem seq_add_block (a:Addr) (j:Nat):(a.add j).block=a.block:=by unfold Addr.add;split<;>rfl
theorem Lc.later {ok:Nat→Prop} {W W':World} {A:Option Addr} {l:List GV} {xs:List Value} (h:Lc ok W A l xs) (hb:Below W.heap.size W W'):Lc ok W' A l xs:=
 ⟨h.row.keep (From.of_below hb) (fun _ h _=>h),h.len,fun ad e=>⟨Nat.lt_of_lt_of_le (h.cells ad e).1 hb.size,fun j u hj=>(hb.cell (by rw [seq_add_block];exact (h.cells ad e).1)).trans ((h.cells ad e).2 j u hj)⟩,h.one⟩
def withinB (i n:Int):Bool:=decide (0≤i∧i<n)
def chk (n:Int) (k:Nat) (i j:Int):Int:=
 if k=4 then (if 0≤i∧i≤n then 0 else 32) else if k=5∨k=6 then (if withinB i n=true then 0 else 32) else if k=7 then (if (withinB i n && withinB j n)=true then 0 else 32) else 31
def ListIn (l:List GV) (A:Option Addr) (c:Nat) (w:World):Prop:=LstV (fun _=>True) w (.slice A l.length c) l
theorem ListIn.later {l:List GV} {A:Option Addr} {c:Nat} {w w':World} (h:ListIn l A c w) (hb:Below w.heap.size w w'):ListIn l A c w':=LstV.keep (From.of_below hb) (fun _ h _=>h) h
theorem val_field3 (N:Nat):∀ (BL BO:Option Addr) (dL dO:Nat) (w:World),(Instr.field 31 (.agg #[.int .u8 0,.int .i64 0,.string ⟨#[]⟩,.slice BL N dL,.slice BO 0 dO]) 3).run Tryd.prog w=.ok (.slice BL N dL) w:=fun _ _ _ _ _=>by kernel_rfl
end Go.Proofs.YtlhfnemcpgfcdaaDoor
