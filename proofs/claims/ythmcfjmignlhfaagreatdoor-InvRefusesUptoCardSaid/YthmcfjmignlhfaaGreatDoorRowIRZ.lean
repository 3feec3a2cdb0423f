/- InvRefuses: the row, and its card: whatever is handed in, of bulk up to the row's bound, it returns true. -/
import Derived.Test.YthmcfjmignlhfaaGreatDoorS17
import Derived.Test.YthmcfjmignlhfaaGreatDoorS34
import Derived.Test.YthmcfjmignlhfaaGreatDoorCards
import Derived.Test.YthmcfjmignlhfaaGreatDoorTie
import Derived.Deep.DeepHandedRow
set_option maxRecDepth 100000
namespace Go.Proofs.YthmcfjmignlhfaaGreatDoor
open Go Go.ChangeShapes Go.WideShapes Go.ChangeAt Go.RowKit Go.Lib Go.Shelf
theorem ziD:∀ (ts:List GTok) (t:GTok),t∈ts->t.s.size<=tot ts
 | [],_,h=>by simp at h
 | x :: r,t,h=>by
  simp only [tot];rcases List.mem_cons.1 h with h | h
  ·subst h;omega
  ·have:=ziD r t h;omega
theorem zda (os:Os) {H:Type} (enc:TypeId × Value->H):∃ places,DataW.whole enc Tryz.prog ((World.laidAll Tryz.prog os laids).forCall (fun _ _=>0) ⟨#[],#[.slice none 0 0,.agg #[.int .u8 0,.slice none 0 0,.string ⟨#[]⟩,.int .i64 0,.int .i64 0,.int .i64 0,.string ⟨#[]⟩,.slice none 0 0],.int .u16 0],[]⟩).memory Tryz.f8.params.toList Rows.invRefusesSpec.vars false #[(.slice none 0 0:Value),.agg #[.int .u8 0,.slice none 0 0,.string ⟨#[]⟩,.int .i64 0,.int .i64 0,.int .i64 0,.string ⟨#[]⟩,.slice none 0 0],.int .u16 0].toList 8=some ([.nil,.agg [.lit (.int .u8 0),.nil,.lit (.string []),.lit (.int .i64 0),.lit (.int .i64 0),.lit (.int .i64 0),.lit (.string []),.nil],.lit (.int .u16 0)],[],places):=
 ⟨[],by kernel_rfl⟩
theorem zbS (os:Os) (started:os.Started) (H:Type) (enc:TypeId × Value->H) (F:Stop.Interp):
  ReturnsInHanded {} Tryz.checked os 8 .any ((Rows.OpenSpec.upto Rows.invRefusesSpec).preRow enc Tryz.prog Tryz.f8 Rows.invRefusesUptoRow.domain false Rows.invRefusesUptoRow.laid) (((Rows.OpenSpec.upto Rows.invRefusesSpec).at F).post enc Tryz.prog Tryz.f8 false true false false):=by
 obtain ⟨places,hx⟩:=zda os enc;refine returnsInHanded_of_row (C:=Tryz.checked) (s:=Rows.OpenSpec.upto Rows.invRefusesSpec) own started (by kernel_rfl) Tryz.func8
  ⟨World.laidAll Tryz.prog os laids,fun _ _=>0,⟨#[],#[.slice none 0 0,.agg #[.int .u8 0,.slice none 0 0,.string ⟨#[]⟩,.int .i64 0,.int .i64 0,.int .i64 0,.string ⟨#[]⟩,.slice none 0 0],.int .u16 0],[]⟩,World.laidAll_os _ _ _,World.shaped_of_ZipB (by kernel_rfl) (by kernel_rfl),rfl,(Input.okWide_of_okWideB (by kernel_rfl)).2,OpenSpec.preRow_of_cond 8 hx (by kernel_rfl) (fun k hk=>by cases hk;kernel_rfl) (by kernel_rfl) (zkc os _),by
   simp only [Assume.holds];exact ⟨by simp,by simp,fun _=>Modest.zero,by simp,by simp⟩⟩ ?_
 intro W base args ds gs before hval0 hW _ hkk hsz hL _ _;have hval:∀ (j:Nat) t v,Tryz.f8.params[j]? = some t->args[j]? = some v->Value.okWide Tryz.prog W .any base t v:=hval0;have hW':=hW;obtain ⟨p,q,hA0,hV,rfl,_,_⟩:=hW;have hA:DataW.TrodAll enc Tryz.prog W 0 (fun _=>true) true Tryz.f8.params.toList args.toList ds p:=hA0
 rw [Tryz.params8] at hA hval;obtain ⟨v0,v1,v2,d0,d1,d2,p0,p1,p2,rfl,rfl,rfl,h0,h1,h2⟩:=trodAll_three hA;obtain ⟨rfl,rfl⟩:=trodVars_none hV;simp only [List.append_nil,List.append_assoc] at hW';have hlt0:∀ x∈p0,x.block<W.heap.size:=fun x hx=>hW'.lt x (List.mem_append_left _ hx)
 have hlt1:∀ x∈p1,x.block<W.heap.size:=fun x hx=>hW'.lt x (List.mem_append_right _ (List.mem_append_left _ hx))
 have hlt2:∀ x∈p2,x.block<W.heap.size:=fun x hx=>hW'.lt x (List.mem_append_right _ (List.mem_append_right _ hx))
 have hbulk:Rows.uptoBulkAll [d0,d1,d2]<=1048576:=of_decide_eq_true (hkk _ rfl);simp only [Rows.uptoBulkAll] at hbulk;obtain ⟨A0,cap0,ts0,e0,hl0,hm0,hT0,hr0,hbk0⟩:=(show ∃ (A:Option Addr) (cap:Nat) (ts:List GTok),v0=.slice A ts.length cap/\ts.length<=cap/\cap<=maxLen/\Toks W.heap.size W A ts/\(∀ t∈ts,0<=t.k/\t.k<=255/\0<=t.m/\t.m<=255)/\tot ts+4 * ts.length<=Rows.uptoBulk d0 by
  obtain ⟨fuel,hf⟩:=h0;obtain ⟨A,n,c,rfl⟩:=okWide_slice Tryz.underlying22 (hval 0 22 v0 rfl rfl);exact zes (fuel:=fuel) (by simpa [Value.cells] using hf))
 obtain ⟨cs1,rfl,hc1⟩:=okWide_struct Tryz.underlying43 (hval 1 43 v1 rfl rfl);obtain ⟨x,B,bap,D,dap,e1,⟨b1,b2,b3,b4⟩,⟨b5,b6,b7,b8⟩,b9⟩:=zh2 h1 ⟨cs1,rfl,hc1.trans zhR⟩ (weigh (j:=1) hsz rfl rfl);obtain ⟨k2,rfl,rfl,rfl,wk2⟩:=open_int Tryz.underlying33 (hval 2 33 v2 rfl rfl) h2;rw [e0] at h0 hW' ⊢;rw [e1] at h1 hW' ⊢;refine (zeA W.heap.size A0 cap0 ts0 x B bap D dap k2 W hT0 (Nat.le_refl _) hl0 hm0 hr0 (fun t ht=>by have:=ziD ts0 t ht;omega) ⟨⟨b3,b1,b2⟩,b4,b7,⟨b5,b6⟩,by omega,b8⟩ (by omega) (show 0<=k2/\k2<=65535 by simpa [Lit.wf,IntKind.min,IntKind.max,IntKind.signed,IntKind.bits] using wk2) (zfh hL)).mono fun e W' ⟨he,hb⟩=>?_
 subst he;exact ⟨_,rfl,(show Rows.invRefusesSpec.post enc Tryz.prog Tryz.f8 false true false false W _ _ W' from ⟨_,_,_,[],_,[],hW',trodAll_mk1 (shut_bool Tryz.underlying4 _),trodAll_mk3 (Below.trod laidOut (by kernel_rfl) (of_decide_eq_true (by kernel_rfl)) h0 hb hlt0) (Below.trod laidOut (by kernel_rfl) (of_decide_eq_true (by kernel_rfl)) h1 hb hlt1) (Below.trod laidOut (by kernel_rfl) (of_decide_eq_true (by kernel_rfl)) h2 hb hlt2),rfl,hb.frame _,fun h=>by cases h⟩)⟩
theorem zch:Rows.InvRefusesUptoSaid:=
 OpenClaim.holds_of_cond 8 Tryz.f8 rfl rfl rfl rfl rfl rfl rfl ⟨rfl,rfl,rfl,rfl,rfl⟩ rfl rfl rfl rfl rfl (by kernel_rfl) Tryz.func8 (by kernel_rfl)
  (of_decide_eq_true (by kernel_rfl)) (by unfold Func.isWrapper;first | (rw [if_pos (by decide +kernel)];kernel_rfl) | (rw [if_neg (by decide +kernel)];exact ⟨rfl,rfl⟩))
  (fun os started H enc _ F=>by rw [OpenClaim.pre_eq_preRow];exact zbS os started H enc F)
theorem invRefuses_cardUpto:Rows.InvRefusesUptoCardSaid:=
 Claim7.holds_tied_plain_at .later [] [.data, .pinned] true (true, "666c6dcc432bab926b59a200e05a3591bca6d4d3870172f322b3aa9be653fc80") false zch (fun _ h => by cases h) (by kernel_rfl) (fun _ h => by cases h) invRefusesUpto_row_tie rfl ⟨rfl, rfl⟩ (by kernel_rfl) rfl
  (fun f fn hf hfn=>by
   obtain rfl : f = 8 := Option.some.inj ((show Tryz.prog.funcNamed "conciliator/conciliatorlaw09.InvRefuses" = some 8 by kernel_rfl).symm.trans hf) |>.symm
   obtain rfl:fn=Tryz.f8:=(Option.some.inj (Tryz.func8.symm.trans hfn)).symm;exact ⟨by kernel_rfl,fun j t ht=>by
    rw [Tryz.params8] at ht;have hm:t∈[22,43,33]:=by simpa using Array.mem_of_getElem? ht
    have hall:([22,43,33].all fun u=>!Tryz.prog.wantsStandIn u)=true:=by kernel_rfl
    exact (show Tryz.prog.wantsStandIn t=false by simpa using List.all_eq_true.1 hall t hm)⟩)
  (by kernel_rfl)
#print axioms invRefuses_cardUpto
end Go.Proofs.YthmcfjmignlhfaaGreatDoor
