/- InvTwice: the row, and its card: whatever is handed in, it returns true. -/
import Derived.Test.YtmmgdkpkcoopgaaGreatDoorP13
import Derived.Test.YtmmgdkpkcoopgaaGreatDoorP38
import Derived.Test.YtmmgdkpkcoopgaaGreatDoorCards
import Derived.Test.YtmmgdkpkcoopgaaGreatDoorTie
set_option maxRecDepth 100000
namespace Go.Proofs.YtmmgdkpkcoopgaaGreatDoor
open Go Go.ChangeShapes Go.WideShapes Go.ChangeAt Go.RowKit Go.Lib Go.Shelf
theorem zeI (os:Os) (started:os.Started) (H:Type) (enc:TypeId × Value->H):
  ReturnsInHanded {} Tryz.checked os 4 .any (fun w args=>(Rows.invTwiceSpec.pre enc Tryz.prog Tryz.f4 [] false w args/\laidMetH Tryz.prog laids w)/\sizedMet enc Tryz.prog Tryz.f4 (OpenSpec.ofChange Rows.invTwiceSpec) false w args)
   (Rows.invTwiceSpec.post enc Tryz.prog Tryz.f4 false true false false):=by
 refine returnsInHanded_of_change_and (C:=Tryz.checked) (X:=fun w _=>laidMetH Tryz.prog laids w) (fun _ _ _ hh h=>h.of_heap hh) own started (by kernel_rfl) Tryz.func4
  (ChangeSpec.witness_shaped (enc:=enc) (C:=Tryz.checked) (os:=os) (X:=fun w _=>laidMetH Tryz.prog laids w) false (World.laidAll Tryz.prog os laids) #[.slice none 0 0,.agg #[.slice none 0 0,.int .u8 0,.int .i64 0,.int .i64 0,.int .i64 0,.string ⟨#[]⟩,.slice none 0 0]] 8 (World.laidAll_os _ _ _)
   (World.shaped_of_ZipB (by kernel_rfl) (by kernel_rfl)) (by kernel_rfl) (by kernel_rfl) (by kernel_rfl) (zkn os _)) ?_
 intro W base args ds gs before hval0 hW _ hsz hL _;have hval:∀ (j:Nat) t v,Tryz.f4.params[j]? = some t->args[j]? = some v->Value.okWide Tryz.prog W .any base t v:=hval0;have hW':=hW;obtain ⟨p,q,hA0,hV,rfl,_,_⟩:=hW;have hA:DataW.TrodAll enc Tryz.prog W 0 (fun _=>true) true Tryz.f4.params.toList args.toList ds p:=hA0
 rw [Tryz.params4] at hA hval;obtain ⟨v0,v1,d0,d1,p0,p1,rfl,rfl,rfl,h0,h1⟩:=trodAll_two hA;obtain ⟨rfl,rfl⟩:=trodVars_none hV;simp only [List.append_nil] at hW';have hlt0:∀ x∈p0,x.block<W.heap.size:=fun x hx=>hW'.lt x (List.mem_append_left _ hx)
 have hlt1:∀ x∈p1,x.block<W.heap.size:=fun x hx=>hW'.lt x (List.mem_append_right _ hx)
 obtain ⟨A0,cap0,ts0,rfl,hl0,hm0,hT0,hr0,hss0⟩:=zf5 h0 (okWide_slice Tryz.underlying22 (hval 0 22 v0 rfl rfl)) (weigh (j:=0) hsz rfl rfl);obtain ⟨cs1,rfl,hc1⟩:=okWide_struct Tryz.underlying42 (hval 1 42 v1 rfl rfl);obtain ⟨x,P,pc,D,dc,e1,hx⟩:=zk4 h1 ⟨cs1,rfl,hc1.trans zkd⟩ (weigh (j:=1) hsz rfl rfl);rw [e1] at h1 hW' ⊢;refine (zg5 W.heap.size A0 cap0 ts0 x P pc D dc W hT0 (Nat.le_refl _) hl0 hm0 hr0 hss0 hx (zgg hL)).mono fun e W' ⟨he,hb⟩=>?_
 subst he;exact ⟨_,rfl,_,_,_,[],_,[],hW',trodAll_mk1 (shut_bool Tryz.underlying4 _),trodAll_mk2 (Below.trod laidOut (by kernel_rfl) (of_decide_eq_true (by kernel_rfl)) h0 hb hlt0) (Below.trod laidOut (by kernel_rfl) (of_decide_eq_true (by kernel_rfl)) h1 hb hlt1),rfl,hb.frame _,fun h=>by cases h⟩
theorem zeN:Rows.InvTwiceSaid:=
 OpenClaim.holds_of_wide 4 Tryz.f4 rfl rfl rfl rfl rfl rfl rfl ⟨rfl,rfl,rfl,rfl,rfl⟩ rfl rfl rfl rfl rfl (by kernel_rfl) Tryz.func4 (by kernel_rfl)
  (of_decide_eq_true (by kernel_rfl)) (by unfold Func.isWrapper;first | (rw [if_pos (by decide +kernel)];kernel_rfl) | (rw [if_neg (by decide +kernel)];exact ⟨rfl,rfl⟩))
  (fun os started H enc _=>zeI os started H enc)
theorem invTwice_card:Rows.InvTwiceCardSaid:=
 Claim7.holds_tied_plain_at .later [] [.data, .pinned] true (true, "65c23ebce00b5c7eef9af3448c8ca5314dc936fd7d07a818a97c6cd561d40d1d") false zeN (fun _ h => by cases h) (by kernel_rfl) (fun _ h => by cases h) invTwice_row_tie rfl ⟨rfl, rfl⟩ (by kernel_rfl) rfl
  (fun f fn hf hfn=>by
   obtain rfl : f = 4 := Option.some.inj ((show Tryz.prog.funcNamed "conciliator/conciliatorlaw09.InvTwice" = some 4 by kernel_rfl).symm.trans hf) |>.symm
   obtain rfl:fn=Tryz.f4:=(Option.some.inj (Tryz.func4.symm.trans hfn)).symm;exact ⟨by kernel_rfl,fun j t ht=>by
    rw [Tryz.params4] at ht;have hm:t∈[22,42]:=by simpa using Array.mem_of_getElem? ht
    have hall:([22,42].all fun u=>!Tryz.prog.wantsStandIn u)=true:=by kernel_rfl
    exact (show Tryz.prog.wantsStandIn t=false by simpa using List.all_eq_true.1 hall t hm)⟩)
  (by kernel_rfl)
#print axioms invTwice_card
end Go.Proofs.YtmmgdkpkcoopgaaGreatDoor
